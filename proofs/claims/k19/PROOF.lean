import PyProof.Rows.All
import Wide.All
import OpenK.AllK
import Wide.FinOn
import Lean
import PyProof.EqAt
import PyProof.EqKinds
import PyProof.EqLayable
import PyProof.TupleCall
import PyProof.P3Statements
import PySem.Challenge.RW_limitdesk_k19_texts_refused
set_option Elab.async false
set_option linter.all false
set_option maxRecDepth 100000
namespace L2
open PySem PySem.Spec PyProof.Rows
abbrev Key := Sum Int Str
def keyIs : Key -> Value -> Bool
 | .inl k, v => Value.isInt k v
 | .inr x, v => Value.isStrOf x v
def keyH (w : World) : Key -> Int
 | .inl k => hashInt k
 | .inr x => hashStr w x
theorem Z8 : ∀ {k : Key} {v : Value}, keyIs k v = true -> (∃ i t, k = Sum.inl i /\ v = Value.int i t) \/ (∃ x t, k = Sum.inr x /\ v = Value.str x t)
 | .inl i, v, h => by
  obtain ⟨t, e⟩ := Value.isInt_shape (k := i) (v := v) h
  exact .inl ⟨i, t, rfl, e⟩
 | .inr x, v, h => by
  obtain ⟨t, e⟩ := Value.isStrOf_shape (x := x) (v := v) h
  exact .inr ⟨x, t, rfl, e⟩
theorem key_ll (a b : Int) : decide ((Sum.inl a : Key) = Sum.inl b) = (a == b) := by
 by_cases e : a = b
 ·subst e; simp
 ·have h : ¬ (Sum.inl a : Key) = Sum.inl b := fun q => e (Sum.inl.inj q)
  rw [decide_eq_false h]
  exact (beq_eq_false_iff_ne.mpr e).symm
theorem key_rr (a b : Str) : decide ((Sum.inr a : Key) = Sum.inr b) = decide (a = b) := by
 by_cases e : a = b
 ·subst e; simp
 ·have h : ¬ (Sum.inr a : Key) = Sum.inr b := fun q => e (Sum.inr.inj q)
  rw [decide_eq_false h, decide_eq_false e]
theorem key_lr (a : Int) (b : Str) : decide ((Sum.inl a : Key) = Sum.inr b) = false := decide_eq_false (fun q => nomatch q)
theorem key_rl (a : Str) (b : Int) : decide ((Sum.inr a : Key) = Sum.inl b) = false := decide_eq_false (fun q => nomatch q)
def US (prog : Program) (w : World) : PySem.KeyKind prog w Key where
 is := keyIs
 hash := keyH w
 inj := fun v a b ha hb => by
  rcases Z8 ha with ⟨i, t, rfl, rfl⟩ | ⟨x, t, rfl, rfl⟩
  ·rcases Z8 hb with ⟨j, u, rfl, e⟩ | ⟨y, u, rfl, e⟩
   ·injection e with e1 _; rw [e1]
   ·exact nomatch e
  ·rcases Z8 hb with ⟨j, u, rfl, e⟩ | ⟨y, u, rfl, e⟩
   ·exact nomatch e
   ·injection e with e1 _; rw [e1]
 byValue := fun k v h => by
  rcases Z8 h with ⟨i, t, rfl, rfl⟩ | ⟨x, t, rfl, rfl⟩ <;> rfl
 pyHash := fun hv h => by
  rcases Z8 hv with ⟨i, t, rfl, rfl⟩ | ⟨x, t, rfl, rfl⟩
  ·exact wpAny_pyHash_int h
  ·exact wpAny_pyHash_str h
 eqBool := fun hu hv h => by
  rcases Z8 hu with ⟨i, t, rfl, rfl⟩ | ⟨x, t, rfl, rfl⟩
  ·rcases Z8 hv with ⟨j, u, rfl, rfl⟩ | ⟨y, u, rfl, rfl⟩
   ·rw [key_ll] at h; exact wpAny_eqBool_int h
   ·rw [key_lr] at h; exact SeqAt.EqAt.int_str i t y u _ _ _ _ h
  ·rcases Z8 hv with ⟨j, u, rfl, rfl⟩ | ⟨y, u, rfl, rfl⟩
   ·rw [key_rl] at h; exact SeqAt.EqAt.str_int x t j u _ _ _ _ h
   ·rw [key_rr] at h; exact wpAny_eqBool_str h
 «strs» := fun k x t v h => by
  rcases Z8 h with ⟨i, u, rfl, e⟩ | ⟨y, u, rfl, e⟩
  ·exact nomatch e
  ·injection e with e1 _
   subst e1
   cases v <;> rfl
theorem mixKind_is (prog : Program) (w : World) (k : Key) (v : Value) : (US prog w).is k v = keyIs k v := rfl
end L2
namespace L2
open PySem PySem.Spec PyProof.Rows
inductive V where
 | non | bl (b : Bool) | int (i : Int) | str (x : Str) | byt (b : Array UInt8) | flt (b : UInt64) | ref (a : Addr) | ty (n : String)
 deriving DecidableEq
def RelV : V -> Value -> Prop
 | .non, u => u = Value.none
 | .bl b, u => u = Value.bool b
 | .int i, u => ∃ t, u = Value.int i t
 | .str x, u => ∃ t, u = Value.str x t
 | .byt b, u => ∃ t, u = Value.bytes b t
 | .flt b, u => ∃ t, u = Value.float b t
 | .ref a, u => u = Value.ref a
 | .ty n, u => u = Value.type n
abbrev Vals : List V -> List Value -> Prop := Paired RelV
theorem Vals.length {xs : List V} {us : List Value} (r : Vals xs us) : xs.length = us.length := Paired.length r
theorem Vals.get : ∀ {xs : List V} {us : List Value} {i : Nat} {x : V}, Vals xs us -> xs[i]? = some x -> ∃ u, us[i]? = some u /\ RelV x u
 | _, _, _, _, .nil, e => by simp at e
 | _, _, 0, _, .cons r _, e => by simp at e; subst e; exact ⟨_, rfl, r⟩
 | _, _, i + 1, x, .cons _ t, e => by
  obtain ⟨u, h1, h2⟩ := Vals.get (i := i) (x := x) t (by simpa using e)
  exact ⟨u, by simpa using h1, h2⟩
theorem Vals.set {x : V} {u : Value} (r : RelV x u) : ∀ {xs : List V} {us : List Value} (i : Nat), Vals xs us -> Vals (xs.set i x) (us.set i u)
 | _, _, _, .nil => .nil
 | _, _, 0, .cons _ t => .cons r t
 | _, _, i + 1, .cons q t => .cons q (Vals.set r i t)
theorem Vals.append : ∀ {xs ys : List V} {us ws : List Value}, Vals xs us -> Vals ys ws -> Vals (xs ++ ys) (us ++ ws)
 | _, _, _, _, .nil, s => s
 | _, _, _, _, .cons r t, s => .cons r (Vals.append t s)
theorem Vals.take : ∀ {xs : List V} {us : List Value} (n : Nat), Vals xs us -> Vals (xs.take n) (us.take n)
 | _, _, 0, _ => .nil
 | _, _, _ + 1, .nil => .nil
 | _, _, n + 1, .cons r t => .cons r (Vals.take n t)
theorem Vals.drop : ∀ {xs : List V} {us : List Value} (n : Nat), Vals xs us -> Vals (xs.drop n) (us.drop n)
 | _, _, 0, r => r
 | _, _, _ + 1, .nil => .nil
 | _, _, n + 1, .cons _ t => Vals.drop n t
def RelO : Option V -> Option Value -> Prop
 | some v, some u => RelV v u
 | none, none => True
 | _, _ => False
def KV {κ : Type} : List (κ × V) -> List (κ × Value) -> Prop := Paired fun (p : κ × V) (q : κ × Value) => p.1 = q.1 /\ RelV p.2 q.2
def kV : Key -> V
 | .inl i => .int i
 | .inr x => .str x
inductive HO where
 /-- a list -/
 | lst (xs : List V)
 /-- a tuple (never changes) -/
 | tup (xs : List V)
 /-- a dict whose keys are ints and texts; one whose keys are tuples of ints and texts (the empty one is both) -/
 | dK (kvs : List (Key × V)) | dT (kvs : List (List Key × V))
 /-- a set of ints: its members, its size -/
 | set (S : Int -> Bool) (n : Nat)
 /-- an instance of the class at C, its dict at dx, its attributes -/
 | ins (C dx : Addr) (fs : List (Str × V))
 /-- the dict of the instance at x -/
 | own (x : Addr)
 /-- the dict of an exception -/
 | xd (fs : List (Str × V))
 /-- a bound method, f of x -/
 | met (f x : Addr)
 /-- a range object lo, lo + 1, .. below hi -/
 | rng (lo hi : Int)
 /-- a thing that is known to the object (the script; a dict while a loop walks it): read, never written while it is so -/
 | frz (o : Obj) (u : HO)
 /-- a code object's table -/
 | tbl (ps : Array Value)
 /-- any other thing, by what is true of its one object (a def of one's own: SetO a S n := HO.ext fun h => ..) -/
 | ext (φ : Heap -> Prop)
abbrev Hp := Addr -> Option HO
def upd (H : Hp) (a : Addr) (o : HO) : Hp := fun b => if b = a then some o else H b
theorem ZS {H : Hp} {a : Addr} {o : HO} : upd H a o a = some o := by unfold upd; rw [if_pos rfl]
theorem Zz {H : Hp} {a b : Addr} {o : HO} (h : b ≠ a) : upd H a o b = H b := by unfold upd; rw [if_neg h]
theorem ZO {H : Hp} {a b : Addr} {o : HO} (h : H a = some o) (h' : H b = none) : a ≠ b := by
 intro e; subst e; rw [h] at h'; cases h'
section
variable (P : Program) (w : World)
def WS (H : Hp) (h : Heap) (a : Addr) : HO -> Prop
 | .lst xs => xs.length <= sizeLine /\ ∃ (its : List Value) (n : Nat), Vals xs its /\ h.get? a = some { cls := .type "list", data := .seq its.toArray n }
 | .tup xs => xs.length <= sizeLine /\ ∃ its : List Value, Vals xs its /\ IsTup h a its.toArray
 | .dK kvs => kvs.length <= sizeLine /\ (a == sysModules) = false /\ ∃ vs, KV kvs vs /\ h.DictOf (US P w) a vs
 | .dT kvs => kvs.length <= sizeLine /\ (a == sysModules) = false /\ ∃ xs : List (List Key × Addr × Value),
   Paired (fun (p : List Key × V) (q : List Key × Addr × Value) => p.1 = q.1 /\ H q.2.1 = some (.tup (p.1.map kV)) /\ RelV p.2 q.2.2) kvs xs /\
   ∃ o es ep, h.get? a = some o /\ o.ExactDict /\ o.data = .dict es ep /\ es.toList = xs.map (entryOfKey (tupleKind (US P w))) /\ (xs.map (·.1)).Nodup
 | .set S n => h.SetOf (intKind P w) a S n
 | .ins C dx fs => H dx = some (.own a) /\ fs.length <= 1000 /\ dx ≠ a /\ h.get? a = some (PySem.W.instObj C dx) /\
   ∃ mA, h.Ns1 dx mA /\ (∀ f, RelO (fs.lookup f) (mA f)) /\ PySem.Within mA (fs.map (·.1))
 | .own _ => ∃ o, h.get? a = some o
 | .xd fs => ∃ mA, h.Ns1 a mA /\ ∀ f, RelO (fs.lookup f) (mA f)
 | .rng lo hi => ∃ t u v, h.get? a = some { cls := .type "range", data := .fields #[.int lo t, .int hi u, .int 1 v] }
 | .frz o u => h.get? a = some o /\ WS H h a u
 | .tbl ps => h.get? a = some { cls := .none, data := .fields ps }
 | .met f x => h.get? a = some (PySem.W.methodObj (.ref f) (.ref x))
 | .ext φ => φ h /\ (∃ o, h.get? a = some o) /\ ∀ h1 h2 : Heap, φ h1 -> (∀ o, h1.get? a = some o -> h2.get? a = some o) -> φ h2
def HOk (H : Hp) (h : Heap) : Prop := ∀ a o, H a = some o -> WS P w H h a o
end
section
variable {P : Program} {w : World} {H H' : Hp} {h h' : Heap} {a : Addr} {o : HO}
theorem WS.lt (x : WS P w H h a o) : a < h.objs.size := by
 cases o with
 | lst xs => obtain ⟨_, _, _, _, e⟩ := x; exact Heap.lt_size e
 | tup xs => obtain ⟨_, _, _, p⟩ := x; exact p.lt
 | dK kvs => obtain ⟨_, _, _, _, o, _, _, e, _⟩ := x; exact Heap.lt_size e
 | dT kvs => obtain ⟨_, _, _, _, o, _, _, e, _⟩ := x; exact Heap.lt_size e
 | set S n => obtain ⟨o, _, _, _, e, _⟩ := x; exact Heap.lt_size e
 | ins C dx fs => obtain ⟨_, _, _, e, _⟩ := x; exact Heap.lt_size e
 | own y => obtain ⟨_, e⟩ := x; exact Heap.lt_size e
 | xd fs => obtain ⟨_, ⟨_, _, _, e, _⟩, _⟩ := x; exact Heap.lt_size e
 | rng lo hi => obtain ⟨_, _, _, e⟩ := x; exact Heap.lt_size e
 | frz ob u => obtain ⟨e, _⟩ := x; exact Heap.lt_size e
 | tbl ps => exact Heap.lt_size (show h.get? a = some _ from x)
 | met f y => exact Heap.lt_size (show h.get? a = some _ from x)
 | ext φ => obtain ⟨_, ⟨_, e⟩, _⟩ := x; exact Heap.lt_size e
theorem Paired.mapP {α β : Type} {F G : α -> β -> Prop} : ∀ {l₁ : List α} {l₂ : List β}, Paired F l₁ l₂ -> (∀ a b, F a b -> G a b) -> Paired G l₁ l₂
 | _, _, .nil, _ => .nil
 | _, _, .cons r t, f => .cons (f _ _ r) (Paired.mapP t f)
theorem WS.stay (x : WS P w H h a o) (k : ∀ b u, (b = a \/ H b = some (.own a)) -> h.get? b = some u -> h'.get? b = some u)
  (ho : ∀ b, H b = some (.own a) -> H' b = some (.own a)) (ht : ∀ b xs, H b = some (.tup xs) -> H' b = some (.tup xs)) : WS P w H' h' a o := by
 induction o with
 | lst xs => obtain ⟨z, its, n, r, e⟩ := x; exact ⟨z, its, n, r, k _ _ (.inl rfl) e⟩
 | tup xs => obtain ⟨z, its, r, ob, e, c⟩ := x; exact ⟨z, its, r, ob, k _ _ (.inl rfl) e, c⟩
 | dK kvs => obtain ⟨z, y, vs, r, ob, es, ep, e, c⟩ := x; exact ⟨z, y, vs, r, ob, es, ep, k _ _ (.inl rfl) e, c⟩
 | dT kvs =>
  obtain ⟨z, y, xs, r, ob, es, ep, e, c⟩ := x
  exact ⟨z, y, xs, Paired.mapP r fun p q z => ⟨z.1, ht _ _ z.2.1, z.2.2⟩, ob, es, ep, k _ _ (.inl rfl) e, c⟩
 | set S n => obtain ⟨ob, es, ep, t, e, c⟩ := x; exact ⟨ob, es, ep, t, k _ _ (.inl rfl) e, c⟩
 | ins C dx fs =>
  obtain ⟨d, z, ne, e, mA, ⟨od, es, ep, e2, c⟩, r⟩ := x
  exact ⟨ho _ d, z, ne, k _ _ (.inl rfl) e, mA, ⟨od, es, ep, k _ _ (.inr d) e2, c⟩, r⟩
 | own y => obtain ⟨ob, e⟩ := x; exact ⟨ob, k _ _ (.inl rfl) e⟩
 | xd fs => obtain ⟨mA, ⟨od, es, ep, e, c⟩, r⟩ := x; exact ⟨mA, ⟨od, es, ep, k _ _ (.inl rfl) e, c⟩, r⟩
 | rng lo hi => obtain ⟨t, u, v, e⟩ := x; exact ⟨t, u, v, k _ _ (.inl rfl) e⟩
 | frz ob u ih => obtain ⟨e, q⟩ := x; exact ⟨k _ _ (.inl rfl) e, ih q⟩
 | tbl ps =>
  have e : h.get? a = some { cls := .none, data := .fields ps } := x
  show h'.get? a = some { cls := .none, data := .fields ps }
  exact k a _ (.inl rfl) e
 | met f y =>
  have e : h.get? a = some (PySem.W.methodObj (.ref f) (.ref y)) := x
  show h'.get? a = some (PySem.W.methodObj (.ref f) (.ref y))
  exact k a _ (.inl rfl) e
 | ext φ => obtain ⟨p, ⟨o, e⟩, st⟩ := x; exact ⟨st _ _ p fun o q => k _ _ (.inl rfl) q, ⟨o, k _ _ (.inl rfl) e⟩, st⟩
theorem HOk.lt (x : HOk P w H h) (e : H a = some o) : a < h.objs.size := (x a o e).lt
theorem HOk.fresh (x : HOk P w H h) (e : h.objs.size <= a) : H a = none := by
 cases q : H a with
 | none => rfl
 | some u => exact absurd (Nat.lt_of_lt_of_le (x.lt q) e) (Nat.lt_irrefl _)
theorem HOk.kept (x : HOk P w H h) (k : ∀ b u, h.get? b = some u -> h'.get? b = some u) : HOk P w H h' := fun a o e =>
 (x a o e).stay (fun b u _ q => k b u q) (fun _ q => q) fun _ _ q => q
theorem HOk.laid (x : HOk P w H h) (k : ∀ b u, h.get? b = some u -> h'.get? b = some u) (hp : h.objs.size <= a) (new : WS P w (upd H a o) h' a o) : HOk P w (upd H a o) h' := fun b u e => by
 have hn := x.fresh hp
 by_cases hb : b = a
 ·subst hb; rw [ZS] at e; cases e; exact new
 ·rw [Zz hb] at e
  exact (x b u e).stay (fun c v _ q => k c v q) (fun c q => by rw [Zz (ZO q hn)]; exact q) fun c xs q => by rw [Zz (ZO q hn)]; exact q
end
def Rd (H : Hp) (a : Addr) (u : HO) : Prop := H a = some u \/ ∃ o, H a = some (.frz o u)
theorem Rd.ok {P : Program} {w : World} {H : Hp} {h : Heap} {a : Addr} {u : HO} (r : Rd H a u) (x : HOk P w H h) : WS P w H h a u := by
 rcases r with r | ⟨o, r⟩
 ·exact x a u r
 ·obtain ⟨_, q⟩ := x a _ r
  exact q
def Mut : Option HO -> Prop
 | some (.lst _) => True
 | some (.dK _) => True
 | some (.dT _) => True
 | some (.set _ _) => True
 | some (.ins _ _ _) => True
 | some (.ext _) => True
 | _ => False
section
variable {P : Program} {w : World} {H : Hp} {h h' : Heap} {x e : Addr} {o' : HO}
theorem HOk.write (ok : HOk P w H h) (mu : Mut (H x)) (he : e = x \/ H e = some (.own x)) (k : ∀ b u, b ≠ e -> h.get? b = some u -> h'.get? b = some u) (heo : ∃ u, h'.get? e = some u)
  (new : WS P w (upd H x o') h' x o') : HOk P w (upd H x o') h' := fun b u q => by
 have nown : ∀ c y, H c = some (.own y) -> c ≠ x := fun c y r z => by subst z; rw [r] at mu; exact mu
 have ntup : ∀ c xs, H c = some (.tup xs) -> c ≠ x := fun c xs r z => by subst z; rw [r] at mu; exact mu
 by_cases hb : b = x
 ·subst hb; rw [ZS] at q; cases q; exact new
 ·rw [Zz hb] at q
  by_cases hbe : b = e
  ·have q' : H b = some (.own x) := by
    rcases he with z | z
    ·exact absurd (hbe.trans z) hb
    ·rw [hbe]; exact z
   rw [q] at q'; cases q'
   obtain ⟨v, hv⟩ := heo
   exact ⟨v, by rw [hbe]; exact hv⟩
  ·refine (ok b u q).stay (fun c v hc r => k c v ?_ r) (fun c r => by rw [Zz (nown c b r)]; exact r) fun c xs r => by rw [Zz (ntup c xs r)]; exact r
   rcases hc with rfl | hc
   ·exact hbe
   ·rintro rfl
    rcases he with z | z
    ·exact nown c b hc z
    ·rw [hc] at z; cases z; exact hb rfl
end
structure Un (fs ex : List Addr) (H H' : Hp) (h h' : Heap) : Prop where
 keep : ∀ b o, h.get? b = some o -> H b = none -> b ∉ fs -> b ∉ ex -> h'.get? b = some o
 slot : ∀ b o, h.get? b = some o -> H b = none -> b ∈ fs -> b ∉ ex -> ∃ sl, h'.get? b = some { o with slots := sl }
 free : ∀ b o, h.get? b = some o -> H b = none -> b ∉ ex -> H' b = none
 there : ∀ b o, h.get? b = some o -> b ∉ ex -> ∃ o', h'.get? b = some o'
 tups : ∀ b xs, H b = some (.tup xs) -> H' b = some (.tup xs)
 frzs : ∀ b o u, H b = some (.frz o u) -> H' b = some (.frz o u)
 tbls : ∀ b ps, H b = some (.tbl ps) -> ∃ more, H' b = some (.tbl (ps ++ more))
section
variable {fs fs' ex ex' : List Addr} {H H1 H2 : Hp} {h h1 h2 h' : Heap} {a x e : Addr} {o : HO}
theorem Un.any (u : Un fs ex H H1 h h1) {b : Addr} {ob : Obj} (q : h.get? b = some ob) (n : H b = none) (hx : b ∉ ex) : ∃ sl, h1.get? b = some { ob with slots := sl } := by
 by_cases hb : b ∈ fs
 ·exact u.slot b ob q n hb hx
 ·exact ⟨ob.slots, u.keep b ob q n hb hx⟩
theorem Un.kept (k : ∀ b u, h.get? b = some u -> h'.get? b = some u) : Un fs ex H H h h' :=
 ⟨fun b ob q _ _ _ => k b ob q, fun b ob q _ _ _ => ⟨ob.slots, k b ob q⟩, fun _ _ _ n _ => n, fun b ob q _ => ⟨ob, k b ob q⟩, fun _ _ q => q, fun _ _ _ q => q, fun _ ps q => ⟨#[], by rw [q]; simp⟩⟩
theorem Un.refl : Un fs ex H H h h := Un.kept fun _ _ q => q
theorem Un.laid (k : ∀ b u, h.get? b = some u -> h'.get? b = some u) (hp : h.objs.size <= a) (hn : H a = none) : Un fs ex H (upd H a o) h h' where
 keep := fun b u q _ _ _ => k b u q
 slot := fun b u q _ _ _ => ⟨u.slots, k b u q⟩
 free := fun b u q n _ => by rw [Zz (Nat.ne_of_lt (Nat.lt_of_lt_of_le (Heap.lt_size q) hp))]; exact n
 there := fun b u q _ => ⟨u, k b u q⟩
 tups := fun b xs q => by rw [Zz (ZO q hn)]; exact q
 frzs := fun b u xs q => by rw [Zz (ZO q hn)]; exact q
 tbls := fun b ps q => ⟨#[], by rw [Zz (ZO q hn), q]; simp⟩
theorem Un.write (mu : Mut (H x)) (he : e = x \/ H e = some (.own x)) (k : ∀ b u, b ≠ e -> h.get? b = some u -> h'.get? b = some u) (heo : ∃ u, h'.get? e = some u) : Un fs ex H (upd H x o) h h' := by
 have hx : ∀ b, H b = none -> b ≠ x := fun b n z => by subst z; rw [n] at mu; exact mu
 have hb : ∀ b, H b = none -> b ≠ e := fun b n z => by
  subst z
  rcases he with r | r
  ·exact hx b n r
  ·rw [n] at r; cases r
 have hm : ∀ b u, H b = some u -> ¬ Mut (some u) -> b ≠ x := fun b u q nm z => by subst z; rw [q] at mu; exact nm mu
 refine ⟨fun b u q n _ _ => k b u (hb b n) q, fun b u q n _ _ => ⟨u.slots, k b u (hb b n) q⟩, fun b u q n _ => by rw [Zz (hx b n)]; exact n, fun b u q _ => ?_,
  fun b xs q => by rw [Zz (hm b _ q fun z => z)]; exact q, fun b u xs q => by rw [Zz (hm b _ q fun z => z)]; exact q, fun b ps q => ⟨#[], by rw [Zz (hm b _ q fun z => z), q]; simp⟩⟩
 by_cases hbe : b = e
 ·subst hbe; exact heo
 ·exact ⟨u, k b u hbe q⟩
end
def trk (h : Heap) (H : Hp) : List Addr := (List.range h.objs.size).filter fun a => (H a).isSome
def hidT (h : Heap) (H : Hp) : Heap := PySem.W.hideAll h (trk h H)
theorem za1 (h : Heap) (H : Hp) : (hidT h H).objs.size = h.objs.size := PySem.W.hideAll_size _ _
theorem hidT_get {h : Heap} {H : Hp} {b : Addr} {o : Obj} (e : h.get? b = some o) (n : H b = none) : (hidT h H).get? b = some o :=
 PySem.W.hideAll_get _ e fun hm => by
  have q : (H b).isSome = true := (List.mem_filter.mp hm).2
  rw [n] at q; simp at q
theorem of_hidT {h : Heap} {H : Hp} {b : Addr} {o : Obj} (e : (hidT h H).get? b = some o) : h.get? b = some o /\ H b = none := by
 have e' : h.get? b = some o := PySem.W.of_hideAll (trk h H) e
 refine ⟨e', ?_⟩
 cases q : H b with
 | none => rfl
 | some x =>
  have hm : b ∈ trk h H := List.mem_filter.mpr ⟨List.mem_range.mpr (Heap.lt_size e'), by simp [q]⟩
  have z : (hidT h H).get? b = none := PySem.W.hideAll_none (trk h H) hm
  rw [z] at e; cases e
end L2
namespace L2
open PySem PySem.Spec PyProof.Rows
structure Mod (K : PySem.W.Frag) (mg : Str -> Option Value) (base : Heap) : Prop where
 kin : K.In base
 glob : base.Ns mainGlobals mg
 blt : ∃ mb, base.Ns builtinsNs mb /\ ∀ x : Str, x ≠ "__name__" -> mb x = bootBuiltins x
 nolimit : base.NoLimit
structure Cx where
 prog : Program
 w : World
 K : PySem.W.Frag
 mg : Str -> Option Value
 base : Heap
 A : Around
 N : List Str
 s₀ : Shared
 H₀ : Hp
 env : Env
 outer : List Env
 stack : List Env
 ex : List Addr
 fn : Str -> Bool
 calm : Bool
 pn : List (Addr × Obj)
 xe : Value -> Shared -> Prop
def frs (l : List Env) : List Addr := l.filterMap (·.frame)
abbrev Cx.fs (X : Cx) : List Addr := frs X.outer
def Vis (sc : Scope) (x : Str) : Prop := sc.names.lookup x = some .local \/ sc.names.lookup x = some .cell \/ sc.names.lookup x = some .free
def Loc (sc : Scope) (x : Str) : Prop := sc.names.lookup x = some .local \/ sc.names.lookup x = some .cell
def Look (env : Env) (h : Heap) (m : Str -> Option Value) (x : Str) (u : Value) : Prop :=
 (env.kindOf x = some .local /\ m x = some u) \/ ((env.kindOf x = some .cell \/ env.kindOf x = some .free) /\ ∃ c, env.cells.lookup x = some c /\ h.IsCell c (some u))
structure Cx.Ok (X : Cx) : Prop where
 mod : Mod X.K X.mg X.base
 kind : X.env.scope.kind = .function
 glob : X.env.globals = mainGlobals
 blt : X.env.builtins = builtinsNs
 above : X.s₀.heap.objs.size <= X.env.locals
 inj : ∀ x y c, X.env.cells.lookup x = some c -> X.env.cells.lookup y = some c -> x = y
 has : ∀ x, (X.env.kindOf x = some .cell \/ X.env.kindOf x = some .free) -> ∃ c, X.env.cells.lookup x = some c
 cab : ∀ x c, X.fn x = true -> X.env.cells.lookup x = some c -> X.s₀.heap.objs.size <= c
 hd : X.calm = true -> X.A.handled = none
 frames : X.A.frames = some X.stack
 stk : X.stack = X.outer \/ (X.stack = X.env :: X.outer /\ X.env.frame = some X.env.locals)
 exf : ∀ b ∈ X.ex, b ≠ X.env.locals /\ ∀ x c, X.env.cells.lookup x = some c -> c ≠ b
 bs : ∀ b o, X.base.get? b = some o -> X.s₀.heap.get? b = some o /\ X.H₀ b = none
 bsz : X.base.objs.size <= X.s₀.heap.objs.size
 noex : ∀ b o, X.base.get? b = some o -> b ∉ X.ex
 exfs : ∀ b ∈ X.ex, b ∉ X.fs
 funs : X.s₀.heap.FunFrames X.base X.outer
 frf : ∀ b ∈ X.fs, X.H₀ b = none
structure Inv (X : Cx) (pins : List (Addr × Obj)) (σ : List (Option V)) (H : Hp) (s : Shared) : Prop where
 ok : X.Ok
 os : s.os = X.s₀.os
 bare : AllBare s.gens
 base : Un X.fs X.ex X.H₀ H X.s₀.heap s.heap
 loc : ∃ m, s.heap.Ns X.env.locals m /\ ∀ (i : Nat) (x : Str) (v : V), X.N[i]? = some x -> σ[i]? = some (some v) -> Vis X.env.scope x -> ∃ u, RelV v u /\ Look X.env s.heap m x u
 cell : ∀ x c, X.env.cells.lookup x = some c -> ∃ v, s.heap.IsCell c v
 free : H X.env.locals = none
 freeC : ∀ x c, X.env.cells.lookup x = some c -> H c = none
 pin : ∀ p ∈ X.pn ++ pins, s.heap.get? p.1 = some p.2 /\ H p.1 = none /\ p.1 ≠ X.env.locals /\ p.1 ∉ X.fs /\ ∀ v, p.2.data ≠ .cell v
 hok : HOk X.prog X.w H s.heap
 len : σ.length = X.N.length
section
variable {X : Cx} {pins : List (Addr × Obj)} {σ : List (Option V)} {H H' : Hp} {s : Shared} {h' : Heap}
theorem Cx.Ok.nofr (ok : X.Ok) {b : Addr} {o : Obj} (e : X.base.get? b = some o) : b ∉ X.fs := fun hb => by
 have := (ok.funs.mem hb).1
 rw [e] at this; cases this
theorem Inv.bs (I : Inv X pins σ H s) : ∀ b o, X.base.get? b = some o -> s.heap.get? b = some o /\ H b = none := fun b o e =>
 ⟨I.base.keep b o (I.ok.bs b o e).1 (I.ok.bs b o e).2 (I.ok.nofr e) (I.ok.noex b o e), I.base.free b o (I.ok.bs b o e).1 (I.ok.bs b o e).2 (I.ok.noex b o e)⟩
theorem Inv.bk (I : Inv X pins σ H s) : ∀ b o, X.base.get? b = some o -> s.heap.get? b = some o := fun b o e => (I.bs b o e).1
theorem Inv.mod (I : Inv X pins σ H s) : Mod X.K X.mg X.base := I.ok.mod
theorem Inv.kIn (I : Inv X pins σ H s) : X.K.In s.heap := I.ok.mod.kin.keeps I.bk
theorem Inv.lt (I : Inv X pins σ H s) : X.env.locals < s.heap.objs.size := let ⟨_, hn, _⟩ := I.loc; hn.lt
theorem Inv.sz (I : Inv X pins σ H s) : X.s₀.heap.objs.size <= s.heap.objs.size := Nat.le_trans I.ok.above (Nat.le_of_lt I.lt)
theorem Inv.nofs (I : Inv X pins σ H s) {a : Addr} (h : s.heap.objs.size <= a) : a ∉ X.fs := fun hb => by
 obtain ⟨_, o, ho, _⟩ := I.ok.funs.mem hb
 exact absurd (Nat.lt_of_lt_of_le (Heap.lt_size ho) (Nat.le_trans I.sz h)) (Nat.lt_irrefl _)
theorem Inv.cne (I : Inv X pins σ H s) : ∀ x c, X.env.cells.lookup x = some c -> c ≠ X.env.locals := fun x c e z => by
 obtain ⟨v, o, ho, hd⟩ := I.cell x c e
 obtain ⟨m, ⟨o', es, ep, ho', hd', _⟩, _⟩ := I.loc
 rw [z, ho'] at ho; cases ho; rw [hd'] at hd; cases hd
theorem Inv.funs (I : Inv X pins σ H s) : s.heap.FunFrames X.base X.outer := by
 have all : ∀ (l : List Env), (∀ b ∈ frs l, b ∈ X.fs) -> X.s₀.heap.FunFrames X.base l -> s.heap.FunFrames X.base l := by
  intro l
  induction l with
  | nil => intro _ _; trivial
  | cons env r ih =>
   intro hs hl
   obtain ⟨hk, ⟨L, o, hf, hn, ho, hd⟩, hr⟩ := hl
   have hL : L ∈ X.fs := hs L (by unfold frs; rw [List.filterMap_cons, hf]; exact List.mem_cons_self)
   obtain ⟨sl, e⟩ := I.base.slot L o ho (I.ok.frf L hL) hL fun z => I.ok.exfs L z hL
   exact ⟨hk, ⟨L, _, hf, hn, e, hd⟩, ih (fun b hb => hs b (by unfold frs; rw [List.filterMap_cons, hf]; exact List.mem_cons_of_mem _ hb)) hr⟩
 exact all X.outer (fun _ hb => hb) I.ok.funs
theorem Inv.stack (I : Inv X pins σ H s) : s.heap.FunFrames X.base X.stack := by
 rcases I.ok.stk with e | ⟨e, hf⟩
 ·rw [e]; exact I.funs
 ·rw [e]
  obtain ⟨m, hn, _⟩ := I.loc
  refine .cons (by rw [I.ok.kind]; decide) hf hn ?_ I.funs
  exact Heap.get?_none_of_le (Nat.le_trans I.ok.bsz I.ok.above)
theorem Inv.stkSub (I : Inv X pins σ H s) : ∀ b ∈ frs X.stack, b ∈ X.env.locals :: X.fs := fun b hb => by
 rcases I.ok.stk with e | ⟨e, hf⟩
 ·rw [e] at hb; exact List.mem_cons_of_mem _ hb
 ·rw [e] at hb
  unfold frs at hb
  rw [List.filterMap_cons, hf] at hb
  exact hb
theorem Inv.stkFree (I : Inv X pins σ H s) : ∀ b ∈ frs X.stack, H b = none := fun b hb => by
 rcases List.mem_cons.mp (I.stkSub b hb) with e | hb
 ·rw [e]; exact I.free
 ·obtain ⟨_, o, ho, _⟩ := I.ok.funs.mem hb
  exact I.base.free b o ho (I.ok.frf b hb) fun z => I.ok.exfs b z hb
theorem Inv.step {g' : Array GenState} {t' : Nat} {d' : Drawn} {ch : List Addr} (I : Inv X pins σ H s)
  (hch : ∀ b ∈ ch, (b ∈ X.ex \/ X.s₀.heap.objs.size <= b) /\ b ≠ X.env.locals /\ (∀ x c, X.env.cells.lookup x = some c -> c ≠ b) /\ ∀ p ∈ X.pn ++ pins, p.1 ≠ b)
  (keep : ∀ b o, b ≠ X.env.locals -> b ∉ X.fs -> b ∉ ch -> s.heap.get? b = some o -> H b = none -> h'.get? b = some o)
  (slot : ∀ b o, b ≠ X.env.locals -> b ∈ X.fs -> b ∉ ch -> s.heap.get? b = some o -> H b = none -> ∃ sl, h'.get? b = some { o with slots := sl }) (free : ∀ b o, b ∉ ch -> s.heap.get? b = some o -> H b = none -> H' b = none)
  (there : ∀ b o, b ∉ ch -> s.heap.get? b = some o -> ∃ o', h'.get? b = some o')
  (tups : ∀ b xs, H b = some (.tup xs) -> H' b = some (.tup xs)) (frzs : ∀ b o u, H b = some (.frz o u) -> H' b = some (.frz o u)) (tbls : ∀ b ps, H b = some (.tbl ps) -> ∃ more, H' b = some (.tbl (ps ++ more)))
  (ns : ∀ m, s.heap.Ns X.env.locals m -> h'.Ns X.env.locals m) (hok : HOk X.prog X.w H' h') (hg : AllBare g') :
  Inv X pins σ H' { s with heap := h', gens := g', drawn := d', toks := t' } := by
 have neL : ∀ b o, X.s₀.heap.get? b = some o -> b ≠ X.env.locals := fun b o e => Nat.ne_of_lt (Nat.lt_of_lt_of_le (Heap.lt_size e) I.ok.above)
 have neC : ∀ b o, X.s₀.heap.get? b = some o -> b ∉ X.ex -> b ∉ ch := fun b o e hx hb => by
  rcases (hch b hb).1 with z | z
  ·exact hx z
  ·exact absurd (Nat.lt_of_lt_of_le (Heap.lt_size e) z) (Nat.lt_irrefl _)
 have cellK : ∀ x c, X.env.cells.lookup x = some c -> ∀ v, s.heap.IsCell c v -> h'.IsCell c v := fun x c e v ⟨o, ho, hd⟩ => by
  have nch : c ∉ ch := fun z => (hch c z).2.2.1 x c e rfl
  by_cases hc : c ∈ X.fs
  ·obtain ⟨sl, q⟩ := slot c o (I.cne x c e) hc nch ho (I.freeC x c e)
   exact ⟨_, q, hd⟩
  ·exact ⟨o, keep c o (I.cne x c e) hc nch ho (I.freeC x c e), hd⟩
 refine ⟨I.ok, I.os, hg, ⟨fun b o e n hb hx => ?_, fun b o e n hb hx => ?_, fun b o e n hx => ?_, fun b o e hx => ?_, fun b xs e => tups b xs (I.base.tups b xs e), fun b o xs e => frzs b o xs (I.base.frzs b o xs e), fun b ps e => ?_⟩, ?_, fun x c e => ?_, ?_, fun x c e => ?_, fun p hp => ?_, hok, I.len⟩
 ·exact keep b o (neL b o e) hb (neC b o e hx) (I.base.keep b o e n hb hx) (I.base.free b o e n hx)
 ·obtain ⟨sl, e1⟩ := I.base.slot b o e n hb hx
  obtain ⟨sl', e2⟩ := slot b _ (neL b o e) hb (neC b o e hx) e1 (I.base.free b o e n hx)
  exact ⟨sl', e2⟩
 ·obtain ⟨o', e1⟩ := I.base.there b o e hx
  exact free b o' (neC b o e hx) e1 (I.base.free b o e n hx)
 ·obtain ⟨o', e1⟩ := I.base.there b o e hx
  exact there b o' (neC b o e hx) e1
 ·obtain ⟨m1, e1⟩ := I.base.tbls b ps e
  obtain ⟨m2, e2⟩ := tbls b _ e1
  exact ⟨m1 ++ m2, by rw [e2, Array.append_assoc]⟩
 ·obtain ⟨m, hn, hl⟩ := I.loc
  refine ⟨m, ns m hn, fun i x v e1 e2 e3 => ?_⟩
  obtain ⟨u, r, l⟩ := hl i x v e1 e2 e3
  refine ⟨u, r, ?_⟩
  rcases l with l | ⟨k, c, e, z⟩
  ·exact .inl l
  ·exact .inr ⟨k, c, e, cellK x c e _ z⟩
 ·obtain ⟨v, z⟩ := I.cell x c e
  exact ⟨v, cellK x c e v z⟩
 ·obtain ⟨m, ⟨o, _, _, ho, _⟩, _⟩ := I.loc
  exact free _ o (fun z => (hch _ z).2.1 rfl) ho I.free
 ·obtain ⟨v, o, ho, hd⟩ := I.cell x c e
  exact free c o (fun z => (hch c z).2.2.1 x c e rfl) ho (I.freeC x c e)
 ·obtain ⟨e, n, ne, nf, d⟩ := I.pin p hp
  have nch : p.1 ∉ ch := fun z => (hch p.1 z).2.2.2 p hp rfl
  exact ⟨keep p.1 p.2 ne nf nch e n, free p.1 p.2 nch e n, ne, nf, d⟩
theorem Inv.un {t' : Nat} (I : Inv X pins σ H s) (u : Un X.fs [] H H' s.heap h') (hok : HOk X.prog X.w H' h') : Inv X pins σ H' { s with heap := h', toks := t' } := by
 obtain ⟨m, ⟨o, es, ep, ho, r⟩, _⟩ := id I.loc
 obtain ⟨sl, hL⟩ := u.any ho I.free (by simp)
 exact I.step (g' := s.gens) (d' := s.drawn) (ch := []) (fun _ z => nomatch z) (fun b o _ hb _ e n => u.keep b o e n hb (by simp)) (fun b o _ hb _ e n => u.slot b o e n hb (by simp)) (fun b o _ e n => u.free b o e n (by simp)) (fun b o _ e => u.there b o e (by simp)) u.tups u.frzs u.tbls (fun m' hm => by
  obtain ⟨o', es', ep', ho', r'⟩ := hm
  rw [ho] at ho'; cases ho'
  exact ⟨_, es', ep', hL, r'⟩) hok I.bare
theorem Inv.call {g' : Array GenState} {t' : Nat} {d' : Drawn} {ch : List Addr} (I : Inv X pins σ H s) (u : Un (frs X.stack) ch H H' s.heap h') (hok : HOk X.prog X.w H' h') (hg : AllBare g')
  (hch : ∀ b ∈ ch, (b ∈ X.ex \/ X.s₀.heap.objs.size <= b) /\ b ≠ X.env.locals /\ (∀ x c, X.env.cells.lookup x = some c -> c ≠ b) /\ ∀ p ∈ X.pn ++ pins, p.1 ≠ b) :
  Inv X pins σ H' { s with heap := h', gens := g', drawn := d', toks := t' } := by
 obtain ⟨m, ⟨o, es, ep, ho, r⟩, _⟩ := id I.loc
 obtain ⟨sl, hL⟩ := u.any ho I.free fun z => (hch _ z).2.1 rfl
 exact I.step (ch := ch) hch (fun b o hL hb hc e n => u.keep b o e n (fun z => (List.mem_cons.mp (I.stkSub b z)).elim hL hb) hc) (fun b o _ _ hc e n => u.any e n hc) (fun b o hc e n => u.free b o e n hc) (fun b o hc e => u.there b o e hc) u.tups u.frzs u.tbls (fun m' hm => by
  obtain ⟨o', es', ep', ho', r'⟩ := hm
  rw [ho] at ho'; cases ho'
  exact ⟨_, es', ep', hL, r'⟩) hok hg
theorem Inv.turned {t' : Nat} {it : Addr} (I : Inv X pins σ H s) (k : ∀ b o, b ≠ it -> s.heap.get? b = some o -> h'.get? b = some o) (hn : H it = none) (hL : it ≠ X.env.locals)
  (h1 : it ∈ X.ex \/ X.s₀.heap.objs.size <= it) (h2 : ∀ x c, X.env.cells.lookup x = some c -> c ≠ it) (h3 : ∀ p ∈ X.pn ++ pins, p.1 ≠ it) : Inv X pins σ H { s with heap := h', toks := t' } := by
 have nit : ∀ b u, H b = some u -> b ≠ it := fun b u e z => by rw [z, hn] at e; cases e
 refine I.step (g' := s.gens) (d' := s.drawn) (ch := [it]) (fun b hb => ?_) (fun b o _ _ hc e _ => k b o (fun z => hc (by simp [z])) e) (fun b o _ _ hc e _ => ⟨o.slots, k b o (fun z => hc (by simp [z])) e⟩) (fun _ _ _ _ n => n)
  (fun b o hc e => ⟨o, k b o (fun z => hc (by simp [z])) e⟩) (fun _ _ e => e) (fun _ _ _ e => e) (fun b ps e => ⟨#[], by rw [e]; simp⟩) (fun m hm => ?_) (fun b u e => ?_) I.bare
 ·have e : b = it := by simpa using hb
  subst e
  exact ⟨h1, hL, h2, h3⟩
 ·obtain ⟨o, es, ep, ho, r⟩ := hm
  exact ⟨o, es, ep, k _ o (Ne.symm hL) ho, r⟩
 ·refine (I.hok b u e).stay (fun c v hc q => k c v ?_ q) (fun _ q => q) fun _ _ q => q
  rcases hc with z | z
  ·rw [z]; exact nit b u e
  ·exact nit c _ z
theorem Inv.tok (I : Inv X pins σ H s) (t : Nat) : Inv X pins σ H { s with toks := t } := I.un (h' := s.heap) (t' := t) Un.refl I.hok
theorem Inv.kept {t' : Nat} (I : Inv X pins σ H s) (k : ∀ b u, s.heap.get? b = some u -> h'.get? b = some u) : Inv X pins σ H { s with heap := h', toks := t' } := I.un (Un.kept k) (I.hok.kept k)
theorem Inv.laid {a : Addr} {o : HO} {t' : Nat} (I : Inv X pins σ H s) (k : ∀ b u, s.heap.get? b = some u -> h'.get? b = some u) (hp : s.heap.objs.size <= a) (new : WS X.prog X.w (upd H a o) h' a o) :
  Inv X pins σ (upd H a o) { s with heap := h', toks := t' } := I.un (Un.laid k hp (I.hok.fresh hp)) (I.hok.laid k hp new)
theorem Inv.write {x e : Addr} {o : HO} {t' : Nat} (I : Inv X pins σ H s) (mu : Mut (H x)) (he : e = x \/ H e = some (.own x)) (k : ∀ b u, b ≠ e -> s.heap.get? b = some u -> h'.get? b = some u) (heo : ∃ u, h'.get? e = some u)
  (new : WS X.prog X.w (upd H x o) h' x o) : Inv X pins σ (upd H x o) { s with heap := h', toks := t' } := I.un (Un.write mu he k heo) (I.hok.write mu he k heo new)
theorem Inv.pins_of {pins' : List (Addr × Obj)} (I : Inv X pins σ H s) (h : ∀ p ∈ pins', s.heap.get? p.1 = some p.2 /\ H p.1 = none /\ p.1 ≠ X.env.locals /\ p.1 ∉ X.fs /\ ∀ v, p.2.data ≠ .cell v) : Inv X pins' σ H s :=
 ⟨I.ok, I.os, I.bare, I.base, I.loc, I.cell, I.free, I.freeC, fun p hp => (List.mem_append.mp hp).elim (fun z => I.pin p (List.mem_append_left _ z)) (h p), I.hok, I.len⟩
theorem UR {N : List Str} (hN : N.Nodup) {i j : Nat} {x : Str} (a : N[i]? = some x) (b : N[j]? = some x) : i = j := by
 obtain ⟨h1, e1⟩ := List.getElem?_eq_some_iff.mp a
 obtain ⟨h2, e2⟩ := List.getElem?_eq_some_iff.mp b
 exact (List.getElem_inj hN).mp (e1.trans e2.symm)
theorem Qe {M : Model} {A : Around} {E : Value -> Shared -> Prop} {i : Nat} {x : Str} {v : V} {u : Value} {Q : Unit -> Shared -> Prop} (I : Inv X pins σ H s) (hN : X.N.Nodup) (hi : X.N[i]? = some x) (hx : Loc X.env.scope x) (r : RelV v u)
  (h : ∀ s', Inv X pins (σ.set i (some v)) H s' -> (∃ a, Heap.SameBut a s.heap s'.heap /\ (a = X.env.locals \/ X.env.cells.lookup x = some a)) -> Q () s') (hf : X.fn x = true \/ X.env.scope.names.lookup x = some .local := by first | exact .inl rfl | exact .inr rfl | assumption) : wpAny M A (storeName X.env x u) Q E s := by
 obtain ⟨m, hn, hl⟩ := id I.loc
 have hcls : (X.env.scope.kind == .class || (X.env.scope.kind == .module && X.env.locals != X.env.globals)) = false := by rw [I.ok.kind]; rfl
 have hiσ : i < σ.length := by rw [I.len]; exact (List.getElem?_eq_some_iff.mp hi).1
 have cne := I.cne
 have tracked : ∀ {a : Addr} {h' : Heap}, (∃ o, s.heap.get? a = some o /\ H a = none) -> Heap.SameBut a s.heap h' -> HOk X.prog X.w H h' := fun {a h'} ha hs b ob e => by
  obtain ⟨_, _, hfree⟩ := ha
  refine (I.hok b ob e).stay (fun c w' hc q => (hs.2 c ?_).trans q) (fun _ q => q) fun _ _ q => q
  rintro rfl
  rcases hc with rfl | hc
  ·rw [hfree] at e; cases e
  ·rw [hfree] at hc; cases hc
 rcases hx with hk | hk
 ·refine wpAny_storeName_local hk hn (fun h' hn' hs => ?_) hcls
  obtain ⟨oL, _, _, hoL, _⟩ := id hn
  refine h _ ⟨I.ok, I.os, I.bare, ⟨fun b o e n hb hx => ?_, fun b o e n hb hx => ?_, I.base.free, fun b o e hx => ?_, I.base.tups, I.base.frzs, I.base.tbls⟩, ⟨_, hn', fun j y v' e1 e2 e3 => ?_⟩, fun y c e => ?_, I.free, I.freeC, fun p hp => ?_, tracked ⟨oL, hoL, I.free⟩ hs, by simpa using I.len⟩ ⟨_, hs, .inl rfl⟩
  ·exact (hs.2 b (Nat.ne_of_lt (Nat.lt_of_lt_of_le (Heap.lt_size e) I.ok.above))).trans (I.base.keep b o e n hb hx)
  ·obtain ⟨sl, e1⟩ := I.base.slot b o e n hb hx
   exact ⟨sl, (hs.2 b (Nat.ne_of_lt (Nat.lt_of_lt_of_le (Heap.lt_size e) I.ok.above))).trans e1⟩
  ·obtain ⟨o', e1⟩ := I.base.there b o e hx
   exact ⟨o', (hs.2 b (Nat.ne_of_lt (Nat.lt_of_lt_of_le (Heap.lt_size e) I.ok.above))).trans e1⟩
  ·by_cases hj : j = i
   ·subst hj
    rw [hi] at e1; cases e1
    rw [List.getElem?_set_self hiσ] at e2
    cases e2
    exact ⟨u, r, .inl ⟨hk, by simp⟩⟩
   ·rw [List.getElem?_set_ne (Ne.symm hj)] at e2
    obtain ⟨u', r', q⟩ := hl j y v' e1 e2 e3
    refine ⟨u', r', ?_⟩
    rcases q with ⟨k, e⟩ | ⟨k, c, e, z⟩
    ·refine .inl ⟨k, ?_⟩
     have : y ≠ x := fun e => hj (UR hN e1 (e ▸ hi))
     simp [this, e]
    ·exact .inr ⟨k, c, e, z.sameBut hs (cne y c e)⟩
  ·obtain ⟨w', z⟩ := I.cell y c e
   exact ⟨w', z.sameBut hs (cne y c e)⟩
  ·obtain ⟨e, n, ne, nf, d⟩ := I.pin p hp
   exact ⟨(hs.2 p.1 ne).trans e, n, ne, nf, d⟩
 ·have hfn : X.fn x = true := by
   rcases hf with z | z
   ·exact z
   ·rw [z] at hk; cases hk
  obtain ⟨c, hc⟩ := I.ok.has x (.inl hk)
  obtain ⟨w', z⟩ := I.cell x c hc
  refine wpAny_storeName_cell I.ok.kind hk hc z (fun h' hc' hs => ?_)
  obtain ⟨oc, hoc, hocd⟩ := id z
  refine h { s with heap := h' } ⟨I.ok, I.os, I.bare, ⟨fun b o e n hb hx => ?_, fun b o e n hb hx => ?_, I.base.free, fun b o e hx => ?_, I.base.tups, I.base.frzs, I.base.tbls⟩, ⟨m, hn.sameBut hs (Ne.symm (cne x c hc)), fun j y v' e1 e2 e3 => ?_⟩, fun y c' e => ?_, I.free, I.freeC, fun p hp => ?_, tracked ⟨oc, hoc, I.freeC x c hc⟩ hs, by simpa using I.len⟩ ⟨c, hs, .inr hc⟩
  ·exact (hs.2 b (Nat.ne_of_lt (Nat.lt_of_lt_of_le (Heap.lt_size e) (I.ok.cab x c hfn hc)))).trans (I.base.keep b o e n hb hx)
  ·obtain ⟨sl, e1⟩ := I.base.slot b o e n hb hx
   exact ⟨sl, (hs.2 b (Nat.ne_of_lt (Nat.lt_of_lt_of_le (Heap.lt_size e) (I.ok.cab x c hfn hc)))).trans e1⟩
  ·obtain ⟨o', e1⟩ := I.base.there b o e hx
   exact ⟨o', (hs.2 b (Nat.ne_of_lt (Nat.lt_of_lt_of_le (Heap.lt_size e) (I.ok.cab x c hfn hc)))).trans e1⟩
  ·by_cases hj : j = i
   ·subst hj
    rw [hi] at e1; cases e1
    rw [List.getElem?_set_self hiσ] at e2
    cases e2
    exact ⟨u, r, .inr ⟨.inl hk, c, hc, hc'⟩⟩
   ·rw [List.getElem?_set_ne (Ne.symm hj)] at e2
    obtain ⟨u', r', q⟩ := hl j y v' e1 e2 e3
    refine ⟨u', r', ?_⟩
    rcases q with q | ⟨k, c', e, z'⟩
    ·exact .inl q
    ·refine .inr ⟨k, c', e, z'.sameBut hs ?_⟩
     rintro rfl
     exact hj (UR hN e1 (I.ok.inj _ _ _ e hc ▸ hi))
  ·by_cases hcc : c' = c
   ·subst hcc; exact ⟨_, hc'⟩
   ·obtain ⟨w2, z2⟩ := I.cell y c' e
    exact ⟨w2, z2.sameBut hs hcc⟩
  ·obtain ⟨e, n, ne, nf, d⟩ := I.pin p hp
   refine ⟨(hs.2 p.1 ?_).trans e, n, ne, nf, d⟩
   intro q
   rw [q, hoc] at e
   have q' : oc = p.2 := Option.some.inj e
   exact d w' (by rw [<- q']; exact hocd)
theorem WW {M : Model} {A : Around} {E : Value -> Shared -> Prop} {i : Nat} {x : Str} {v : V} {u : Value} {Q : Unit -> Shared -> Prop} (I : Inv X pins σ H s) (hN : X.N.Nodup) (hi : X.N[i]? = some x) (hx : Loc X.env.scope x) (r : RelV v u)
  (h : ∀ s', Inv X pins (σ.set i (some v)) H s' -> Q () s') (hf : X.fn x = true \/ X.env.scope.names.lookup x = some .local := by first | exact .inl rfl | exact .inr rfl | assumption) : wpAny M A (storeName X.env x u) Q E s :=
 Qe I hN hi hx r (fun s' I' _ => h s' I') hf
theorem Inv.call' {s' : Shared} {ch : List Addr} (I : Inv X pins σ H s) (ho : s'.os = s.os) (u : Un (frs X.stack) ch H H' s.heap s'.heap) (hok : HOk X.prog X.w H' s'.heap) (hg : AllBare s'.gens)
  (hch : ∀ b ∈ ch, (b ∈ X.ex \/ X.s₀.heap.objs.size <= b) /\ b ≠ X.env.locals /\ (∀ x c, X.env.cells.lookup x = some c -> c ≠ b) /\ ∀ p ∈ X.pn ++ pins, p.1 ≠ b) : Inv X pins σ H' s' := by
 obtain ⟨h', g', d', t', o'⟩ := s'
 have e : o' = s.os := ho
 subst e
 exact I.call (g' := g') (t' := t') (d' := d') u hok hg hch
end
abbrev XK := Value -> Option Addr -> Hp -> Prop
abbrev St := List (Option V)
abbrev VK := V -> Hp -> Prop
abbrev TE := St -> Hp -> VK -> Prop
abbrev TT := St -> Hp -> (Bool -> Hp -> Prop) -> Prop
abbrev TA := St -> Hp -> (List V -> Hp -> Prop) -> Prop
structure Ends where
 nx : St -> Hp -> Prop
 rt : VK
 bk : St -> Hp -> Prop := fun _ _ => False
 ct : St -> Hp -> Prop := fun _ _ => False
abbrev TS := Ends -> St -> Hp -> Prop
def EP (X : Cx) (pins : List (Addr × Obj)) (σ : St) (Q : VK) (u : Value) (s' : Shared) : Prop := ∃ v H', Inv X pins σ H' s' /\ RelV v u /\ Q v H'
def TP (X : Cx) (pins : List (Addr × Obj)) (σ : St) (Q : Bool -> Hp -> Prop) (b : Bool) (s' : Shared) : Prop := ∃ H', Inv X pins σ H' s' /\ Q b H'
def AP (X : Cx) (pins : List (Addr × Obj)) (σ : St) (Q : List V -> Hp -> Prop) (us : List Value) (s' : Shared) : Prop := ∃ vs H', Inv X pins σ H' s' /\ Vals vs us /\ Q vs H'
def SP (X : Cx) (pins : List (Addr × Obj)) (D : Ends) (f : Flow) (s' : Shared) : Prop :=
 match f with
 | .next => ∃ σ' H', Inv X pins σ' H' s' /\ D.nx σ' H'
 | .brk => ∃ σ' H', Inv X pins σ' H' s' /\ D.bk σ' H'
 | .cont => ∃ σ' H', Inv X pins σ' H' s' /\ D.ct σ' H'
 | .ret u => ∃ v σ' H', Inv X pins σ' H' s' /\ RelV v u /\ D.rt v H'
def PE (X : Cx) (e : Expr) (t : TE) : Prop :=
 ∀ (pins : List (Addr × Obj)) (s : Shared) (σ : St) (H : Hp) (Q : VK), Inv X pins σ H s -> t σ H Q -> wpAny (model X.prog X.w) X.A (eval e X.env) (EP X pins σ Q) X.xe s
def PT (X : Cx) (e : Expr) (t : TT) : Prop :=
 ∀ (pins : List (Addr × Obj)) (s : Shared) (σ : St) (H : Hp) (Q : Bool -> Hp -> Prop), Inv X pins σ H s -> t σ H Q -> wpAny (model X.prog X.w) X.A (isTrue e X.env (eval e X.env)) (TP X pins σ Q) X.xe s
def PW (X : Cx) (e : Expr) (t : TT) : Prop :=
 ∀ (whole : Sem Value) (pins : List (Addr × Obj)) (s : Shared) (σ : St) (H : Hp) (Q : Bool -> Hp -> Prop), Inv X pins σ H s -> t σ H Q -> wpAny (model X.prog X.w) X.A (isTrue e X.env whole) (TP X pins σ Q) X.xe s
theorem PW.pt {X : Cx} {e : Expr} {t : TT} (h : PW X e t) : PT X e t := h _
def PA (X : Cx) (es : List Expr) (t : TA) : Prop :=
 ∀ (pos : Pos) (pins : List (Addr × Obj)) (s : Shared) (σ : St) (H : Hp) (Q : List V -> Hp -> Prop), Inv X pins σ H s -> t σ H Q -> wpAny (model X.prog X.w) X.A (spliced (backTo pos (starEach es X.env))) (AP X pins σ Q) X.xe s
def PS (X : Cx) (st : Stmt) (t : TS) : Prop :=
 ∀ (pins : List (Addr × Obj)) (s : Shared) (σ : St) (H : Hp) (D : Ends), Inv X pins σ H s -> t D σ H -> wpAny (model X.prog X.w) X.A (exec st X.env) (SP X pins D) X.xe s
def PSs (X : Cx) (st : List Stmt) (t : TS) : Prop :=
 ∀ (pins : List (Addr × Obj)) (s : Shared) (σ : St) (H : Hp) (D : Ends), Inv X pins σ H s -> t D σ H -> wpAny (model X.prog X.w) X.A (execs st X.env) (SP X pins D) X.xe s
theorem thn {α : Type} {t : Sem α} {Q Q' : α -> Shared -> Prop} {M : Model} {A : Around} {E : Value -> Shared -> Prop} {s : Shared} (h : wpAny M A t Q E s) (hQ : ∀ a s, Q a s -> Q' a s) : wpAny M A t Q' E s := wpAny_mono h hQ fun _ _ x => x
end L2
namespace L2
open PySem PySem.Spec PyProof.Rows
section
variable {X : Cx}
def tVar (i : Nat) : TE := fun σ H Q => ∃ v, σ[i]? = some (some v) /\ Q v H
def tC (v : V) : TE := fun _ H Q => Q v H
theorem Qp {i : Nat} {x : Str} {pos : Pos} (hN : X.N[i]? = some x) (hv : Vis X.env.scope x) (hd : (x == ("__debug__" : Str)) = false := by decide) (hcd : (x == ("__classdict__" : Str)) = false := by decide) : PE X (.Name x pos) (tVar i) := by
 intro pins s σ H Q I h
 obtain ⟨v, e, h⟩ := h
 obtain ⟨m, hn, hl⟩ := I.loc
 obtain ⟨u, r, l⟩ := hl i x v hN e hv
 have fin : EP X pins σ Q u s := ⟨v, H, I, r, h⟩
 rcases l with ⟨hk, hm⟩ | ⟨hk, c, hc, hcell⟩
 ·exact wpAny_Name (wpAny_loadName_local I.ok.kind hk hn hm fin) hd
 ·rcases hk with hk | hk
  ·exact wpAny_Name (wpAny_loadName_cell I.ok.kind hk hc hcell fin) hd
  ·exact wpAny_Name (wpAny_loadName_free I.ok.kind hk hc hcell fin hcd) hd
theorem pe_int {i j pos} : PE X (.Constant (.int i) j pos) (tC (.int i)) := fun _ _ _ H _ I h => wpAny_Constant_int ⟨.int i, H, I.tok _, ⟨_, rfl⟩, h⟩
theorem pe_bl {b j pos} : PE X (.Constant (.bool b) j pos) (tC (.bl b)) := fun _ _ _ H _ I h => Constant_bool ⟨.bl b, H, I, rfl, h⟩
theorem pe_non {j pos} : PE X (.Constant .none j pos) (tC .non) := fun _ _ _ H _ I h => Constant_none ⟨.non, H, I, rfl, h⟩
theorem pe_str {x j pos} : PE X (.Constant (.str x) j pos) (tC (.str x)) := fun _ _ _ H _ I h => Calls.Constant_str ⟨.str x, H, I.tok _, ⟨_, rfl⟩, h⟩
def Gl (X : Cx) (x : Str) : Prop := X.env.kindOf x = some .globalImplicit
theorem Wb {E : Value -> Shared -> Prop} {pins : List (Addr × Obj)} {s : Shared} {σ : St} {H : Hp} {x : Str} {u : Value} {pos : Pos} {Q : Value -> Shared -> Prop} (I : Inv X pins σ H s) (hg : Gl X x) (hm : X.mg x = some u) (h : Q u s)
  (hd : (x == ("__debug__" : Str)) = false := by decide) : wpAny (model X.prog X.w) X.A (eval (.Name x pos) X.env) Q E s :=
 Calls.Name_function_global I.ok.kind hg (Calls.loadGlobal_global (by rw [I.ok.glob]; exact I.mod.glob.keeps I.bk) hm h) hd
theorem Qx {E : Value -> Shared -> Prop} {pins : List (Addr × Obj)} {s : Shared} {σ : St} {H : Hp} {x : Str} {u : Value} {pos : Pos} {Q : Value -> Shared -> Prop} (I : Inv X pins σ H s) (hg : Gl X x) (hm : X.mg x = none) (hv : bootBuiltins x = some u) (h : Q u s)
  (hn : x ≠ "__name__" := by decide) (hd : (x == ("__debug__" : Str)) = false := by decide) : wpAny (model X.prog X.w) X.A (eval (.Name x pos) X.env) Q E s := by
 obtain ⟨mb, h1, h2⟩ := I.mod.blt
 exact Calls.Name_function_global I.ok.kind hg (Calls.loadGlobal_builtin (by rw [I.ok.glob]; exact I.mod.glob.keeps I.bk) hm (by rw [I.ok.blt]; exact h1.keeps I.bk) ((h2 x hn).trans hv) h) hd
theorem zaG {x : Str} {v : V} {u : Value} {pos : Pos} (hg : Gl X x) (hm : X.mg x = some u) (r : RelV v u) (hd : (x == ("__debug__" : Str)) = false := by decide) : PE X (.Name x pos) (tC v) :=
 fun _ _ _ H _ I h => Wb I hg hm ⟨v, H, I, r, h⟩ hd
theorem zaH {x : Str} {v : V} {u : Value} {pos : Pos} (hg : Gl X x) (hm : X.mg x = none) (hv : bootBuiltins x = some u) (r : RelV v u) (hn : x ≠ "__name__" := by decide) (hd : (x == ("__debug__" : Str)) = false := by decide) : PE X (.Name x pos) (tC v) :=
 fun _ _ _ H _ I h => Qx I hg hm hv ⟨v, H, I, r, h⟩ hn hd
variable {a b : Expr} {ta tb : TE} {pos : Pos}
def PC (X : Cx) (op : CmpOp) (a b : Expr) (t : TE) : Prop :=
 ∀ (pins : List (Addr × Obj)) (s : Shared) (σ : St) (H : Hp) (Q : VK), Inv X pins σ H s -> t σ H Q ->
  wpAny (model X.prog X.w) X.A (eval a X.env) (fun v s₁ => wpAny (model X.prog X.w) X.A (eval b X.env) (fun u s₂ => wpAny (model X.prog X.w) X.A (compareOp op v u) (EP X pins σ Q) X.xe s₂) X.xe s₁) X.xe s
theorem Jr (b : Expr) {op : CmpOp} (h : op ≠ .In) (h2 : op ≠ .NotIn) : behindInMarks op b = false := by
 have e1 : (op == CmpOp.In) = false := by cases op <;> first | rfl | exact absurd rfl h
 have e2 : (op == CmpOp.NotIn) = false := by cases op <;> first | rfl | exact absurd rfl h2
 cases b <;> simp [behindInMarks, e1, e2]
def tIsN (ta : TE) : TE := fun σ H Q => ta σ H fun x H1 => Q (.bl (decide (x = .non))) H1
theorem RelV.none_iff {x : V} {v : Value} (r : RelV x v) : (v == Value.none) = decide (x = .non) := by
 cases x with
 | non => cases r; rfl
 | bl _ => cases r; rfl
 | int _ => obtain ⟨t, rfl⟩ := r; rfl
 | str _ => obtain ⟨t, rfl⟩ := r; rfl
 | byt _ => obtain ⟨t, rfl⟩ := r; rfl
 | flt _ => obtain ⟨t, rfl⟩ := r; rfl
 | ref _ => cases r; rfl
 | ty _ => cases r; rfl
theorem pc_isN {j pos'} (ha : PE X a ta) : PC X .Is a (.Constant .none j pos') (tIsN ta) := by
 intro pins s σ H Q I h
 refine thn (ha pins s σ H _ I h) fun v s1 ⟨x, H1, I1, r1, q1⟩ => ?_
 exact Constant_none (is_none_gen ⟨.bl _, H1, I1, by rw [r1.none_iff]; rfl, q1⟩)
def tB (t : TE) : TT := fun σ H Q => t σ H fun x H1 => ∃ c, x = .bl c /\ Q c H1
theorem pt_cmp {op : CmpOp} {t : TE} (h : PC X op a b t) (h1 : behindInMarks op b = false := by first | exact Jr _ (by decide) (by decide) | rfl) : PT X (.Compare a [op] [b] pos) (tB t) := by
 intro pins s σ H Q I hw
 refine wpAny_isTrue_Compare1 (thn (h pins s σ H _ I hw) fun v s1 h1 => thn h1 fun u s2 h2 => thn h2 fun c s3 ⟨x, H1, I1, r1, q1⟩ => ?_) h1
 obtain ⟨d, rfl, q⟩ := q1
 cases r1
 exact wpAny_truthy_bool ⟨H1, I1, q⟩
variable {tA tB' : TT} {rest : List Expr}
def tAnd (t u : TT) : TT := fun σ H Q => t σ H fun c H1 => if c = true then u σ H1 Q else Q false H1
def tOr (t u : TT) : TT := fun σ H Q => t σ H fun c H1 => if c = true then Q true H1 else u σ H1 Q
def tNot (t : TT) : TT := fun σ H Q => t σ H fun c H1 => Q (!c) H1
theorem pw_and1 (ha : PT X a tA) : PW X (.BoolOp .And [a] pos) tA := by
 intro wh pins s σ H Q I h
 refine isTrue_and (thn (ha pins s σ H Q I h) fun c s1 e => ?_)
 cases c with
 | true => exact isTrue_and_nil e
 | false => exact e
theorem pw_or1 (ha : PT X a tA) : PW X (.BoolOp .Or [a] pos) tA := by
 intro wh pins s σ H Q I h
 refine isTrue_or (thn (ha pins s σ H Q I h) fun c s1 e => ?_)
 cases c with
 | false => exact isTrue_or_nil e
 | true => exact e
theorem pw_and (ha : PT X a tA) (hb : PW X (.BoolOp .And (b :: rest) pos) tB') : PW X (.BoolOp .And (a :: b :: rest) pos) (tAnd tA tB') := by
 intro wh pins s σ H Q I h
 refine isTrue_and (thn (ha pins s σ H _ I h) fun c s1 ⟨H1, I1, q1⟩ => ?_)
 cases c with
 | true => exact hb wh pins s1 σ H1 Q I1 q1
 | false => exact ⟨H1, I1, q1⟩
theorem pw_or (ha : PT X a tA) (hb : PW X (.BoolOp .Or (b :: rest) pos) tB') : PW X (.BoolOp .Or (a :: b :: rest) pos) (tOr tA tB') := by
 intro wh pins s σ H Q I h
 refine isTrue_or (thn (ha pins s σ H _ I h) fun c s1 ⟨H1, I1, q1⟩ => ?_)
 cases c with
 | true => exact ⟨H1, I1, q1⟩
 | false => exact hb wh pins s1 σ H1 Q I1 q1
theorem pt_not (ha : PT X a tA) : PT X (.UnaryOp .Not a pos) (tNot tA) := by
 intro pins s σ H Q I h
 exact isTrue_not (ha pins s σ H (fun c H1 => Q (!c) H1) I h)
def tAndV (ta tb : TE) : TE := fun σ H Q => ta σ H fun x H1 => ∃ c, x = .bl c /\ if c = true then tb σ H1 Q else Q (.bl false) H1
def tNotV (ta : TE) : TE := fun σ H Q => ta σ H fun x H1 => ∃ c, x = .bl c /\ Q (.bl (!c)) H1
theorem pe_one {op} {t : TE} (h : PE X a t) : PE X (.BoolOp op [a] pos) t := fun pins s σ H Q I hw => BoolOp_one (h pins s σ H Q I hw)
theorem pe_and (ha : PE X a ta) (hb : PE X (.BoolOp .And (b :: rest) pos) tb) : PE X (.BoolOp .And (a :: b :: rest) pos) (tAndV ta tb) := by
 intro pins s σ H Q I h
 refine BoolOp_and (thn (ha pins s σ H _ I h) fun v s1 ⟨x, H1, I1, r1, q1⟩ => ?_)
 obtain ⟨c, rfl, q1⟩ := q1
 cases r1
 refine wpAny_truthy_bool ?_
 cases c with
 | true => exact hb pins s1 σ H1 Q I1 q1
 | false => exact ⟨.bl false, H1, I1, rfl, q1⟩
theorem pe_not (ha : PE X a ta) : PE X (.UnaryOp .Not a pos) (tNotV ta) := by
 intro pins s σ H Q I h
 refine UnaryOp_ (thn (ha pins s σ H _ I h) fun v s1 ⟨x, H1, I1, r1, q1⟩ => ?_)
 obtain ⟨c, rfl, q1⟩ := q1
 cases r1
 exact not_of (wpAny_truthy_bool ⟨.bl (!c), H1, I1, rfl, q1⟩)
def tIf (t : TT) (ta tb : TE) : TE := fun σ H Q => t σ H fun c H1 => if c = true then ta σ H1 Q else tb σ H1 Q
theorem pe_ifExp {c : Expr} (hc : PT X c tA) (ha : PE X a ta) (hb : PE X b tb) : PE X (.IfExp c a b pos) (tIf tA ta tb) := by
 intro pins s σ H Q I h
 refine wpAny_IfExp (thn (hc pins s σ H _ I h) fun d s1 ⟨H1, I1, q1⟩ => ?_)
 cases d with
 | true => exact ha pins s1 σ H1 Q I1 q1
 | false => exact hb pins s1 σ H1 Q I1 q1
end
end L2
namespace L2
open PySem PySem.Spec PyProof.Rows
def SqL (K : PySem.W.Frag) (H : Hp) (a : Addr) (xs : List V) : Prop :=
 Rd H a (.lst xs) \/
  ∃ (o : Obj) (its : Array Value) (n : Nat), K.lookup a = some o /\ o.cls = .type "list" /\ o.dict = none /\ o.data = .seq its n /\ its.size <= sizeLine /\ Vals xs its.toList
def SqT (K : PySem.W.Frag) (H : Hp) (a : Addr) (xs : List V) : Prop :=
 Rd H a (.tup xs) \/
  ∃ (o : Obj) (its : Array Value) (n : Nat), K.lookup a = some o /\ o.cls = .type "tuple" /\ o.data = .seq its n /\ its.size <= sizeLine /\ Vals xs its.toList
def absV : Value -> Option V
 | .none => some .non
 | .bool b => some (.bl b)
 | .int i _ => some (.int i)
 | .str x _ => some (.str x)
 | .bytes b _ => some (.byt b)
 | .float b _ => some (.flt b)
 | .ref a => some (.ref a)
 | .type n => some (.ty n)
 | _ => none
theorem RelV.abs {x : V} {u : Value} (r : RelV x u) : absV u = some x := by
 cases x with
 | non => cases r; rfl
 | bl _ => cases r; rfl
 | int _ => obtain ⟨t, rfl⟩ := r; rfl
 | str _ => obtain ⟨t, rfl⟩ := r; rfl
 | byt _ => obtain ⟨t, rfl⟩ := r; rfl
 | flt _ => obtain ⟨t, rfl⟩ := r; rfl
 | ref _ => cases r; rfl
 | ty _ => cases r; rfl
theorem RelV.inj {x y : V} {u : Value} (r : RelV x u) (q : RelV y u) : x = y := Option.some.inj (r.abs.symm.trans q.abs)
theorem Vals.inj : ∀ {xs ys : List V} {us : List Value}, Vals xs us -> Vals ys us -> xs = ys
 | _, _, _, .nil, .nil => rfl
 | _, _, _, .cons r t, .cons r' t' => by rw [r.inj r', Vals.inj t t']
section
variable {X : Cx} {pins : List (Addr × Obj)} {σ : St} {H : Hp} {s : Shared} {a : Addr} {xs ys : List V}
theorem SqL.of {K : PySem.W.Frag} (h : H a = some (.lst xs)) : SqL K H a xs := .inl (.inl h)
theorem Inv.list (I : Inv X pins σ H s) (h : SqL X.K H a xs) : ∃ its : List Value, Vals xs its /\ PlainL s.heap a its.toArray /\ xs.length <= sizeLine := by
 rcases h with h | ⟨o, its, n, hk, hc, hd, hs, hz, r⟩
 ·obtain ⟨z, its, n, r, e⟩ := h.ok I.hok
  exact ⟨its, r, ⟨_, n, e, rfl, rfl, rfl⟩, z⟩
 ·refine ⟨its.toList, r, ⟨o, n, I.kIn a o hk, hc, hd, by simpa using hs⟩, ?_⟩
  have e := r.length
  simp only [Array.length_toList] at e
  omega
theorem Inv.tuple (I : Inv X pins σ H s) (h : SqT X.K H a xs) : ∃ its : List Value, Vals xs its /\ IsTup s.heap a its.toArray /\ xs.length <= sizeLine := by
 rcases h with h | ⟨o, its, n, hk, hc, hs, hz, r⟩
 ·obtain ⟨z, its, r, p⟩ := h.ok I.hok
  exact ⟨its, r, p, z⟩
 ·refine ⟨its.toList, r, ⟨o, I.kIn a o hk, hc, n, by simpa using hs⟩, ?_⟩
  have e := r.length
  simp only [Array.length_toList] at e
  omega
theorem Inv.list_inj (I : Inv X pins σ H s) (h : SqL X.K H a xs) (h' : SqL X.K H a ys) : xs = ys := by
 obtain ⟨its, r, ⟨o, n, e, _, _, d⟩, _⟩ := I.list h
 obtain ⟨its', r', ⟨o', n', e', _, _, d'⟩, _⟩ := I.list h'
 rw [e] at e'; cases e'
 rw [d] at d'
 injection d' with d1 _
 have : its = its' := by simpa using congrArg Array.toList d1
 subst this
 exact r.inj r'
theorem Inv.tuple_inj (I : Inv X pins σ H s) (h : SqT X.K H a xs) (h' : SqT X.K H a ys) : xs = ys := by
 obtain ⟨its, r, ⟨o, e, _, n, d⟩, _⟩ := I.tuple h
 obtain ⟨its', r', ⟨o', e', _, n', d'⟩, _⟩ := I.tuple h'
 rw [e] at e'; cases e'
 rw [d] at d'
 injection d' with d1 _
 have : its = its' := by simpa using congrArg Array.toList d1
 subst this
 exact r.inj r'
end
abbrev Cx.wish (X : Cx) (E : Value -> Shared -> Prop) : Cx := { X with xe := E }
abbrev Cx.nox (X : Cx) : Cx := X.wish fun _ _ => False
theorem Cx.Ok.wish {X : Cx} (ok : X.Ok) (E : Value -> Shared -> Prop) : (X.wish E).Ok :=
 ⟨ok.mod, ok.kind, ok.glob, ok.blt, ok.above, ok.inj, ok.has, ok.cab, ok.hd, ok.frames, ok.stk, ok.exf, ok.bs, ok.bsz, ok.noex, ok.exfs, ok.funs, ok.frf⟩
theorem Cx.Ok.unwish {X : Cx} {E : Value -> Shared -> Prop} (ok : (X.wish E).Ok) : X.Ok :=
 ⟨ok.mod, ok.kind, ok.glob, ok.blt, ok.above, ok.inj, ok.has, ok.cab, ok.hd, ok.frames, ok.stk, ok.exf, ok.bs, ok.bsz, ok.noex, ok.exfs, ok.funs, ok.frf⟩
section
variable {X : Cx} {pins : List (Addr × Obj)} {σ : St} {H : Hp} {s : Shared} {E : Value -> Shared -> Prop}
theorem Inv.wish (I : Inv X pins σ H s) (E : Value -> Shared -> Prop) : Inv (X.wish E) pins σ H s := ⟨I.ok.wish E, I.os, I.bare, I.base, I.loc, I.cell, I.free, I.freeC, I.pin, I.hok, I.len⟩
theorem Inv.unwish (I : Inv (X.wish E) pins σ H s) : Inv X pins σ H s := ⟨I.ok.unwish, I.os, I.bare, I.base, I.loc, I.cell, I.free, I.freeC, I.pin, I.hok, I.len⟩
theorem SP.unwish {D : Ends} {f : Flow} {s' : Shared} (h : SP (X.wish E) pins D f s') : SP X pins D f s' := by
 cases f with
 | next => obtain ⟨σ', H', I, q⟩ := h; exact ⟨σ', H', I.unwish, q⟩
 | brk => obtain ⟨σ', H', I, q⟩ := h; exact ⟨σ', H', I.unwish, q⟩
 | cont => obtain ⟨σ', H', I, q⟩ := h; exact ⟨σ', H', I.unwish, q⟩
 | ret u => obtain ⟨v, σ', H', I, r, q⟩ := h; exact ⟨v, σ', H', I.unwish, r, q⟩
theorem PSs.nox {st : List Stmt} {t : TS} (h : PSs X.nox st t) : PSs X st t := fun pins s σ H D I hw =>
 wpAny_mono (h pins s σ H D (I.wish _) hw) (fun _ _ q => q.unwish) fun _ _ z => False.elim z
end
section
variable {X : Cx} {st : Stmt} {rest : List Stmt} {t u : TS} {e : Expr} {te : TE} {pos : Pos}
def tNext : TS := fun D σ H => D.nx σ H
def tSeq (t u : TS) : TS := fun D σ H => t { D with nx := u D } σ H
theorem pss_nil : PSs X [] tNext := fun _ _ σ H _ I h => wpAny_execs_nil ⟨σ, H, I, h⟩
theorem pss_cons (h1 : PS X st t) (h2 : PSs X rest u) : PSs X (st :: rest) (tSeq t u) := by
 intro pins s σ H D I h
 refine wpAny_execs_cons (thn (h1 pins s σ H { D with nx := u D } I h) fun f s1 q => ?_)
 cases f with
 | next =>
  obtain ⟨σ', H', I', q⟩ := q
  exact h2 pins s1 σ' H' D I' q
 | ret v => exact q
 | brk => exact q
 | cont => exact q
theorem pss_one (h1 : PS X st t) : PSs X [st] t := by
 intro pins s σ H D I h
 refine wpAny_execs_cons (thn (h1 pins s σ H D I h) fun f s1 q => ?_)
 cases f with
 | next => exact wpAny_execs_nil q
 | ret v => exact q
 | brk => exact q
 | cont => exact q
theorem Inv.quiet {pins : List (Addr × Obj)} {σ : St} {H : Hp} {s : Shared} (I : Inv X pins σ H s) : interactive X.env = false := by simp [interactive, I.ok.kind]
def tDrop (te : TE) : TS := fun D σ H => te σ H fun _ H1 => D.nx σ H1
theorem QW (he : PE X e te) (hs : swapsWith e none pos.line X.env = pure false := by rfl) : PS X (.Expr e pos) (tDrop te) := by
 intro pins s σ H D I h
 exact wpAny_Expr_any (thn (he pins s σ H _ I h) fun v s1 ⟨x, H1, I1, r1, q1⟩ => ⟨σ, H1, I1, q1⟩) I.quiet hs
def tRet (te : TE) : TS := fun D σ H => te σ H D.rt
theorem ps_ret (he : PE X e te) : PS X (.Return (some e) pos) (tRet te) := by
 intro pins s σ H D I h
 exact wpAny_Return_some (thn (he pins s σ H _ I h) fun v s1 ⟨x, H1, I1, r1, q1⟩ => ⟨x, σ, H1, I1, r1, q1⟩)
def tIfS (c : TT) (t u : TS) : TS := fun D σ H => c σ H fun b H1 => if b = true then t D σ H1 else u D σ H1
theorem ps_if {c : Expr} {a b : List Stmt} {tc : TT} (hc : PT X c tc) (ha : PSs X a t) (hb : PSs X b u) : PS X (.If c a b pos) (tIfS tc t u) := by
 intro pins s σ H D I h
 refine wpAny_If (thn (hc pins s σ H _ I h) fun d s1 ⟨H1, I1, q1⟩ => ?_)
 cases d with
 | true => exact ha pins s1 σ H1 D I1 q1
 | false => exact hb pins s1 σ H1 D I1 q1
end
abbrev TG := V -> St -> Hp -> (St -> Hp -> Prop) -> Prop
def PG (X : Cx) (target : Expr) (t : TG) : Prop :=
 ∀ (pins : List (Addr × Obj)) (s : Shared) (σ : St) (H : Hp) (v : V) (u : Value) (Q : St -> Hp -> Prop), Inv X pins σ H s -> RelV v u -> t v σ H Q ->
  wpAny (model X.prog X.w) X.A (assign target X.env u) (fun _ s' => ∃ σ' H', Inv X pins σ' H' s' /\ Q σ' H') X.xe s
abbrev TSet := V -> V -> V -> Hp -> (Hp -> Prop) -> Prop
def PSet (X : Cx) (t : TSet) : Prop :=
 ∀ (pins : List (Addr × Obj)) (s : Shared) (σ : St) (H : Hp) (o i v : V) (ov iv u : Value) (Q : Hp -> Prop), Inv X pins σ H s -> RelV o ov -> RelV i iv -> RelV v u -> t o i v H Q ->
  wpAny (model X.prog X.w) X.A (setItem ov iv u) (fun _ s' => ∃ H', Inv X pins σ H' s' /\ Q H') X.xe s
section
variable {X : Cx} {pos : Pos}
def gName (i : Nat) : TG := fun v σ H Q => Q (σ.set i (some v)) H
theorem pg_name {i : Nat} {x : Str} (hN : X.N.Nodup) (hi : X.N[i]? = some x) (hx : Loc X.env.scope x) (hf : X.fn x = true \/ X.env.scope.names.lookup x = some .local := by first | exact .inl rfl | exact .inr rfl | assumption) : PG X (.Name x pos) (gName i) := by
 intro pins s σ H v u Q I r h
 exact wpAny_assign_Name (WW I hN hi hx r (fun s' I' => ⟨_, H, I', h⟩) hf)
def gSub (to ti : TE) (t : TSet) : TG := fun v σ H Q => to σ H fun o H1 => ti σ H1 fun i H2 => t o i v H2 fun H3 => Q σ H3
theorem pg_sub {o i : Expr} {to ti : TE} {t : TSet} (ho : PE X o to) (hi : PE X i ti) (hs : PSet X t)
  (ha : ∀ v, assign (.Subscript o i pos) X.env v = (do
   let ov <- holding [v] (eval o X.env)
   let iv <- holding [v, ov] (eval i X.env)
   standAt pos
   holding [v, ov, iv] (setItem ov iv v)
   release [v, ov, iv] []) := by intro _; rfl) : PG X (.Subscript o i pos) (gSub to ti t) := by
 intro pins s σ H v u Q I r h
 rw [ha]
 refine wpAny_bind (wpAny_holding (thn (ho pins s σ H _ I h) fun ov s1 ⟨x, H1, I1, r1, q1⟩ => ?_))
 refine wpAny_bind (wpAny_holding (thn (hi pins s1 σ H1 _ I1 q1) fun iv s2 ⟨y, H2, I2, r2, q2⟩ => ?_))
 refine wpAny_bind (wpAny_standAt (wpAny_bind (wpAny_holding (thn (hs pins s2 σ H2 x y v ov iv u _ I2 r1 r2 r q2) fun _ s3 ⟨H3, I3, q3⟩ => ?_))))
 exact wpAny_release ⟨σ, H3, I3, q3⟩
def tAsg (te : TE) (g : TG) : TS := fun D σ H => te σ H fun x H1 => g x σ H1 D.nx
theorem ps_asg {tg e : Expr} {te : TE} {g : TG} (he : PE X e te) (hg : PG X tg g) (hs : swapsWithSole [tg] e pos.line X.env = pure false := by rfl) (hw : swappedStores [tg] e X.env = pure none := by rfl)
  (h1 : (assignEach [tg] X.env).map (·.2) = [assign tg X.env] := by rfl) : PS X (.Assign [tg] e pos) (tAsg te g) := by
 intro pins s σ H D I h
 refine wpAny_Assign_stores (thn (he pins s σ H _ I h) fun v s1 ⟨x, H1, I1, r1, q1⟩ => ?_) hs hw
 rw [h1]
 exact thn (hg pins s1 σ H1 x v _ I1 r1 q1) fun _ s2 q => q
theorem ps_set {i : Nat} {x : Str} {e : Expr} {te : TE} {pos' : Pos} (hN : X.N.Nodup) (hi : X.N[i]? = some x) (hx : Loc X.env.scope x) (he : PE X e te) (hs : swapsWith e (some (.Name x pos')) pos.line X.env = pure false := by rfl) (hf : X.fn x = true \/ X.env.scope.names.lookup x = some .local := by first | exact .inl rfl | exact .inr rfl | assumption) :
  PS X (.Assign [.Name x pos'] e pos) (tAsg te (gName i)) := by
 intro pins s σ H D I h
 refine wpAny_Assign_Name (thn (he pins s σ H _ I h) fun v s1 ⟨y, H1, I1, r1, q1⟩ => ?_) hs
 exact WW I1 hN hi hx r1 (fun s2 I2 => ⟨_, H1, I2, q1⟩) hf
end
section
variable {X : Cx} {pos : Pos}
def tWhile (c : TT) (tb : TS) : TS := fun D σ H => ∃ W : Nat -> St -> Hp -> Prop, (∃ m, W m σ H) /\ ∀ m σ H, W m σ H ->
 c σ H fun b H1 => if b = true then ∃ N : St -> Hp -> Prop, (∀ σ' H', N σ' H' -> ∃ m', m' < m /\ W m' σ' H') /\ tb { D with nx := N, ct := N, bk := D.nx } σ H1 else D.nx σ H1
theorem ps_while {c : Expr} {body : List Stmt} {tc : TT} {tb : TS} (hp : PassesOwn (model X.prog X.w) X.A X.env X.xe) (hc : PT X c tc) (hb : PSs X body tb) : PS X (.While c body [] pos) (tWhile tc tb) := by
 intro pins s σ H D I h
 obtain ⟨W, ⟨m0, w0⟩, turn⟩ := h
 refine wpAny_While (codeAny_whileLoop (fun n s' => ∃ σ' H', Inv X pins σ' H' s' /\ W n σ' H') ?_ m0 ⟨σ, H, I, w0⟩)
 rintro n s1 ⟨σ1, H1, I1, w1⟩
 refine wpAny_passesOwn hp (thn (hc pins s1 σ1 H1 _ I1 (turn n σ1 H1 w1)) fun b s2 ⟨H2, I2, q2⟩ => ?_)
 cases b with
 | true =>
  obtain ⟨N, hN, q2⟩ := q2
  rw [if_pos rfl]
  refine wpAny_passesOwn hp (thn (hb pins s2 σ1 H2 _ I2 q2) fun f s3 q3 => ?_)
  cases f with
  | next =>
   obtain ⟨σ3, H3, I3, n3⟩ := q3
   obtain ⟨m', hm, w3⟩ := hN σ3 H3 n3
   exact ⟨m', hm, σ3, H3, I3, w3⟩
  | cont =>
   obtain ⟨σ3, H3, I3, n3⟩ := q3
   obtain ⟨m', hm, w3⟩ := hN σ3 H3 n3
   exact ⟨m', hm, σ3, H3, I3, w3⟩
  | brk => exact q3
  | ret v => exact q3
 | false =>
  rw [if_neg Bool.false_ne_true]
  exact wpAny_execs_nil ⟨σ1, H2, I2, q2⟩
end
structure It where
 go : Nat -> Hp -> Prop
 yld : Nat -> Hp -> V -> Hp -> Prop
 stop : Nat -> Hp -> Prop
def FpOk (X : Cx) (pins : List (Addr × Obj)) (H : Hp) (b : Addr) : Prop :=
 H b = none /\ b ≠ X.env.locals /\ b ∉ X.fs /\ (b ∈ X.ex \/ X.s₀.heap.objs.size <= b) /\ (∀ x c, X.env.cells.lookup x = some c -> c ≠ b) /\ ∀ p ∈ X.pn ++ pins, p.1 ≠ b
theorem Inv.fpOk {X : Cx} {pins : List (Addr × Obj)} {σ : St} {H H' : Hp} {s : Shared} {b : Addr} (I : Inv X pins σ H s) (hb : s.heap.objs.size <= b) (hn : H' b = none) : FpOk X pins H' b := by
 refine ⟨hn, Nat.ne_of_gt (Nat.lt_of_lt_of_le I.lt hb), I.nofs hb, .inr (Nat.le_trans I.sz hb), fun x c e z => ?_, fun p hp z => ?_⟩
 ·obtain ⟨v, q⟩ := I.cell x c e
  exact absurd (Nat.lt_of_lt_of_le q.lt (by rw [z]; exact hb)) (Nat.lt_irrefl _)
 ·exact absurd (Nat.lt_of_lt_of_le (Heap.lt_size (I.pin p hp).1) (by rw [z]; exact hb)) (Nat.lt_irrefl _)
structure Turn (P : Program) (w : World) (K : PySem.W.Frag) (tg : Expr) (J : It) (fp : List Addr) (it : Addr) (tn : Nat -> Heap -> Prop) : Prop where
 mem : it ∈ fp
 obj : ∀ i h, tn i h -> ∀ b ∈ fp, ∃ o, h.get? b = some o /\ ∀ v, o.data ≠ .cell v
 keep : ∀ i h h', tn i h -> (∀ b ∈ fp, ∀ o, h.get? b = some o -> h'.get? b = some o) -> tn i h'
 item : ∀ (X : Cx), X.prog = P -> X.w = w -> X.K = K -> X.calm = true -> ∀ (i : Nat) (pins : List (Addr × Obj)) (s : Shared) (σ : St) (H : Hp) (E : Value -> Shared -> Prop), Inv X pins σ H s -> (∀ b ∈ fp, FpOk X pins H b) -> tn i s.heap -> J.go i H ->
  wpAny (model P w) X.A (pyNext (.ref it)) (fun r s1 => ∃ u, r = some u /\
   wpAny (model P w) X.A (letOwnedTupleGo tg (.ref it) u) (fun _ s2 => ∃ x H', Inv X pins σ H' s2 /\ RelV x u /\ J.yld i H x H' /\ tn (i + 1) s2.heap /\ ∀ b ∈ fp, H' b = none) E s1) E s
 done : ∀ (X : Cx), X.prog = P -> X.w = w -> X.K = K -> X.calm = true -> ∀ (i : Nat) (pins : List (Addr × Obj)) (s : Shared) (σ : St) (H : Hp) (E : Value -> Shared -> Prop), Inv X pins σ H s -> (∀ b ∈ fp, FpOk X pins H b) -> tn i s.heap -> J.stop i H ->
  wpAny (model P w) X.A (pyNext (.ref it)) (fun r s1 => r = none /\ Inv X pins σ H s1) E s
 self : ∀ (A : Around) (i : Nat) (s : Shared) (Q : Value -> Shared -> Prop) (E : Value -> Shared -> Prop), tn i s.heap -> Q (.ref it) s -> wpAny (model P w) A (pyIter (.ref it)) Q E s
abbrev TI := St -> Hp -> (It -> Hp -> Prop) -> Prop
def PIE (X : Cx) (pins : List (Addr × Obj)) (σ : St) (tg : Expr) (R : It -> Hp -> Prop) (itv : Value) (s2 : Shared) : Prop :=
 ∃ (it : Addr) (fp : List Addr) (tn : Nat -> Heap -> Prop) (J : It) (H' : Hp), itv = .ref it /\ Inv X pins σ H' s2 /\ Turn X.prog X.w X.K tg J fp it tn /\ tn 0 s2.heap /\ (∀ b ∈ fp, FpOk X pins H' b) /\ R J H'
def PI (X : Cx) (tg iter : Expr) (wi : TI) : Prop :=
 ∀ (pins : List (Addr × Obj)) (s : Shared) (σ : St) (H : Hp) (R : It -> Hp -> Prop), Inv X pins σ H s -> wi σ H R ->
  wpAny (model X.prog X.w) X.A (eval iter X.env) (fun v s1 => wpAny (model X.prog X.w) X.A (pyIter v) (PIE X pins σ tg R) X.xe s1) X.xe s
theorem go_of {M : Model} {A : Around} {E : Value -> Shared -> Prop} {s : Shared} {tg : Expr} {it : Addr} {u : Value} {o : Obj} {n : String} {vs : Array Value} {Q : Unit -> Shared -> Prop} (ho : s.heap.get? it = some o) (hc : o.cls = .type n) (hd : o.data = .fields vs)
  (hn : ["enumerate", "zip", "dict_itemiterator", "dict_reverseitemiterator", "odict_iterator", "itertools.zip_longest", "itertools.pairwise"].contains n = false) (hQ : Q () s) : wpAny M A (letOwnedTupleGo tg (.ref it) u) Q E s := by
 unfold letOwnedTupleGo
 cases tg <;> first
  | exact wpAny_pure hQ
  | (cases u <;> first
    | exact wpAny_pure hQ
    | (refine wpAny_bind (wpAny_load ho ?_)
       rw [hc, hd]
       show wpAny M A (if (["enumerate", "zip", "dict_itemiterator", "dict_reverseitemiterator", "odict_iterator", "itertools.zip_longest", "itertools.pairwise"].contains n && vs[0]? == some (rawInt _)) = true then _ else _) Q E s
       rw [if_neg (by intro h; rw [hn, Bool.false_and] at h; cases h)]
       exact wpAny_pure hQ))
def Itl (K : PySem.W.Frag) (a : Addr) : It :=
 ⟨fun i H => ∃ xs x, SqL K H a xs /\ xs[i]? = some x, fun i H x H' => H' = H /\ ∀ xs, SqL K H a xs -> xs[i]? = some x, fun i H => ∃ xs, SqL K H a xs /\ xs.length <= i⟩
def Itt (K : PySem.W.Frag) (a : Addr) : It :=
 ⟨fun i H => ∃ xs x, SqT K H a xs /\ xs[i]? = some x, fun i H x H' => H' = H /\ ∀ xs, SqT K H a xs -> xs[i]? = some x, fun i H => ∃ xs, SqT K H a xs /\ xs.length <= i⟩
def Itr (lo : Int) (n : Nat) : It := ⟨fun i _ => i < n, fun i H x H' => H' = H /\ x = .int (lo + i), fun i _ => n <= i⟩
theorem zap {P : Program} {w : World} {K : PySem.W.Frag} {tg : Expr} (a it : Addr) : Turn P w K tg (Itl K a) [it] it (fun i h => h.IsListIter it a i) where
 mem := by simp
 obj := fun i h st b hb => by
  have e : b = it := by simpa using hb
  subst e
  obtain ⟨o, e, c, d⟩ := st
  exact ⟨o, e, fun v z => by rw [d] at z; cases z⟩
 keep := fun i h h' st k => st.at fun o e => k it (by simp) o e
 item := by
  intro X hP hw hK hc i pins s σ H E I hf st hg
  subst hP hw hK
  obtain ⟨xs, x, hq, hx⟩ := hg
  obtain ⟨its, rv, p, hz⟩ := I.list hq
  obtain ⟨u, hu, ru⟩ := rv.get hx
  obtain ⟨f0, f1, f2, f3, f4, f5⟩ := hf it (by simp)
  refine wpAny_pyNext_list_item st p.isList (x := u) (by simpa using hu) fun h' st' sb => ?_
  have I1 : Inv X pins σ H { s with heap := h' } := I.turned (t' := s.toks) (fun b o hb e => (sb.2 b hb).trans e) f0 f1 f3 f4 f5
  obtain ⟨o, e, c, d⟩ := id st'
  exact ⟨u, rfl, go_of (s := { s with heap := h' }) e c d (by decide) ⟨x, H, I1, ru, ⟨rfl, fun ys hy => by rw [I.list_inj hy hq]; exact hx⟩, st', fun b hb => (hf b hb).1⟩⟩
 done := by
  intro X hP hw hK hc i pins s σ H E I hf st hg
  subst hP hw hK
  obtain ⟨xs, hq, hx⟩ := hg
  obtain ⟨its, rv, p, hz⟩ := I.list hq
  obtain ⟨f0, f1, f2, f3, f4, f5⟩ := hf it (by simp)
  have hl := rv.length
  exact wpAny_pyNext_list_end (I.ok.hd hc) st p.isList (by simp; omega) fun h' eb => ⟨rfl, I.turned (t' := s.toks) (fun b o hb e => eb b o hb e) f0 f1 f3 f4 f5⟩
 self := fun _ _ _ _ _ st h => wpAny_pyIter_listiter st h
theorem JP {P : Program} {w : World} {K : PySem.W.Frag} {tg : Expr} (a it : Addr) : Turn P w K tg (Itt K a) [it] it (fun i h => h.IsTupleIter it a i) where
 mem := by simp
 obj := fun i h st b hb => by
  have e : b = it := by simpa using hb
  subst e
  obtain ⟨o, e, c, d⟩ := st
  exact ⟨o, e, fun v z => by rw [d] at z; cases z⟩
 keep := fun i h h' st k => st.at fun o e => k it (by simp) o e
 item := by
  intro X hP hw hK hc i pins s σ H E I hf st hg
  subst hP hw hK
  obtain ⟨xs, x, hq, hx⟩ := hg
  obtain ⟨its, rv, p, hz⟩ := I.tuple hq
  obtain ⟨u, hu, ru⟩ := rv.get hx
  obtain ⟨f0, f1, f2, f3, f4, f5⟩ := hf it (by simp)
  refine wpAny_pyNext_tuple_item st (show s.heap.IsTuple a its.toArray from p) (x := u) (by simpa using hu) fun h' st' sb => ?_
  have I1 : Inv X pins σ H { s with heap := h' } := I.turned (t' := s.toks) (fun b o hb e => (sb.2 b hb).trans e) f0 f1 f3 f4 f5
  obtain ⟨o, e, c, d⟩ := id st'
  exact ⟨u, rfl, go_of (s := { s with heap := h' }) e c d (by decide) ⟨x, H, I1, ru, ⟨rfl, fun ys hy => by rw [I.tuple_inj hy hq]; exact hx⟩, st', fun b hb => (hf b hb).1⟩⟩
 done := by
  intro X hP hw hK hc i pins s σ H E I hf st hg
  subst hP hw hK
  obtain ⟨xs, hq, hx⟩ := hg
  obtain ⟨its, rv, p, hz⟩ := I.tuple hq
  obtain ⟨f0, f1, f2, f3, f4, f5⟩ := hf it (by simp)
  have hl := rv.length
  exact wpAny_pyNext_tuple_end (I.ok.hd hc) st (show s.heap.IsTuple a its.toArray from p) (by simp; omega) fun h' eb => ⟨rfl, I.turned (t' := s.toks) (fun b o hb e => eb b o hb e) f0 f1 f3 f4 f5⟩
 self := fun _ _ _ _ _ st h => wpAny_pyIter_tupleiter st h
theorem JQ {P : Program} {w : World} {K : PySem.W.Frag} {tg : Expr} (it : Addr) (lo : Int) (n : Nat) : Turn P w K tg (Itr lo n) [it] it (fun i h => IsRangeIter h it (lo + (i : Nat) * 1) ((n : Int) - (i : Nat)) 1) where
 mem := by simp
 obj := fun i h st b hb => by
  have e : b = it := by simpa using hb
  subst e
  exact ⟨_, st, fun v z => by
   have z' : Data.fields _ = Data.cell v := z
   cases z'⟩
 keep := fun i h h' st k => k it (by simp) _ st
 item := by
  intro X hP hw hK hc i pins s σ H E I hf st hg
  subst hP hw hK
  obtain ⟨f0, f1, f2, f3, f4, f5⟩ := hf it (by simp)
  have W := Walks.range (prog := X.prog) (w := X.w) (I.ok.hd hc) it lo 1 n
  refine W.item i s _ _ hg st fun v h' tk hv st' kk => ?_
  obtain ⟨t, rfl⟩ := hv
  have I1 : Inv X pins σ H { s with heap := h', toks := tk } := I.turned (fun b o hb e => kk b o (by simpa using hb) e) f0 f1 f3 f4 f5
  refine ⟨_, rfl, go_of (s := { s with heap := h', toks := tk }) (n := "range_iterator") st' rfl rfl (by decide) ⟨.int (lo + i), H, I1, ⟨t, ?_⟩, ⟨rfl, rfl⟩, st', fun b hb => (hf b hb).1⟩⟩
  rw [Int.mul_one]
 done := by
  intro X hP hw hK hc i pins s σ H E I hf st hg
  subst hP hw hK
  obtain ⟨f0, f1, f2, f3, f4, f5⟩ := hf it (by simp)
  exact wpAny_pyNext_range_end (I.ok.hd hc) st (by have : n <= i := hg; omega) fun h' eb => ⟨rfl, I.turned (t' := s.toks) (fun b o hb e => eb b o hb e) f0 f1 f3 f4 f5⟩
 self := fun _ _ _ _ _ st h => wpAny_pyIter_rangeiter st h
end L2
namespace L2
open PySem PySem.Spec PyProof.Rows
section
variable {X : Cx} {tg : Expr}
theorem range_it {pins : List (Addr × Obj)} {σ : St} {H : Hp} {s : Shared} {R : It -> Hp -> Prop} {E : Value -> Shared -> Prop} {lo hi : Int} {t u v : Tok} {tk : Nat} (I : Inv X pins σ H s) (h1 : -(2 ^ 62) <= lo) (h2 : lo < 2 ^ 62) (h3 : -(2 ^ 62) <= hi) (h4 : hi < 2 ^ 62)
  (q : R (Itr lo (hi - lo).toNat) H) : wpAny (model X.prog X.w) X.A (pyIter (.ref s.heap.objs.size)) (PIE X pins σ tg R) E { s with heap := s.heap.push { cls := .type "range", data := .fields #[.int lo t, .int hi u, .int 1 v] }, toks := tk } := by
 refine wpAny_pyIter_range (IsRange.new ..) (small_one h1 h2 h3 h4) ?_
 have I1 : Inv X pins σ H { s with heap := s.heap.push { cls := .type "range", data := .fields #[.int lo t, .int hi u, .int 1 v] }, toks := tk } := I.kept fun b o e => Heap.get?_push_of_some _ e
 refine ⟨(s.heap.push { cls := .type "range", data := .fields #[.int lo t, .int hi u, .int 1 v] }).objs.size, [(s.heap.push { cls := .type "range", data := .fields #[.int lo t, .int hi u, .int 1 v] }).objs.size], _, _, H, rfl,
  I1.kept (t' := tk) fun b o e => Heap.get?_push_of_some _ e, JQ _ lo (hi - lo).toNat, ?_, fun b hb => ?_, q⟩
 ·have e1 : lo + ((0 : Nat) : Int) * 1 = lo := by simp
  have e2 : (((hi - lo).toNat : Nat) : Int) - ((0 : Nat) : Int) = Builtin.Range.rangeSize lo hi 1 := by rw [rangeSize_one]; split <;> omega
  show IsRangeIter _ _ (lo + ((0 : Nat) : Int) * 1) ((((hi - lo).toNat : Nat) : Int) - ((0 : Nat) : Int)) 1
  rw [e1, e2]
  exact Heap.get?_push_size _ rfl
 ·have e : b = (s.heap.push { cls := .type "range", data := .fields #[.int lo t, .int hi u, .int 1 v] }).objs.size := by simpa using hb
  subst e
  exact I1.fpOk (Nat.le_refl _) (I1.hok.fresh (Nat.le_refl _))
def iRng1 (ta : TA) : TI := fun σ H R => ta σ H fun vs H1 => ∃ j : Int, vs = [.int j] /\ -(2 ^ 62) <= j /\ j < 2 ^ 62 /\ R (Itr 0 j.toNat) H1
theorem zaF {a : Expr} {ta : TA} {p pos : Pos} (hg : Gl X "range") (hm : X.mg "range" = none) (ha : PA X [a] ta) (hs : starEach [a] X.env = [(false, eval a X.env)] := by rfl) : PI X tg (.Call (.Name "range" p) [a] [] pos) (iRng1 ta) := by
 intro pins s σ H R I h
 refine Call_ (Qx I hg hm boot_range (PyProof.Rows.callWith_type1 (thn (ha pos pins s σ H _ I h) fun us s1 ⟨vs, H1, I1, r1, q1⟩ => ?_) hs rfl))
 obtain ⟨j, e, q1, q2, q⟩ := q1
 subst e
 cases r1 with
 | cons r rr =>
  cases rr
  obtain ⟨t, rfl⟩ := r
  exact call_range_1 (range_it I1 (by omega) (by omega) q1 q2 (by simpa using q))
def tFor (wi : TI) (g : TG) (tb : TS) : TS := fun D σ H => wi σ H fun J H1 => ∃ W : Nat -> Nat -> St -> Hp -> Prop, (∃ m, W 0 m σ H1) /\ ∀ i m σ H, W i m σ H ->
 (J.stop i H /\ D.nx σ H) \/ (J.go i H /\ ∃ N : St -> Hp -> Prop, (∀ σ' H', N σ' H' -> ∃ m', m' < m /\ W (i + 1) m' σ' H') /\ ∀ x H', J.yld i H x H' -> g x σ H' fun σ2 H2 => tb { D with nx := N, ct := N, bk := D.nx } σ2 H2)
def Xe (fp : List Addr) (h : Heap) : List (Addr × Obj) := fp.filterMap fun b => (h.get? b).map fun o => (b, o)
theorem Wx {fp : List Addr} {h : Heap} {b : Addr} {o : Obj} (hb : b ∈ fp) (e : h.get? b = some o) : (b, o) ∈ Xe fp h := List.mem_filterMap.mpr ⟨b, hb, by rw [e]; rfl⟩
theorem zaO {fp : List Addr} {h : Heap} {p : Addr × Obj} (hp : p ∈ Xe fp h) : p.1 ∈ fp /\ h.get? p.1 = some p.2 := by
 obtain ⟨b, hb, e⟩ := List.mem_filterMap.mp hp
 cases q : h.get? b with
 | none => rw [q] at e; cases e
 | some o =>
  rw [q] at e
  have e' : (b, o) = p := Option.some.inj e
  subst e'
  exact ⟨hb, q⟩
theorem Inv.pinned {pins : List (Addr × Obj)} {σ : St} {H : Hp} {s : Shared} {fp : List Addr} (I : Inv X pins σ H s) (hf : ∀ b ∈ fp, FpOk X pins H b) (ho : ∀ b ∈ fp, ∃ o, s.heap.get? b = some o /\ ∀ v, o.data ≠ .cell v) : Inv X (pins ++ Xe fp s.heap) σ H s :=
 I.pins_of fun p hp => (List.mem_append.mp hp).elim (fun z => I.pin p (List.mem_append_right _ z)) fun z => by
  obtain ⟨hb, e⟩ := zaO z
  obtain ⟨f0, f1, f2, _⟩ := hf p.1 hb
  obtain ⟨o, e', d⟩ := ho p.1 hb
  rw [e] at e'; cases e'
  exact ⟨e, f0, f1, f2, d⟩
theorem Inv.unpinned {pins pl : List (Addr × Obj)} {σ : St} {H : Hp} {s : Shared} (I : Inv X (pins ++ pl) σ H s) : Inv X pins σ H s := I.pins_of fun p hp => I.pin p (List.mem_append_right _ (List.mem_append_left _ hp))
theorem ps_for {iter : Expr} {body : List Stmt} {wi : TI} {g : TG} {tb : TS} {pos : Pos} (hp : PassesOwn (model X.prog X.w) X.A X.env X.xe) (hc : X.calm = true) (hi : PI X tg iter wi) (hg : PG X tg g) (hb : PSs X body tb)
  (hs : ∀ x, foldedSetIterable iter X.env x = pure x := by intro _; rfl) : PS X (.For tg iter body [] pos) (tFor wi g tb) := by
 intro pins s σ H D I h
 refine wpAny_For (thn (hi pins s σ H _ I h) fun v s1 h1 => thn h1 fun itv s2 h2 => ?_) hs
 obtain ⟨it, fp, tn, J, H2, e, I2, T, st2, f2, W, ⟨m0, w0⟩, turn⟩ := h2
 subst e
 -- what stays true of the iterator's objects through the loop
 have stat : ∀ {H' : Hp}, (∀ b ∈ fp, H' b = none) -> ∀ b ∈ fp, FpOk X pins H' b := fun hn b hb => ⟨hn b hb, (f2 b hb).2⟩
 refine codeAny_forLoop_any (fun n s' => ∃ i σ' H', Inv X pins σ' H' s' /\ tn i s'.heap /\ (∀ b ∈ fp, H' b = none) /\ W i n σ' H') ?_ m0 ⟨0, σ, H2, I2, st2, fun b hb => (f2 b hb).1, w0⟩
 rintro n s3 ⟨i, σ3, H3, I3, st3, fr3, w3⟩
 rcases turn i n σ3 H3 w3 with ⟨stop, qn⟩ | ⟨go, N, hN, step⟩
 ·refine wpAny_passesOwn hp (thn (T.done X rfl rfl rfl hc i pins s3 σ3 H3 X.xe I3 (stat fr3) st3 stop) fun r s4 ⟨hr, I4⟩ => ?_)
  subst hr
  exact wpAny_execs_nil ⟨σ3, H3, I4, qn⟩
 ·refine wpAny_passesOwn hp (thn (T.item X rfl rfl rfl hc i pins s3 σ3 H3 X.xe I3 (stat fr3) st3 go) fun r s4 ⟨u, hr, h4⟩ => ?_)
  subst hr
  refine wpAny_passesOwn hp (thn h4 fun _ s5 ⟨x, H5, I5, r5, y5, st5, fr5⟩ => ?_)
  have I5' := I5.pinned (stat fr5) (T.obj _ _ st5)
  refine wpAny_passesOwn hp (thn (hg _ s5 σ3 H5 x u _ I5' r5 (step x H5 y5)) fun _ s6 ⟨σ6, H6, I6, q6⟩ => ?_)
  refine wpAny_passesOwn hp (thn (hb _ s6 σ6 H6 _ I6 q6) fun f s7 q7 => ?_)
  have again : ∀ {σ7 : St} {H7 : Hp}, Inv X (pins ++ Xe fp s5.heap) σ7 H7 s7 -> N σ7 H7 -> ∃ m, m < n /\ ∃ i σ' H', Inv X pins σ' H' s7 /\ tn i s7.heap /\ (∀ b ∈ fp, H' b = none) /\ W i m σ' H' := fun {σ7 H7} I7 n7 => by
   obtain ⟨m', hm, w7⟩ := hN σ7 H7 n7
   refine ⟨m', hm, i + 1, σ7, H7, I7.unpinned, T.keep _ _ _ st5 fun b hb o e => (I7.pin (b, o) (List.mem_append_right _ (List.mem_append_right _ (Wx hb e)))).1, fun b hb => ?_, w7⟩
   obtain ⟨o, e, d⟩ := T.obj _ _ st5 b hb
   exact (I7.pin (b, o) (List.mem_append_right _ (List.mem_append_right _ (Wx hb e)))).2.1
  cases f with
  | next => obtain ⟨σ7, H7, I7, n7⟩ := q7; exact again I7 n7
  | cont => obtain ⟨σ7, H7, I7, n7⟩ := q7; exact again I7 n7
  | brk => obtain ⟨σ7, H7, I7, q7⟩ := q7; exact ⟨σ7, H7, I7.unpinned, q7⟩
  | ret v => obtain ⟨x7, σ7, H7, I7, r7, q7⟩ := q7; exact ⟨x7, σ7, H7, I7.unpinned, r7, q7⟩
end
end L2
namespace L2
open PySem PySem.Spec PyProof.Rows
abbrev R2 := V -> V -> Hp -> VK -> Prop
def OpR (X : Cx) (f : Value -> Value -> Sem Value) (r : R2) : Prop :=
 ∀ (pins : List (Addr × Obj)) (s : Shared) (σ : St) (H : Hp) (x y : V) (v u : Value) (Q : VK), Inv X pins σ H s -> RelV x v -> RelV y u -> r x y H Q ->
  wpAny (model X.prog X.w) X.A (f v u) (EP X pins σ Q) X.xe s
def UnR (X : Cx) (f : Value -> Sem Value) (r : V -> Hp -> VK -> Prop) : Prop :=
 ∀ (pins : List (Addr × Obj)) (s : Shared) (σ : St) (H : Hp) (x : V) (v : Value) (Q : VK), Inv X pins σ H s -> RelV x v -> r x H Q ->
  wpAny (model X.prog X.w) X.A (f v) (EP X pins σ Q) X.xe s
def VG (X : Cx) (f : Value) (r : List V -> Hp -> VK -> Prop) : Prop :=
 ∀ (pins : List (Addr × Obj)) (s : Shared) (σ : St) (H : Hp) (xs : List V) (us : List Value) (Q : VK), Inv X pins σ H s -> Vals xs us -> r xs H Q ->
  wpAny (model X.prog X.w) X.A (call f us) (EP X pins σ Q) X.xe s
def TruR (X : Cx) (r : V -> Hp -> (Bool -> Hp -> Prop) -> Prop) : Prop :=
 ∀ (pins : List (Addr × Obj)) (s : Shared) (σ : St) (H : Hp) (x : V) (v : Value) (Q : Bool -> Hp -> Prop), Inv X pins σ H s -> RelV x v -> r x H Q ->
  wpAny (model X.prog X.w) X.A (truthy v) (TP X pins σ Q) X.xe s
def tOp (r : R2) (ta tb : TE) : TE := fun σ H Q => ta σ H fun x H1 => tb σ H1 fun y H2 => r x y H2 Q
def tUn (r : V -> Hp -> VK -> Prop) (ta : TE) : TE := fun σ H Q => ta σ H fun x H1 => r x H1 Q
def rI (C : Int -> Int -> Prop) (g : Int -> Int -> V) : R2 := fun x y H Q => ∃ i j, x = .int i /\ y = .int j /\ C i j /\ Q (g i j) H
def rI0 (g : Int -> Int -> V) : R2 := fun x y H Q => ∃ i j, x = .int i /\ y = .int j /\ Q (g i j) H
def rU (g : Int -> V) : V -> Hp -> VK -> Prop := fun x H Q => ∃ i, x = .int i /\ Q (g i) H
section
variable {X : Cx} {a b c : Expr} {ta tb tc : TE} {pos : Pos}
theorem binT (ha : PE X a ta) (hb : PE X b tb) {pins : List (Addr × Obj)} {s : Shared} {σ : St} {H : Hp} {R : V -> V -> Hp -> Prop} (I : Inv X pins σ H s)
  (h : ta σ H fun x H1 => tb σ H1 fun y H2 => R x y H2) {Q : Value -> Shared -> Prop} {f : Value -> Value -> Sem Value}
  (hf : ∀ v u s2 x y H2, Inv X pins σ H2 s2 -> RelV x v -> RelV y u -> R x y H2 -> wpAny (model X.prog X.w) X.A (f v u) Q X.xe s2) :
  wpAny (model X.prog X.w) X.A (eval a X.env) (fun v s₁ => wpAny (model X.prog X.w) X.A (eval b X.env) (fun u s₂ => wpAny (model X.prog X.w) X.A (f v u) Q X.xe s₂) X.xe s₁) X.xe s := by
 refine thn (ha pins s σ H _ I h) fun v s1 ⟨x, H1, I1, r1, q1⟩ => ?_
 refine thn (hb pins s1 σ H1 _ I1 q1) fun u s2 ⟨y, H2, I2, r2, q2⟩ => ?_
 exact hf v u s2 x y H2 I2 r1 r2 q2
theorem pe_op {op : Operator} {r : R2} (ho : OpR X (binaryOp op) r) (ha : PE X a ta) (hb : PE X b tb) : PE X (.BinOp a op b pos) (tOp r ta tb) := by
 intro pins s σ H Q I h
 exact wpAny_BinOp (binT ha hb I h fun v u s2 x y H2 I2 rx ry q => ho pins s2 σ H2 x y v u Q I2 rx ry q)
theorem pe_un {op : UnaryOp} {r : V -> Hp -> VK -> Prop} (ho : UnR X (unaryOp op) r) (ha : PE X a ta) : PE X (.UnaryOp op a pos) (tUn r ta) := by
 intro pins s σ H Q I h
 exact UnaryOp_ (thn (ha pins s σ H _ I h) fun v s1 ⟨x, H1, I1, r1, q1⟩ => ho pins s1 σ H1 x v Q I1 r1 q1)
theorem opI {f : Value -> Value -> Sem Value} {C : Int -> Int -> Prop} {g : Int -> Int -> Int}
  (rule : ∀ (i j : Int) (t u : Tok) (s : Shared) (Q : Value -> Shared -> Prop) (E : Value -> Shared -> Prop), C i j -> Q (.int (g i j) s.toks) { s with toks := s.toks + 1 } -> wpAny (model X.prog X.w) X.A (f (.int i t) (.int j u)) Q E s) :
  OpR X f (rI C fun i j => .int (g i j)) := by
 intro pins s σ H x y v u Q I rx ry h
 obtain ⟨i, j, rfl, rfl, hc, q⟩ := h
 obtain ⟨t, rfl⟩ := rx
 obtain ⟨t', rfl⟩ := ry
 exact rule i j t t' s _ _ hc ⟨.int (g i j), H, I.tok _, ⟨_, rfl⟩, q⟩
theorem opI0 {f : Value -> Value -> Sem Value} {g : Int -> Int -> Int}
  (rule : ∀ (i j : Int) (t u : Tok) (s : Shared) (Q : Value -> Shared -> Prop) (E : Value -> Shared -> Prop), Q (.int (g i j) s.toks) { s with toks := s.toks + 1 } -> wpAny (model X.prog X.w) X.A (f (.int i t) (.int j u)) Q E s) :
  OpR X f (rI0 fun i j => .int (g i j)) := by
 intro pins s σ H x y v u Q I rx ry h
 obtain ⟨i, j, rfl, rfl, q⟩ := h
 obtain ⟨t, rfl⟩ := rx
 obtain ⟨t', rfl⟩ := ry
 exact rule i j t t' s _ _ ⟨.int (g i j), H, I.tok _, ⟨_, rfl⟩, q⟩
theorem opB0 {f : Value -> Value -> Sem Value} {g : Int -> Int -> Bool}
  (rule : ∀ (i j : Int) (t u : Tok) (s : Shared) (Q : Value -> Shared -> Prop) (E : Value -> Shared -> Prop), Q (.bool (g i j)) s -> wpAny (model X.prog X.w) X.A (f (.int i t) (.int j u)) Q E s) :
  OpR X f (rI0 fun i j => .bl (g i j)) := by
 intro pins s σ H x y v u Q I rx ry h
 obtain ⟨i, j, rfl, rfl, q⟩ := h
 obtain ⟨t, rfl⟩ := rx
 obtain ⟨t', rfl⟩ := ry
 exact rule i j t t' s _ _ ⟨.bl (g i j), H, I, rfl, q⟩
def CPow (i j : Int) : Prop := 0 <= j /\ j <= 1000000 /\ i.natAbs < 2 ^ 64
theorem op_add : OpR X (binaryOp .Add) (rI0 fun i j => .int (i + j)) := opI0 fun _ _ _ _ _ _ _ q => add_int q
theorem op_sub : OpR X (binaryOp .Sub) (rI0 fun i j => .int (i - j)) := opI0 fun _ _ _ _ _ _ _ q => sub_int q
theorem op_modN : OpR X (binaryOp .Mod) (rI (fun _ j => j ≠ 0) fun i j => .int (i.fmod j)) := opI fun _ _ _ _ _ _ _ hc q => mod_int' hc q
theorem op_pow : OpR X (binaryOp .Pow) (rI CPow fun i j => .int (i ^ j.toNat)) := opI fun _ _ _ _ _ _ _ hc q => pow_int_small hc.1 hc.2.1 hc.2.2 q
theorem unI {f : Value -> Sem Value} {g : Int -> Int}
  (rule : ∀ (i : Int) (t : Tok) (s : Shared) (Q : Value -> Shared -> Prop) (E : Value -> Shared -> Prop), Q (.int (g i) s.toks) { s with toks := s.toks + 1 } -> wpAny (model X.prog X.w) X.A (f (.int i t)) Q E s) :
  UnR X f (rU fun i => .int (g i)) := by
 intro pins s σ H x v Q I rx h
 obtain ⟨i, rfl, q⟩ := h
 obtain ⟨t, rfl⟩ := rx
 exact rule i t s _ _ ⟨.int (g i), H, I.tok _, ⟨_, rfl⟩, q⟩
theorem un_neg : UnR X (unaryOp .USub) (rU fun i => .int (-i)) := unI fun _ _ _ _ _ q => neg_int q
end
section
variable {X : Cx} {a b c : Expr} {ta tb tc : TE} {pos : Pos}
theorem fin_bl {pins : List (Addr × Obj)} {σ : St} {H : Hp} {s : Shared} {Q : VK} {k k' : Bool} (I : Inv X pins σ H s) (q : Q (.bl k) H) (e : k = k') : EP X pins σ Q (.bool k') s := by
 subst e
 exact ⟨.bl k, H, I, rfl, q⟩
theorem op_lt : OpR X (compareOp .Lt) (rI0 fun i j => .bl (decide (i < j))) := opB0 fun _ _ _ _ _ _ _ q => lt_int q
theorem op_le : OpR X (compareOp .LtE) (rI0 fun i j => .bl (decide (i <= j))) := opB0 fun _ _ _ _ _ _ _ q => le_int q
theorem op_gt : OpR X (compareOp .Gt) (rI0 fun i j => .bl (decide (j < i))) := opB0 fun _ _ _ _ _ _ _ q => gt_int q
theorem op_ge : OpR X (compareOp .GtE) (rI0 fun i j => .bl (decide (j <= i))) := opB0 fun _ _ _ _ _ _ _ q => ge_int q
theorem zaM : OpR X (compareOp .In) (fun x y H Q => ∃ i j, x = .str i /\ y = .str j /\ Q (.bl (!(Builtin.Str.occurrences j i 0 j.length 1).isEmpty)) H) := by
 intro pins s σ H x y v u Q I rx ry h
 obtain ⟨i, j, rfl, rfl, q⟩ := h
 obtain ⟨t, rfl⟩ := rx
 obtain ⟨t', rfl⟩ := ry
 exact in_str (fin_bl I q rfl)
theorem OpR.or {f : Value -> Value -> Sem Value} {r r' : R2} (h : OpR X f r) (h' : OpR X f r') : OpR X f (fun x y H Q => r x y H Q \/ r' x y H Q) := by
 intro pins s σ H x y v u Q I rx ry q
 rcases q with q | q
 ·exact h pins s σ H x y v u Q I rx ry q
 ·exact h' pins s σ H x y v u Q I rx ry q
theorem ZE (b : Expr) {op : CmpOp} (h : op ≠ .In := by decide) (h2 : op ≠ .NotIn := by decide) : behindInMarks op b = false := by
 have e1 : (op == CmpOp.In) = false := by cases op <;> first | rfl | exact absurd rfl h
 have e2 : (op == CmpOp.NotIn) = false := by cases op <;> first | rfl | exact absurd rfl h2
 cases b <;> simp [behindInMarks, e1, e2]
theorem pe_cmpR {op : CmpOp} {r : R2} (ho : OpR X (compareOp op) r) (ha : PE X a ta) (hb : PE X b tb) (hm : behindInMarks op b = false) : PE X (.Compare a [op] [b] pos) (tOp r ta tb) := by
 intro pins s σ H Q I h
 exact wpAny_Compare1 (binT ha hb I h fun v u s2 x y H2 I2 rx ry q => ho pins s2 σ H2 x y v u Q I2 rx ry q) hm
def tTest (t : TE) : TT := fun σ H Q => t σ H fun x H' => ∃ k, x = .bl k /\ Q k H'
theorem pt_cmpR {op : CmpOp} {r : R2} (ho : OpR X (compareOp op) r) (ha : PE X a ta) (hb : PE X b tb) (hm : behindInMarks op b = false) : PT X (.Compare a [op] [b] pos) (tTest (tOp r ta tb)) := by
 intro pins s σ H Q I h
 refine wpAny_isTrue_Compare1 (thn (ha pins s σ H _ I h) fun v s1 ⟨x, H1, I1, r1, q1⟩ => thn (hb pins s1 σ H1 _ I1 q1) fun u s2 ⟨y, H2, I2, r2, q2⟩ =>
  thn (ho pins s2 σ H2 x y v u _ I2 r1 r2 q2) fun c s3 ⟨z, H3, I3, r3, k, e, q3⟩ => ?_) hm
 subst e
 cases r3
 exact wpAny_truthy_bool ⟨H3, I3, q3⟩
def TruV (K : PySem.W.Frag) (x : V) (H : Hp) (k : Bool) : Prop :=
 match x with
 | .non => k = false
 | .bl b => k = b
 | .int i => k = (i != 0)
 | .str y => y.length <= sizeLine /\ k = ((y.length : Int) != 0)
 | .byt y => y.size <= sizeLine /\ k = ((y.size : Int) != 0)
 | .ref p => (∃ xs, SqL K H p xs /\ k = !xs.isEmpty) \/ (∃ xs, SqT K H p xs /\ k = !xs.isEmpty) \/ ∃ kvs, H p = some (.dK kvs) /\ k = !kvs.isEmpty
 | _ => False
theorem J3 {κ : Type} {kvs : List (κ × V)} {vs : List (κ × Value)} (r : KV kvs vs) : (!vs.isEmpty) = !kvs.isEmpty := by
 cases r <;> rfl
theorem Uv {xs : List V} {its : List Value} (r : Vals xs its) : (!its.toArray.isEmpty) = !xs.isEmpty := by
 cases r <;> simp
theorem Us : (sizeLine : Nat) < 2 ^ 63 := by rw [sizeLine_eq]; decide
theorem tru_ok : TruR X (fun x H Q => ∃ k, TruV X.K x H k /\ Q k H) := by
 intro pins s σ H x v Q I rx h
 obtain ⟨k, e, q⟩ := h
 have hl := Us
 have hs : sizeLine = 16777216 := sizeLine_eq
 cases x with
 | non =>
  cases rx
  have e' : k = false := e
  subst e'
  exact truthy_none ⟨H, I, q⟩
 | bl b =>
  cases rx
  have e' : k = b := e
  subst e'
  exact wpAny_truthy_bool ⟨H, I, q⟩
 | int i =>
  obtain ⟨t, rfl⟩ := rx
  have e' : k = (i != 0) := e
  subst e'
  exact PySem.P.truthy_int ⟨H, I, q⟩
 | str y =>
  obtain ⟨t, rfl⟩ := rx
  obtain ⟨hy, e'⟩ : y.length <= sizeLine /\ k = ((y.length : Int) != 0) := e
  subst e'
  exact PySem.P.truthy_str (by omega) ⟨H, I.tok _, q⟩
 | byt y =>
  obtain ⟨t, rfl⟩ := rx
  obtain ⟨hy, e'⟩ : y.size <= sizeLine /\ k = ((y.size : Int) != 0) := e
  subst e'
  exact PySem.W.truthy_bytes (by omega) ⟨H, I.tok _, q⟩
 | ref p =>
  cases rx
  have e' : (∃ xs, SqL X.K H p xs /\ k = !xs.isEmpty) \/ (∃ xs, SqT X.K H p xs /\ k = !xs.isEmpty) \/ ∃ kvs, H p = some (.dK kvs) /\ k = !kvs.isEmpty := e
  rcases e' with ⟨xs, hx, e'⟩ | ⟨xs, hx, e'⟩ | ⟨kvs, hx, e'⟩
  ·subst e'
   obtain ⟨its, r, pl, hz⟩ := I.list hx
   have hlen := r.length
   exact wpAny_truthy_list pl.isList (by simp only [List.size_toArray]; omega) ⟨H, I.tok _, by rw [Uv r]; exact q⟩
  ·subst e'
   obtain ⟨its, r, pl, hz⟩ := I.tuple hx
   have hlen := r.length
   exact truthy_tuple pl (by simp only [List.size_toArray]; omega) ⟨H, I.tok _, by rw [Uv r]; exact q⟩
  ·subst e'
   obtain ⟨hz, hS, vs, r, m⟩ : kvs.length <= sizeLine /\ (p == sysModules) = false /\ ∃ vs, KV kvs vs /\ s.heap.DictOf (US X.prog X.w) p vs := I.hok p _ hx
   have hlen : kvs.length = vs.length := Paired.length r
   exact wpAny_truthy_dict hS m (by omega) ⟨H, I.tok _, by rw [J3 r]; exact q⟩
 | _ => exact (show False from e).elim
theorem pt_truth (ha : PE X a ta) (he : ∀ whole, isTrue a X.env whole = (do let v <- whole; standAt a.pos; holding [v] (truthy v))) :
  PT X a (fun σ H Q => ta σ H fun x H' => ∃ k, TruV X.K x H' k /\ Q k H') := by
 intro pins s σ H Q I h
 exact isTrue_plain (thn (ha pins s σ H _ I h) fun v s1 ⟨x, H1, I1, r1, q1⟩ => tru_ok pins s1 σ H1 x v Q I1 r1 q1) (he _)
theorem JW : OpR X (binaryOp .Add) (fun x y H Q => ∃ i j, x = .str i /\ y = .str j /\ i.length + j.length <= sizeLine /\ Q (.str (i ++ j)) H) := by
 intro pins s σ H x y v u Q I rx ry h
 obtain ⟨i, j, rfl, rfl, hz, q⟩ := h
 obtain ⟨t, rfl⟩ := rx
 obtain ⟨t', rfl⟩ := ry
 exact add_str (fun t' tk => ⟨.str (i ++ j), H, I.tok _, ⟨_, rfl⟩, q⟩) hz
def JN (b : Expr) : Prop := ∀ o i, subscripted b false o i = operate [o, i] (getItem o i)
theorem QY (ha : PE X a ta) (hb : PE X b tb) (hs : JN b) :
  PE X (.Subscript a b pos) (tOp (fun x y H Q => ∃ z i c, x = .str z /\ y = .int i /\ 0 <= i /\ i < 2 ^ 63 /\ i < z.length /\ z.cps[i.toNat]? = some c /\ Q (.str ⟨#[c]⟩) H) ta tb) := by
 intro pins s σ H Q I h
 refine Subscript_ (binT ha hb I h fun v u s2 x y H2 I2 rx ry q => ?_)
 obtain ⟨z, i, c, rfl, rfl, h0, h63, h1, hc, q⟩ := q
 obtain ⟨t, rfl⟩ := rx
 obtain ⟨t', rfl⟩ := ry
 have e : seqIndex? i z.length = some i.toNat := PySem.StrLaws.seqIndex_nonneg h0 h1
 exact tail_any (typeIs_str s2 z t) slot_str_getitem.lookup (getItem_str (c := c) (by
  have e1 : decide (i < -(2 ^ 63 : Int)) = false := decide_eq_false (by omega)
  have e2 : decide (i ≥ 2 ^ 63) = false := decide_eq_false (by omega)
  rw [e1, e2] <;> rfl) (by rw [e]; exact hc) ⟨.str ⟨#[c]⟩, H2, I2.tok _, ⟨_, rfl⟩, q⟩) (hs _ _)
theorem WT {x : V} {us : List Value} (r : Vals [x] us) : ∃ u, us = [u] /\ RelV x u := by
 cases r with
 | cons r1 r2 => cases r2; exact ⟨_, rfl, r1⟩
theorem vals2 {x y : V} {us : List Value} (r : Vals [x, y] us) : ∃ u w', us = [u, w'] /\ RelV x u /\ RelV y w' := by
 cases r with
 | cons r1 r2 =>
  cases r2 with
  | cons r3 r4 => cases r4; exact ⟨_, _, rfl, r1, r3⟩
theorem call_abs : VG X (.builtin "abs") (fun xs H Q => ∃ i, xs = [.int i] /\ Q (.int (if i < 0 then -i else i)) H) := by
 intro pins s σ H xs us Q I r h
 obtain ⟨i, rfl, q⟩ := h
 obtain ⟨u, rfl, t, rfl⟩ := WT r
 exact call_abs_int fun u tk => ⟨.int (if i < 0 then -i else i), H, I.tok _, ⟨_, rfl⟩, q⟩
theorem zbg : VG X (.type "int") (fun xs H Q => (∃ i, xs = [.int i] /\ Q (.int i) H) \/ ∃ k, xs = [.bl k] /\ Q (.int (if k then 1 else 0)) H) := by
 intro pins s σ H xs us Q I r h
 rcases h with ⟨i, rfl, q⟩ | ⟨k, rfl, q⟩
 ·obtain ⟨u, rfl, t, rfl⟩ := WT r
  exact call_int_int ⟨.int i, H, I, ⟨_, rfl⟩, q⟩
 ·obtain ⟨u, rfl, r1⟩ := WT r
  cases r1
  exact call_int_bool ⟨.int (if k then 1 else 0), H, I.tok _, ⟨_, rfl⟩, q⟩
theorem QK : VG X (.type "str") (fun xs H Q => ∃ i, xs = [.int i] /\ i.natAbs.log2 < 1920 /\ Q (.str (toString i)) H) := by
 intro pins s σ H xs us Q I r h
 obtain ⟨i, rfl, hz, q⟩ := h
 obtain ⟨u, rfl, t, rfl⟩ := WT r
 exact PySem.P.str_of_int hz ⟨.str _, H, I.tok _, ⟨_, rfl⟩, q⟩
end
end L2
namespace L2
open PySem PySem.Spec PyProof.Rows
structure Cls (K : PySem.W.Frag) (C : Addr) : Prop where
 pg : PySem.W.plainGet K C Str.empty = true
 hd : PySem.W.hasDictIn K C = true
 po : PySem.W.plainOver K C = true
 sa : PySem.W.findIn K (.ref C) "__setattr__" = some (some (.builtin "object.__setattr__"))
def NoAttr (K : PySem.W.Frag) (C : Addr) (f : Str) : Prop := PySem.W.findIn K (.ref C) f = some none
end L2
namespace L2
open PySem PySem.Spec PyProof.Rows
structure Room (k : Nat) (A : Around) : Prop where
 hd : A.handled = none
 dp : A.depth + 3 * k + 5 < recursionLimit
 un : A.units + 16 * k + 200 < cLine
theorem Room.mono {j k : Nat} {A : Around} (r : Room k A) (h : j <= k) : Room j A := ⟨r.hd, by have := r.dp; omega, by have := r.un; omega⟩
theorem Room.deeper {k : Nat} {A : Around} (r : Room (k + 1) A) (env : Env) : Room k (A.deeper env) :=
 ⟨r.hd, by have := r.dp; show A.depth + 1 + 3 * k + 5 < _; omega, by have := r.un; show A.units + 3 + 16 * k + 200 < _; omega⟩
theorem Room.depth {k : Nat} {A : Around} (r : Room k A) : A.depth < recursionLimit := by have := r.dp; omega
theorem Room.units {k : Nat} {A : Around} (r : Room k A) : A.units + 64 < cLine := by have := r.un; omega
def tNil : TA := fun _ H Q => Q [] H
def tCons (ta : TE) (tr : TA) : TA := fun σ H Q => ta σ H fun x H1 => tr σ H1 fun xs H2 => Q (x :: xs) H2
section
variable {X : Cx} {e : Expr} {es : List Expr} {te : TE} {t : TA} {pos : Pos}
theorem YA : PA X [] tNil := fun _ _ _ _ H Q I h => Calls.spliced_nil ⟨[], H, I, .nil, h⟩
theorem ZQ (ha : PE X e te) (hr : PA X es t) (hs : starEach (e :: es) X.env = (false, eval e X.env) :: starEach es X.env := by rfl) : PA X (e :: es) (tCons te t) := by
 intro pos pins s σ H Q I h
 rw [hs]
 show wpAny _ _ (spliced ((false, eval e X.env) :: backTo pos (starEach es X.env))) _ _ s
 refine Calls.spliced_cons (thn (ha pins s σ H _ I h) fun u s1 ⟨x, H1, I1, r1, q1⟩ => ?_)
 exact thn (hr pos pins s1 σ H1 _ I1 q1) fun us s2 ⟨xs, H2, I2, r2, q2⟩ => ⟨x :: xs, H2, I2, .cons r1 r2, q2⟩
def tTup (t : TA) : TE := fun σ H Q => t σ H fun xs H1 => xs.length <= sizeLine /\ ∀ p, H1 p = none -> Q (.ref p) (upd H1 p (.tup xs))
def tLst (t : TA) : TE := fun σ H Q => t σ H fun xs H1 => xs.length <= sizeLine /\ ∀ p, H1 p = none -> Q (.ref p) (upd H1 p (.lst xs))
theorem pe_tup {x1} (h : PA X es t) : PE X (.Tuple es x1 pos) (tTup t) := by
 intro pins s σ H Q I hq
 refine wpAny_Tuple_spliced (thn (h pos pins s σ H _ I hq) fun us s1 ⟨xs, H1, I1, r, z, q⟩ => ⟨by rw [<- r.length]; exact z, ?_⟩)
 have hf : H1 s1.heap.objs.size = none := I1.hok.fresh (Nat.le_refl _)
 refine ⟨.ref s1.heap.objs.size, upd H1 s1.heap.objs.size (.tup xs), I1.laid (t' := s1.toks) (fun b u e => Heap.get?_push_of_some _ e) (Nat.le_refl _) ?_, rfl, q _ hf⟩
 exact ⟨z, us, r, ⟨_, Heap.get?_push_size _ rfl, rfl, _, rfl⟩⟩
theorem pe_lst (h : PA X es t) : PE X (.List es pos) (tLst t) := by
 intro pins s σ H Q I hq
 refine wpAny_List_spliced (thn (h pos pins s σ H _ I hq) fun us s1 ⟨xs, H1, I1, r, z, q⟩ => ⟨by rw [<- r.length]; exact z, ?_⟩)
 have hf : H1 s1.heap.objs.size = none := I1.hok.fresh (Nat.le_refl _)
 refine ⟨.ref s1.heap.objs.size, upd H1 s1.heap.objs.size (.lst xs), I1.laid (t' := s1.toks) (fun b u e => Heap.get?_push_of_some _ e) (Nat.le_refl _) ?_, rfl, q _ hf⟩
 exact ⟨z, us, 0, r, Heap.get?_push_size _ rfl⟩
end
abbrev Sp := List V -> Hp -> VK -> XK -> Prop
abbrev CXT := List Env -> Hp -> Shared -> XK -> Value -> Shared -> Prop
structure Env0 (P : Program) (w : World) (K : PySem.W.Frag) (mg : Str -> Option Value) (base : Heap) (A : Around) (outer : List Env) (s : Shared) (H : Hp) : Prop where
 frames : A.frames = some outer
 mod : Mod K mg base
 bs : ∀ b o, base.get? b = some o -> s.heap.get? b = some o /\ H b = none
 bsz : base.objs.size <= s.heap.objs.size
 funs : s.heap.FunFrames base outer
 frf : ∀ b ∈ frs outer, H b = none
 hok : HOk P w H s.heap
 bare : AllBare s.gens
def CE (outer : List Env) (P : Program) (w : World) (H : Hp) (s : Shared) (Q : VK) (u : Value) (s' : Shared) : Prop :=
 ∃ v H', s'.os = s.os /\ AllBare s'.gens /\ Un (frs outer) [] H H' s.heap s'.heap /\ HOk P w H' s'.heap /\ RelV v u /\ Q v H'
def CR (CX : CXT) (outer : List Env) (P : Program) (w : World) (H : Hp) (s : Shared) (Q : VK) (E : XK) (r : Result) (s' : Shared) : Prop :=
 match r with
 | .ok (.ret u) => CE outer P w H s Q u s'
 | .ok _ => False
 | .error e => CX outer H s E e s'
structure FnOk (P : Program) (w : World) (K : PySem.W.Frag) (mg : Str -> Option Value) (base : Heap) (CX : CXT) (k : Nat) (f : Addr) (fd : FuncData) (ps : List Str) (sp : Sp) : Prop where
 len : ∀ vs H Q E, sp vs H Q E -> vs.length = ps.length
 run : ∀ (A : Around) (outer : List Env) (s : Shared) (H : Hp) (args : Args) (us : List Value) (vs : List V) (Q : VK) (E : XK), Room k A -> Env0 P w K mg base A outer s H -> BindsTo s fd args (ps.zip us) -> Vals vs us -> sp vs H Q E ->
  codeAny (model P w) A (.call (.ref f) args) (CR CX outer P w H s Q E) s
theorem FnOk.mono {P : Program} {w : World} {K : PySem.W.Frag} {mg : Str -> Option Value} {base : Heap} {CX : CXT} {j k : Nat} {f : Addr} {fd : FuncData} {ps : List Str} {sp : Sp} (F : FnOk P w K mg base CX j f fd ps sp) (h : j <= k) :
  FnOk P w K mg base CX k f fd ps sp := ⟨F.len, fun A outer s H args us vs Q E hr => F.run A outer s H args us vs Q E (hr.mono h)⟩
section
variable {X : Cx} {pins : List (Addr × Obj)} {σ : St} {H : Hp} {s s' : Shared}
theorem Inv.env0 (I : Inv X pins σ H s) : Env0 X.prog X.w X.K X.mg X.base X.A X.stack s H :=
 ⟨I.ok.frames, I.ok.mod, I.bs, Nat.le_trans I.ok.bsz I.sz, I.stack, I.stkFree, I.hok, I.bare⟩
theorem Inv.after {Q : VK} {u : Value} (I : Inv X pins σ H s) (h : CE X.stack X.prog X.w H s Q u s') : EP X pins σ Q u s' := by
 obtain ⟨v, H', os, bare, un, hok, r, q⟩ := h
 obtain ⟨hh, g, d, t, os'⟩ := s'
 obtain rfl : os' = s.os := os
 exact ⟨v, H', I.call (h' := hh) (g' := g) (d' := d) (t' := t) (ch := []) un hok bare (fun b z => absurd z (by simp)), r, q⟩
end
def tCall (sp : Sp) (dvs : List V) (E : XK) (t : TA) : TE := fun σ H Q => t σ H fun vs H1 => sp (vs ++ dvs) H1 Q E
def YV (K : PySem.W.Frag) (fd : FuncData) (ps : List Str) (ds : List Value) : Prop :=
 ∀ (s : Shared) (us : List Value), K.In s.heap -> (us ++ ds).length = ps.length -> BindsTo s fd ⟨us, []⟩ (ps.zip (us ++ ds))
theorem YV.all {K : PySem.W.Frag} {fd : FuncData} {ps : List Str} (h : ∀ us : List Value, us.length = ps.length -> bindArgs fd ⟨us, []⟩ = pure (ps.zip us)) : YV K fd ps [] := fun s us _ hl => by
 rw [List.append_nil] at hl ⊢
 exact .of_eq (h us hl)
def JO (CX : CXT) (X : Cx) (E : XK) : Prop := ∀ (pins : List (Addr × Obj)) (σ : St) (H : Hp) (s : Shared) (e : Value) (s' : Shared), Inv X pins σ H s -> CX X.stack H s E e s' -> X.xe e s'
section
variable {X : Cx} {CX : CXT} {k : Nat} {f C : Addr} {fd : FuncData} {ps : List Str} {sp : Sp} {dvs : List V} {ds : List Value} {E : XK} {x m : Str} {p pos apos : Pos} {e o : Expr} {es : List Expr} {ta : TE} {t : TA}
theorem run_fn {pins : List (Addr × Obj)} {σ : St} {H : Hp} {s : Shared} {Q : VK} {us : List Value} {vs : List V} (F : FnOk X.prog X.w X.K X.mg X.base CX k f fd ps sp) (hr : Room k X.A) (hb : YV X.K fd ps ds) (hd : Vals dvs ds) (hx : JO CX X E)
  (I : Inv X pins σ H s) (r : Vals vs us) (h : sp (vs ++ dvs) H Q E) : wpAny (model X.prog X.w) X.A (call (.ref f) us) (EP X pins σ Q) X.xe s := by
 have r2 : Vals (vs ++ dvs) (us ++ ds) := r.append hd
 have hl : (us ++ ds).length = ps.length := by rw [<- r2.length]; exact F.len _ _ _ _ h
 refine wpAny_call (codeAny_mono (F.run X.A X.stack s H ⟨us, []⟩ (us ++ ds) (vs ++ dvs) Q E hr I.env0 (hb s us I.kIn hl) r2 h) fun r s' hq => ?_)
 cases r with
 | error e => exact hx pins σ H s e s' I hq
 | ok fl =>
  cases fl with
  | ret u => exact I.after hq
  | next => exact False.elim hq
  | brk => exact False.elim hq
  | cont => exact False.elim hq
theorem pe_call (F : FnOk X.prog X.w X.K X.mg X.base CX k f fd ps sp) (hr : Room k X.A) (hg : Gl X x) (hm : X.mg x = some (.ref f)) (hk : PySem.W.keepIn X.K (.ref f) = true) (hb : YV X.K fd ps ds) (hd : Vals dvs ds) (hx : JO CX X E)
  (ha : PA X (e :: es) t) (hdb : (x == ("__debug__" : Str)) = false := by decide) (he : starEach (e :: es) X.env = (false, eval e X.env) :: starEach es X.env := by rfl) (hpl : (backTo pos (starEach es X.env)).any (·.1) = false := by rfl) :
  PE X (.Call (.Name x p) (e :: es) [] pos) (tCall sp dvs E t) := by
 intro pins s σ H Q I h
 refine wpAny_Call_Name_kw (Wb I hg hm ?_ hdb)
 refine PySem.W.callWith_K (h₀ := X.base) I.ok.mod.kin hk (thn (ha pos pins s σ H _ I h) fun us s1 ⟨vs, H1, I1, r, q⟩ => ⟨I1.kIn, ?_⟩) he hpl
 exact run_fn F hr hb hd hx I1 r q
end
structure FnScope (N P : List Str) (sc : Scope) : Prop where
 kind : sc.kind = .function
 co : sc.isCoroutine = false
 gen : sc.isGenerator = false
 nd : N.Nodup
 pre : N.take P.length = P
 par : ∀ x ∈ P, sc.names.lookup x = some .local \/ sc.names.lookup x = some .cell
 nofree : ∀ y ∈ sc.names, y.2 ≠ .free
theorem QM {kindOf : Str -> Option NameKind} {x : Str} : ∀ {binds : List (Str × Value)} {m : Str -> Option Value}, (∀ v, (x, v) ∉ binds) -> bindL kindOf binds m x = m x
 | [], _, _ => rfl
 | (n, v) :: r, m, h => by
  unfold bindL
  rw [QM fun w hw => h w (List.mem_cons_of_mem _ hw)]
  split
  ·have : x ≠ n := by rintro rfl; exact h v List.mem_cons_self
   simp [this]
  ·rfl
theorem QO {kindOf : Str -> Option NameKind} {x : Str} : ∀ {binds : List (Str × Value)} {m : Str -> Option Value}, (∀ v, (x, v) ∉ binds) -> bindC kindOf binds m x = m x
 | [], _, _ => rfl
 | (n, v) :: r, m, h => by
  unfold bindC
  rw [QO fun w hw => h w (List.mem_cons_of_mem _ hw)]
  split
  ·rfl
  ·have : x ≠ n := by rintro rfl; exact h v List.mem_cons_self
   simp [this]
theorem QN {kindOf : Str -> Option NameKind} {x : Str} {v : Value} : ∀ {P : List Str} {vs : List Value} {i : Nat} {m : Str -> Option Value}, P.Nodup -> P[i]? = some x -> vs[i]? = some v -> kindOf x = some .local ->
  bindL kindOf (P.zip vs) m x = some v
 | [], _, _, _, _, h, _, _ => by simp at h
 | _ :: _, [], _, _, _, _, h, _ => by simp at h
 | p :: P, w :: vs, 0, m, nd, h1, h2, hk => by
  simp at h1 h2; subst h1; subst h2
  show bindL kindOf ((p, w) :: P.zip vs) m p = _
  unfold bindL
  rw [QM fun v hv => (List.nodup_cons.mp nd).1 (List.of_mem_zip hv).1, if_pos hk]
  simp
 | p :: P, w :: vs, i + 1, m, nd, h1, h2, hk => by
  show bindL kindOf ((p, w) :: P.zip vs) m x = _
  unfold bindL
  exact QN (i := i) (List.nodup_cons.mp nd).2 (by simpa using h1) (by simpa using h2) hk
theorem QP {kindOf : Str -> Option NameKind} {x : Str} {v : Value} : ∀ {P : List Str} {vs : List Value} {i : Nat} {m : Str -> Option Value}, P.Nodup -> P[i]? = some x -> vs[i]? = some v -> kindOf x ≠ some .local ->
  bindC kindOf (P.zip vs) m x = some v
 | [], _, _, _, _, h, _, _ => by simp at h
 | _ :: _, [], _, _, _, _, h, _ => by simp at h
 | p :: P, w :: vs, 0, m, nd, h1, h2, hk => by
  simp at h1 h2; subst h1; subst h2
  show bindC kindOf ((p, w) :: P.zip vs) m p = _
  unfold bindC
  rw [QO fun v hv => (List.nodup_cons.mp nd).1 (List.of_mem_zip hv).1, if_neg hk]
  simp
 | p :: P, w :: vs, i + 1, m, nd, h1, h2, hk => by
  show bindC kindOf ((p, w) :: P.zip vs) m x = _
  unfold bindC
  exact QP (i := i) (List.nodup_cons.mp nd).2 (by simpa using h1) (by simpa using h2) hk
def start (N : List Str) (vs : List V) : St := vs.map some ++ List.replicate (N.length - vs.length) none
def cxOf (CX : CXT) (P : Program) (w : World) (K : PySem.W.Frag) (mg : Str -> Option Value) (base : Heap) (N : List Str) (qual : Str) (scope : Scope) (f : Addr) (cd : Value) (A : Around) (outer : List Env) (s : Shared) (H : Hp) (E : XK) : Cx where
 prog := P
 w := w
 K := K
 mg := mg
 base := base
 A := A.deeper (envOfC qual scope s.heap.objs.size f cd)
 N := N
 s₀ := s
 H₀ := H
 env := envOfC qual scope s.heap.objs.size f cd
 outer := outer
 stack := envOfC qual scope s.heap.objs.size f cd :: outer
 ex := []
 calm := true
 fn := fun _ => true
 pn := []
 xe := fun e s' => wpAny (model P w) (A.deeper (envOfC qual scope s.heap.objs.size f cd)) (leaving (envOfC qual scope s.heap.objs.size f cd) e) (fun _ s'' => CX outer H s E e s'') (fun e' s'' => CX outer H s E e' s'') s'
theorem JL {sc : Scope} {n : Nat} {x : Str} (h : sc.names.lookup x = some .cell) : ∃ c, (cellsFrom n sc.names []).lookup x = some c := by
 have q := PySem.W.cellsFrom_some sc.names n [] (.inl h)
 exact Option.isSome_iff_exists.mp q
theorem zaY {CX : CXT} {P : Program} {w : World} {K : PySem.W.Frag} {mg : Str -> Option Value} {base : Heap} {N ps : List Str} {qual : Str} {scope : Scope} {f : Addr} {cd : Value} {A : Around} {outer : List Env} {s s1 : Shared} {H : Hp} {E : XK} {us : List Value} {vs : List V}
  (S : FnScope N ps scope) (hd : A.handled = none) (e0 : Env0 P w K mg base A outer s H) (hl : vs.length = ps.length) (r : Vals vs us)
  (x : InCallC s s.heap.objs.size (bindL (envOfC qual scope s.heap.objs.size f cd).kindOf (ps.zip us) fun _ => none) (cellsFrom (s.heap.objs.size + 1) scope.names []) (bindC (envOfC qual scope s.heap.objs.size f cd).kindOf (ps.zip us) fun _ => none) s1) :
  Inv (cxOf CX P w K mg base N qual scope f cd A outer s H E) [] (start N vs) H s1 := by
 have hpl : ps.length <= N.length := by have := congrArg List.length S.pre; rw [List.length_take] at this; omega
 obtain ⟨h1, tk, rfl, hk⟩ := x.done
 have noA : ∀ b : Addr, b ∉ (cxOf CX P w K mg base N qual scope f cd A outer s H E).ex := fun b z => absurd (show b ∈ ([] : List Addr) from z) (by simp)
 refine ⟨⟨e0.mod, S.kind, rfl, rfl, Nat.le_refl _, fun y z c h1 h2 => ?_, fun y hy => ?_, fun y c _ h => ?_, fun _ => hd, Around.frames_deeper e0.frames, .inr ⟨rfl, rfl⟩, fun b z => absurd z (noA b), e0.bs, e0.bsz, fun b _ _ => noA b, fun b z => absurd z (noA b), e0.funs, e0.frf⟩,
  rfl, e0.bare, Un.kept hk, ⟨_, x.toInCall.ns, fun i y v h1 h2 h3 => ?_⟩, fun y c h => ⟨_, x.cell y c h⟩, e0.hok.fresh (Nat.le_refl _), fun y c h => ?_, fun p hp => absurd (show p ∈ ([] : List (Addr × Obj)) from hp) (by simp), e0.hok.kept hk, ?_⟩
 ·exact name_of_addr x.apart (PySem.mem_of_lookup h1) (PySem.mem_of_lookup h2)
 ·have hy : scope.names.lookup y = some .cell \/ scope.names.lookup y = some .free := hy
  rcases hy with hy | hy
  ·exact JL hy
  ·exact absurd rfl (S.nofree _ (PySem.mem_of_lookup hy))
 ·exact Nat.le_of_lt (x.above y c (PySem.mem_of_lookup h))
 ·have hi : i < vs.length := by
   unfold start at h2
   by_cases hi : i < vs.length
   ·exact hi
   ·rw [List.getElem?_append_right (by simpa using hi)] at h2
    rw [List.getElem?_replicate] at h2
    split at h2 <;> cases h2
  have ha : vs[i]? = some v := by
   unfold start at h2
   rw [List.getElem?_append_left (by simpa using hi), List.getElem?_map] at h2
   cases e : vs[i]? with
   | none => rw [e] at h2; cases h2
   | some a => rw [e] at h2; cases h2; rfl
  obtain ⟨u, hu, rv⟩ := r.get ha
  have hp : ps[i]? = some y := by
   rw [<- S.pre, List.getElem?_take_of_lt (by omega)]; exact h1
  have ndP : ps.Nodup := by rw [<- S.pre]; exact S.nd.sublist (List.take_sublist _ _)
  refine ⟨u, rv, ?_⟩
  rcases S.par y (List.mem_of_getElem? hp) with k | k
  ·exact .inl ⟨k, QN ndP hp hu k⟩
  ·obtain ⟨c, e⟩ := JL (n := s.heap.objs.size + 1) k
   refine .inr ⟨.inl k, c, e, ?_⟩
   have q := x.cell y c e
   rw [QP ndP hp hu (by show scope.names.lookup y ≠ _; rw [k]; decide)] at q
   exact q
 ·exact e0.hok.fresh (Nat.le_of_lt (x.above y c (PySem.mem_of_lookup h)))
 ·unfold start
  show _ = N.length
  rw [List.length_append, List.length_map, List.length_replicate]
  omega
theorem fn_of {CX : CXT} {P : Program} {w : World} {K : PySem.W.Frag} {mg : Str -> Option Value} {base : Heap} {k : Nat} {f : Addr} {name qual : Str} {params : Arguments} {body : List Stmt} {scope : Scope} {dV kV doc pm cdv ct oc : Value} {an od : Option Addr}
  {osl : Array (Option Value)} {N ps : List Str} {sp : Sp} (lk : K.lookup f = some ⟨oc, od, .func (PySem.W.fnOf name qual params body scope dV kV doc pm an cdv ct), osl⟩) (hcd : PySem.W.codeIn K cdv qual = true) (S : FnScope N ps scope)
  (len : ∀ vs H Q E, sp vs H Q E -> vs.length = ps.length)
  (hbody : ∀ (A : Around) (outer : List Env) (s : Shared) (H : Hp) (vs : List V) (Q : VK) (E : XK), Room k (A.deeper (envOfC qual scope s.heap.objs.size f cdv)) -> sp vs H Q E ->
   ∃ t, PSs (cxOf CX P w K mg base N qual scope f cdv A outer s H E) body t /\ t { nx := fun _ H' => Q .non H', rt := Q } (start N vs) H) :
  FnOk P w K mg base CX (k + 1) f (PySem.W.fnOf name qual params body scope dV kV doc pm an cdv ct) ps sp := by
 refine ⟨len, fun A outer s H args us vs Q E hr e0 hb r hsp => ?_⟩
 have hl := len _ _ _ _ hsp
 have KX : K.In s.heap := e0.mod.kin.keeps fun b o e => (e0.bs b o e).1
 have lim : s.heap.NoLimit := e0.mod.nolimit.keeps fun b o e => (e0.bs b o e).1
 have hkind : ∀ y ∈ ps.zip us, scope.names.lookup y.1 = some .local \/ (scope.names.lookup y.1 = some .cell /\ ((cellsFrom (s.heap.objs.size + 1) scope.names []).lookup y.1).isSome = true) := fun ⟨n, v⟩ hy => by
  rcases S.par n (List.of_mem_zip hy).1 with q | q
  ·exact .inl q
  ·exact .inr ⟨q, PySem.W.cellsFrom_some _ _ _ (.inl q)⟩
 refine codeAny_call_function hr.depth (KX _ _ lk) rfl S.co S.gen rfl (PySem.W.codeRec_of KX hcd) (hb _ _ _ _ ?_)
 refine wpAny_newFunctionEnv_cells S.kind hkind fun env he s1 x => ?_
 subst he
 refine ⟨lim.keeps x.toInCall.keep, codeAny_func ?_⟩
 obtain ⟨t, ht, hq⟩ := hbody A outer s H vs Q E (hr.deeper _) hsp
 have I : Inv (cxOf CX P w K mg base N qual scope f cdv A outer s H E) [] (start N vs) H s1 := zaY S hr.hd e0 hl r x
 refine wpAny_mono (ht [] s1 (start N vs) H _ I hq) (fun fl s' hs => ?_) fun e s' hs => hs
 have fin : ∀ {σ' : St} {H' : Hp} {v : V} {u : Value}, Inv (cxOf CX P w K mg base N qual scope f cdv A outer s H E) [] σ' H' s' -> RelV v u -> Q v H' -> CE outer P w H s Q u s' :=
  fun {σ' H' v u} J rv q => ⟨v, H', J.os, J.bare, J.base, J.hok, rv, q⟩
 cases fl with
 | ret u =>
  obtain ⟨v, σ', H', J, rv, q⟩ := hs
  exact fin J rv q
 | next =>
  obtain ⟨σ', H', J, q⟩ := hs
  exact fin (v := V.non) (u := Value.none) J rfl q
 | brk =>
  obtain ⟨_, _, _, q⟩ := hs
  exact False.elim q
 | cont =>
  obtain ⟨_, _, _, q⟩ := hs
  exact False.elim q
end L2
namespace L2
open PySem PySem.Spec PyProof.Rows
section
variable {X : Cx} {x : Str} {p pos : Pos} {e : Expr} {es : List Expr} {t : TA} {id T : String} {r : List V -> Hp -> VK -> Prop}
def tCB (r : List V -> Hp -> VK -> Prop) (t : TA) : TE := fun σ H Q => t σ H fun vs H1 => r vs H1 Q
theorem X4 (hc : VG X (.builtin id) r) (hg : Gl X x) (hm : X.mg x = none) (hv : bootBuiltins x = some (.builtin id)) (ha : PA X (e :: es) t) (hn : x ≠ "__name__" := by decide) (hdb : (x == ("__debug__" : Str)) = false := by decide)
  (he : starEach (e :: es) X.env = (false, eval e X.env) :: starEach es X.env := by rfl) (hpl : (backTo pos (starEach es X.env)).any (·.1) = false := by rfl) : PE X (.Call (.Name x p) (e :: es) [] pos) (tCB r t) := by
 intro pins s σ H Q I h
 refine wpAny_Call_Name_kw (Qx I hg hm hv ?_ hn hdb)
 exact PyProof.Rows.callWith_builtin1 (thn (ha pos pins s σ H _ I h) fun us s1 ⟨vs, H1, I1, r1, q1⟩ => hc pins s1 σ H1 vs us Q I1 r1 q1) he hpl
theorem W1 (hc : VG X (.type T) r) (hg : Gl X x) (hm : X.mg x = none) (hv : bootBuiltins x = some (.type T)) (ha : PA X (e :: es) t) (hn : x ≠ "__name__" := by decide) (hdb : (x == ("__debug__" : Str)) = false := by decide)
  (he : starEach (e :: es) X.env = (false, eval e X.env) :: starEach es X.env := by rfl) (hpl : (backTo pos (starEach es X.env)).any (·.1) = false := by rfl) : PE X (.Call (.Name x p) (e :: es) [] pos) (tCB r t) := by
 intro pins s σ H Q I h
 refine wpAny_Call_Name_kw (Qx I hg hm hv ?_ hn hdb)
 exact PyProof.Rows.callWith_type1 (thn (ha pos pins s σ H _ I h) fun us s1 ⟨vs, H1, I1, r1, q1⟩ => hc pins s1 σ H1 vs us Q I1 r1 q1) he hpl
end
end L2
namespace HT
open PySem PyProof.Rows
def J0 : List Int -> List Int -> Bool
 | [], [] => false
 | [], _ :: _ => true
 | _ :: _, [] => false
 | x :: xs, y :: ys => if x = y then J0 xs ys else decide (x < y)
theorem lexLt_cons (x y : Int) (xs ys : List Int) : J0 (x :: xs) (y :: ys) = if x = y then J0 xs ys else decide (x < y) := rfl
theorem lexLt_nil_nil : J0 [] [] = false := rfl
theorem lexLt_nil_cons (y : Int) (ys : List Int) : J0 [] (y :: ys) = true := rfl
theorem lexLt_cons_nil (x : Int) (xs : List Int) : J0 (x :: xs) [] = false := rfl
section
open PySem.SeqAt
open PySem.AutoSeq1 (wpAny_loadPart')
open PySem.MeetsSeq PySem.MeetsSeq2 PySem.MeetsSeq3
end
section
variable {prog : Program} {w : World} {A : Around} {E : Value -> Shared -> Prop} {s : Shared}
def sIx (n d : Nat) : Option Int -> Nat
 | none => d
 | some v => if v < 0 then (v + (n : Int)).toNat else min v.toNat n
theorem sIx_none (n d : Nat) : sIx n d none = d := rfl
end
end HT
namespace L2
open PySem PySem.Spec PyProof.Rows
abbrev TO := St -> Hp -> (Option Int -> Hp -> Prop) -> Prop
def PO (X : Cx) (e : Option Expr) (t : TO) : Prop :=
 ∀ (pins : List (Addr × Obj)) (s : Shared) (σ : St) (H : Hp) (Q : Option Int -> Hp -> Prop), Inv X pins σ H s -> t σ H Q ->
  wpAny (model X.prog X.w) X.A (evalPart e X.env) (fun u s' => ∃ o H', Inv X pins σ H' s' /\ IsPart u o /\ Q o H') X.xe s
def tNoPart : TO := fun _ H Q => Q none H
def tPart (t : TE) : TO := fun σ H Q => t σ H fun x H1 => ∃ i, x = .int i /\ Q (some i) H1
section
variable {X : Cx} {e : Expr} {te : TE} {lo hi : Option Expr} {tl th : TO} {pos p2 : Pos}
theorem po_none : PO X none tNoPart := by
 intro pins s σ H Q I h
 rw [evalPart_none]
 exact wpAny_pure ⟨none, H, I, .none, h⟩
theorem po_some (h : PE X e te) : PO X (some e) (tPart te) := by
 intro pins s σ H Q I hw
 rw [evalPart_some]
 refine thn (h pins s σ H _ I hw) fun u s1 ⟨x, H1, I1, r1, q1⟩ => ?_
 obtain ⟨i, rfl, q⟩ := q1
 obtain ⟨t, rfl⟩ := r1
 exact ⟨some i, H1, I1, .int i t, q⟩
def SlR (X : Cx) (r : V -> Option Int -> Option Int -> Hp -> VK -> Prop) : Prop :=
 ∀ (pins : List (Addr × Obj)) (s : Shared) (σ : St) (H : Hp) (x : V) (v vl vu : Value) (lo hi : Option Int) (sl : Addr) (Q : VK), Inv X pins σ H s -> RelV x v -> s.heap.IsSliceOf sl vl vu .none -> IsPart vl lo -> IsPart vu hi -> r x lo hi H Q ->
  ∃ T id, typeLookup (.type T) "__getitem__" = pure (some (.builtin id)) /\ s.TypeIs v T /\ wpAny (model X.prog X.w) X.A (getItem v (.ref sl)) (EP X pins σ Q) X.xe s
def tSl (r : V -> Option Int -> Option Int -> Hp -> VK -> Prop) (te : TE) (tl th : TO) : TE := fun σ H Q => te σ H fun x H1 => tl σ H1 fun l H2 => th σ H2 fun u H3 => r x l u H3 Q
theorem Jn {r : V -> Option Int -> Option Int -> Hp -> VK -> Prop} (hr : SlR X r) (he : PE X e te) (hl : PO X lo tl) (hu : PO X hi th) : PE X (.Subscript e (.Slice lo hi none p2) pos) (tSl r te tl th) := by
 intro pins s σ H Q I h
 refine Subscript_ (thn (he pins s σ H _ I h) fun v s1 ⟨x, H1, I1, r1, q1⟩ => ?_)
 refine wpAny_Slice (thn (hl pins s1 σ H1 _ I1 q1) fun vl s2 ⟨l, H2, I2, pl, q2⟩ => thn (hu pins s2 σ H2 _ I2 q2) fun vu s3 ⟨u, H3, I3, pu, q3⟩ => ?_)
 rw [evalPart_none]
 refine wpAny_pure ?_
 have I4 : Inv X pins σ H3 { s3 with heap := s3.heap.push { cls := .type "slice", data := .fields #[vl, vu, .none] } } := I3.kept (t' := s3.toks) fun b ob q => Heap.get?_push_of_some _ q
 obtain ⟨T, id, hT, ht, hg⟩ := hr pins { s3 with heap := s3.heap.push { cls := .type "slice", data := .fields #[vl, vu, .none] } } σ H3 x v vl vu l u s3.heap.objs.size Q I4 r1 (Heap.IsSliceOf.new ..) pl pu q3
 show wpAny (model X.prog X.w) X.A (subscriptTail e (.Slice lo hi none p2) v (.ref s3.heap.objs.size)) (EP X pins σ Q) X.xe { s3 with heap := s3.heap.push { cls := .type "slice", data := .fields #[vl, vu, .none] } }
 exact tail_any (ops := [.ref s3.heap.objs.size, v]) ht hT hg (by with_unfolding_all rfl)
def cutV (xs : List V) (lo hi : Option Int) : List V := (xs.drop (HT.sIx xs.length 0 lo)).take (HT.sIx xs.length xs.length hi - HT.sIx xs.length 0 lo)
theorem Q8 (xs : List V) (lo hi : Option Int) : (cutV xs lo hi).length <= xs.length := by
 unfold cutV
 rw [List.length_take, List.length_drop]
 omega
end
end L2
namespace L2
open PySem PySem.Spec PyProof.Rows
def ixN (n : Nat) (i : Int) : Option Nat := if 0 <= i then (if i < n then some i.toNat else none) else if -(n : Int) <= i then some (i + n).toNat else none
def atI {α : Type} (xs : List α) (i : Int) : Option α := (ixN xs.length i).bind fun j => xs[j]?
theorem zaW {n : Nat} {i : Int} {j : Nat} (h : ixN n i = some j) : seqIndex? i n = some j /\ j < n /\ -(n : Int) <= i /\ i < n := by
 unfold ixN at h
 by_cases h0 : 0 <= i
 ·rw [if_pos h0] at h
  by_cases h1 : i < n
  ·rw [if_pos h1] at h
   have e : i.toNat = j := Option.some.inj h
   exact ⟨by rw [seqIndex_of h0 h1, e], by omega, by omega, h1⟩
  ·rw [if_neg h1] at h; cases h
 ·rw [if_neg h0] at h
  by_cases h1 : -(n : Int) <= i
  ·rw [if_pos h1] at h
   have e : (i + n).toNat = j := Option.some.inj h
   exact ⟨by rw [seqIndex_neg (by omega) h1, e], by omega, h1, by omega⟩
  ·rw [if_neg h1] at h; cases h
theorem zbm {α : Type} {xs : List α} {i : Int} {v : α} (h : atI xs i = some v) : ∃ j, seqIndex? i xs.length = some j /\ xs[j]? = some v /\ j < xs.length /\ -(xs.length : Int) <= i /\ i < xs.length := by
 unfold atI at h
 cases e : ixN xs.length i with
 | none => rw [e] at h; cases h
 | some j =>
  rw [e] at h
  obtain ⟨h1, h2, h3, h4⟩ := zaW e
  exact ⟨j, h1, h, h2, h3, h4⟩
def zbp (b : Expr) : Prop := ∀ o i, subscripted b false o i = operate [o, i] (getItem o i)
def IxR (X : Cx) (r : R2) : Prop :=
 ∀ (value slice : Expr) (pins : List (Addr × Obj)) (s : Shared) (σ : St) (H : Hp) (x y : V) (v u : Value) (Q : VK), Inv X pins σ H s -> RelV x v -> RelV y u -> r x y H Q ->
  subscripted slice false v u = operate [v, u] (getItem v u) -> wpAny (model X.prog X.w) X.A (subscriptTail value slice v u) (EP X pins σ Q) X.xe s
def MtR (X : Cx) (id : String) (r : V -> List V -> Hp -> VK -> Prop) : Prop :=
 ∀ (pins : List (Addr × Obj)) (s : Shared) (σ : St) (H : Hp) (x : V) (xs : List V) (v : Value) (us : List Value) (Q : VK), Inv X pins σ H s -> RelV x v -> Vals xs us -> r x xs H Q ->
  wpAny (model X.prog X.w) X.A (call (.builtin id) (v :: us)) (EP X pins σ Q) X.xe s
section
variable {X : Cx} {a b : Expr} {ta tb : TE} {pos : Pos}
theorem IxR.or {r r' : R2} (h : IxR X r) (h' : IxR X r') : IxR X (fun x y H Q => r x y H Q \/ r' x y H Q) := by
 intro value slice pins s σ H x y v u Q I rx ry q hs
 rcases q with q | q
 ·exact h value slice pins s σ H x y v u Q I rx ry q hs
 ·exact h' value slice pins s σ H x y v u Q I rx ry q hs
theorem pe_ix {r : R2} (hr : IxR X r) (ha : PE X a ta) (hb : PE X b tb) (hs : zbp b) : PE X (.Subscript a b pos) (tOp r ta tb) := by
 intro pins s σ H Q I h
 exact Subscript_ (binT ha hb I h fun v u s2 x y H2 I2 rx ry q => hr a b pins s2 σ H2 x y v u Q I2 rx ry q (hs _ _))
def rIxL (K : PySem.W.Frag) : R2 := fun x y H Q => ∃ p xs i v, x = .ref p /\ y = .int i /\ SqL K H p xs /\ atI xs i = some v /\ Q v H
def rIxT (K : PySem.W.Frag) : R2 := fun x y H Q => ∃ p xs i v, x = .ref p /\ y = .int i /\ SqT K H p xs /\ atI xs i = some v /\ Q v H
theorem ix_list : IxR X (rIxL X.K) := by
 intro value slice pins s σ H x y v u Q I rx ry h hs
 obtain ⟨p, xs, i, z, rfl, rfl, hq, he, q⟩ := h
 cases rx
 obtain ⟨t, rfl⟩ := ry
 obtain ⟨its, r, pl, hz⟩ := I.list hq
 obtain ⟨j, h1, h2, h3, h4, h5⟩ := zbm he
 obtain ⟨w, ew, rw'⟩ := r.get h2
 have hl := r.length
 have hn := Us
 have fin : EP X pins σ Q w s := ⟨z, H, I, rw', q⟩
 by_cases h0 : 0 <= i
 ·have hj : i.toNat = j := by
   rw [seqIndex_of h0 h5] at h1
   exact Option.some.inj h1
  exact item_listR pl.isList h0 (by omega) (by rw [hj]; simpa using ew) fin hs
 ·have hj : (i + (its.toArray.size : Int)).toNat = j := by
   rw [seqIndex_neg (by omega) h4] at h1
   rw [List.size_toArray, <- hl]
   exact Option.some.inj h1
  exact subscriptTail_builtinR (x := w) pl.isList.typeIs slot_list_getitem.lookup
   (wpAny_getItem_list_neg (Q := fun r s' => r = w /\ EP X pins σ Q r s') pl.isList (by omega) (by rw [List.size_toArray] <;> omega) (by omega) (by rw [hj]; simpa using ew) ⟨rfl, fin⟩) hs
theorem ix_tup : IxR X (rIxT X.K) := by
 intro value slice pins s σ H x y v u Q I rx ry h hs
 obtain ⟨p, xs, i, z, rfl, rfl, hq, he, q⟩ := h
 cases rx
 obtain ⟨t, rfl⟩ := ry
 obtain ⟨its, r, pl, hz⟩ := I.tuple hq
 obtain ⟨j, h1, h2, h3, h4, h5⟩ := zbm he
 obtain ⟨w, ew, rw'⟩ := r.get h2
 have hl := r.length
 have hn := Us
 have fin : EP X pins σ Q w s := ⟨z, H, I, rw', q⟩
 exact subscriptTail_builtinR (x := w) pl.typeIs slot_tuple_getitem.lookup
  (getItem_tuple (j := j) (Q := fun r s' => r = w /\ EP X pins σ Q r s') pl (by omega) (by omega) (by rw [List.size_toArray, <- hl]; exact h1) (by simpa using ew) ⟨rfl, fin⟩) hs
theorem JZ (its : List Value) (n j : Nat) (u : Value) : Obj.mapSeq (·.setIfInBounds j u) { cls := .type "list", data := .seq its.toArray n } = { cls := .type "list", data := .seq (its.set j u).toArray n } := by
 simp [Obj.mapSeq]
theorem Inv.lst {pins : List (Addr × Obj)} {σ : St} {H : Hp} {s : Shared} {p : Addr} {xs : List V} (I : Inv X pins σ H s) (h : H p = some (.lst xs)) :
  ∃ (its : List Value) (n : Nat), Vals xs its /\ s.heap.get? p = some { cls := .type "list", data := .seq its.toArray n } /\ xs.length <= sizeLine := by
 obtain ⟨z, its, n, r, e⟩ := I.hok p _ h
 exact ⟨its, n, r, e, z⟩
theorem Inv.lstUpd {pins : List (Addr × Obj)} {σ : St} {H : Hp} {s : Shared} {p : Addr} {xs ys : List V} {its its' : List Value} {n n' : Nat} {f : Obj -> Obj} (I : Inv X pins σ H s) (h : H p = some (.lst xs))
  (ho : s.heap.get? p = some { cls := .type "list", data := .seq its.toArray n }) (hf : f { cls := .type "list", data := .seq its.toArray n } = { cls := .type "list", data := .seq its'.toArray n' }) (r : Vals ys its') (hz : ys.length <= sizeLine) (t : Nat) :
  Inv X pins σ (upd H p (.lst ys)) { s with heap := s.heap.update p f, toks := t } := by
 have e : (s.heap.update p f).get? p = some { cls := .type "list", data := .seq its'.toArray n' } := by
  rw [Heap.get?_update_self f ho (by rw [hf] <;> rfl), hf]
 refine I.write (x := p) (e := p) (by rw [h]; trivial) (.inl rfl) (fun b u hb q => (Heap.get?_update_other _ _ (Ne.symm hb)).trans q) ⟨_, e⟩ ?_
 exact ⟨hz, its', n', r, e⟩
def rSetL : V -> V -> V -> Hp -> (Hp -> Prop) -> Prop := fun o i v H Q => ∃ p xs k j, o = .ref p /\ i = .int k /\ H p = some (.lst xs) /\ ixN xs.length k = some j /\ Q (upd H p (.lst (xs.set j v)))
theorem set_list : PSet X rSetL := by
 intro pins s σ H o i v ov iv u Q I ro ri rv h
 obtain ⟨p, xs, k, j, rfl, rfl, hp, hj, q⟩ := h
 cases ro
 obtain ⟨t, rfl⟩ := ri
 obtain ⟨its, n, r, ho, hz⟩ := I.lst hp
 obtain ⟨h1, h2, h3, h4⟩ := zaW hj
 have hl := r.length
 have hn := Us
 have I' : Inv X pins σ (upd H p (.lst (xs.set j v))) { s with heap := s.heap.update p (Obj.mapSeq (·.setIfInBounds j u)) } :=
  I.lstUpd hp ho (JZ its n j u) (r.set rv j) (by rw [List.length_set]; exact hz) s.toks
 by_cases h0 : 0 <= k
 ·have hk : k.toNat = j := by
   rw [seqIndex_of h0 h4] at h1
   exact Option.some.inj h1
  exact PySem.W.ki_setAt ho h0 (by omega) (by rw [List.size_toArray, <- hl]; exact h4) (by rw [hk]; exact ⟨_, I', q⟩)
 ·have hk : (k + (its.toArray.size : Int)).toNat = j := by
   rw [seqIndex_neg (by omega) h3] at h1
   rw [List.size_toArray, <- hl]
   exact Option.some.inj h1
  exact PySem.W.ki_setBack ho (by omega) (by rw [List.size_toArray, <- hl]; exact h3) (by omega) (by rw [hk]; exact ⟨_, I', q⟩)
theorem Qg (lo hi : Option Int) (n : Nat) : (sliceBounds lo hi none n).1 = ((HT.sIx n 0 lo : Nat) : Int) /\ (sliceBounds lo hi none n).2.1 = ((HT.sIx n n hi : Nat) : Int) /\ (sliceBounds lo hi none n).2.2 = 1 := by
 refine ⟨?_, ?_, rfl⟩
 ·cases lo with
  | none => simp [sliceBounds, HT.sIx]
  | some i =>
   simp only [sliceBounds, HT.sIx, Option.getD_none, show (1 : Int) > 0 by decide, if_true]
   by_cases h : i < 0
   ·simp only [h, if_true] <;> omega
   ·simp only [h, if_false] <;> omega
 ·cases hi with
  | none => simp [sliceBounds, HT.sIx]
  | some i =>
   simp only [sliceBounds, HT.sIx, Option.getD_none, show (1 : Int) > 0 by decide, if_true]
   by_cases h : i < 0
   ·simp only [h, if_true] <;> omega
   ·simp only [h, if_false] <;> omega
theorem UG (its : List Value) (lo hi : Option Int) : slicePick its.toArray lo hi none = ((its.drop (HT.sIx its.length 0 lo)).take (HT.sIx its.length its.length hi - HT.sIx its.length 0 lo)).toArray := by
 obtain ⟨h1, h2, h3⟩ := Qg lo hi its.toArray.size
 unfold slicePick
 rw [h1, h2, h3]
 simp only [sliceRange_one, pick_run, List.size_toArray] <;> rfl
def rSlL (K : PySem.W.Frag) : V -> Option Int -> Option Int -> Hp -> VK -> Prop := fun x lo hi H Q => ∃ a xs, x = .ref a /\ SqL K H a xs /\ ∀ p, H p = none -> Q (.ref p) (upd H p (.lst (cutV xs lo hi)))
theorem sl_list : SlR X (rSlL X.K) := by
 intro pins s σ H x v vl vu lo hi sl Q I rx hs pl pu h
 obtain ⟨a, xs, rfl, hx, q⟩ := h
 cases rx
 obtain ⟨its, r, ht, hz⟩ := I.list hx
 have hlen := r.length
 refine ⟨"list", _, slot_list_getitem.lookup, ht.isList.typeIs, ?_⟩
 refine wpAny_getItem_list_slice ht.isList hs pl pu .none (by simp) ?_ (by rw [List.size_toArray] <;> omega)
 rw [UG, <- hlen]
 refine ⟨.ref s.heap.objs.size, _, I.laid (t' := s.toks) (o := .lst (cutV xs lo hi)) (fun b ob q => Heap.get?_push_of_some _ q) (Nat.le_refl _) ?_, rfl, q _ (I.hok.fresh (Nat.le_refl _))⟩
 exact ⟨Nat.le_trans (Q8 xs lo hi) hz, _, 0, (r.drop (HT.sIx xs.length 0 lo)).take (HT.sIx xs.length xs.length hi - HT.sIx xs.length 0 lo), Heap.get?_push_size _ rfl⟩
theorem VA : VG X (.builtin "len") (fun xs H Q => ∃ p ys, xs = [.ref p] /\ (SqL X.K H p ys \/ SqT X.K H p ys) /\ Q (.int ys.length) H) := by
 intro pins s σ H xs us Q I r h
 obtain ⟨p, ys, rfl, hq, q⟩ := h
 obtain ⟨u, rfl, rx⟩ := WT r
 cases rx
 have hn := Us
 rcases hq with hq | hq
 ·obtain ⟨its, r', pl, hz⟩ := I.list hq
  have hlen := r'.length
  exact Calls.call_len_list pl.isList (by simp only [List.size_toArray] <;> omega) ⟨.int ys.length, H, I.tok _, ⟨s.toks + 1, by rw [List.size_toArray, hlen]⟩, q⟩
 ·obtain ⟨its, r', pl, hz⟩ := I.tuple hq
  have hlen := r'.length
  exact len_tuple pl (by simp only [List.size_toArray] <;> omega) ⟨.int ys.length, H, I.tok _, ⟨s.toks + 1, by rw [List.size_toArray, hlen]⟩, q⟩
theorem QL : VG X (.builtin "len") (fun xs H Q => ∃ z, xs = [.str z] /\ z.length <= sizeLine /\ Q (.int z.length) H) := by
 intro pins s σ H xs us Q I r h
 obtain ⟨z, rfl, hz, q⟩ := h
 obtain ⟨u, rfl, t, rfl⟩ := WT r
 have hn := Us
 exact len_str (by omega) ⟨.int z.length, H, I.tok _, ⟨_, rfl⟩, q⟩
theorem U5 : VG X (.type "tuple") (fun xs H Q => ∃ p ys, xs = [.ref p] /\ ((SqL X.K H p ys /\ ∀ l, H l = none -> Q (.ref l) (upd H l (.tup ys))) \/ (SqT X.K H p ys /\ Q (.ref p) H))) := by
 intro pins s σ H xs us Q I r h
 obtain ⟨p, ys, rfl, h⟩ := h
 obtain ⟨u, rfl, rx⟩ := WT r
 cases rx
 rcases h with ⟨hq, q⟩ | ⟨hq, q⟩
 ·obtain ⟨its, r', pl, hz⟩ := I.list hq
  have hlen := r'.length
  refine call_tuple_list pl.isList (fun h' kp => ?_) (by simp only [List.size_toArray] <;> omega)
  have I1 : Inv X pins σ H { s with heap := h' } := I.kept (t' := s.toks) kp
  have I2 : Inv X pins σ (upd H h'.objs.size (.tup ys)) { s with heap := h'.push { cls := .type "tuple", data := .seq its.toArray } } :=
   I1.laid (t' := s.toks) (fun b o e => Heap.get?_push_of_some _ e) (Nat.le_refl _) (show WS X.prog X.w _ _ _ (.tup ys) from ⟨hz, its, r', IsTup.new _ _⟩)
  exact ⟨.ref h'.objs.size, _, I2, rfl, q _ (I1.hok.fresh (Nat.le_refl _))⟩
 ·obtain ⟨its, r', pl, hz⟩ := I.tuple hq
  exact call_tuple_same pl ⟨.ref p, H, I, rfl, q⟩
def tyV (K : PySem.W.Frag) (T : String) (x : V) (H : Hp) : Prop := match x with
 | .str _ => T = "str"
 | .int _ => T = "int"
 | .ref p => (T = "list" /\ ∃ xs, SqL K H p xs) \/ (T = "tuple" /\ ∃ o, K.lookup p = some o /\ o.cls = .type "tuple" /\ o.dict = none) \/
   (T = "dict" /\ ((∃ kvs, H p = some (.dK kvs)) \/ ∃ kvs, H p = some (.dT kvs))) \/ (T = "set" /\ ∃ S n, H p = some (.set S n))
 | _ => False
theorem tyV_is {pins : List (Addr × Obj)} {σ : St} {H : Hp} {s : Shared} {T : String} {x : V} {v : Value} (I : Inv X pins σ H s) (r : RelV x v) (ty : tyV X.K T x H) :
  s.TypeIs v T /\ ∀ a, v = .ref a -> ∃ ob, s.heap.get? a = some ob /\ ob.dict = none := by
 cases x with
 | str z =>
  obtain ⟨t, rfl⟩ := r
  cases (show T = "str" from ty)
  exact ⟨typeIs_str s z t, fun _ e => nomatch e⟩
 | int i =>
  obtain ⟨t, rfl⟩ := r
  cases (show T = "int" from ty)
  exact ⟨typeIs_int s i t, fun _ e => nomatch e⟩
 | ref p =>
  cases r
  rcases ty with ⟨rfl, xs, hq⟩ | ⟨rfl, o, hk, hc, hd⟩ | ⟨rfl, hk⟩ | ⟨rfl, S, n, hk⟩
  ·obtain ⟨its, _, pl, _⟩ := I.list hq
   refine ⟨pl.isList.typeIs, fun a e => ?_⟩
   cases e
   obtain ⟨o, n, e, c, hd, _⟩ := pl
   exact ⟨o, e, hd⟩
  ·refine ⟨⟨o, I.kIn p o hk, hc⟩, fun a e => ?_⟩
   cases e
   exact ⟨o, I.kIn _ o hk, hd⟩
  ·have z : ∃ o, s.heap.get? p = some o /\ o.ExactDict := by
    rcases hk with ⟨kvs, hk⟩ | ⟨kvs, hk⟩
    ·obtain ⟨_, _, _, _, o, _, _, e, ex, _⟩ := I.hok p _ hk
     exact ⟨o, e, ex⟩
    ·obtain ⟨_, _, _, _, o, _, _, e, ex, _⟩ := I.hok p _ hk
     exact ⟨o, e, ex⟩
   obtain ⟨o, e, ex⟩ := z
   refine ⟨⟨o, e, ex.1⟩, fun a e2 => ?_⟩
   cases e2
   exact ⟨o, e, ex.2.1⟩
  ·obtain ⟨o, _, _, _, e, ex, _⟩ := I.hok p _ hk
   refine ⟨⟨o, e, ex.1⟩, fun a e2 => ?_⟩
   cases e2
   exact ⟨o, e, ex.2.1⟩
 | _ => exact False.elim ty
def tBM (K : PySem.W.Frag) (T : String) (r : V -> List V -> Hp -> VK -> Prop) (to : TE) (t : TA) : TE := fun σ H Q => to σ H fun x H1 => tyV K T x H1 /\ t σ H1 fun xs H2 => r x xs H2 Q
variable {o e : Expr} {es : List Expr} {to : TE} {t : TA} {name : Str} {apos cpos : Pos} {T id : String} {r : V -> List V -> Hp -> VK -> Prop}
theorem JV (pa : PlainAttrs T) (slot : Slot T name id) (hty : typeOf (.builtin id) = pure (.type "method_descriptor")) (hm : MtR X id r) (ho : PE X o to) (ha : PA X (e :: es) t)
  (hbase : attributeBase o name X.env (eval o X.env) = eval o X.env := by rfl)
  (hfew : ((backTo cpos (starEach (e :: es) X.env)).all (fun x => !x.1) && (backToKw cpos (keywordEach [] X.env)).all (fun x => x.1.isSome)
   && decide ((e :: es).length + ([] : List Keyword).length + (if ([] : List Keyword).isEmpty then 0 else 1) < 30)) = true := by rfl)
  (hline : (apos.endLine == cpos.line) = true := by rfl) (hs : starEach (e :: es) X.env = (false, eval e X.env) :: starEach es X.env := by rfl) (hplain : (backTo cpos (starEach es X.env)).any (·.1) = false := by rfl) :
  PE X (.Call (.Attribute o name apos) (e :: es) [] cpos) (tBM X.K T r to t) := by
 intro pins s σ H Q I h
 refine wpAny_Call_method_late hbase hfew hline rfl (thn (ho pins s σ H _ I h) fun v s1 ⟨x, H1, I1, r1, ty, q1⟩ => ?_)
 obtain ⟨h1, h2⟩ := tyV_is I1 r1 ty
 refine ⟨T, id, pa, slot, hty, h1, h2, ?_⟩
 have hA := ha cpos pins s1 σ H1 _ I1 q1
 rw [hs] at hA ⊢
 refine Calls.callWith_builtin (by show (false || (backTo cpos (starEach es X.env)).any (·.1)) = false; rw [hplain] <;> rfl) (Calls.evalArgs_plain ?_)
 exact thn hA fun us s2 ⟨vs, H2, I2, r2, q2⟩ => hm pins s2 σ H2 x vs v us Q I2 r1 r2 q2
end
end L2
namespace L2
open PySem PySem.Spec PyProof.Rows
def MtM (X : Cx) (id : String) (r : V -> List V -> Hp -> VK -> Prop) : Prop :=
 ∀ (pins : List (Addr × Obj)) (s : Shared) (σ : St) (H : Hp) (x : V) (xs : List V) (v : Value) (us : List Value) (Q : VK), Inv X pins σ H s -> RelV x v -> Vals xs us -> r x xs H Q ->
  wpAny (model X.prog X.w) X.A (call (.builtin id) (v :: us)) (EP X pins σ Q) X.xe s
theorem Vals.one : ∀ {x : V} {us : List Value}, Vals [x] us -> ∃ u, us = [u] /\ RelV x u
 | _, _, .cons r .nil => ⟨_, rfl, r⟩
section
variable {X : Cx} {pins : List (Addr × Obj)} {σ : St} {H : Hp} {s : Shared} {l b : Addr} {xs ys zs : List V}
theorem Inv.lset {its its' : List Value} {n : Nat} {f : Array Value -> Array Value} {t' : Nat} (I : Inv X pins σ H s) (hH : H l = some (.lst xs))
  (e : s.heap.get? l = some { cls := .type "list", data := .seq its.toArray n }) (hf : f its.toArray = its'.toArray) (hv : Vals ys its') (hz : ys.length <= sizeLine) :
  Inv X pins σ (upd H l (.lst ys)) { s with heap := s.heap.update l (Obj.mapSeq f), toks := t' } := by
 have q := PySem.IsL.update e f
 rw [hf] at q
 refine I.write (x := l) (e := l) (by rw [hH]; exact trivial) (.inl rfl) (fun b' u hb hu => (Heap.get?_update_other s.heap (Obj.mapSeq f) (Ne.symm hb)).trans hu) ⟨_, q⟩ ?_
 exact ⟨hz, its', _, hv, q⟩
theorem Inv.lnew {its : List Value} {t' : Nat} (I : Inv X pins σ H s) (hv : Vals ys its) (hz : ys.length <= sizeLine) :
  Inv X pins σ (upd H s.heap.objs.size (.lst ys)) { s with heap := s.heap.push { cls := .type "list", data := .seq its.toArray }, toks := t' } :=
 I.laid (fun _ _ q => Heap.get?_push_of_some _ q) (Nat.le_refl _) ⟨hz, its, 0, hv, Heap.get?_push_size _ rfl⟩
theorem Inv.fresh (I : Inv X pins σ H s) : H s.heap.objs.size = none := I.hok.fresh (Nat.le_refl _)
theorem Inv.lstM (I : Inv X pins σ H s) (hH : H l = some (.lst xs)) : xs.length <= sizeLine /\ ∃ (its : List Value) (n : Nat), Vals xs its /\ xs.length = its.length /\ s.heap.get? l = some { cls := .type "list", data := .seq its.toArray n } := by
 obtain ⟨z, its, n, r, e⟩ := I.hok l _ hH
 exact ⟨z, its, n, r, r.length, e⟩
end
section
variable {X : Cx}
def rAppend : V -> List V -> Hp -> VK -> Prop := fun x vs H Q => ∃ l xs y, x = .ref l /\ vs = [y] /\ H l = some (.lst xs) /\ xs.length < sizeLine /\ Q .non (upd H l (.lst (xs ++ [y])))
theorem Qu : MtM X "list.append" rAppend := by
 intro pins s σ H x vs v us Q I rx rv h
 obtain ⟨l, xs, y, rfl, rfl, hH, hz, q⟩ := h
 cases rx
 obtain ⟨u, rfl, ru⟩ := rv.one
 obtain ⟨z, its, n, r, hl, e⟩ := I.lstM hH
 refine call_meets F.slot_list_append ⟨_, e, rfl⟩ F.entry_list_append (F.args_list_append_2 _ _) (PySem.list_append l its.toArray n u (by rw [List.size_toArray]; omega)) ⟨e, ?_⟩
 refine ⟨.non, _, I.lset (its' := its ++ [u]) hH e (by simp) (r.append (.cons ru .nil)) ?_, rfl, q⟩
 rw [List.length_append, List.length_singleton]
 omega
end
end L2
namespace Att
open PySem PySem.W PySem.Calls PyProof.Rows
theorem VZ {P : Params} {h : Heap} : ∀ (ns : List Int) (vs : List Value), WellAll P h vs (ns.map WData.int) -> IntsAre vs ns := by
 intro ns
 induction ns with
 | nil =>
  intro vs w
  rw [List.map_nil] at w
  cases w
  exact .nil
 | cons n ns ih =>
  intro vs w
  rw [List.map_cons] at w
  cases w with
  | cons a b =>
   cases a
   exact .cons _ _ (ih _ b)
theorem zat {l : OpenLaw} {n : Nat} (hn : l.most = some n) {P : Params} {h : Heap} {args : List WData} {vals : List Value}
  (hpre : l.row.toRowW.claim.pre args = true) (hwl : WellAll P h vals args) :
  ∃ a vs ns, vals = [Value.ref a] /\ args = [WData.list (ns.map WData.int)] /\ h.get? a = some { cls := .type "list", data := .seq vs.toArray } /\ IntsAre vs ns /\ ns.length <= n := by
 have hsh : WShape.hasAll [] args [.list .int] = true := (pre_splitW hpre).1
 have hc : l.pre.holds [] { args := args } = true := (pre_splitW hpre).2
 obtain ⟨d, r, rfl, h1, h2⟩ := hasAllW_cons hsh
 obtain rfl := hasAllW_nil h2
 obtain ⟨xs, rfl, h3⟩ := hasW_list h1
 obtain ⟨ns, rfl⟩ := items_int h3
 have hlen : ns.length <= n := by
  unfold OpenLaw.pre at hc
  have h4 : (WTm.not (.lt (.lit (.int (n : Int))) (.len (.arg 0)))).holds [] { args := [.list (ns.map .int)] } = true := by
   have h4 := (holds_andW hc).1
   rw [hn] at h4
   exact h4
  have h5 := condW_of h4 (w_not (w_lt w_lit (w_len_list (w_arg rfl))))
  rw [List.length_map] at h5
  refine Nat.le_of_not_lt fun q => ?_
  have q' : (n : Int) < ((ns.length : Nat) : Int) := by omega
  first
   | (rw [decide_eq_true q'] at h5; exact absurd h5 (by decide))
   | (simp at h5; omega)
 cases hwl with
 | cons w1 w2 =>
  cases w2
  cases w1 with
  | list ho hall => exact ⟨_, _, ns, rfl, rfl, ho, VZ ns _ hall, hlen⟩
theorem zaD (l : OpenLaw) (args : List WData) : l.row.toRowW.claim.post args (.bool true) args = true :=
 postW_of (r := l.row.toRowW) (X := (true == true))
  (show WShape.has [] (.bool true) .bool = true by first | rfl | decide | simp [WShape.has, WShape.arms, WShape.armsAll])
  (show (WTm.eq .res (.lit (.bool true))).value [] { args := args, res := some (.bool true), after := args } = some (.bool (true == true)) from w_eq_bool (w_res rfl) w_lit) rfl
theorem attach_call {l : OpenLaw} {n : Nat} {q : Program} {loose : List Str} {XP : (Str -> Option Value) -> Heap -> Prop} {YP : World -> Heap -> Prop} {d : DefRec}
  (hn : l.most = some n) (hdf : d.params.defaults = [])
  (call : ∀ (w : World) (s₀ s₁ : Shared) (mg mb : Str -> Option Value) (fa : Addr) (o : Obj) (pm cd doc : Value) (a : Addr) (vs : List Value) (ns : List Int),
   Ground q loose [] XP w s₀ mg mb s₁.heap -> YP w s₁.heap ->
   s₁.heap.get? fa = some o -> o.data = .func (docDef d.name d.params d.body d.scope pm cd doc) -> s₁.heap.CodeRec cd d.name -> mg d.name = some (.ref fa) ->
   s₁.heap.get? a = some { cls := .type "list", data := .seq vs.toArray } -> IntsAre vs ns -> ns.length <= n -> s₁.gens = #[] ->
   codeAny (model l.prog w) callerA (.call (.ref fa) ⟨[.ref a], []⟩) (fun r s' => r = .ok (.ret (.bool true)) /\ OldK s₁.heap s'.heap /\ s'.os = s₁.os /\ AllBare s'.gens) s₁) :
  WalkO q loose XP YP l.row.toRowW d [] (fun f vs => PySem.call f vs) := by
 intro w s₀ s₁ mg mb G Y fa o pm cd doc dV kV ho hd hcd hD hmg hg args vals as hpre hlay hrd hwl hlo
 obtain rfl : dV = .none := Dflts.none hD hdf
 obtain rfl : kV = .none := Dflts.noKw hD
 obtain ⟨a, vs, ns, rfl, rfl, hobj, hints, hlen⟩ := zat hn hpre hwl
 refine enter_call (codeAny_mono (call w s₀ s₁ mg mb fa o pm cd doc a vs ns G Y ho (fd_plain hd) hcd hmg hobj hints hlen hg) fun r s' hq => ?_)
 obtain ⟨rfl, h2, h3, h4⟩ := hq
 exact ⟨.inl ⟨.bool true, .bool true, [], rfl, fun _ => rfl, .bool true, zaD l _, fun _ => ⟨List.Pairwise.nil, fun _ hm => (nomatch hm)⟩⟩, h2, h3, h4⟩
end Att
namespace L2
open PySem PySem.Spec PyProof.Rows
theorem U9 : ∀ {vs : List Value} {ns : List Int}, IntsAre vs ns -> Vals (ns.map V.int) vs
 | _, _, .nil => .nil
 | _, _, .cons n t h => .cons ⟨t, rfl⟩ (U9 h)
def Only (H : Hp) : Prop := ∀ b, H b = none \/ ∃ o xs, H b = some (.frz o (.lst xs))
theorem law_call {P : Program} {w : World} {K : PySem.W.Frag} {mg mb : Str -> Option Value} {CX : CXT} {k : Nat} {fa a : Addr} {fd : FuncData} {x : Str} {sp : Sp} {s₁ : Shared} {vs : List Value} {ns : List Int}
  (KX : K.In s₁.heap) (hns : s₁.heap.Ns mainGlobals mg) (hb : s₁.heap.Ns builtinsNs mb) (hbb : ∀ x : Str, x ≠ "__name__" -> mb x = bootBuiltins x) (hlim : s₁.heap.NoLimit) (hg : s₁.gens = #[])
  (ha : s₁.heap.get? a = some { cls := .type "list", data := .seq vs.toArray }) (hi : IntsAre vs ns) (hl : ns.length <= sizeLine) (hr : Room k callerA)
  (F : ∀ base : Heap, K.In base -> base.Ns mainGlobals mg -> FnOk P w K mg base CX k fa fd [x] sp) (hbind : ∀ (s : Shared) (u : Value), BindsTo s fd ⟨[u], []⟩ [(x, u)])
  (hsp : ∀ H : Hp, Only H -> SqL K H a (ns.map V.int) -> sp [.ref a] H (fun v _ => v = .bl true) fun _ _ _ => False)
  (hCX : ∀ H e s', CX [] H s₁ (fun _ _ _ => False) e s' -> False) :
  codeAny (model P w) callerA (.call (.ref fa) ⟨[.ref a], []⟩) (fun r s' => r = .ok (.ret (.bool true)) /\ OldK s₁.heap s'.heap /\ s'.os = s₁.os /\ AllBare s'.gens) s₁ := by
 have rv := U9 hi
 have lenV := hi.length
 -- from an abstract heap in which nothing but the script may be tracked
 have core : ∀ H : Hp, Only H -> SqL K H a (ns.map V.int) -> HOk P w H s₁.heap -> (∀ b, H b ≠ none -> b = a) -> (H a ≠ none -> K.lookup a = none) ->
   codeAny (model P w) callerA (.call (.ref fa) ⟨[.ref a], []⟩) (fun r s' => r = .ok (.ret (.bool true)) /\ OldK s₁.heap s'.heap /\ s'.os = s₁.os /\ AllBare s'.gens) s₁ := by
  intro H hO hS hok hA hK
  have base_of : ∀ {b : Addr} {o : Obj}, s₁.heap.get? b = some o -> H b = none -> (hidT s₁.heap H).get? b = some o := fun e n => hidT_get e n
  have noA : ∀ {b : Addr} {o : Obj} {es : Array DictEntry} {ep : Nat}, s₁.heap.get? b = some o -> o.data = .dict es ep -> H b = none := fun {b o es ep} e d => by
   cases q : H b with
   | none => rfl
   | some u =>
    have e' : b = a := hA b (by rw [q]; simp)
    subst e'
    rw [ha] at e; cases e
    have d' : Data.seq vs.toArray _ = Data.dict es ep := d
    cases d'
  have nsK : ∀ {b : Addr} {m : Str -> Option Value}, s₁.heap.Ns b m -> (hidT s₁.heap H).Ns b m := fun {b m} ⟨o, es, ep, e, d, r⟩ => ⟨o, es, ep, base_of e (noA e d), d, r⟩
  have hKb : K.In (hidT s₁.heap H) := fun b o e => base_of (KX b o e) (by
   cases q : H b with
   | none => rfl
   | some u =>
    have e' : b = a := hA b (by rw [q]; simp)
    subst e'
    rw [hK (by rw [q]; simp)] at e; cases e)
  have hM : Mod K mg (hidT s₁.heap H) := ⟨hKb, nsK hns, ⟨mb, nsK hb, hbb⟩, let ⟨mc, h1, h2⟩ := hlim; ⟨mc, nsK h1, h2⟩⟩
  have e0 : Env0 P w K mg (hidT s₁.heap H) callerA [] s₁ H := ⟨rfl, hM, fun b o e => of_hidT e, Nat.le_of_eq (za1 _ _), trivial, fun b hb => absurd (show b ∈ ([] : List Addr) from hb) (by simp), hok, .of_eq hg⟩
  refine codeAny_mono ((F _ hKb (nsK hns)).run callerA [] s₁ H ⟨[.ref a], []⟩ [.ref a] [.ref a] _ _ hr e0 (hbind s₁ (.ref a)) (.cons rfl .nil) (hsp H hO hS)) fun r s' h => ?_
  cases r with
  | error e => exact (hCX H e s' h).elim
  | ok fl =>
   cases fl with
   | next => exact False.elim h
   | brk => exact False.elim h
   | cont => exact False.elim h
   | ret u =>
    obtain ⟨v, H', os, bare, un, hok', r', q⟩ := h
    have q' : v = .bl true := q
    subst q'
    obtain rfl : u = Value.bool true := r'
    refine ⟨rfl, OldK.of_keep fun b o e => ?_, os, bare⟩
    cases q : H b with
    | none => exact un.keep b o e q (by intro z; exact absurd (show b ∈ ([] : List Addr) from z) (by simp)) (by simp)
    | some u =>
     rcases hO b with z | ⟨ob, xs, z⟩
     ·rw [q] at z; cases z
     ·have z2 := un.frzs b ob _ z
      obtain ⟨e1, _⟩ := hok b _ z
      obtain ⟨e2, _⟩ := hok' b _ z2
      rw [e] at e1; cases e1
      exact e2
 cases hk : K.lookup a with
 | some o =>
  -- the script is one of the module's own objects
  have e := KX a o hk
  rw [ha] at e
  cases e
  refine core (fun _ => none) (fun _ => .inl rfl) (.inr ⟨_, vs.toArray, _, hk, rfl, rfl, rfl, by rw [List.size_toArray, lenV]; exact hl, by simpa using rv⟩) (fun b u z => by have z' : (none : Option HO) = some u := z; cases z') (fun b z => absurd rfl z) fun z => absurd rfl z
 | none =>
  refine core (fun b => if b = a then some (.frz { cls := .type "list", data := .seq vs.toArray } (.lst (ns.map V.int))) else none) (fun b => ?_) (.inl (.inr ⟨{ cls := .type "list", data := .seq vs.toArray }, if_pos rfl⟩)) (fun b u z => ?_) (fun b z => ?_) fun _ => hk
  ·by_cases hb : b = a
   ·exact .inr ⟨_, _, if_pos hb⟩
   ·exact .inl (if_neg hb)
  ·by_cases hb : b = a
   ·have z' := (if_pos hb).symm.trans z
    cases z'
    subst hb
    exact ⟨ha, by rw [List.length_map]; exact hl, vs, _, rv, ha⟩
   ·have z' := (if_neg hb).symm.trans z
    cases z'
  ·by_cases hb : b = a
   ·exact hb
   ·exact absurd (if_neg hb) z
end L2
namespace L2
open PySem PySem.Spec PyProof.Rows
theorem walk_of {l : PySem.W.OpenLaw} {n k : Nat} {q : Program} {loose : List Str} {XP : (Str -> Option Value) -> Heap -> Prop} {YP : World -> Heap -> Prop} {d : DefRec} {K : Params -> PySem.W.Frag} {CX : World -> CXT} {sp : World -> Sp} {x : Str}
  (hn : l.most = some n) (hn2 : n <= sizeLine) (hdf : d.params.defaults = []) (hr : Room k callerA)
  (hY : ∀ (w : World) (h : Heap), YP w h -> (K w.params).In h)
  (F : ∀ (w : World) (mg : Str -> Option Value) (fa : Addr) (h : Heap), (K w.params).In h -> h.Ns mainGlobals mg -> mg d.name = some (.ref fa) ->
   ∃ fd : FuncData, (∀ (s : Shared) (u : Value), BindsTo s fd ⟨[u], []⟩ [(x, u)]) /\
    ∀ base : Heap, (K w.params).In base -> base.Ns mainGlobals mg -> FnOk l.prog w (K w.params) mg base (CX w) k fa fd [x] (sp w))
  (hsp : ∀ (w : World) (H : Hp) (a : Addr) (ns : List Int), ns.length <= n -> Only H -> SqL (K w.params) H a (ns.map V.int) -> sp w [.ref a] H (fun v _ => v = .bl true) fun _ _ _ => False)
  (hCX : ∀ (w : World) (H : Hp) (s : Shared) (e : Value) (s' : Shared), CX w [] H s (fun _ _ _ => False) e s' -> False) :
  PySem.W.WalkO q loose XP YP l.row.toRowW d [] (fun f vs => PySem.call f vs) := by
 refine Att.attach_call hn hdf fun w s₀ s₁ mg mb fa o pm cd doc a vs ns G Y ho hd hcd hmg hobj hints hlen hg => ?_
 have KX := hY w _ Y
 obtain ⟨fd, hb, hF⟩ := F w mg fa _ KX G.T.g hmg
 exact law_call KX G.T.g G.T.b G.T.builtins G.T.nolimit hg hobj hints (Nat.le_trans hlen hn2) hr hF hb (fun H hO hS => hsp w H a ns hlen hO hS) fun H e s' => hCX w H s₁ e s'
end L2
namespace L2
open PySem PySem.Spec PyProof.Rows
def ZR (s : Stmt) : Arguments := match s with
 | .FunctionDef _ a _ _ _ _ _ _ _ _ => a
 | _ => { posonlyargs := [], args := [], vararg := none, kwonlyargs := [], kw_defaults := [], kwarg := none, defaults := [] }
def ZD (s : Stmt) : List Stmt := match s with
 | .FunctionDef _ _ b _ _ _ _ _ _ _ => b
 | _ => []
def Ze (s : Stmt) : Scope := match s with
 | .FunctionDef _ _ _ _ _ _ sc _ _ _ => sc
 | _ => { kind := .function, names := [], isGenerator := false, isCoroutine := false }
abbrev CX0 : CXT := fun _ _ _ _ _ _ => False
structure Fun (K : PySem.W.Frag) (x qual : Str) (st : Stmt) (f : Addr) (fd : FuncData) : Prop where
 ex : ∃ (oc : Value) (od : Option Addr) (kV doc pm : Value) (an : Option Addr) (cdv ct : Value) (osl : Array (Option Value)),
  fd = PySem.W.fnOf x qual (ZR st) (ZD st) (Ze st) .none kV doc pm an cdv ct /\ K.lookup f = some ⟨oc, od, .func fd, osl⟩ /\ PySem.W.codeIn K cdv qual = true
 kp : PySem.W.keepIn K (.ref f) = true
section
variable {P : Program} {w : World} {K : PySem.W.Frag} {mg : Str -> Option Value} {base : Heap}
theorem Fun.ok {x qual : Str} {st : Stmt} {f : Addr} {fd : FuncData} {N ps : List Str} {k : Nat} {sp : Sp} (F : Fun K x qual st f fd) (S : FnScope N ps (Ze st)) (len : ∀ vs H Q E, sp vs H Q E -> vs.length = ps.length)
  (hbody : ∀ (cdv : Value) (A : Around) (outer : List Env) (s : Shared) (H : Hp) (vs : List V) (Q : VK) (E : XK), Room k (A.deeper (envOfC qual (Ze st) s.heap.objs.size f cdv)) -> sp vs H Q E ->
   ∃ t, PSs (cxOf CX0 P w K mg base N qual (Ze st) f cdv A outer s H E).nox (ZD st) t /\ t { nx := fun _ H' => Q .non H', rt := Q } (start N vs) H) : FnOk P w K mg base CX0 (k + 1) f fd ps sp := by
 obtain ⟨oc, od, kV, doc, pm, an, cdv, ct, osl, rfl, lk, hcd⟩ := F.ex
 refine fn_of lk hcd S len fun A outer s H vs Q E hr hsp => ?_
 obtain ⟨t, h, q⟩ := hbody cdv A outer s H vs Q E hr hsp
 exact ⟨t, h.nox, q⟩
theorem Fun.binds {x qual : Str} {st : Stmt} {f : Addr} {fd : FuncData} {ps : List Str} (F : Fun K x qual st f fd)
  (h : ∀ (kV doc pm : Value) (an : Option Addr) (cdv ct : Value) (us : List Value), us.length = ps.length -> bindArgs (PySem.W.fnOf x qual (ZR st) (ZD st) (Ze st) .none kV doc pm an cdv ct) ⟨us, []⟩ = pure (ps.zip us)) : YV K fd ps [] := by
 obtain ⟨oc, od, kV, doc, pm, an, cdv, ct, osl, rfl, lk, hcd⟩ := F.ex
 exact .all (h kV doc pm an cdv ct)
theorem YQ {x qual : Str} {st : Stmt} {f : Addr} {oc : Value} {od an : Option Addr} {osl : Array (Option Value)} {kV doc pm cdv ct : Value} (l : K.lookup f = some ⟨oc, od, .func (PySem.W.fnOf x qual (ZR st) (ZD st) (Ze st) .none kV doc pm an cdv ct), osl⟩)
  (c : PySem.W.codeIn K cdv qual = true) (k : PySem.W.keepIn K (.ref f) = true) : Fun K x qual st f (PySem.W.fnOf x qual (ZR st) (ZD st) (Ze st) .none kV doc pm an cdv ct) := ⟨⟨oc, od, kV, doc, pm, an, cdv, ct, osl, rfl, l, c⟩, k⟩
end
theorem iteF {A B : Prop} (h : B) : if false = true then A else B := by
 rw [if_neg Bool.false_ne_true]
 exact h
theorem iteT {A B : Prop} (h : A) : if true = true then A else B := by
 rw [if_pos rfl]
 exact h
end L2
namespace Fx
open PySem
inductive Sl where
 | emp | val (t : PyData) | own (xs : List PyData) | dct (es : List (PyData × PyData))
inductive Res (α : Type) where
 | ok (a : α) | exc (c : Str) | stuck
def Res.bind {α β : Type} (r : Res α) (f : α -> Res β) : Res β :=
 match r with
 | .ok a => f a
 | .exc c => .exc c
 | .stuck => .stuck
@[simp] theorem Res.bind_ok {α β : Type} (a : α) (f : α -> Res β) : Res.bind (.ok a) f = f a := rfl
@[simp] theorem Res.bind_exc {α β : Type} (c : Str) (f : α -> Res β) : Res.bind (.exc c) f = .exc c := rfl
@[simp] theorem Res.bind_stuck {α β : Type} (f : α -> Res β) : Res.bind .stuck f = .stuck := rfl
abbrev DE := List Sl -> Res PyData
abbrev DT := List Sl -> Res Bool
abbrev DA := List Sl -> Res (List PyData)
inductive Out where
 | nx (G : List Sl) | rt (t : PyData) | bk (G : List Sl) | ct (G : List Sl)
abbrev DS := List Sl -> Res Out
abbrev DF := List PyData -> Res PyData
@[simp] def frz1 (G : List Sl) (i : Nat) : List Sl :=
 match G[i]? with
 | some (.own xs) => G.set i (.val (.list xs))
 | _ => G
@[simp] def frz (is : List Nat) (G : List Sl) : List Sl := is.foldl frz1 G
@[simp] def frzA : List Sl -> List Sl
 | [] => []
 | .own xs :: r => .val (.list xs) :: frzA r
 | .emp :: r => .emp :: frzA r
 | .val t :: r => .val t :: frzA r
 | .dct _ :: r => .emp :: frzA r
@[simp] def frzS : Sl -> Sl
 | .own xs => .val (.list xs)
 | .emp => .emp
 | .val t => .val t
 | .dct _ => .emp
@[simp] theorem frzA_cons (s : Sl) (G : List Sl) : frzA (s :: G) = frzS s :: frzA G := by cases s <;> simp
mutual
def Y0 : PyData -> Bool
 | .none | .bool _ | .int _ | .str _ => true
 | .tuple xs => X1 xs
 | .list _ => false
 | .dict _ => false
def X1 : List PyData -> Bool
 | [] => true
 | x :: xs => Y0 x && X1 xs
end
@[simp] theorem scalT_tuple (xs : List PyData) : Y0 (.tuple xs) = X1 xs := by simp [Y0]
@[simp] theorem scalT_dict (xs : List (PyData × PyData)) : Y0 (.dict xs) = false := by simp [Y0]
@[simp] theorem scalT_list (xs : List PyData) : Y0 (.list xs) = false := by simp [Y0]
@[simp] theorem Qi (x : PyData) (xs : List PyData) : X1 (x :: xs) = (Y0 x && X1 xs) := by simp [X1]
@[simp] def dC (t : PyData) : DE := fun _ => .ok t
@[simp] def dVar (i : Nat) : DE := fun G => match G[i]? with
 | some (.val t) => .ok t
 | _ => .stuck
@[simp] def d1 (f : PyData -> Res PyData) (a : DE) : DE := fun G => (a G).bind f
@[simp] def d2 (f : PyData -> PyData -> Res PyData) (a b : DE) : DE := fun G => (a G).bind fun x => (b G).bind fun y => f x y
@[simp] def dNil : DA := fun _ => .ok []
@[simp] def Zc (a : DE) (r : DA) : DA := fun G => (a G).bind fun x => (r G).bind fun xs => .ok (x :: xs)
@[simp] def Uh (xs : List PyData) : Bool := decide (xs.length <= 16777216)
@[simp] def dTup (a : DA) : DE := fun G => (a G).bind fun xs => if Uh xs then .ok (.tuple xs) else .stuck
@[simp] def dLst (a : DA) : DE := fun G => (a G).bind fun xs => if Uh xs then .ok (.list xs) else .stuck
@[simp] def ZG (f : DF) (a : DA) : DE := fun G => (a G).bind f
@[simp] def dIfE (c : DT) (a b : DE) : DE := fun G => (c G).bind fun k => if k then a G else b G
@[simp] def dAndV (a b : DE) : DE := fun G => (a G).bind fun x => match x with
 | .bool k => if k then b G else .ok (.bool false)
 | _ => .stuck
@[simp] def dNotV (a : DE) : DE := fun G => (a G).bind fun x => match x with
 | .bool k => .ok (.bool (!k))
 | _ => .stuck
def Vf (i j : Int) : Bool := decide (i.natAbs.log2 + j.natAbs.log2 + 2 <= 134217728) || decide (i.natAbs < 18446744073709551616) || decide (j.natAbs < 18446744073709551616)
def Q6 (j : Int) : Bool := decide (j ≠ 0) && decide (j.natAbs.log2 < 9000)
@[simp] def fAdd : PyData -> PyData -> Res PyData
 | .int i, .int j => .ok (.int (i + j))
 | .list xs, .list ys => if xs.length + ys.length <= 16777216 then .ok (.list (xs ++ ys)) else .stuck
 | _, _ => .stuck
@[simp] def fSub : PyData -> PyData -> Res PyData
 | .int i, .int j => .ok (.int (i - j))
 | _, _ => .stuck
@[simp] def fMul : PyData -> PyData -> Res PyData
 | .int i, .int j => if Vf i j then .ok (.int (i * j)) else .stuck
 | _, _ => .stuck
@[simp] def fDiv : PyData -> PyData -> Res PyData
 | .int i, .int j => if Q6 j then .ok (.int (i.fdiv j)) else .stuck
 | _, _ => .stuck
@[simp] def fMod : PyData -> PyData -> Res PyData
 | .int i, .int j => if j = 0 then .stuck else .ok (.int (i.fmod j))
 | _, _ => .stuck
@[simp] def fPow : PyData -> PyData -> Res PyData
 | .int i, .int j => if 0 <= j /\ j <= 1000000 /\ i.natAbs < 2 ^ 64 then .ok (.int (i ^ j.toNat)) else .stuck
 | _, _ => .stuck
@[simp] def fNeg : PyData -> Res PyData
 | .int i => .ok (.int (-i))
 | _ => .stuck
@[simp] def fLt : PyData -> PyData -> Res PyData
 | .int i, .int j => .ok (.bool (decide (i < j)))
 | _, _ => .stuck
@[simp] def fLe : PyData -> PyData -> Res PyData
 | .int i, .int j => .ok (.bool (decide (i <= j)))
 | _, _ => .stuck
@[simp] def fGt : PyData -> PyData -> Res PyData
 | .int i, .int j => .ok (.bool (decide (j < i)))
 | _, _ => .stuck
@[simp] def fGe : PyData -> PyData -> Res PyData
 | .int i, .int j => .ok (.bool (decide (j <= i)))
 | _, _ => .stuck
def ZF (d : PyData) : Bool := d.canLay0 && decide (d.depth <= 64)
def fEq : PyData -> PyData -> Res PyData
 | .int i, .int j => .ok (.bool (decide (i = j)))
 | x, y => if ZF x && ZF y then .ok (.bool (x.eqv y)) else .stuck
def fNe : PyData -> PyData -> Res PyData
 | .int i, .int j => .ok (.bool (!decide (i = j)))
 | x, y => if ZF x && ZF y then .ok (.bool (!x.eqv y)) else .stuck
@[simp] def fIsN : PyData -> Res PyData
 | .none => .ok (.bool true)
 | _ => .ok (.bool false)
@[simp] def fLen : PyData -> Res PyData
 | .list xs => .ok (.int xs.length)
 | .tuple xs => .ok (.int xs.length)
 | _ => .stuck
@[simp] def fAbs : PyData -> Res PyData
 | .int i => .ok (.int (if i < 0 then -i else i))
 | _ => .stuck
def ixP (n : Nat) (i : Int) : Option Nat := if 0 <= i then (if i < n then some i.toNat else none) else if -(n : Int) <= i then some (i + n).toNat else none
def atP (xs : List PyData) (i : Int) : Option PyData := (ixP xs.length i).bind fun j => xs[j]?
@[simp] def ofO {α : Type} : Option α -> Res α
 | some a => .ok a
 | none => .stuck
@[simp] def fIx : PyData -> PyData -> Res PyData
 | .list xs, .int i => ofO (atP xs i)
 | .tuple xs, .int i => ofO (atP xs i)
 | _, _ => .stuck
@[simp] def isInt : PyData -> Bool
 | .int _ => true
 | .bool _ => true
 | _ => false
@[simp] def isBool : PyData -> Bool
 | .bool _ => true
 | _ => false
@[simp] def zaX : PyData -> Bool
 | .tuple _ => true
 | _ => false
@[simp] def isList : PyData -> Bool
 | .list _ => true
 | _ => false
@[simp] def J2 : PyData -> Bool
 | .str _ => true
 | _ => false
@[simp] def fIs (p : PyData -> Bool) : PyData -> Res PyData
 | .dict _ => .stuck
 | .none => .ok (.bool (p .none))
 | .bool b => .ok (.bool (p (.bool b)))
 | .int b => .ok (.bool (p (.int b)))
 | .str b => .ok (.bool (p (.str b)))
 | .list b => .ok (.bool (p (.list b)))
 | .tuple b => .ok (.bool (p (.tuple b)))
@[simp] def fIsX : PyData -> Res PyData
 | .dict [] => .ok (.bool true)
 | _ => .stuck
@[simp] def Uw : PyData -> Res PyData
 | .list xs => .ok (.tuple xs)
 | .tuple xs => .ok (.tuple xs)
 | _ => .stuck
@[simp] def truth : PyData -> Res Bool
 | .none => .ok false
 | .bool b => .ok b
 | .int i => .ok (i != 0)
 | .list xs => .ok (!xs.isEmpty)
 | .tuple xs => .ok (!xs.isEmpty)
 | _ => .stuck
@[simp] def tV (a : DE) : DT := fun G => (a G).bind truth
@[simp] def tAnd (a b : DT) : DT := fun G => (a G).bind fun k => if k then b G else .ok false
@[simp] def tOr (a b : DT) : DT := fun G => (a G).bind fun k => if k then .ok true else b G
@[simp] def tNot (a : DT) : DT := fun G => (a G).bind fun k => .ok (!k)
@[simp] def dSeq (a b : DS) : DS := fun G => (a G).bind fun o => match o with
 | .nx G' => b G'
 | .rt t => .ok (.rt t)
 | .bk G' => .ok (.bk G')
 | .ct G' => .ok (.ct G')
@[simp] def Z7 : DS := fun G => .ok (.nx G)
@[simp] def XD (c : Str) (a : DA) : DS := fun G => (a (frzA G)).bind fun _ => .exc c
def dSet (i : Nat) (is : List Nat) (e : DE) : DS := fun G => (e (frz is G)).bind fun t => .ok (.nx ((if Y0 t then G else frz is G).set i (.val t)))
@[simp] theorem dSet_nil (i : Nat) (e : DE) (G : List Sl) : dSet i [] e G = (e G).bind fun t => .ok (.nx (G.set i (.val t))) := by
 unfold dSet
 show (e G).bind _ = _
 congr 1
 funext t
 show Res.ok (Out.nx ((if Y0 t = true then G else G).set i (.val t))) = _
 rw [ite_self]
@[simp] theorem dSet_cons (i j : Nat) (is : List Nat) (e : DE) (G : List Sl) : dSet i (j :: is) e G = (e (frz (j :: is) G)).bind fun t => .ok (.nx ((if Y0 t then G else frz (j :: is) G).set i (.val t))) := rfl
@[simp] def zad (i : Nat) (is : List Nat) (e : DA) : DS := fun G => (e (frz is G)).bind fun xs => if i < G.length then .ok (.nx ((frz is G).set i (.own xs))) else .stuck
@[simp] def dRet (e : DE) : DS := fun G => (e (frzA G)).bind fun t => .ok (.rt t)
@[simp] def dIf (c : DT) (a b : DS) : DS := fun G => (c (frzA G)).bind fun k => if k then a G else b G
@[simp] def U2 (e : DE) : DS := fun G => (e (frzA G)).bind fun _ => .ok (.nx G)
@[simp] def QQ (i : Nat) (G' : List Sl) (t : PyData) : Res Out :=
 match G'[i]? with
 | some (.own xs) => if xs.length < 16777216 then .ok (.nx (G'.set i (.own (xs ++ [t])))) else .stuck
 | _ => .stuck
@[simp] def Ui (G : List Sl) (i : Nat) : Bool := match G[i]? with
 | some (.own _) => true
 | _ => false
def dApp (i : Nat) (is : List Nat) (e : DE) : DS := fun G => if Ui G i then (e (frz is G)).bind fun t => QQ i (if Y0 t then G else frz is G) t else .stuck
@[simp] theorem dApp_nil (i : Nat) (e : DE) (G : List Sl) : dApp i [] e G = if Ui G i then (e G).bind fun t => QQ i G t else .stuck := by
 unfold dApp
 congr 1
 show (e G).bind _ = _
 congr 1
 funext t
 show QQ i (if Y0 t = true then G else G) t = _
 rw [ite_self]
@[simp] theorem dApp_cons (i j : Nat) (is : List Nat) (e : DE) (G : List Sl) : dApp i (j :: is) e G = if Ui G i then (e (frz (j :: is) G)).bind fun t => QQ i (if Y0 t then G else frz (j :: is) G) t else .stuck := rfl
def forL (st : PyData -> List Sl -> Res (List Sl)) (b : DS) : List PyData -> List Sl -> Res Out
 | [], G => .ok (.nx G)
 | t :: ts, G => (st t G).bind fun G1 => (b G1).bind fun o => match o with
  | .nx G' => forL st b ts G'
  | .ct G' => forL st b ts G'
  | .bk G' => .ok (.nx G')
  | .rt t => .ok (.rt t)
@[simp] def dFor (st : PyData -> List Sl -> Res (List Sl)) (is : List Nat) (it : DA) (b : DS) : DS := fun G => (it (frz is G)).bind fun ts => forL st b ts (frz is G)
@[simp] def ZI (i : Nat) : PyData -> List Sl -> Res (List Sl) := fun t G => .ok (G.set i (.val t))
@[simp] def noX {α : Type} : Res α -> Res α
 | .ok a => .ok a
 | _ => .stuck
@[simp] def dTry (b : DS) (sub : Str -> Bool) (h : DS) : DS := fun G => match b G with
 | .exc c => if sub c then noX (h G) else .stuck
 | .ok o => .ok o
 | .stuck => .stuck
@[simp] def W9 (f : DF) (a : DA) : DE := fun G => (noX (a G)).bind f
@[simp] def dTryA (i : Nat) (b : DS) (sub : Str -> Bool) (h : DS) : DS := fun G => match b G with
 | .exc c => if sub c then (noX (h (G.set i (.val (.dict []))))).bind fun o => match o with
  | .nx G' => .ok (.nx (G'.set i .emp))
  | .rt t => .ok (.rt t)
  | _ => .stuck
  else .stuck
 | .ok o => .ok o
 | .stuck => .stuck
@[simp] def fInt : PyData -> Res PyData
 | .int i => .ok (.int i)
 | .bool b => .ok (.int (if b then 1 else 0))
 | _ => .stuck
def runF (n np : Nat) (b : DS) : DF := fun ts => if ts.length = np then (b (ts.map .val ++ List.replicate (n - np) .emp)).bind fun o => match o with
  | .rt t => .ok t
  | .nx _ => .ok .none
  | _ => .stuck
 else .stuck
theorem W3 {α : Type} (r : Res α) : (∃ a, noX r = .ok a) \/ noX r = .stuck := by
 cases r
 ·exact .inl ⟨_, rfl⟩
 ·exact .inr rfl
 ·exact .inr rfl
theorem Js {α : Type} {r : Res α} {a : α} (h : noX r = .ok a) : r = .ok a := by
 cases r <;> simp at h
 rw [h]
def runQ (n np : Nat) (b : DS) : DF := fun ts => noX (runF n np b ts)
theorem runQ_nox (n np : Nat) (b : DS) (ts : List PyData) (c : Str) : runQ n np b ts ≠ .exc c := by
 unfold runQ
 cases runF n np b ts <;> simp
def rngT (lo : Int) (n : Nat) : List PyData := (List.range n).map fun (k : Nat) => .int (lo + (k : Int))
def rngOk (j : Int) : Bool := decide (j.natAbs <= 1000000000000)
theorem Ql {n : Nat} (h : n <= 1000000000) : rngOk (n : Int) = true := by
 unfold rngOk
 exact decide_eq_true (by omega)
theorem Jh {j : Int} (h : rngOk j = true) : -(2 ^ 62) <= j /\ j < 2 ^ 62 := by
 have h' : j.natAbs <= 1000000000000 := of_decide_eq_true h
 omega
@[simp] def iRng (a : DE) : DA := fun G => (a G).bind fun x => match x with
 | .int j => if rngOk j = true then .ok (rngT 0 j.toNat) else .stuck
 | _ => .stuck
theorem fLt_b : ∀ x y, (∃ k, fLt x y = .ok (.bool k)) \/ fLt x y = .stuck := by intro x y; cases x <;> cases y <;> simp
theorem fGt_b : ∀ x y, (∃ k, fGt x y = .ok (.bool k)) \/ fGt x y = .stuck := by intro x y; cases x <;> cases y <;> simp
theorem fGe_b : ∀ x y, (∃ k, fGe x y = .ok (.bool k)) \/ fGe x y = .stuck := by intro x y; cases x <;> cases y <;> simp
theorem fEq_b : ∀ x y, (∃ k, fEq x y = .ok (.bool k)) \/ fEq x y = .stuck := by
 intro x y
 unfold fEq
 split
 ·exact .inl ⟨_, rfl⟩
 ·split
  ·exact .inl ⟨_, rfl⟩
  ·exact .inr rfl
theorem fNe_b : ∀ x y, (∃ k, fNe x y = .ok (.bool k)) \/ fNe x y = .stuck := by
 intro x y
 unfold fNe
 split
 ·exact .inl ⟨_, rfl⟩
 ·split
  ·exact .inl ⟨_, rfl⟩
  ·exact .inr rfl
@[simp] def iSeq (a : DE) : DA := fun G => (a G).bind fun x => match x with
 | .list xs => .ok xs
 | .tuple xs => .ok xs
 | _ => .stuck
@[simp] def capS (cap : List Nat) (G : List Sl) : List Sl := cap.map fun i => match (G[i]? : Option Sl) with
 | some (.val t) => .val t
 | _ => .emp
def Yc (st : PyData -> List Sl -> Res (List Sl)) (c : DT) (e : DE) (C : List Sl) : List PyData -> Res (List PyData)
 | [] => .ok []
 | t :: ts => (noX (st t C)).bind fun G1 => (c G1).bind fun k => if k then (e G1).bind fun y => (Yc st c e C ts).bind fun ys => .ok (y :: ys) else Yc st c e C ts
@[simp] def WF (nv : Nat) (cap : List Nat) (st : PyData -> List Sl -> Res (List Sl)) (it : DA) (c : DT) (e : DE) : DA := fun G => (it G).bind fun ts => if ts.length <= 16777216 then Yc st c e (List.replicate nv .emp ++ capS cap G) ts else .stuck
@[simp] def tT : DT := fun _ => .ok true
@[simp] def dLenN (i : Nat) : DE := fun G => match G[i]? with
 | some (.own xs) => .ok (.int xs.length)
 | some (.val t) => fLen t
 | _ => .stuck
def sIxT (n d : Nat) : Option Int -> Nat
 | none => d
 | some i => if i < 0 then (i + n).toNat else min i.toNat n
def cutT (xs : List PyData) (lo hi : Option Int) : List PyData := (xs.drop (sIxT xs.length 0 lo)).take (sIxT xs.length xs.length hi - sIxT xs.length 0 lo)
abbrev DP := List Sl -> Res (Option Int)
@[simp] def pNo : DP := fun _ => .ok none
@[simp] def pAt (a : DE) : DP := fun G => (a G).bind fun x => match x with
 | .int i => .ok (some i)
 | _ => .stuck
@[simp] def oCut (a : DE) (lo hi : DP) : DA := fun G => (a G).bind fun x => (lo G).bind fun l => (hi G).bind fun h => match x with
 | .list xs => .ok (cutT xs l h)
 | _ => .stuck
@[simp] def subs (l : List Str) (c : Str) : Bool := l.contains c
@[simp] def dL (a : DA) : DE := fun G => (a G).bind fun xs => .ok (.list xs)
@[simp] def oLst (a : DA) : DA := fun G => (a G).bind fun xs => if Uh xs then .ok xs else .stuck
def allT : List PyData -> Res Bool
 | [] => .ok true
 | .bool k :: r => (allT r).bind fun m => .ok (k && m)
 | _ => .stuck
theorem zbo : ∀ {xs : List PyData} {k : Bool}, allT xs = .ok k -> ∃ bs : List Bool, xs = bs.map .bool /\ k = bs.all id
 | [], k, h => by simp [allT] at h; exact ⟨[], rfl, by simp [<- h]⟩
 | x :: r, k, h => by
  cases x with
  | bool b =>
   simp only [allT] at h
   cases e : allT r with
   | ok m =>
    rw [e] at h
    simp at h
    obtain ⟨bs, h1, h2⟩ := zbo e
    exact ⟨b :: bs, by simp [h1], by simp [<- h, h2]⟩
   | exc c => rw [e] at h; cases h
   | stuck => rw [e] at h; cases h
  | none => simp [allT] at h
  | int _ => simp [allT] at h
  | str _ => simp [allT] at h
  | list _ => simp [allT] at h
  | tuple _ => simp [allT] at h
  | dict _ => simp [allT] at h
theorem JM : ∀ (xs : List PyData) (c : Str), allT xs ≠ .exc c
 | [], c => by simp [allT]
 | x :: r, c => by
  cases x with
  | bool b =>
   simp only [allT]
   cases e : allT r with
   | ok m => simp
   | exc c' => exact absurd e (JM r c')
   | stuck => simp
  | none => simp [allT]
  | int _ => simp [allT]
  | str _ => simp [allT]
  | list _ => simp [allT]
  | tuple _ => simp [allT]
  | dict _ => simp [allT]
@[simp] def fAll : PyData -> Res PyData
 | .list xs => (allT xs).bind fun k => .ok (.bool k)
 | _ => .stuck
@[simp] def Qh (i : Nat) (G' : List Sl) (t kt : PyData) : Res Out :=
 match G'[i]?, kt with
 | some (.own xs), .int j => match ixP xs.length j with
  | some m => .ok (.nx (G'.set i (.own (xs.set m t))))
  | none => .stuck
 | _, _ => .stuck
def UA (i : Nat) (is : List Nat) (k e : DE) : DS := fun G => (e (frz is G)).bind fun t => if Ui (if Y0 t then G else frz is G) i then (k (frz is G)).bind fun kt => Qh i (if Y0 t then G else frz is G) t kt else .stuck
@[simp] theorem dSetIt_nil (i : Nat) (k e : DE) (G : List Sl) : UA i [] k e G = (e G).bind fun t => if Ui G i then (k G).bind fun kt => Qh i G t kt else .stuck := by
 unfold UA
 show (e G).bind _ = _
 congr 1
 funext t
 show (if Ui (if Y0 t = true then G else G) i = true then (k G).bind fun kt => Qh i (if Y0 t = true then G else G) t kt else .stuck) = _
 rw [ite_self]
@[simp] theorem dSetIt_cons (i j : Nat) (is : List Nat) (k e : DE) (G : List Sl) : UA i (j :: is) k e G = (e (frz (j :: is) G)).bind fun t => if Ui (if Y0 t then G else frz (j :: is) G) i then (k (frz (j :: is) G)).bind fun kt => Qh i (if Y0 t then G else frz (j :: is) G) t kt else .stuck := rfl
theorem zau {i : Nat} : ∀ t G c, ZI i t G ≠ .exc c := by intro t G c; simp
def zai (nv : Nat) (st : PyData -> List Sl -> Res (List Sl)) : Prop := ∀ t G G1, st t G = .ok G1 -> G1.length = G.length /\ ∀ i, nv <= i -> G1[i]? = G[i]?
theorem Xo {nv i : Nat} (h : i < nv) : zai nv (ZI i) := by
 intro t G G1 e
 simp at e
 subst e
 refine ⟨by simp, fun j hj => ?_⟩
 rw [List.getElem?_set_ne (by omega)]
end Fx
namespace Fx
open PySem
def dUnp (st : PyData -> List Sl -> Res (List Sl)) (is : List Nat) (e : DE) : DS := fun G => (e (frz is G)).bind fun t => (st t (if Y0 t then G else frz is G)).bind fun G' => .ok (.nx G')
@[simp] theorem dUnp_cons (st : PyData -> List Sl -> Res (List Sl)) (i : Nat) (is : List Nat) (e : DE) (G : List Sl) : dUnp st (i :: is) e G = (e (frz (i :: is) G)).bind fun t => (st t (if Y0 t then G else frz (i :: is) G)).bind fun G' => .ok (.nx G') := rfl
@[simp] def set2 (i j : Nat) (G : List Sl) : List PyData -> Res Out
 | [x, y] => .ok (.nx ((G.set i (.val x)).set j (.val y)))
 | _ => .stuck
def dPar (i j : Nat) (is : List Nat) (d : DA) : DS := fun G => (d (frz is G)).bind fun ts => set2 i j (if X1 ts then G else frz is G) ts
@[simp] theorem dPar_cons (i j k : Nat) (is : List Nat) (d : DA) (G : List Sl) : dPar i j (k :: is) d G = (d (frz (k :: is) G)).bind fun ts => set2 i j (if X1 ts then G else frz (k :: is) G) ts := rfl
end Fx
namespace Fx
open PySem PySem.Spec PyProof.Rows L2
def LD (o : HO) : Prop := (∃ vs, o = .lst vs) \/ ∃ kvs, o = .dT kvs
def CO (c : Addr) (q : Str) : HO := .ext fun h => ∃ oc vs t, h.get? c = some oc /\ oc.data = .fields vs /\ vs[1]? = some (.str q t)
def lamNames : List Str := ["raising_column"]
def lamQ (x : Str) : Str := x ++ ".<locals>." ++ "<lambda>"
def WR (K : PySem.W.Frag) (H : Hp) : Prop := ∀ x c T, x ∈ lamNames -> PySem.W.tabIn K x = some (c, T) ->
 ∃ ps, H T = some (.tbl ps) /\ TriplesOk ps.toList /\ ∀ pos cv, codeAmong pos ps.toList = some cv -> ∃ c', cv = .ref c' /\ H c' = some (CO c' (lamQ x))
def Nt (o : HO) : Prop := ∀ ps, o ≠ .tbl ps
theorem Ur {xs : List V} : Nt (.lst xs) := fun _ z => by cases z
theorem nt_tup {xs : List V} : Nt (.tup xs) := fun _ z => by cases z
theorem nt_ins {C dx : Addr} {fs : List (Str × V)} : Nt (.ins C dx fs) := fun _ z => by cases z
theorem Jq {o : Obj} {u : HO} : Nt (.frz o u) := fun _ z => by cases z
theorem nt_ext {φ : Heap -> Prop} : Nt (.ext φ) := fun _ z => by cases z
theorem nt_dT {kvs : List (List Key × V)} : Nt (.dT kvs) := fun _ z => by cases z
theorem LD.nt {o : HO} (h : LD o) : Nt o := by rcases h with ⟨_, rfl⟩ | ⟨_, rfl⟩ <;> exact fun _ z => by cases z
structure Same (H H' : Hp) : Prop where
 kp : ∀ b o, H b = some o -> Nt o -> H' b = some o
 free : ∀ {b}, H' b = none -> H b = none
 tab : ∀ K, WR K H -> WR K H'
 tbk : ∀ b ps, H b = some (.tbl ps) -> ∃ qs, H' b = some (.tbl qs)
theorem Same.refl (H : Hp) : Same H H := ⟨fun _ _ h _ => h, fun h => h, fun _ h => h, fun _ ps h => ⟨ps, h⟩⟩
theorem Same.trans {H H1 H2 : Hp} (a : Same H H1) (b : Same H1 H2) : Same H H2 := ⟨fun c o h n => b.kp c o (a.kp c o h n) n, fun h => a.free (b.free h), fun K h => b.tab K (a.tab K h), fun c ps h => let ⟨qs, h1⟩ := a.tbk c ps h; b.tbk c qs h1⟩
theorem WR.mono {K : PySem.W.Frag} {H H' : Hp} (h : WR K H) (e : ∀ b o, H b = some o -> ¬ LD o -> H' b = some o) : WR K H' := fun x c T hx ht => by
 obtain ⟨ps, h1, h2, h3⟩ := h x c T hx ht
 refine ⟨ps, e _ _ h1 (fun z => by rcases z with ⟨_, z⟩ | ⟨_, z⟩ <;> cases z), h2, fun pos cv hc => ?_⟩
 obtain ⟨c', e1, e2⟩ := h3 pos cv hc
 exact ⟨c', e1, e _ _ e2 (fun z => by rcases z with ⟨_, z⟩ | ⟨_, z⟩ <;> cases z)⟩
theorem Same.of {H H' : Hp} (e : ∀ b o, H b = some o -> H' b = some o) : Same H H' where
 kp := fun b o h _ => e b o h
 free := fun {b} h => by
  cases q : H b with
  | none => rfl
  | some o => rw [e b o q] at h; cases h
 tab := fun K h => WR.mono h fun b o q _ => e b o q
 tbk := fun b ps h => ⟨ps, e b _ h⟩
structure Pv where
 own : Nat -> Option Addr
 fb : Addr -> Prop
def Off (P : Pv) (a : Addr) : Prop := (∀ i, P.own i ≠ some a) /\ ¬ P.fb a
def Tr (H : Hp) (P : Pv) (H' : Hp) (P' : Pv) : Prop := ∀ a o, H a = some o -> Nt o -> Off P a -> H' a = some o /\ Off P' a
theorem Tr.same {H H' : Hp} {P : Pv} (e : Same H H') : Tr H P H' P := fun a o h n q => ⟨e.kp a o h n, q⟩
structure Go (H : Hp) (P : Pv) (H' : Hp) (P' : Pv) : Prop where
 mv : ∀ a o, H a = some o -> Nt o -> (∀ i, P.own i ≠ some a) -> H' a = some o /\ ∀ i, P'.own i ≠ some a
 fbe : P'.fb = P.fb
 free : ∀ {b}, H' b = none -> H b = none
 tab : ∀ K, WR K H -> WR K H'
 tbk : ∀ b ps, H b = some (.tbl ps) -> ∃ qs, H' b = some (.tbl qs)
theorem Go.refl (H : Hp) (P : Pv) : Go H P H P := ⟨fun _ _ h _ o => ⟨h, o⟩, rfl, fun h => h, fun _ h => h, fun _ ps h => ⟨ps, h⟩⟩
theorem Go.trans {H H1 H2 : Hp} {P P1 P2 : Pv} (a : Go H P H1 P1) (b : Go H1 P1 H2 P2) : Go H P H2 P2 := ⟨fun c o h n q =>
 let ⟨h1, q1⟩ := a.mv c o h n q
 b.mv c o h1 n q1, b.fbe.trans a.fbe, fun h => a.free (b.free h), fun K h => b.tab K (a.tab K h), fun c ps h => let ⟨qs, h1⟩ := a.tbk c ps h; b.tbk c qs h1⟩
theorem Go.same {H H' : Hp} {P : Pv} (e : Same H H') : Go H P H' P := ⟨fun a o h n q => ⟨e.kp a o h n, q⟩, rfl, fun h => e.free h, e.tab, e.tbk⟩
theorem Go.tr {H H' : Hp} {P P' : Pv} (g : Go H P H' P') : Tr H P H' P' := fun a o h n q => ⟨(g.mv a o h n q.1).1, (g.mv a o h n q.1).2, by rw [g.fbe]; exact q.2⟩
theorem Go.all {H H' : Hp} {P P' : Pv} (g : Go H P H' P') (ho : ∀ i, P.own i = none) : Same H H' := ⟨fun b o e n => (g.mv b o e n fun i => by rw [ho i]; exact fun z => by cases z).1, fun h => g.free h, g.tab, g.tbk⟩
def ModL (K : PySem.W.Frag) (a : Addr) (xs : List V) : Prop :=
 ∃ (o : Obj) (its : Array Value) (n : Nat), K.lookup a = some o /\ o.cls = .type "list" /\ o.dict = none /\ o.data = .seq its n /\ its.size <= sizeLine /\ Vals xs its.toList
def SL (K : PySem.W.Frag) (H : Hp) (P : Pv) (a : Addr) (xs : List V) : Prop := (Rd H a (.lst xs) /\ Off P a) \/ ModL K a xs
def ST (K : PySem.W.Frag) (H : Hp) (P : Pv) (a : Addr) (xs : List V) : Prop := H a = some (.tup xs) /\ Off P a
theorem SL.sq {K : PySem.W.Frag} {H : Hp} {P : Pv} {a : Addr} {xs : List V} (h : SL K H P a xs) : SqL K H a xs := by
 rcases h with ⟨h, _⟩ | h
 ·exact .inl h
 ·exact .inr h
theorem ST.sq {K : PySem.W.Frag} {H : Hp} {P : Pv} {a : Addr} {xs : List V} (h : ST K H P a xs) : SqT K H a xs := .inl (.inl h.1)
theorem Rd.go {H H' : Hp} {P P' : Pv} {a : Addr} {u : HO} (g : Tr H P H' P') (n : Nt u) (h : Rd H a u) (o : Off P a) : Rd H' a u /\ Off P' a := by
 rcases h with h | ⟨ob, h⟩
 ·exact ⟨.inl (g _ _ h n o).1, (g _ _ h n o).2⟩
 ·exact ⟨.inr ⟨ob, (g _ _ h Jq o).1⟩, (g _ _ h Jq o).2⟩
theorem SL.go {K : PySem.W.Frag} {H H' : Hp} {P P' : Pv} {a : Addr} {xs : List V} (g : Tr H P H' P') (h : SL K H P a xs) : SL K H' P' a xs := by
 rcases h with ⟨h, o⟩ | h
 ·exact .inl (Fx.Rd.go g Ur h o)
 ·exact .inr h
theorem ST.go {K : PySem.W.Frag} {H H' : Hp} {P P' : Pv} {a : Addr} {xs : List V} (g : Tr H P H' P') (h : ST K H P a xs) : ST K H' P' a xs := g _ _ h.1 nt_tup h.2
def XO (K : PySem.W.Frag) (a : Addr) : HO := .ext fun h => ∃ ob C, h.get? a = some ob /\ ob.cls = .ref C /\ PySem.W.subIn K (.ref C) (.type "ValueError") = some true
mutual
def Rl (K : PySem.W.Frag) (H : Hp) (P : Pv) : PyData -> V -> Prop
 | .none, v => v = .non
 | .bool b, v => v = .bl b
 | .int i, v => v = .int i
 | .str x, v => v = .str x
 | .list xs, v => ∃ a vs, v = .ref a /\ SL K H P a vs /\ Rls K H P xs vs
 | .tuple xs, v => ∃ a vs, v = .ref a /\ ST K H P a vs /\ Rls K H P xs vs
 | .dict xs, v => (xs = [] /\ ∃ a, v = .ref a /\ H a = some (XO K a) /\ Off P a) \/ (xs ≠ [] /\ ∃ a C dx fs, v = .ref a /\ H a = some (.ins C dx fs) /\ Off P a /\ Cls K C /\ Rlp K H P C xs fs) \/
   ∃ a ob kvs, v = .ref a /\ H a = some (.frz ob (.dT kvs)) /\ Off P a /\ Rld K H P xs kvs
def Rls (K : PySem.W.Frag) (H : Hp) (P : Pv) : List PyData -> List V -> Prop
 | [], vs => vs = []
 | x :: xs, vs => ∃ v r, vs = v :: r /\ Rl K H P x v /\ Rls K H P xs r
def Rlp (K : PySem.W.Frag) (H : Hp) (P : Pv) (C : Addr) : List (PyData × PyData) -> List (Str × V) -> Prop
 | [], fs => fs = []
 | (k, t) :: xs, fs => ∃ n v r, fs = (n, v) :: r /\ k = .str n /\ NoAttr K C n /\ Rl K H P t v /\ Rlp K H P C xs r
def Rld (K : PySem.W.Frag) (H : Hp) (P : Pv) : List (PyData × PyData) -> List (List Key × V) -> Prop
 | [], _ => False
 | (k, t) :: xs, kvs => k = .none /\ t = .none /\ Rlk K H P xs kvs
def Rlk (K : PySem.W.Frag) (H : Hp) (P : Pv) : List (PyData × PyData) -> List (List Key × V) -> Prop
 | [], kvs => kvs = []
 | (k, t) :: xs, kvs => ∃ ns v r, kvs = (List.map Sum.inl ns, v) :: r /\ k = .tuple (List.map .int ns) /\ Rl K H P t v /\ Rlk K H P xs r
end
mutual
theorem Rl.go {K : PySem.W.Frag} {H H' : Hp} {P P' : Pv} (g : Tr H P H' P') : ∀ (t : PyData) (v : V), Rl K H P t v -> Rl K H' P' t v
 | .none, v, h => by simpa only [Rl] using h
 | .bool b, v, h => by simpa only [Rl] using h
 | .int i, v, h => by simpa only [Rl] using h
 | .str x, v, h => by simpa only [Rl] using h
 | .list xs, v, h => by
  simp only [Rl] at h ⊢
  obtain ⟨a, vs, e, s, r⟩ := h
  exact ⟨a, vs, e, s.go g, Rls.go g xs vs r⟩
 | .tuple xs, v, h => by
  simp only [Rl] at h ⊢
  obtain ⟨a, vs, e, s, r⟩ := h
  exact ⟨a, vs, e, s.go g, Rls.go g xs vs r⟩
 | .dict xs, v, h => by
  simp only [Rl] at h ⊢
  rcases h with ⟨e, a, e2, s, o⟩ | ⟨e, a, C, dx, fs, e2, s, o, c, r⟩ | ⟨a, ob, kvs, e2, s, o, r⟩
  ·exact .inl ⟨e, a, e2, g a _ s nt_ext o⟩
  ·exact .inr (.inl ⟨e, a, C, dx, fs, e2, (g a _ s nt_ins o).1, (g a _ s nt_ins o).2, c, Rlp.go g xs fs r⟩)
  ·exact .inr (.inr ⟨a, ob, kvs, e2, (g a _ s Jq o).1, (g a _ s Jq o).2, Rld.go g xs kvs r⟩)
theorem Rls.go {K : PySem.W.Frag} {H H' : Hp} {P P' : Pv} (g : Tr H P H' P') : ∀ (ts : List PyData) (vs : List V), Rls K H P ts vs -> Rls K H' P' ts vs
 | [], vs, h => by simpa only [Rls] using h
 | x :: xs, vs, h => by
  simp only [Rls] at h ⊢
  obtain ⟨v, r, e, q, t⟩ := h
  exact ⟨v, r, e, Rl.go g x v q, Rls.go g xs r t⟩
theorem Rlp.go {K : PySem.W.Frag} {H H' : Hp} {P P' : Pv} {C : Addr} (g : Tr H P H' P') : ∀ (ts : List (PyData × PyData)) (fs : List (Str × V)), Rlp K H P C ts fs -> Rlp K H' P' C ts fs
 | [], vs, h => by simpa only [Rlp] using h
 | (k, t) :: xs, vs, h => by
  simp only [Rlp] at h ⊢
  obtain ⟨n, v, r, e, e2, na, q, z⟩ := h
  exact ⟨n, v, r, e, e2, na, Rl.go g t v q, Rlp.go g xs r z⟩
theorem Rld.go {K : PySem.W.Frag} {H H' : Hp} {P P' : Pv} (g : Tr H P H' P') : ∀ (ts : List (PyData × PyData)) (kvs : List (List Key × V)), Rld K H P ts kvs -> Rld K H' P' ts kvs
 | [], kvs, h => by simp only [Rld] at h
 | (k, t) :: xs, kvs, h => by
  simp only [Rld] at h ⊢
  exact ⟨h.1, h.2.1, Rlk.go g xs kvs h.2.2⟩
theorem Rlk.go {K : PySem.W.Frag} {H H' : Hp} {P P' : Pv} (g : Tr H P H' P') : ∀ (ts : List (PyData × PyData)) (kvs : List (List Key × V)), Rlk K H P ts kvs -> Rlk K H' P' ts kvs
 | [], kvs, h => by simpa only [Rlk] using h
 | (k, t) :: xs, kvs, h => by
  simp only [Rlk] at h ⊢
  obtain ⟨ns, v, r, e, e2, q, z⟩ := h
  exact ⟨ns, v, r, e, e2, Rl.go g t v q, Rlk.go g xs r z⟩
end
section
variable {K : PySem.W.Frag} {H H' : Hp} {P P' : Pv}
theorem X2 {v : V} : Rl K H P .none v ↔ v = .non := by simp only [Rl]
theorem Yt {b : Bool} {v : V} : Rl K H P (.bool b) v ↔ v = .bl b := by simp only [Rl]
theorem ZL {i : Int} {v : V} : Rl K H P (.int i) v ↔ v = .int i := by simp only [Rl]
theorem Z3 {x : Str} {v : V} : Rl K H P (.str x) v ↔ v = .str x := by simp only [Rl]
theorem Z1 {xs : List PyData} {v : V} : Rl K H P (.list xs) v ↔ ∃ a vs, v = .ref a /\ SL K H P a vs /\ Rls K H P xs vs := by simp only [Rl]
theorem Yn {xs : List PyData} {v : V} : Rl K H P (.tuple xs) v ↔ ∃ a vs, v = .ref a /\ ST K H P a vs /\ Rls K H P xs vs := by simp only [Rl]
theorem zaA {xs : List (PyData × PyData)} {v : V} : Rl K H P (.dict xs) v ↔ (xs = [] /\ ∃ a, v = .ref a /\ H a = some (XO K a) /\ Off P a) \/ (xs ≠ [] /\ ∃ a C dx fs, v = .ref a /\ H a = some (.ins C dx fs) /\ Off P a /\ Cls K C /\ Rlp K H P C xs fs) \/ ∃ a ob kvs, v = .ref a /\ H a = some (.frz ob (.dT kvs)) /\ Off P a /\ Rld K H P xs kvs := by simp only [Rl]
theorem rld_nil {kvs : List (List Key × V)} : Rld K H P [] kvs ↔ False := by simp only [Rld]
theorem rl_exc {v : V} : Rl K H P (.dict []) v ↔ ∃ a, v = .ref a /\ H a = some (XO K a) /\ Off P a := by
 rw [zaA]
 refine ⟨fun h => ?_, fun h => .inl ⟨rfl, h⟩⟩
 rcases h with ⟨_, h⟩ | ⟨z, _⟩ | ⟨a, ob, kvs, _, _, _, r⟩
 ·exact h
 ·exact (z rfl).elim
 ·exact (rld_nil.mp r).elim
theorem ZV {vs : List V} : Rls K H P [] vs ↔ vs = [] := by simp only [Rls]
theorem Zx {x : PyData} {xs : List PyData} {vs : List V} : Rls K H P (x :: xs) vs ↔ ∃ v r, vs = v :: r /\ Rl K H P x v /\ Rls K H P xs r := by simp only [Rls]
theorem Rls.length : ∀ {ts : List PyData} {vs : List V}, Rls K H P ts vs -> ts.length = vs.length
 | [], vs, h => by rw [ZV.mp h]; rfl
 | t :: ts, vs, h => by
  obtain ⟨v, r, rfl, _, q⟩ := Zx.mp h
  simp only [List.length_cons, Rls.length q]
theorem Rls.getT : ∀ {ts : List PyData} {vs : List V} {i : Nat} {t : PyData}, Rls K H P ts vs -> ts[i]? = some t -> ∃ v, vs[i]? = some v /\ Rl K H P t v
 | [], vs, i, v, h, e => by simp at e
 | t :: ts, vs, 0, t', h, e => by
  obtain ⟨v', r, rfl, q, _⟩ := Zx.mp h
  simp at e; subst e
  exact ⟨v', rfl, q⟩
 | t :: ts, vs, i + 1, t', h, e => by
  obtain ⟨v', r, rfl, _, q⟩ := Zx.mp h
  exact Rls.getT (i := i) q (by simpa using e)
theorem Rls.append : ∀ {ts us : List PyData} {vs ws : List V}, Rls K H P ts vs -> Rls K H P us ws -> Rls K H P (ts ++ us) (vs ++ ws)
 | [], us, vs, ws, h, q => by rw [ZV.mp h]; exact q
 | t :: ts, us, vs, ws, h, q => by
  obtain ⟨v, r, rfl, a, b⟩ := Zx.mp h
  exact Zx.mpr ⟨v, r ++ ws, rfl, a, Rls.append b q⟩
theorem Rls.set : ∀ {ts : List PyData} {vs : List V} {t : PyData} {v : V} (i : Nat), Rls K H P ts vs -> Rl K H P t v -> Rls K H P (ts.set i t) (vs.set i v)
 | [], vs, t, v, i, h, q => by rw [ZV.mp h]; exact ZV.mpr rfl
 | t' :: ts, vs, t, v, 0, h, q => by
  obtain ⟨v', r, rfl, a, b⟩ := Zx.mp h
  exact Zx.mpr ⟨v, r, rfl, q, b⟩
 | t' :: ts, vs, t, v, i + 1, h, q => by
  obtain ⟨v', r, rfl, a, b⟩ := Zx.mp h
  exact Zx.mpr ⟨v', r.set i v, rfl, a, Rls.set i b q⟩
theorem Rls.drop : ∀ {ts : List PyData} {vs : List V} (n : Nat), Rls K H P ts vs -> Rls K H P (ts.drop n) (vs.drop n)
 | ts, vs, 0, h => h
 | [], vs, n + 1, h => by rw [ZV.mp h]; exact ZV.mpr rfl
 | t :: ts, vs, n + 1, h => by
  obtain ⟨v', r, rfl, a, b⟩ := Zx.mp h
  exact Rls.drop n b
theorem Rls.take : ∀ {ts : List PyData} {vs : List V} (n : Nat), Rls K H P ts vs -> Rls K H P (ts.take n) (vs.take n)
 | ts, vs, 0, h => ZV.mpr rfl
 | [], vs, n + 1, h => by rw [ZV.mp h]; exact ZV.mpr rfl
 | t :: ts, vs, n + 1, h => by
  obtain ⟨v', r, rfl, a, b⟩ := Zx.mp h
  exact Zx.mpr ⟨v', r.take n, rfl, a, Rls.take n b⟩
theorem rls_ints (ns : List Int) : Rls K H P (ns.map .int) (ns.map V.int) := by
 induction ns with
 | nil => exact ZV.mpr rfl
 | cons n ns ih => exact Zx.mpr ⟨.int n, _, rfl, ZL.mpr rfl, ih⟩
end
def SlOk (K : PySem.W.Frag) (H : Hp) (P : Pv) (i : Nat) (x : Option V) : Sl -> Prop
 | .emp => True
 | .val t => ∃ v, x = some v /\ Rl K H P t v
 | .own xs => ∃ p vs, x = some (.ref p) /\ P.own i = some p /\ H p = some (.lst vs) /\ Rls K H P xs vs
 | .dct es => ∃ p kvs, x = some (.ref p) /\ P.own i = some p /\ H p = some (.dT kvs) /\ Rlk K H P es kvs
def Sl.mine : Sl -> Prop
 | .own _ | .dct _ => True
 | _ => False
structure Hol (K : PySem.W.Frag) (H : Hp) (P : Pv) (σ : L2.St) (G : List Sl) : Prop where
 sl : ∀ i s, G[i]? = some s -> SlOk K H P i (σ.getD i none) s
 inj : ∀ i j a, P.own i = some a -> P.own j = some a -> i = j
 only : ∀ i a, P.own i = some a -> ∃ s, G[i]? = some s /\ s.mine
 fbd : ∀ a, P.fb a -> ∃ o, H a = some o /\ LD o
 nfb : ∀ i a, P.own i = some a -> ¬ P.fb a
 len : σ.length = G.length
 tab : WR K H
theorem getD_some {σ : L2.St} {i : Nat} {v : V} (h : σ.getD i none = some v) : σ[i]? = some (some v) := by
 rw [List.getD_eq_getElem?_getD] at h
 cases e : σ[i]? with
 | none => rw [e] at h; cases h
 | some x => rw [e] at h; simp at h; rw [h]
section
variable {K : PySem.W.Frag} {H H' : Hp} {P P' : Pv} {σ : L2.St} {G : List Sl}
theorem Hol.dom (h : Hol K H P σ G) {i : Nat} {a : Addr} (e : P.own i = some a) : ∃ o, H a = some o /\ LD o := by
 obtain ⟨s, q, m⟩ := h.only i a e
 have z := h.sl i _ q
 cases s with
 | emp => exact m.elim
 | val t => exact m.elim
 | own xs =>
  obtain ⟨p, vs, _, e', q', _⟩ := z
  rw [e] at e'; cases e'
  exact ⟨_, q', .inl ⟨vs, rfl⟩⟩
 | dct es =>
  obtain ⟨p, vs, _, e', q', _⟩ := z
  rw [e] at e'; cases e'
  exact ⟨_, q', .inr ⟨vs, rfl⟩⟩
theorem Hol.nofb (h : Hol K H P σ G) {p : Addr} (e : H p = none) : ¬ P.fb p := fun z => by obtain ⟨o, q, _⟩ := h.fbd p z; rw [e] at q; cases q
theorem Hol.off_new (h : Hol K H P σ G) {p : Addr} (e : H p = none) : Off P p := by
 refine ⟨fun i z => ?_, h.nofb e⟩
 obtain ⟨vs, q, _⟩ := h.dom z
 rw [e] at q
 cases q
theorem Hol.ld (h : Hol K H P σ G) {a : Addr} (z : ¬ Off P a) : ∃ o, H a = some o /\ LD o := by
 by_cases q : ∃ i, P.own i = some a
 ·obtain ⟨i, q⟩ := q; exact h.dom q
 ·by_cases w : P.fb a
  ·exact h.fbd a w
  ·exact (z ⟨fun i e => q ⟨i, e⟩, w⟩).elim
theorem Hol.same (h : Hol K H P σ G) (e : Same H H') : Hol K H' P σ G where
 sl := fun i s q => by
  have z := h.sl i s q
  cases s with
  | emp => trivial
  | val t => obtain ⟨v, e1, r⟩ := z; exact ⟨v, e1, Rl.go (.same e) t v r⟩
  | own xs => obtain ⟨p, vs, e1, e2, e3, r⟩ := z; exact ⟨p, vs, e1, e2, e.kp _ _ e3 Ur, Rls.go (.same e) xs vs r⟩
  | dct es => obtain ⟨p, vs, e1, e2, e3, r⟩ := z; exact ⟨p, vs, e1, e2, e.kp _ _ e3 nt_dT, Rlk.go (.same e) es vs r⟩
 inj := h.inj
 only := h.only
 fbd := fun a z => let ⟨o, q, m⟩ := h.fbd a z; ⟨o, e.kp _ _ q m.nt, m⟩
 nfb := h.nfb
 len := h.len
 tab := e.tab K h.tab
def Pv.del (P : Pv) (i : Nat) : Pv := ⟨fun j => if j = i then none else P.own j, P.fb⟩
def Pv.put (P : Pv) (i : Nat) (p : Addr) : Pv := ⟨fun j => if j = i then some p else P.own j, P.fb⟩
theorem Tr.del {i : Nat} : Tr H P H (P.del i) := fun a o h _ q => ⟨h, fun j z => by
 have z' : (if j = i then none else P.own j) = some a := z
 split at z'
 ·cases z'
 ·exact q.1 j z', q.2⟩
theorem Go.del {i : Nat} : Go H P H (P.del i) := ⟨fun a o h _ q => ⟨h, fun j z => by
 have z' : (if j = i then none else P.own j) = some a := z
 split at z'
 ·cases z'
 ·exact q j z'⟩, rfl, fun h => h, fun _ h => h, fun _ ps h => ⟨ps, h⟩⟩
theorem Go.put {i : Nat} {p : Addr} (hp : H p = none) : Go H P H (P.put i p) := ⟨fun a o h _ q => ⟨h, fun j z => by
 have z' : (if j = i then some p else P.own j) = some a := z
 split at z'
 ·cases z'; rw [hp] at h; cases h
 ·exact q j z'⟩, rfl, fun h => h, fun _ h => h, fun _ ps h => ⟨ps, h⟩⟩
theorem W4 {σ : L2.St} {i : Nat} {x : Option V} (h : i < σ.length) : (σ.set i x).getD i none = x := by
 rw [List.getD_eq_getElem?_getD, List.getElem?_set_self h]; rfl
theorem WK {σ : L2.St} {i j : Nat} {x : Option V} (h : j ≠ i) : (σ.set i x).getD j none = σ.getD j none := by
 rw [List.getD_eq_getElem?_getD, List.getD_eq_getElem?_getD, List.getElem?_set_ne (Ne.symm h)]
theorem Hol.setVal (h : Hol K H P σ G) (i : Nat) {t : PyData} {v : V} (r : Rl K H P t v) : Hol K H (P.del i) (σ.set i (some v)) (G.set i (.val t)) where
 sl := fun j s q => by
  by_cases e : j = i
  ·subst e
   have hl : j < G.length := by
    have := (List.getElem?_eq_some_iff.mp q).1
    simpa using this
   rw [List.getElem?_set_self hl] at q
   cases q
   refine ⟨v, ?_, Rl.go .del t v r⟩
   exact W4 (by rw [h.len]; exact hl)
  ·rw [List.getElem?_set_ne (Ne.symm e)] at q
   have z := h.sl j s q
   rw [WK e]
   cases s with
   | emp => trivial
   | val t' => obtain ⟨v', e1, r'⟩ := z; exact ⟨v', e1, Rl.go .del t' v' r'⟩
   | own xs => obtain ⟨p, vs, e1, e2, e3, r'⟩ := z; exact ⟨p, vs, e1, (by show (if j = i then none else P.own j) = _; rw [if_neg e]; exact e2), e3, Rls.go .del xs vs r'⟩
   | dct es => obtain ⟨p, vs, e1, e2, e3, r'⟩ := z; exact ⟨p, vs, e1, (by show (if j = i then none else P.own j) = _; rw [if_neg e]; exact e2), e3, Rlk.go .del es vs r'⟩
 inj := fun a b c h1 h2 => by
  have h1' : (if a = i then none else P.own a) = some c := h1
  have h2' : (if b = i then none else P.own b) = some c := h2
  split at h1'
  ·cases h1'
  ·split at h2'
   ·cases h2'
   ·exact h.inj a b c h1' h2'
 only := fun j a z => by
  have z' : (if j = i then none else P.own j) = some a := z
  split at z'
  ·cases z'
  ·rename_i ne
   obtain ⟨xs, q, m⟩ := h.only j a z'
   exact ⟨xs, by rw [List.getElem?_set_ne (Ne.symm ne)]; exact q, m⟩
 fbd := h.fbd
 nfb := fun j a z => by
  have z' : (if j = i then none else P.own j) = some a := z
  split at z'
  ·cases z'
  ·exact h.nfb j a z'
 len := by rw [List.length_set, List.length_set]; exact h.len
 tab := h.tab
theorem ZX {p : Addr} {o : HO} (h : H p = none) : Same H (upd H p o) := .of fun b u q => by rw [Zz (ZO q h)]; exact q
theorem Hol.upOwn (h : Hol K H P σ G) {i : Nat} {ys xs : List PyData} {vs : List V} {p : Addr} (hi : G[i]? = some (.own ys)) (hp : P.own i = some p) (r : Rls K H P xs vs) : Hol K (upd H p (.lst vs)) P σ (G.set i (.own xs)) /\ Go H P (upd H p (.lst vs)) P := by
 have hpl := h.dom hp
 have g0 : Go H P (upd H p (.lst vs)) P := ⟨fun a o e _ q => ⟨by rw [Zz (fun z => q i (by rw [z]; exact hp))]; exact e, q⟩, rfl, fun {b} w => by
  by_cases z : b = p
  ·rw [z, ZS] at w; cases w
  ·rw [Zz z] at w; exact w, fun K t => WR.mono t fun b o e nl => by
  rw [Zz (fun z => by obtain ⟨us, w, m⟩ := hpl; rw [z, w] at e; cases e; exact nl m)]; exact e, fun b ps e => ⟨ps, by rw [Zz (fun z => by obtain ⟨us, w, m⟩ := hpl; rw [z, w] at e; cases e; rcases m with ⟨_, m⟩ | ⟨_, m⟩ <;> cases m)]; exact e⟩⟩
 have gg := g0.tr
 have hl : i < G.length := (List.getElem?_eq_some_iff.mp hi).1
 refine ⟨⟨fun j s q => ?_, h.inj, fun j a z => ?_, fun a z => ?_, h.nfb, by rw [List.length_set]; exact h.len, g0.tab K h.tab⟩, g0⟩
 ·by_cases e : j = i
  ·subst e
   rw [List.getElem?_set_self hl] at q
   cases q
   obtain ⟨p', vs', e1, e2, _, _⟩ := h.sl j _ hi
   rw [hp] at e2; cases e2
   exact ⟨p, vs, e1, hp, ZS, Rls.go gg xs vs r⟩
  ·rw [List.getElem?_set_ne (Ne.symm e)] at q
   have z := h.sl j s q
   cases s with
   | emp => trivial
   | val t' => obtain ⟨v', e1, r'⟩ := z; exact ⟨v', e1, Rl.go gg t' v' r'⟩
   | own xs' =>
    obtain ⟨p', vs', e1, e2, e3, r'⟩ := z
    refine ⟨p', vs', e1, e2, ?_, Rls.go gg xs' vs' r'⟩
    rw [Zz (fun z => e (h.inj j i p' e2 (by rw [z]; exact hp)))]
    exact e3
   | dct xs' =>
    obtain ⟨p', vs', e1, e2, e3, r'⟩ := z
    refine ⟨p', vs', e1, e2, ?_, Rlk.go gg xs' vs' r'⟩
    rw [Zz (fun z => e (h.inj j i p' e2 (by rw [z]; exact hp)))]
    exact e3
 ·by_cases e : j = i
  ·subst e; exact ⟨_, List.getElem?_set_self hl, trivial⟩
  ·obtain ⟨xs', q, m⟩ := h.only j a z
   exact ⟨xs', by rw [List.getElem?_set_ne (Ne.symm e)]; exact q, m⟩
 ·rw [Zz (fun e => h.nfb i p hp (by rw [<- e]; exact z))]
  exact h.fbd a z
end
section
variable {K : PySem.W.Frag} {H H' : Hp} {P P' : Pv} {σ : L2.St} {G : List Sl}
theorem Hol.frz1 (h : Hol K H P σ G) (i : Nat) : ∃ P', Hol K H P' σ (Fx.frz1 G i) /\ Go H P H P' := by
 unfold Fx.frz1
 split
 ·rename_i xs q
  obtain ⟨p, vs, e1, e2, e3, r⟩ := h.sl i _ q
  have off : Off (P.del i) p := ⟨fun j z => by
   have z' : (if j = i then none else P.own j) = some p := z
   split at z'
   ·cases z'
   ·rename_i ne; exact ne (h.inj j i p z' e2), h.nfb i p e2⟩
  have r0 : Rl K H (P.del i) (.list xs) (.ref p) := Z1.mpr ⟨p, vs, rfl, .inl ⟨.inl e3, off⟩, Rls.go .del xs vs r⟩
  refine ⟨P.del i, ⟨fun j s z => ?_, ?_, ?_, h.fbd, ?_, by rw [List.length_set]; exact h.len, h.tab⟩, .del⟩
  ·by_cases e : j = i
   ·subst e
    rw [List.getElem?_set_self (List.getElem?_eq_some_iff.mp q).1] at z
    cases z
    exact ⟨.ref p, e1, r0⟩
   ·rw [List.getElem?_set_ne (Ne.symm e)] at z
    have z := h.sl j s z
    cases s with
    | emp => trivial
    | val t' => obtain ⟨v', e1, r'⟩ := z; exact ⟨v', e1, Rl.go .del t' v' r'⟩
    | own xs => obtain ⟨p, vs, e1, e2, e3, r'⟩ := z; exact ⟨p, vs, e1, (by show (if j = i then none else P.own j) = _; rw [if_neg e]; exact e2), e3, Rls.go .del xs vs r'⟩
    | dct es => obtain ⟨p, vs, e1, e2, e3, r'⟩ := z; exact ⟨p, vs, e1, (by show (if j = i then none else P.own j) = _; rw [if_neg e]; exact e2), e3, Rlk.go .del es vs r'⟩
  ·intro a b c h1 h2
   have h1' : (if a = i then none else P.own a) = some c := h1
   have h2' : (if b = i then none else P.own b) = some c := h2
   split at h1'
   ·cases h1'
   ·split at h2'
    ·cases h2'
    ·exact h.inj a b c h1' h2'
  ·intro j a z
   have z' : (if j = i then none else P.own j) = some a := z
   split at z'
   ·cases z'
   ·rename_i ne
    obtain ⟨xs, q, m⟩ := h.only j a z'
    exact ⟨xs, by rw [List.getElem?_set_ne (Ne.symm ne)]; exact q, m⟩
  ·intro j a z
   have z' : (if j = i then none else P.own j) = some a := z
   split at z'
   ·cases z'
   ·exact h.nfb j a z'
 ·exact ⟨P, h, .refl _ _⟩
theorem Hol.frz (is : List Nat) : ∀ {P : Pv} {G : List Sl}, Hol K H P σ G -> ∃ P', Hol K H P' σ (Fx.frz is G) /\ Go H P H P' := by
 induction is with
 | nil => exact fun {P G} h => ⟨P, h, .refl _ _⟩
 | cons i is ih =>
  intro P G h
  obtain ⟨P1, h1, g1⟩ := h.frz1 i
  obtain ⟨P2, h2, g2⟩ := ih h1
  exact ⟨P2, h2, g1.trans g2⟩
theorem Wz : ∀ (G : List Sl) (i : Nat), (frzA G)[i]? = (G[i]?).map fun s => match s with | .own xs => .val (.list xs) | .dct _ => .emp | s => s
 | [], i => by simp [frzA]
 | .own xs :: r, 0 => by simp [frzA]
 | .emp :: r, 0 => by simp [frzA]
 | .val t :: r, 0 => by simp [frzA]
 | .dct t :: r, 0 => by simp [frzA]
 | .own xs :: r, i + 1 => by simp [frzA, Wz r i]
 | .emp :: r, i + 1 => by simp [frzA, Wz r i]
 | .val t :: r, i + 1 => by simp [frzA, Wz r i]
 | .dct t :: r, i + 1 => by simp [frzA, Wz r i]
theorem Xp : ∀ (G : List Sl), (frzA G).length = G.length
 | [] => rfl
 | .own xs :: r => by simp [frzA, Xp r]
 | .emp :: r => by simp [frzA, Xp r]
 | .val t :: r => by simp [frzA, Xp r]
 | .dct t :: r => by simp [frzA, Xp r]
def Pv.bare (P : Pv) : Pv := ⟨fun _ => none, P.fb⟩
theorem Hol.frzA (h : Hol K H P σ G) : Hol K H P.bare σ (Fx.frzA G) /\ Go H P H P.bare := by
 have g0 : Go H P H P.bare := ⟨fun a o e _ q => ⟨e, fun _ z => (by cases z)⟩, rfl, fun h => h, fun _ h => h, fun _ ps h => ⟨ps, h⟩⟩
 have gg := g0.tr
 refine ⟨⟨fun j s z => ?_, fun _ _ _ z => (by cases z), fun _ _ z => (by cases z), h.fbd, fun _ _ z => (by cases z), by rw [Xp]; exact h.len, h.tab⟩, g0⟩
 rw [Wz] at z
 cases q : G[j]? with
 | none => rw [q] at z; cases z
 | some s' =>
  rw [q] at z
  have w := h.sl j s' q
  cases s' with
  | emp => cases z; trivial
  | val t => cases z; obtain ⟨v, e, r⟩ := w; exact ⟨v, e, Rl.go gg t v r⟩
  | dct t => cases z; trivial
  | own xs =>
   cases z
   obtain ⟨p, vs, e1, e2, e3, r⟩ := w
   exact ⟨.ref p, e1, Z1.mpr ⟨p, vs, rfl, .inl ⟨.inl e3, fun _ z => (by cases z), h.nfb j p e2⟩, Rls.go gg xs vs r⟩⟩
end
end Fx
namespace Fx
open PySem PySem.Spec PyProof.Rows L2
def Yh (K : PySem.W.Frag) (W : Str -> Hp -> Prop) (H : Hp) (P : Pv) (r : Res PyData) (Q : VK) : Prop :=
 match r with
 | .ok t => ∀ v H', Same H H' -> Rl K H' P t v -> Q v H'
 | .exc c => ∀ H', Same H H' -> W c H'
 | .stuck => False
def tF (K : PySem.W.Frag) (W : Str -> Hp -> Prop) (d : DE) : TE := fun σ H Q => ∃ G P, Hol K H P σ G /\ Yh K W H P (d G) Q
def zah (K : PySem.W.Frag) (W : Str -> Hp -> Prop) (H : Hp) (P : Pv) (r : Res (List PyData)) (Q : List V -> Hp -> Prop) : Prop :=
 match r with
 | .ok ts => ∀ vs H', Same H H' -> Rls K H' P ts vs -> Q vs H'
 | .exc c => ∀ H', Same H H' -> W c H'
 | .stuck => False
def tFA (K : PySem.W.Frag) (W : Str -> Hp -> Prop) (d : DA) : TA := fun σ H Q => ∃ G P, Hol K H P σ G /\ zah K W H P (d G) Q
def Ua (W : Str -> Hp -> Prop) (H : Hp) (r : Res Bool) (Q : Bool -> Hp -> Prop) : Prop :=
 match r with
 | .ok b => ∀ H', Same H H' -> Q b H'
 | .exc c => ∀ H', Same H H' -> W c H'
 | .stuck => False
def tFT (K : PySem.W.Frag) (W : Str -> Hp -> Prop) (d : DT) : TT := fun σ H Q => ∃ G P, Hol K H P σ G /\ Ua W H (d G) Q
def Pv.fbd (P : Pv) (p : Addr) : Pv := ⟨P.own, fun a => P.fb a \/ a = p⟩
def NewL (K : PySem.W.Frag) (H : Hp) (P : Pv) (H' : Hp) (P' : Pv) (t : PyData) (v : V) : Prop :=
 ∃ p us xs, v = .ref p /\ t = .list xs /\ H' p = some (.lst us) /\ Rls K H' (P'.fbd p) xs us /\ ∀ o, H p = some o -> Nt o -> ∃ i, P.own i = some p
theorem NewL.back {K : PySem.W.Frag} {H H1 H' : Hp} {P P1 P' : Pv} {t : PyData} {v : V} (g : Go H P H1 P1) (n : NewL K H1 P1 H' P' t v) : NewL K H P H' P' t v := by
 obtain ⟨p, us, xs, e1, e2, e3, r, q⟩ := n
 refine ⟨p, us, xs, e1, e2, e3, r, fun o e nt => Classical.byContradiction fun z => ?_⟩
 have := g.mv p o e nt fun i w => z ⟨i, w⟩
 obtain ⟨i, w⟩ := q o this.1 nt
 exact this.2 i w
def X0 (K : PySem.W.Frag) (W : Str -> Hp -> Prop) (fl : Bool) (H : Hp) (P : Pv) (r : Res Out) (D : Ends) : Prop :=
 match r with
 | .ok (.nx G') => ∀ σ' H' P', Go H P H' P' -> Hol K H' P' σ' G' -> D.nx σ' H'
 | .ok (.bk G') => ∀ σ' H' P', Go H P H' P' -> Hol K H' P' σ' G' -> D.bk σ' H'
 | .ok (.ct G') => ∀ σ' H' P', Go H P H' P' -> Hol K H' P' σ' G' -> D.ct σ' H'
 | .ok (.rt t) => ∀ v H' P', Go H P H' P' -> Rl K H' P' t v -> (fl = true -> NewL K H P H' P' t v) -> D.rt v H'
 | .exc c => ∀ H' P', Go H P H' P' -> W c H'
 | .stuck => False
def tFS (K : PySem.W.Frag) (W : Str -> Hp -> Prop) (fl : Bool) (d : DS) : TS := fun D σ H => ∃ G P, Hol K H P σ G /\ X0 K W fl H P (d G) D
def EV (X : Cx) (W : Str -> Hp -> Prop) (e : Expr) (d : DE) : Prop := PE X e (tF X.K W d)
def AV (X : Cx) (W : Str -> Hp -> Prop) (es : List Expr) (d : DA) : Prop := PA X es (tFA X.K W d)
def TV (X : Cx) (W : Str -> Hp -> Prop) (e : Expr) (d : DT) : Prop := PT X e (tFT X.K W d)
def TW (X : Cx) (W : Str -> Hp -> Prop) (e : Expr) (d : DT) : Prop := PW X e (tFT X.K W d)
def SV (X : Cx) (W : Str -> Hp -> Prop) (fl : Bool) (st : Stmt) (d : DS) : Prop := PS X st (tFS X.K W fl d)
def SVs (X : Cx) (W : Str -> Hp -> Prop) (fl : Bool) (st : List Stmt) (d : DS) : Prop := PSs X st (tFS X.K W fl d)
theorem Zp {X : Cx} {e : Expr} {t t' : TE} (h : PE X e t) (w : ∀ σ H Q, t' σ H Q -> t σ H Q) : PE X e t' := fun pins s σ H Q I q => h pins s σ H Q I (w σ H Q q)
theorem zaI {X : Cx} {e : List Expr} {t t' : TA} (h : PA X e t) (w : ∀ σ H Q, t' σ H Q -> t σ H Q) : PA X e t' := fun pos pins s σ H Q I q => h pos pins s σ H Q I (w σ H Q q)
theorem QV {X : Cx} {e : Expr} {t t' : TT} (h : PT X e t) (w : ∀ σ H Q, t' σ H Q -> t σ H Q) : PT X e t' := fun pins s σ H Q I q => h pins s σ H Q I (w σ H Q q)
theorem zaC {X : Cx} {e : Expr} {t t' : TT} (h : PW X e t) (w : ∀ σ H Q, t' σ H Q -> t σ H Q) : PW X e t' := fun wh pins s σ H Q I q => h wh pins s σ H Q I (w σ H Q q)
theorem XH {X : Cx} {e : Stmt} {t t' : TS} (h : PS X e t) (w : ∀ D σ H, t' D σ H -> t D σ H) : PS X e t' := fun pins s σ H D I q => h pins s σ H D I (w D σ H q)
theorem Jm {X : Cx} {e : List Stmt} {t t' : TS} (h : PSs X e t) (w : ∀ D σ H, t' D σ H -> t D σ H) : PSs X e t' := fun pins s σ H D I q => h pins s σ H D I (w D σ H q)
theorem Zq {K : PySem.W.Frag} {W : Str -> Hp -> Prop} {σ : L2.St} {G : List Sl} {H : Hp} {P : Pv} {a : DE} (h : Hol K H P σ G) {Q : VK}
  (hx : ∀ c, a G = .exc c -> ∀ H', Same H H' -> W c H') (hs : a G ≠ .stuck)
  (q : ∀ t v H', a G = .ok t -> Same H H' -> Hol K H' P σ G -> Rl K H' P t v -> Q v H') : tF K W a σ H Q := by
 refine ⟨G, P, h, ?_⟩
 unfold Yh
 cases e : a G with
 | ok t => exact fun v H' s r => q t v H' e s (h.same s) r
 | exc c => exact hx c e
 | stuck => exact hs e
theorem Ws {K : PySem.W.Frag} {W : Str -> Hp -> Prop} {σ : L2.St} {G : List Sl} {H : Hp} {P : Pv} {a : DT} (h : Hol K H P σ G) {Q : Bool -> Hp -> Prop}
  (hx : ∀ c, a G = .exc c -> ∀ H', Same H H' -> W c H') (hs : a G ≠ .stuck)
  (q : ∀ t H', a G = .ok t -> Same H H' -> Hol K H' P σ G -> Q t H') : tFT K W a σ H Q := by
 refine ⟨G, P, h, ?_⟩
 unfold Ua
 cases e : a G with
 | ok t => exact fun H' s => q t H' e s (h.same s)
 | exc c => exact hx c e
 | stuck => exact hs e
theorem WV {K : PySem.W.Frag} {W : Str -> Hp -> Prop} {σ : L2.St} {G : List Sl} {H : Hp} {P : Pv} {a : DA} (h : Hol K H P σ G) {Q : List V -> Hp -> Prop}
  (hx : ∀ c, a G = .exc c -> ∀ H', Same H H' -> W c H') (hs : a G ≠ .stuck)
  (q : ∀ t v H', a G = .ok t -> Same H H' -> Hol K H' P σ G -> Rls K H' P t v -> Q v H') : tFA K W a σ H Q := by
 refine ⟨G, P, h, ?_⟩
 unfold zah
 cases e : a G with
 | ok t => exact fun v H' s r => q t v H' e s (h.same s) r
 | exc c => exact hx c e
 | stuck => exact hs e
section
variable {X : Cx} {W : Str -> Hp -> Prop} {a b c e : Expr} {es : List Expr} {da db : DE} {pos : Pos}
theorem Za (i : Nat) {x : Str} {pos : Pos} (hN : X.N[i]? = some x := by rfl) (hv : Vis X.env.scope x := by first | exact Or.inl rfl | exact Or.inr (Or.inl rfl) | exact Or.inr (Or.inr rfl)) (hd : (x == ("__debug__" : Str)) = false := by decide)
  (hcd : (x == ("__classdict__" : Str)) = false := by decide) : EV X W (.Name x pos) (dVar i) :=
 Zp (Qp hN hv hd hcd) fun σ H Q ⟨G, P, h, q⟩ => by
  unfold dVar at q
  cases e : G[i]? with
  | none => rw [e] at q; exact q.elim
  | some s =>
   rw [e] at q
   cases s with
   | emp => exact q.elim
   | own xs => exact q.elim
   | dct xs => exact q.elim
   | val t =>
    obtain ⟨v, e1, r⟩ := h.sl i _ e
    exact ⟨v, getD_some e1, q v H (Same.refl H) r⟩
theorem Zf {i j pos} : EV X W (.Constant (.int i) j pos) (dC (.int i)) := Zp pe_int fun σ H Q ⟨G, P, h, q⟩ => q _ H (Same.refl H) (ZL.mpr rfl)
theorem ev_bl {b j pos} : EV X W (.Constant (.bool b) j pos) (dC (.bool b)) := Zp pe_bl fun σ H Q ⟨G, P, h, q⟩ => q _ H (Same.refl H) (Yt.mpr rfl)
theorem V4 {j pos} : EV X W (.Constant .none j pos) (dC .none) := Zp pe_non fun σ H Q ⟨G, P, h, q⟩ => q _ H (Same.refl H) (X2.mpr rfl)
theorem Zk {x j pos} : EV X W (.Constant (.str x) j pos) (dC (.str x)) := Zp pe_str fun σ H Q ⟨G, P, h, q⟩ => q _ H (Same.refl H) (Z3.mpr rfl)
theorem VM {x : Str} {i : Int} {t : Tok} {pos : Pos} (hg : Gl X x) (hm : X.mg x = some (.int i t)) (hd : (x == ("__debug__" : Str)) = false := by decide) : EV X W (.Name x pos) (dC (.int i)) :=
 Zp (zaG (v := .int i) hg hm ⟨t, rfl⟩ hd) fun σ H Q ⟨G, P, h, q⟩ => q _ H (Same.refl H) (ZL.mpr rfl)
def Fop (X : Cx) (W : Str -> Hp -> Prop) (r : R2) (f : PyData -> PyData -> Res PyData) : Prop :=
 ∀ (H : Hp) (P : Pv) (σ : L2.St) (G : List Sl) (x y : V) (tx ty : PyData) (Q : VK), Hol X.K H P σ G -> Rl X.K H P tx x -> Rl X.K H P ty y -> Yh X.K W H P (f tx ty) Q -> r x y H Q
theorem Wo {a : Res PyData} {f : PyData -> Res PyData} {K : PySem.W.Frag} {H : Hp} {P : Pv} {Q : VK} (q : Yh K W H P (a.bind f) Q) :
  (∀ c, a = .exc c -> ∀ H', Same H H' -> W c H') /\ a ≠ .stuck /\ ∀ t, a = .ok t -> Yh K W H P (f t) Q := by
 cases a with
 | ok t => exact ⟨fun c e => (by cases e), (by intro e; cases e), fun t' e => by cases e; exact q⟩
 | exc c => exact ⟨fun c' e => by cases e; exact q, (by intro e; cases e), fun t e => by cases e⟩
 | stuck => exact q.elim
theorem Yh.up {K : PySem.W.Frag} {H H' : Hp} {P : Pv} {r : Res PyData} {Q : VK} (q : Yh K W H P r Q) (s : Same H H') : Yh K W H' P r Q := by
 cases r with
 | ok t => exact fun v H2 s2 r2 => q v H2 (s.trans s2) r2
 | exc c => exact fun H2 s2 => q H2 (s.trans s2)
 | stuck => exact q
theorem Qa {r : R2} {f : PyData -> PyData -> Res PyData} (hf : Fop X W r f) {σ : L2.St} {H : Hp} {Q : VK} (h : tF X.K W (d2 f da db) σ H Q) : tOp r (tF X.K W da) (tF X.K W db) σ H Q := by
 obtain ⟨G, P, h, q⟩ := h
 unfold d2 at q
 obtain ⟨q1, q2, q3⟩ := Wo q
 refine Zq h q1 q2 fun tx x H1 ex s1 h1 rx => ?_
 obtain ⟨q4, q5, q6⟩ := Wo (q3 tx ex)
 refine Zq h1 (fun c e H' s => q4 c e H' (s1.trans s)) q5 fun ty y H2 ey s2 h2 ry => ?_
 exact hf H2 P σ G x y tx ty Q h2 (Rl.go (.same s2) tx x rx) ry ((q6 ty ey).up (s1.trans s2))
theorem ZC {op : Operator} {r : R2} {f : PyData -> PyData -> Res PyData} (ho : OpR X (binaryOp op) r /\ Fop X W r f) (ha : EV X W a da) (hb : EV X W b db) : EV X W (.BinOp a op b pos) (d2 f da db) :=
 Zp (pe_op ho.1 ha hb) fun σ H Q h => Qa ho.2 h
theorem JG {op : CmpOp} {r : R2} {f : PyData -> PyData -> Res PyData} (ho : OpR X (compareOp op) r /\ Fop X W r f) (ha : EV X W a da) (hb : EV X W b db) (hm : behindInMarks op b = false) : EV X W (.Compare a [op] [b] pos) (d2 f da db) :=
 Zp (pe_cmpR ho.1 ha hb hm) fun σ H Q h => Qa ho.2 h
theorem JD {C : Int -> Int -> Prop} {g : Int -> Int -> V} {f : PyData -> PyData -> Res PyData}
  (h : ∀ (H : Hp) (P : Pv) (tx ty : PyData) (Q : VK), Yh X.K W H P (f tx ty) Q -> ∃ i j, tx = .int i /\ ty = .int j /\ C i j /\ Q (g i j) H) : Fop X W (rI C g) f := fun H P σ G x y tx ty Q hh rx ry q => by
 obtain ⟨i, j, rfl, rfl, c, q'⟩ := h H P tx ty Q q
 exact ⟨i, j, ZL.mp rx, ZL.mp ry, c, q'⟩
theorem V1 {g : Int -> Int -> V} {f : PyData -> PyData -> Res PyData}
  (h : ∀ (H : Hp) (P : Pv) (tx ty : PyData) (Q : VK), Yh X.K W H P (f tx ty) Q -> ∃ i j, tx = .int i /\ ty = .int j /\ Q (g i j) H) : Fop X W (rI0 g) f := fun H P σ G x y tx ty Q hh rx ry q => by
 obtain ⟨i, j, rfl, rfl, q'⟩ := h H P tx ty Q q
 exact ⟨i, j, ZL.mp rx, ZL.mp ry, q'⟩
theorem ZT {K : PySem.W.Frag} {H : Hp} {P : Pv} {Q : VK} {i : Int} (q : Yh K W H P (.ok (.int i)) Q) : Q (.int i) H := q _ H (Same.refl H) (ZL.mpr rfl)
theorem ZM {K : PySem.W.Frag} {H : Hp} {P : Pv} {Q : VK} {i : Bool} (q : Yh K W H P (.ok (.bool i)) Q) : Q (.bl i) H := q _ H (Same.refl H) (Yt.mpr rfl)
theorem SL.off {K : PySem.W.Frag} {H : Hp} {P : Pv} {a : Addr} {xs : List V} (h : H a = some (.lst xs)) (o : Off P a) : SL K H P a xs := .inl ⟨.inl h, o⟩
def rCatS (K : PySem.W.Frag) : R2 := fun x y H Q => ∃ l b xs zs, x = .ref l /\ y = .ref b /\ SqL K H l xs /\ SqL K H b zs /\ xs.length + zs.length <= sizeLine /\ ∀ p, H p = none -> Q (.ref p) (upd H p (.lst (xs ++ zs)))
theorem op_catS : OpR X (binaryOp .Add) (rCatS X.K) := by
 intro pins s σ H x y v u Q I rx ry h
 obtain ⟨l, b, xs, zs, rfl, rfl, hH, hB, hz, q⟩ := h
 cases rx
 cases ry
 obtain ⟨its, r, ⟨o, n, e, hc, hd, hs⟩, z⟩ := I.list hH
 obtain ⟨its2, r2, ⟨o2, n2, e2, hc2, hd2, hs2⟩, z2⟩ := I.list hB
 obtain ⟨c1, c2, c3, c4⟩ := o
 obtain ⟨k1, k2, k3, k4⟩ := o2
 simp only at hc hd hs hc2 hd2 hs2
 subst hc hd hs hc2 hd2 hs2
 have l1 := r.length
 have l2 := r2.length
 refine concat_meets ⟨_, e, rfl⟩ ⟨_, e2, rfl⟩ noFill_list_add seq_list_add PySem.F.slot_list_add PySem.F.entry_list_add (PySem.F.args_list_add_2 _ _) (list_addW l b its.toArray its2.toArray n n2 none none c4 k4 (by simp; omega)) ⟨e, e2, ?_⟩
 have ea : its.toArray ++ its2.toArray = (its ++ its2).toArray := by simp
 rw [ea]
 exact ⟨.ref _, _, I.lnew (t' := s.toks) (r.append r2) (by rw [List.length_append]; omega), rfl, q _ I.fresh⟩
theorem Yp : OpR X (binaryOp .Add) (fun x y H Q => rI0 (fun i j => .int (i + j)) x y H Q \/ rCatS X.K x y H Q) /\ Fop X W (fun x y H Q => rI0 (fun i j => .int (i + j)) x y H Q \/ rCatS X.K x y H Q) fAdd :=
 ⟨op_add.or op_catS, fun H P σ G x y tx ty Q h rx ry q => by
  cases tx <;> cases ty <;> try exact q.elim
  ·exact .inl ⟨_, _, ZL.mp rx, ZL.mp ry, ZT q⟩
  ·rename_i xs ys
   refine .inr ?_
   obtain ⟨l, us, rfl, s1, r1⟩ := Z1.mp rx
   obtain ⟨m, ws, rfl, s2, r2⟩ := Z1.mp ry
   simp only [fAdd] at q
   split at q
   ·rename_i hz
    have e1 := r1.length
    have e2 := r2.length
    refine ⟨l, m, us, ws, rfl, rfl, s1.sq, s2.sq, by rw [sizeLine_eq]; omega, fun p hp => q _ _ (ZX hp) (Z1.mpr ⟨p, us ++ ws, rfl, .off ZS (h.off_new hp), ?_⟩)⟩
    exact (Rls.go (.same (ZX hp)) xs us r1).append (Rls.go (.same (ZX hp)) ys ws r2)
   ·exact q.elim⟩
theorem QZ : OpR X (binaryOp .Sub) (rI0 fun i j => .int (i - j)) /\ Fop X W (rI0 fun i j => .int (i - j)) fSub :=
 ⟨op_sub, V1 fun H P tx ty Q q => by
  cases tx <;> cases ty <;> try exact q.elim
  exact ⟨_, _, rfl, rfl, ZT q⟩⟩
theorem mulOk_ok {i j : Int} (h : Vf i j = true) : IntMulOk i j := by
 have bits : ∀ k : Int, Builtin.Int.intBits k <= k.natAbs.log2 + 1 := fun k => by
  unfold Builtin.Int.intBits
  split <;> omega
 simp only [Vf, Bool.or_eq_true, decide_eq_true_eq] at h
 rcases h with (h | h) | h
 ·have h1 := bits i
  have h2 := bits j
  unfold IntMulOk
  intro z
  simp only [Bool.and_eq_true, decide_eq_true_eq, Builtin.Int.intTooBig] at z
  have := z.2
  simp only [bitsLine] at this
  omega
 ·exact .of_left (intBits_le_64 (by omega) (by omega))
 ·exact .of_right (intBits_le_64 (by omega) (by omega))
theorem VU : OpR X (binaryOp .Mult) (rI (fun i j => Vf i j = true) fun i j => .int (i * j)) /\ Fop X W (rI (fun i j => Vf i j = true) fun i j => .int (i * j)) fMul :=
 ⟨opI fun _ _ _ _ _ _ _ hc q => mul_int q (mulOk_ok hc), JD fun H P tx ty Q q => by
  cases tx <;> cases ty <;> try exact q.elim
  simp only [fMul] at q
  split at q
  ·rename_i hc; exact ⟨_, _, rfl, rfl, hc, ZT q⟩
  ·exact q.elim⟩
theorem JI {i j : Int} (h : Q6 j = true) : j ≠ 0 /\ Builtin.divisionGoesByPylong i j = false := by
 simp only [Q6, Bool.and_eq_true, decide_eq_true_eq] at h
 refine ⟨h.1, ?_⟩
 unfold Builtin.divisionGoesByPylong
 have e : (j == 0) = false := by simpa using h.1
 simp only [e]
 have : ¬ (j.natAbs.log2 / 30 + 1 > 300) := by omega
 simp [this]
theorem zaN : OpR X (binaryOp .FloorDiv) (rI (fun _ j => Q6 j = true) fun i j => .int (i.fdiv j)) /\ Fop X W (rI (fun _ j => Q6 j = true) fun i j => .int (i.fdiv j)) fDiv :=
 ⟨opI fun _ _ _ _ _ _ _ hc q => floordiv_int (JI (i := 0) hc).1 q (.inl (JI hc).2), JD fun H P tx ty Q q => by
  cases tx <;> cases ty <;> try exact q.elim
  simp only [fDiv] at q
  split at q
  ·rename_i hc; exact ⟨_, _, rfl, rfl, hc, ZT q⟩
  ·exact q.elim⟩
theorem Yu : OpR X (binaryOp .Mod) (rI (fun _ j => j ≠ 0) fun i j => .int (i.fmod j)) /\ Fop X W (rI (fun _ j => j ≠ 0) fun i j => .int (i.fmod j)) fMod :=
 ⟨op_modN, JD fun H P tx ty Q q => by
  cases tx <;> cases ty <;> try exact q.elim
  simp only [fMod] at q
  split at q
  ·exact q.elim
  ·rename_i hc; exact ⟨_, _, rfl, rfl, hc, ZT q⟩⟩
theorem zaK : OpR X (binaryOp .Pow) (rI CPow fun i j => .int (i ^ j.toNat)) /\ Fop X W (rI CPow fun i j => .int (i ^ j.toNat)) fPow :=
 ⟨op_pow, JD fun H P tx ty Q q => by
  cases tx <;> cases ty <;> try exact q.elim
  simp only [fPow] at q
  split at q
  ·rename_i hc; exact ⟨_, _, rfl, rfl, hc, ZT q⟩
  ·exact q.elim⟩
theorem Vq : OpR X (compareOp .Lt) (rI0 fun i j => .bl (decide (i < j))) /\ Fop X W (rI0 fun i j => .bl (decide (i < j))) fLt :=
 ⟨op_lt, V1 fun H P tx ty Q q => by
  cases tx <;> cases ty <;> try exact q.elim
  exact ⟨_, _, rfl, rfl, ZM q⟩⟩
theorem op_leF : OpR X (compareOp .LtE) (rI0 fun i j => .bl (decide (i <= j))) /\ Fop X W (rI0 fun i j => .bl (decide (i <= j))) fLe :=
 ⟨op_le, V1 fun H P tx ty Q q => by
  cases tx <;> cases ty <;> try exact q.elim
  exact ⟨_, _, rfl, rfl, ZM q⟩⟩
theorem Vr : OpR X (compareOp .Gt) (rI0 fun i j => .bl (decide (j < i))) /\ Fop X W (rI0 fun i j => .bl (decide (j < i))) fGt :=
 ⟨op_gt, V1 fun H P tx ty Q q => by
  cases tx <;> cases ty <;> try exact q.elim
  exact ⟨_, _, rfl, rfl, ZM q⟩⟩
theorem op_geF : OpR X (compareOp .GtE) (rI0 fun i j => .bl (decide (j <= i))) /\ Fop X W (rI0 fun i j => .bl (decide (j <= i))) fGe :=
 ⟨op_ge, V1 fun H P tx ty Q q => by
  cases tx <;> cases ty <;> try exact q.elim
  exact ⟨_, _, rfl, rfl, ZM q⟩⟩
mutual
theorem Rl.reads {pins : List (Addr × Obj)} {σ : L2.St} {H : Hp} {s : Shared} {P : Pv} (I : Inv X pins σ H s) : ∀ (t : PyData) (v : V) (u : Value), t.canLay0 = true -> Rl X.K H P t v -> RelV v u -> ∃ as, Reads s.heap u t as
 | .none, v, u, _, h, r => by rw [X2.mp h] at r; cases r; exact ⟨_, .none⟩
 | .bool b, v, u, hl, h, r => by rw [Yt.mp h] at r; cases r; exact ⟨_, .bool b⟩
 | .int i, v, u, hl, h, r => by rw [ZL.mp h] at r; obtain ⟨t, rfl⟩ := r; exact ⟨_, .int i t⟩
 | .str x, v, u, hl, h, r => by rw [Z3.mp h] at r; obtain ⟨t, rfl⟩ := r; exact ⟨_, .str x t⟩
 | .list xs, v, u, hl, h, r => by
  obtain ⟨a, vs, rfl, sl, rs⟩ := Z1.mp h
  cases r
  obtain ⟨its, rv, ⟨o, n, e, hc, hd, hs⟩, z⟩ := I.list sl.sq
  obtain ⟨as, ra⟩ := Rls.reads I xs vs its (by simpa [PyData.canLay0] using hl) rs rv
  exact ⟨_, .list e hc hs (by simpa using ra)⟩
 | .tuple xs, v, u, hl, h, r => by
  obtain ⟨a, vs, rfl, sl, rs⟩ := Yn.mp h
  cases r
  obtain ⟨its, rv, ⟨o, e, hc, n, hs⟩, z⟩ := I.tuple sl.sq
  obtain ⟨as, ra⟩ := Rls.reads I xs vs its (by simpa [PyData.canLay0] using hl) rs rv
  exact ⟨_, .tuple e hc hs (by simpa using ra)⟩
 | .dict _, v, u, hl, h, r => by simp [PyData.canLay0] at hl
theorem Rls.reads {pins : List (Addr × Obj)} {σ : L2.St} {H : Hp} {s : Shared} {P : Pv} (I : Inv X pins σ H s) : ∀ (ts : List PyData) (vs : List V) (us : List Value), PyData.canLayAll0 ts = true -> Rls X.K H P ts vs -> Vals vs us -> ∃ as, ReadsAll s.heap us ts as
 | [], vs, us, _, h, r => by rw [ZV.mp h] at r; cases r; exact ⟨_, .nil⟩
 | t :: ts, vs, us, hl, h, r => by
  simp only [PyData.canLayAll0, Bool.and_eq_true] at hl
  obtain ⟨v, vs', rfl, h1, h2⟩ := Zx.mp h
  cases r with
  | cons r1 r2 =>
   obtain ⟨as, ra⟩ := Rl.reads I t v _ hl.1 h1 r1
   obtain ⟨bs, rb⟩ := Rls.reads I ts vs' _ hl.2 h2 r2
   exact ⟨_, .cons ra rb⟩
end
theorem Yv {t : PyData} (h : ZF t = true) : t.canLay0 = true := by
 unfold ZF at h
 rw [Bool.and_eq_true] at h
 exact h.1
def rEqD (K : PySem.W.Frag) (k : Bool -> Bool) : R2 := fun x y H Q => ∃ P tx ty, Rl K H P tx x /\ Rl K H P ty y /\ ZF tx = true /\ ZF ty = true /\ Q (.bl (k (tx.eqv ty))) H
theorem op_eqD (hu : X.A.units + 64 < cLine) : OpR X (compareOp .Eq) (rEqD X.K fun k => k) := by
 intro pins s σ H x y v u Q I rx ry h
 obtain ⟨P, tx, ty, hx, hy, sx, sy, q⟩ := h
 obtain ⟨as, ra⟩ := Rl.reads I tx x v (Yv sx) hx rx
 obtain ⟨bs, rb⟩ := Rl.reads I ty y u (Yv sy) hy ry
 exact SeqAt.compareEq_shaped ra rb sx sy hu ⟨.bl _, H, I, rfl, q⟩
theorem op_neD (hu : X.A.units + 64 < cLine) : OpR X (compareOp .NotEq) (rEqD X.K fun k => !k) := by
 intro pins s σ H x y v u Q I rx ry h
 obtain ⟨P, tx, ty, hx, hy, sx, sy, q⟩ := h
 obtain ⟨as, ra⟩ := Rl.reads I tx x v (Yv sx) hx rx
 obtain ⟨bs, rb⟩ := Rl.reads I ty y u (Yv sy) hy ry
 exact SeqAt.compareNe_shaped ra rb sx sy hu ⟨.bl _, H, I, rfl, q⟩
def rEqI (k : Bool -> Bool) : R2 := rI0 fun i j => .bl (k (decide (i = j)))
theorem op_eqI : OpR X (compareOp .Eq) (rEqI fun k => k) := opB0 fun i j _ _ _ _ _ q => eq_int (by rw [Bool.beq_eq_decide_eq]; exact q)
theorem op_neI : OpR X (compareOp .NotEq) (rEqI fun k => !k) := opB0 fun i j _ _ _ _ _ q => ne_int (by rw [bne, Bool.beq_eq_decide_eq]; exact q)
theorem X6 (hu : X.A.units + 64 < cLine) : OpR X (compareOp .Eq) (fun x y H Q => rEqI (fun k => k) x y H Q \/ rEqD X.K (fun k => k) x y H Q) /\ Fop X W (fun x y H Q => rEqI (fun k => k) x y H Q \/ rEqD X.K (fun k => k) x y H Q) fEq :=
 ⟨op_eqI.or (op_eqD hu), fun H P σ G x y tx ty Q h rx ry q => by
  unfold fEq at q
  split at q
  ·exact .inl ⟨_, _, ZL.mp rx, ZL.mp ry, ZM q⟩
  ·split at q
   ·rename_i hc
    rw [Bool.and_eq_true] at hc
    exact .inr ⟨P, tx, ty, rx, ry, hc.1, hc.2, ZM q⟩
   ·exact q.elim⟩
theorem VT (hu : X.A.units + 64 < cLine) : OpR X (compareOp .NotEq) (fun x y H Q => rEqI (fun k => !k) x y H Q \/ rEqD X.K (fun k => !k) x y H Q) /\ Fop X W (fun x y H Q => rEqI (fun k => !k) x y H Q \/ rEqD X.K (fun k => !k) x y H Q) fNe :=
 ⟨op_neI.or (op_neD hu), fun H P σ G x y tx ty Q h rx ry q => by
  unfold fNe at q
  split at q
  ·exact .inl ⟨_, _, ZL.mp rx, ZL.mp ry, ZM q⟩
  ·split at q
   ·rename_i hc
    rw [Bool.and_eq_true] at hc
    exact .inr ⟨P, tx, ty, rx, ry, hc.1, hc.2, ZM q⟩
   ·exact q.elim⟩
theorem tUn_of {r : V -> Hp -> VK -> Prop} {f : PyData -> Res PyData} (hf : ∀ (H : Hp) (P : Pv) (x : V) (tx : PyData) (Q : VK), Rl X.K H P tx x -> Yh X.K W H P (f tx) Q -> r x H Q) {σ : L2.St} {H : Hp} {Q : VK} (h : tF X.K W (d1 f da) σ H Q) :
  tUn r (tF X.K W da) σ H Q := by
 obtain ⟨G, P, h, q⟩ := h
 unfold d1 at q
 obtain ⟨q1, q2, q3⟩ := Wo q
 exact Zq h q1 q2 fun tx x H1 ex s1 h1 rx => hf H1 P x tx Q rx ((q3 tx ex).up s1)
theorem ev_neg (ha : EV X W a da) : EV X W (.UnaryOp .USub a pos) (d1 fNeg da) :=
 Zp (pe_un un_neg ha) fun σ H Q h => tUn_of (r := rU fun i => .int (-i)) (fun H P x tx Q rx q => by
  cases tx <;> try exact q.elim
  exact ⟨_, ZL.mp rx, ZT q⟩) h
theorem bindA {a : Res PyData} {f : PyData -> Res (List PyData)} {K : PySem.W.Frag} {H : Hp} {P : Pv} {Q : List V -> Hp -> Prop} (q : zah K W H P (a.bind f) Q) :
  (∀ c, a = .exc c -> ∀ H', Same H H' -> W c H') /\ a ≠ .stuck /\ ∀ t, a = .ok t -> zah K W H P (f t) Q := by
 cases a with
 | ok t => exact ⟨fun c e => (by cases e), (by intro e; cases e), fun t' e => by cases e; exact q⟩
 | exc c => exact ⟨fun c' e => by cases e; exact q, (by intro e; cases e), fun t e => by cases e⟩
 | stuck => exact q.elim
theorem bindAA {a : Res (List PyData)} {f : List PyData -> Res (List PyData)} {K : PySem.W.Frag} {H : Hp} {P : Pv} {Q : List V -> Hp -> Prop} (q : zah K W H P (a.bind f) Q) :
  (∀ c, a = .exc c -> ∀ H', Same H H' -> W c H') /\ a ≠ .stuck /\ ∀ t, a = .ok t -> zah K W H P (f t) Q := by
 cases a with
 | ok t => exact ⟨fun c e => (by cases e), (by intro e; cases e), fun t' e => by cases e; exact q⟩
 | exc c => exact ⟨fun c' e => by cases e; exact q, (by intro e; cases e), fun t e => by cases e⟩
 | stuck => exact q.elim
theorem zbj {a : Res (List PyData)} {f : List PyData -> Res PyData} {K : PySem.W.Frag} {H : Hp} {P : Pv} {Q : VK} (q : Yh K W H P (a.bind f) Q) :
  (∀ c, a = .exc c -> ∀ H', Same H H' -> W c H') /\ a ≠ .stuck /\ ∀ t, a = .ok t -> Yh K W H P (f t) Q := by
 cases a with
 | ok t => exact ⟨fun c e => (by cases e), (by intro e; cases e), fun t' e => by cases e; exact q⟩
 | exc c => exact ⟨fun c' e => by cases e; exact q, (by intro e; cases e), fun t e => by cases e⟩
 | stuck => exact q.elim
theorem bindTE {a : Res Bool} {f : Bool -> Res PyData} {K : PySem.W.Frag} {H : Hp} {P : Pv} {Q : VK} (q : Yh K W H P (a.bind f) Q) :
  (∀ c, a = .exc c -> ∀ H', Same H H' -> W c H') /\ a ≠ .stuck /\ ∀ t, a = .ok t -> Yh K W H P (f t) Q := by
 cases a with
 | ok t => exact ⟨fun c e => (by cases e), (by intro e; cases e), fun t' e => by cases e; exact q⟩
 | exc c => exact ⟨fun c' e => by cases e; exact q, (by intro e; cases e), fun t e => by cases e⟩
 | stuck => exact q.elim
theorem bindT {a : Res Bool} {f : Bool -> Res Bool} {H : Hp} {Q : Bool -> Hp -> Prop} (q : Ua W H (a.bind f) Q) :
  (∀ c, a = .exc c -> ∀ H', Same H H' -> W c H') /\ a ≠ .stuck /\ ∀ t, a = .ok t -> Ua W H (f t) Q := by
 cases a with
 | ok t => exact ⟨fun c e => (by cases e), (by intro e; cases e), fun t' e => by cases e; exact q⟩
 | exc c => exact ⟨fun c' e => by cases e; exact q, (by intro e; cases e), fun t e => by cases e⟩
 | stuck => exact q.elim
theorem bindET {a : Res PyData} {f : PyData -> Res Bool} {H : Hp} {Q : Bool -> Hp -> Prop} (q : Ua W H (a.bind f) Q) :
  (∀ c, a = .exc c -> ∀ H', Same H H' -> W c H') /\ a ≠ .stuck /\ ∀ t, a = .ok t -> Ua W H (f t) Q := by
 cases a with
 | ok t => exact ⟨fun c e => (by cases e), (by intro e; cases e), fun t' e => by cases e; exact q⟩
 | exc c => exact ⟨fun c' e => by cases e; exact q, (by intro e; cases e), fun t e => by cases e⟩
 | stuck => exact q.elim
theorem Ua.up {H H' : Hp} {r : Res Bool} {Q : Bool -> Hp -> Prop} (q : Ua W H r Q) (s : Same H H') : Ua W H' r Q := by
 cases r with
 | ok t => exact fun H2 s2 => q H2 (s.trans s2)
 | exc c => exact fun H2 s2 => q H2 (s.trans s2)
 | stuck => exact q
theorem Zj : AV X W [] dNil := zaI YA fun σ H Q ⟨G, P, h, q⟩ => q [] H (Same.refl H) (ZV.mpr rfl)
theorem Zb {dr : DA} (ha : EV X W e da) (hr : AV X W es dr) (hs : starEach (e :: es) X.env = (false, eval e X.env) :: starEach es X.env := by rfl) : AV X W (e :: es) (Zc da dr) :=
 zaI (ZQ ha hr hs) fun σ H Q ⟨G, P, h, q⟩ => by
  unfold Zc at q
  obtain ⟨q1, q2, q3⟩ := bindA q
  refine Zq h q1 q2 fun tx x H1 ex s1 h1 rx => ?_
  obtain ⟨q4, q5, q6⟩ := bindAA (q3 tx ex)
  refine WV h1 (fun c e H' s => q4 c e H' (s1.trans s)) q5 fun ts vs H2 es' s2 h2 rs => ?_
  exact (q6 ts es') (x :: vs) H2 (s1.trans s2) (Zx.mpr ⟨x, vs, rfl, Rl.go (.same s2) tx x rx, rs⟩)
theorem UT {xs : List PyData} {vs : List V} {K : PySem.W.Frag} {H : Hp} {P : Pv} (h : Uh xs = true) (r : Rls K H P xs vs) : vs.length <= sizeLine := by
 have := r.length
 have h' : xs.length <= 16777216 := of_decide_eq_true h
 rw [sizeLine_eq]; omega
theorem ST.off {K : PySem.W.Frag} {H : Hp} {P : Pv} {a : Addr} {xs : List V} (h : H a = some (.tup xs)) (o : Off P a) : ST K H P a xs := ⟨h, o⟩
theorem Vt {da : DA} {x1} (h : AV X W es da) : EV X W (.Tuple es x1 pos) (dTup da) :=
 Zp (pe_tup h) fun σ H Q ⟨G, P, h, q⟩ => by
  unfold dTup at q
  obtain ⟨q1, q2, q3⟩ := zbj q
  refine WV h q1 q2 fun ts vs H1 es' s1 h1 rs => ?_
  have q4 := q3 ts es'
  split at q4
  ·rename_i hl
   exact ⟨UT hl rs, fun p hp => q4 _ _ (s1.trans (ZX hp)) (Yn.mpr ⟨p, vs, rfl, .off ZS (h1.off_new hp), Rls.go (.same (ZX hp)) ts vs rs⟩)⟩
  ·exact q4.elim
theorem Ux {da : DA} (h : AV X W es da) : EV X W (.List es pos) (dLst da) :=
 Zp (pe_lst h) fun σ H Q ⟨G, P, h, q⟩ => by
  unfold dLst at q
  obtain ⟨q1, q2, q3⟩ := zbj q
  refine WV h q1 q2 fun ts vs H1 es' s1 h1 rs => ?_
  have q4 := q3 ts es'
  split at q4
  ·rename_i hl
   exact ⟨UT hl rs, fun p hp => q4 _ _ (s1.trans (ZX hp)) (Z1.mpr ⟨p, vs, rfl, .off ZS (h1.off_new hp), Rls.go (.same (ZX hp)) ts vs rs⟩)⟩
  ·exact q4.elim
theorem ixP_eq (n : Nat) (i : Int) : ixP n i = ixN n i := rfl
theorem atP_rl {K : PySem.W.Frag} {H : Hp} {P : Pv} {ts : List PyData} {vs : List V} {i : Int} {t : PyData} (r : Rls K H P ts vs) (h : atP ts i = some t) : ∃ v, atI vs i = some v /\ Rl K H P t v := by
 unfold atP at h
 unfold atI
 rw [<- r.length, <- ixP_eq]
 cases e : ixP ts.length i with
 | none => rw [e] at h; cases h
 | some j =>
  rw [e] at h
  exact r.getT (i := j) h
theorem Wa (ha : EV X W a da) (hb : EV X W b db) (hs : zbp b) : EV X W (.Subscript a b pos) (d2 fIx da db) :=
 Zp (pe_ix (ix_list.or ix_tup) ha hb hs) fun σ H Q h => Qa (r := fun x y H Q => rIxL X.K x y H Q \/ rIxT X.K x y H Q) (fun H P σ G x y tx ty Q h rx ry q => by
  cases tx <;> cases ty <;> try exact q.elim
  ·rename_i xs i
   obtain ⟨l, us, rfl, s1, r1⟩ := Z1.mp rx
   simp only [fIx] at q
   cases e : atP xs i with
   | none => rw [e] at q; exact q.elim
   | some t =>
    rw [e] at q
    obtain ⟨v, e1, r⟩ := atP_rl r1 e
    exact .inl ⟨l, us, i, v, rfl, ZL.mp ry, s1.sq, e1, q v H (Same.refl H) r⟩
  ·rename_i xs i
   obtain ⟨l, us, rfl, s1, r1⟩ := Yn.mp rx
   simp only [fIx] at q
   cases e : atP xs i with
   | none => rw [e] at q; exact q.elim
   | some t =>
    rw [e] at q
    obtain ⟨v, e1, r⟩ := atP_rl r1 e
    exact .inr ⟨l, us, i, v, rfl, ZL.mp ry, s1.sq, e1, q v H (Same.refl H) r⟩) h
theorem Vo {r : List V -> Hp -> VK -> Prop} {f : PyData -> Res PyData} (hf : ∀ (H : Hp) (P : Pv) (σ : L2.St) (G : List Sl) (x : V) (tx : PyData) (Q : VK), Hol X.K H P σ G -> Rl X.K H P tx x -> Yh X.K W H P (f tx) Q -> r [x] H Q) {σ : L2.St} {H : Hp} {Q : VK} (h : tF X.K W (d1 f da) σ H Q) :
  tCB r (tCons (tF X.K W da) tNil) σ H Q := by
 obtain ⟨G, P, h, q⟩ := h
 unfold d1 at q
 obtain ⟨q1, q2, q3⟩ := Wo q
 exact Zq h q1 q2 fun tx x H1 ex s1 h1 rx => hf H1 P σ G x tx Q h1 rx ((q3 tx ex).up s1)
theorem Vu {p : Pos} (hg : Gl X "len") (hm : X.mg "len" = none) (ha : EV X W a da) (hs : starEach [a] X.env = (false, eval a X.env) :: starEach [] X.env := by rfl) : EV X W (.Call (.Name "len" p) [a] [] pos) (d1 fLen da) :=
 Zp (X4 VA hg hm PySem.boot_len (ZQ ha YA hs) (he := hs)) fun σ H Q h => Vo (fun H P σ G x tx Q h rx q => by
  cases tx <;> try exact q.elim
  ·obtain ⟨l, us, rfl, s1, r1⟩ := Z1.mp rx
   have e := r1.length
   refine ⟨l, us, rfl, .inl s1.sq, ?_⟩
   rw [<- e]; exact ZT q
  ·obtain ⟨l, us, rfl, s1, r1⟩ := Yn.mp rx
   have e := r1.length
   refine ⟨l, us, rfl, .inr s1.sq, ?_⟩
   rw [<- e]; exact ZT q) h
theorem za9 {p : Pos} (hg : Gl X "abs") (hm : X.mg "abs" = none) (ha : EV X W a da) (hs : starEach [a] X.env = (false, eval a X.env) :: starEach [] X.env := by rfl) : EV X W (.Call (.Name "abs" p) [a] [] pos) (d1 fAbs da) :=
 Zp (X4 call_abs hg hm (show bootBuiltins "abs" = some (.builtin "abs") by decide +kernel) (ZQ ha YA hs) (he := hs)) fun σ H Q h => Vo (fun H P σ G x tx Q h rx q => by
  cases tx <;> try exact q.elim
  exact ⟨_, by rw [ZL.mp rx], ZT q⟩) h
def tyN : PyData -> String
 | .none => "NoneType"
 | .bool _ => "bool"
 | .int _ => "int"
 | .str _ => "str"
 | .list _ => "list"
 | .tuple _ => "tuple"
 | .dict _ => "dict"
def Kit (T : String) (p : PyData -> Bool) : Prop := ∀ (K : PySem.W.Frag) (t : PyData), PySem.W.kitOne K (.type (tyN t)) (.type T) = some (p t)
theorem kit_int : Kit "int" isInt := fun K t => by cases t <;> rfl
theorem kit_bool : Kit "bool" isBool := fun K t => by cases t <;> rfl
theorem zaU : Kit "tuple" zaX := fun K t => by cases t <;> rfl
theorem Jv : Kit "list" isList := fun K t => by cases t <;> rfl
theorem kit_str : Kit "str" J2 := fun K t => by cases t <;> rfl
theorem call_isi {T : String} {p : PyData -> Bool} (hk : Kit T p) : VG X (.builtin "isinstance") (fun xs H Q => ∃ x t P, xs = [x, .ty T] /\ (∀ ys, t ≠ .dict ys) /\ Rl X.K H P t x /\ Q (.bl (p t)) H) := by
 intro pins s σ H xs us Q I r h
 obtain ⟨x, t, P, rfl, nd, rx, q⟩ := h
 obtain ⟨u, w', rfl, ru, rw'⟩ := vals2 r
 cases rw'
 have e := hk X.K t
 have fin : ∀ tk, EP X pins σ Q (.bool (p t)) { s with toks := tk } := fun tk => ⟨.bl (p t), H, I.tok tk, rfl, q⟩
 cases t with
 | none => rw [X2.mp rx] at ru; cases ru; exact PySem.W.kia_one PySem.W.kitx_none I.kIn True.intro e (fun z => nomatch z) fin
 | bool b => rw [Yt.mp rx] at ru; cases ru; exact PySem.W.kia_one PySem.W.kitx_bool I.kIn True.intro e (fun z => nomatch z) fin
 | int i => rw [ZL.mp rx] at ru; obtain ⟨t, rfl⟩ := ru; exact PySem.W.kia_one PySem.W.kitx_int I.kIn True.intro e (fun z => nomatch z) fin
 | str y => rw [Z3.mp rx] at ru; obtain ⟨t, rfl⟩ := ru; exact PySem.W.kia_one PySem.W.kitx_str I.kIn True.intro e (fun z => nomatch z) fin
 | list ys =>
  obtain ⟨l, vs, rfl, s1, r1⟩ := Z1.mp rx
  cases ru
  obtain ⟨its, rv, ⟨o, n, e1, hc, hd, hs⟩, z⟩ := I.list s1.sq
  exact PySem.W.kia_one PySem.W.kitx_list I.kIn ⟨o, e1, hc⟩ e (fun z => nomatch z) fin
 | tuple ys =>
  obtain ⟨l, vs, rfl, s1, r1⟩ := Yn.mp rx
  cases ru
  obtain ⟨its, rv, ⟨o, e1, hc, n, hs⟩, z⟩ := I.tuple s1.sq
  exact PySem.W.kia_one PySem.W.kitx_tuple I.kIn ⟨o, e1, hc⟩ e (fun z => nomatch z) fin
 | dict ys => exact absurd rfl (nd ys)
theorem XV {T : String} {x : Str} {f : PyData -> Bool} {p p2 : Pos} (hk : Kit T f) (hv : bootBuiltins x = some (.type T)) (hg : Gl X "isinstance") (hm : X.mg "isinstance" = none) (hg2 : Gl X x) (hm2 : X.mg x = none) (ha : EV X W a da)
  (hs : starEach [a, .Name x p2] X.env = (false, eval a X.env) :: starEach [.Name x p2] X.env := by rfl) (hs2 : starEach [.Name x p2] X.env = (false, eval (.Name x p2) X.env) :: starEach [] X.env := by rfl)
  (hpl : (backTo pos (starEach [.Name x p2] X.env)).any (·.1) = false := by rfl) (hn : x ≠ "__name__" := by decide) (hdb : (x == ("__debug__" : Str)) = false := by decide) :
  EV X W (.Call (.Name "isinstance" p) [a, .Name x p2] [] pos) (d1 (fIs f) da) :=
 Zp (X4 (call_isi hk) hg hm (show bootBuiltins "isinstance" = some (.builtin "isinstance") by decide +kernel) (ZQ ha (ZQ (zaH (v := .ty T) hg2 hm2 hv rfl hn hdb) YA hs2) hs) (he := hs) (hpl := hpl)) fun σ H Q ⟨G, P, h, q⟩ => by
  unfold d1 at q
  obtain ⟨q1, q2, q3⟩ := Wo q
  refine Zq h q1 q2 fun tx x H1 ex s1 h1 rx => ?_
  have q4 := Yh.up (q3 tx ex) s1
  refine ⟨x, tx, P, rfl, fun ys z => (by subst z; exact q4.elim), rx, ?_⟩
  cases tx <;> first | exact ZM q4 | exact q4.elim
theorem ev_one {op} (h : EV X W a da) : EV X W (.BoolOp op [a] pos) da := pe_one h
theorem ev_and {rest : List Expr} (ha : EV X W a da) (hb : EV X W (.BoolOp .And (b :: rest) pos) db) : EV X W (.BoolOp .And (a :: b :: rest) pos) (dAndV da db) :=
 Zp (pe_and ha hb) fun σ H Q ⟨G, P, h, q⟩ => by
  unfold dAndV at q
  obtain ⟨q1, q2, q3⟩ := Wo q
  refine Zq h q1 q2 fun tx x H1 ex s1 h1 rx => ?_
  have q4 := q3 tx ex
  cases tx <;> try exact q4.elim
  rename_i k
  refine ⟨k, Yt.mp rx, ?_⟩
  cases k with
  | true => exact iteT ⟨G, P, h1, Yh.up q4 s1⟩
  | false => exact iteF (ZM (Yh.up q4 s1))
theorem ev_not (ha : EV X W a da) : EV X W (.UnaryOp .Not a pos) (dNotV da) :=
 Zp (pe_not ha) fun σ H Q ⟨G, P, h, q⟩ => by
  unfold dNotV at q
  obtain ⟨q1, q2, q3⟩ := Wo q
  refine Zq h q1 q2 fun tx x H1 ex s1 h1 rx => ?_
  have q4 := q3 tx ex
  cases tx <;> try exact q4.elim
  exact ⟨_, Yt.mp rx, ZM (Yh.up q4 s1)⟩
theorem JF {dc : DT} (hc : TV X W c dc) (ha : EV X W a da) (hb : EV X W b db) : EV X W (.IfExp c a b pos) (dIfE dc da db) :=
 Zp (pe_ifExp hc ha hb) fun σ H Q ⟨G, P, h, q⟩ => by
  unfold dIfE at q
  obtain ⟨q1, q2, q3⟩ := bindTE q
  refine Ws h q1 q2 fun k H1 ek s1 h1 => ?_
  have q4 := q3 k ek
  cases k with
  | true => exact iteT ⟨G, P, h1, Yh.up q4 s1⟩
  | false => exact iteF ⟨G, P, h1, Yh.up q4 s1⟩
theorem truth_ok {H : Hp} {P : Pv} {x : V} {tx : PyData} {k : Bool} (r : Rl X.K H P tx x) (e : truth tx = .ok k) : TruV X.K x H k := by
 cases tx with
 | none => rw [X2.mp r]; cases e; rfl
 | bool b => rw [Yt.mp r]; cases e; rfl
 | int i => rw [ZL.mp r]; cases e; rfl
 | str x => cases e
 | list xs =>
  obtain ⟨l, us, rfl, s1, r1⟩ := Z1.mp r
  cases e
  refine .inl ⟨us, s1.sq, ?_⟩
  have := r1.length
  cases xs <;> cases us <;> first | rfl | simp at this
 | tuple xs =>
  obtain ⟨l, us, rfl, s1, r1⟩ := Yn.mp r
  cases e
  refine .inr (.inl ⟨us, s1.sq, ?_⟩)
  have := r1.length
  cases xs <;> cases us <;> first | rfl | simp at this
 | dict _ => cases e
theorem WU (ha : EV X W a da) (he : ∀ whole, isTrue a X.env whole = (do let v <- whole; standAt a.pos; holding [v] (truthy v))) : TV X W a (tV da) :=
 QV (pt_truth ha he) fun σ H Q ⟨G, P, h, q⟩ => by
  unfold Fx.tV at q
  obtain ⟨q1, q2, q3⟩ := bindET q
  refine Zq h q1 q2 fun tx x H1 ex s1 h1 rx => ?_
  have q4 := q3 tx ex
  cases e : truth tx with
  | stuck => rw [e] at q4; exact q4.elim
  | exc c => cases tx <;> cases e
  | ok k => rw [e] at q4; exact ⟨k, truth_ok rx e, q4 H1 s1⟩
theorem ZH {op : CmpOp} {r : R2} {f : PyData -> PyData -> Res PyData} (ho : OpR X (compareOp op) r /\ Fop X W r f) (ha : EV X W a da) (hb : EV X W b db) (hm : behindInMarks op b = false)
  (hf : ∀ x y, (∃ k, f x y = .ok (.bool k)) \/ f x y = .stuck := by first | exact fLt_b | exact fLe_b | exact fGt_b | exact fGe_b | exact fEq_b | exact fNe_b) : TV X W (.Compare a [op] [b] pos) (tV (d2 f da db)) :=
 QV (pt_cmpR ho.1 ha hb hm) fun σ H Q ⟨G, P, h, q⟩ => by
  refine Qa ho.2 ⟨G, P, h, ?_⟩
  unfold Fx.tV at q
  cases e : d2 f da db G with
  | stuck => rw [e] at q; exact q
  | exc c => rw [e] at q; exact q
  | ok t =>
   rw [e] at q
   have hb : ∃ k, t = .bool k := by
    unfold d2 at e
    cases e1 : da G with
    | stuck => rw [e1] at e; cases e
    | exc c => rw [e1] at e; cases e
    | ok tx =>
     rw [e1, Res.bind_ok] at e
     cases e2 : db G with
     | stuck => rw [e2] at e; cases e
     | exc c => rw [e2] at e; cases e
     | ok ty =>
      rw [e2, Res.bind_ok] at e
      rcases hf tx ty with ⟨k, e3⟩ | e3
      ·rw [e3] at e; cases e; exact ⟨k, rfl⟩
      ·rw [e3] at e; cases e
   obtain ⟨k, rfl⟩ := hb
   exact fun v H' s r => ⟨k, Yt.mp r, q H' s⟩
theorem tw_and1 {dt : DT} (ha : TV X W a dt) : TW X W (.BoolOp .And [a] pos) dt := pw_and1 ha
theorem Vm {dt : DT} (ha : TV X W a dt) : TW X W (.BoolOp .Or [a] pos) dt := pw_or1 ha
theorem tw_and {dt du : DT} {rest : List Expr} (ha : TV X W a dt) (hb : TW X W (.BoolOp .And (b :: rest) pos) du) : TW X W (.BoolOp .And (a :: b :: rest) pos) (tAnd dt du) :=
 zaC (pw_and ha hb) fun σ H Q ⟨G, P, h, q⟩ => by
  unfold Fx.tAnd at q
  obtain ⟨q1, q2, q3⟩ := bindT q
  refine Ws h q1 q2 fun k H1 ek s1 h1 => ?_
  have q4 := q3 k ek
  cases k with
  | true => exact iteT ⟨G, P, h1, Ua.up q4 s1⟩
  | false => exact iteF (q4 H1 s1)
theorem VD {dt du : DT} {rest : List Expr} (ha : TV X W a dt) (hb : TW X W (.BoolOp .Or (b :: rest) pos) du) : TW X W (.BoolOp .Or (a :: b :: rest) pos) (tOr dt du) :=
 zaC (pw_or ha hb) fun σ H Q ⟨G, P, h, q⟩ => by
  unfold Fx.tOr at q
  obtain ⟨q1, q2, q3⟩ := bindT q
  refine Ws h q1 q2 fun k H1 ek s1 h1 => ?_
  have q4 := q3 k ek
  cases k with
  | true => exact iteT (q4 H1 s1)
  | false => exact iteF ⟨G, P, h1, Ua.up q4 s1⟩
theorem tv_w {dt : DT} (h : TW X W a dt) : TV X W a dt := PW.pt h
theorem Vn {dt : DT} (ha : TV X W a dt) : TV X W (.UnaryOp .Not a pos) (tNot dt) :=
 QV (pt_not ha) fun σ H Q ⟨G, P, h, q⟩ => by
  unfold Fx.tNot at q
  obtain ⟨q1, q2, q3⟩ := bindT q
  exact Ws h q1 q2 fun k H1 ek s1 h1 => (q3 k ek) H1 s1
end
end Fx
namespace Fx
open PySem PySem.Spec PyProof.Rows L2
section
variable {X : Cx} {W : Str -> Hp -> Prop} {fl : Bool} {a b c e : Expr} {es : List Expr} {da db : DE} {pos : Pos}
theorem X0.up {K : PySem.W.Frag} {H H' : Hp} {P P' : Pv} {r : Res Out} {D : Ends} (q : X0 K W fl H P r D) (g : Go H P H' P') : X0 K W fl H' P' r D := by
 cases r with
 | ok o =>
  cases o with
  | nx G => exact fun σ2 H2 P2 g2 h2 => q σ2 H2 P2 (g.trans g2) h2
  | bk G => exact fun σ2 H2 P2 g2 h2 => q σ2 H2 P2 (g.trans g2) h2
  | ct G => exact fun σ2 H2 P2 g2 h2 => q σ2 H2 P2 (g.trans g2) h2
  | rt t => exact fun v H2 P2 g2 h2 n2 => q v H2 P2 (g.trans g2) h2 fun z => (n2 z).back g
 | exc c => exact fun H2 P2 g2 => q H2 P2 (g.trans g2)
 | stuck => exact q
theorem VB {a : Res PyData} {f : PyData -> Res Out} {K : PySem.W.Frag} {H : Hp} {P : Pv} {D : Ends} (q : X0 K W fl H P (a.bind f) D) :
  (∀ c, a = .exc c -> ∀ H' P', Go H P H' P' -> W c H') /\ a ≠ .stuck /\ ∀ t, a = .ok t -> X0 K W fl H P (f t) D := by
 cases a with
 | ok t => exact ⟨fun c e => (by cases e), (by intro e; cases e), fun t' e => by cases e; exact q⟩
 | exc c => exact ⟨fun c' e => by cases e; exact q, (by intro e; cases e), fun t e => by cases e⟩
 | stuck => exact q.elim
theorem bindTS {a : Res Bool} {f : Bool -> Res Out} {K : PySem.W.Frag} {H : Hp} {P : Pv} {D : Ends} (q : X0 K W fl H P (a.bind f) D) :
  (∀ c, a = .exc c -> ∀ H' P', Go H P H' P' -> W c H') /\ a ≠ .stuck /\ ∀ t, a = .ok t -> X0 K W fl H P (f t) D := by
 cases a with
 | ok t => exact ⟨fun c e => (by cases e), (by intro e; cases e), fun t' e => by cases e; exact q⟩
 | exc c => exact ⟨fun c' e => by cases e; exact q, (by intro e; cases e), fun t e => by cases e⟩
 | stuck => exact q.elim
theorem zbi {a : Res (List PyData)} {f : List PyData -> Res Out} {K : PySem.W.Frag} {H : Hp} {P : Pv} {D : Ends} (q : X0 K W fl H P (a.bind f) D) :
  (∀ c, a = .exc c -> ∀ H' P', Go H P H' P' -> W c H') /\ a ≠ .stuck /\ ∀ t, a = .ok t -> X0 K W fl H P (f t) D := by
 cases a with
 | ok t => exact ⟨fun c e => (by cases e), (by intro e; cases e), fun t' e => by cases e; exact q⟩
 | exc c => exact ⟨fun c' e => by cases e; exact q, (by intro e; cases e), fun t e => by cases e⟩
 | stuck => exact q.elim
theorem ZU : SVs X W fl [] Z7 := Jm pss_nil fun D σ H ⟨G, P, h, q⟩ => q σ H P (.refl H P) h
theorem Zm {st : Stmt} {d : DS} (h : SV X W fl st d) : SVs X W fl [st] d := pss_one h
theorem Zd {st : Stmt} {rest : List Stmt} {d1 d2 : DS} (h1 : SV X W fl st d1) (h2 : SVs X W fl rest d2) : SVs X W fl (st :: rest) (dSeq d1 d2) :=
 Jm (pss_cons h1 h2) fun D σ H ⟨G, P, h, q⟩ => by
  refine ⟨G, P, h, ?_⟩
  unfold dSeq at q
  cases e : d1 G with
  | stuck => rw [e] at q; exact q.elim
  | exc c => rw [e] at q; exact q
  | ok o =>
   rw [e, Res.bind_ok] at q
   cases o with
   | nx G1 => exact fun σ' H' P' g h' => ⟨G1, P', h', X0.up q g⟩
   | rt t => exact q
   | bk G1 => exact q
   | ct G1 => exact q
theorem ZW (he : EV X W e da) : SV X W false (.Return (some e) pos) (dRet da) :=
 XH (ps_ret he) fun D σ H ⟨G, P, h, q⟩ => by
  unfold dRet at q
  obtain ⟨h', g⟩ := h.frzA
  obtain ⟨q1, q2, q3⟩ := VB q
  exact Zq h' (fun c e H' s => q1 c e H' P.bare (g.trans (.same s))) q2 fun t v H1 et s1 h1 r => (q3 t et) v H1 P.bare (g.trans (.same s1)) r fun z => by cases z
theorem YC {x y : List Stmt} {dc : DT} {dx dy : DS} (hc : TV X W c dc) (hx : SVs X W fl x dx) (hy : SVs X W fl y dy) : SV X W fl (.If c x y pos) (dIf dc dx dy) :=
 XH (ps_if hc hx hy) fun D σ H ⟨G, P, h, q⟩ => by
  unfold dIf at q
  obtain ⟨h', g⟩ := h.frzA
  obtain ⟨q1, q2, q3⟩ := bindTS q
  refine Ws h' (fun c e H' s => q1 c e H' P.bare (g.trans (.same s))) q2 fun k H1 ek s1 _ => ?_
  have q4 := q3 k ek
  cases k with
  | true => exact iteT ⟨G, P, h.same s1, X0.up q4 (.same s1)⟩
  | false => exact iteF ⟨G, P, h.same s1, X0.up q4 (.same s1)⟩
theorem ss_drop (he : EV X W e da) (hs : swapsWith e none pos.line X.env = pure false := by rfl) : SV X W fl (.Expr e pos) (U2 da) :=
 XH (QW he hs) fun D σ H ⟨G, P, h, q⟩ => by
  unfold U2 at q
  obtain ⟨h', g⟩ := h.frzA
  obtain ⟨q1, q2, q3⟩ := VB q
  exact Zq h' (fun c e H' s => q1 c e H' P.bare (g.trans (.same s))) q2 fun t v H1 et s1 h1 r => (q3 t et) σ H1 P (.same s1) (h.same s1)
mutual
theorem zaz {K : PySem.W.Frag} {H : Hp} {P P' : Pv} (hd : ∀ i a, P'.own i = some a -> ∃ o, H a = some o /\ LD o) (hf : P'.fb = P.fb) : ∀ (t : PyData) (v : V), Y0 t = true -> Rl K H P t v -> Rl K H P' t v
 | .none, v, _, r => X2.mpr (X2.mp r)
 | .bool b, v, _, r => Yt.mpr (Yt.mp r)
 | .int i, v, _, r => ZL.mpr (ZL.mp r)
 | .str x, v, _, r => Z3.mpr (Z3.mp r)
 | .list _, v, h, r => by simp at h
 | .dict _, v, h, r => by simp at h
 | .tuple xs, v, h, r => by
  obtain ⟨a, vs, e, s, rs⟩ := Yn.mp r
  refine Yn.mpr ⟨a, vs, e, ?_, Jk hd hf xs vs (by simpa using h) rs⟩
  refine ⟨s.1, fun i z => ?_, by rw [hf]; exact s.2.2⟩
  obtain ⟨ws, q, m⟩ := hd i a z
  rw [s.1] at q
  cases q
  rcases m with ⟨_, m⟩ | ⟨_, m⟩ <;> cases m
theorem Jk {K : PySem.W.Frag} {H : Hp} {P P' : Pv} (hd : ∀ i a, P'.own i = some a -> ∃ o, H a = some o /\ LD o) (hf : P'.fb = P.fb) : ∀ (ts : List PyData) (vs : List V), X1 ts = true -> Rls K H P ts vs -> Rls K H P' ts vs
 | [], vs, _, r => ZV.mpr (ZV.mp r)
 | t :: ts, vs, h, r => by
  obtain ⟨v, r', e, a, b⟩ := Zx.mp r
  simp only [Qi, Bool.and_eq_true] at h
  exact Zx.mpr ⟨v, r', e, zaz hd hf t v h.1 a, Jk hd hf ts r' h.2 b⟩
end
theorem after {K : PySem.W.Frag} {H H1 : Hp} {P P1 : Pv} {σ : L2.St} {G : List Sl} {is : List Nat} {t : PyData} {v : V} (h : Hol K H P σ G) (h1 : Hol K H P1 σ (frz is G)) (g : Go H P H P1) (s : Same H H1) (r : Rl K H1 P1 t v) :
  ∃ P2, Hol K H1 P2 σ (if Y0 t then G else frz is G) /\ Rl K H1 P2 t v /\ Go H P H1 P2 := by
 cases e : Y0 t with
 | true => exact ⟨P, by rw [if_pos rfl]; exact h.same s, zaz (fun i a z => (h.same s).dom z) g.2.symm t v e r, .same s⟩
 | false => exact ⟨P1, by rw [if_neg Bool.false_ne_true]; exact h1.same s, r, g.trans (.same s)⟩
theorem Zt {i : Nat} {x : Str} {is : List Nat} {pos' : Pos} (hN : X.N.Nodup) (hi : X.N[i]? = some x) (hx : Loc X.env.scope x) (he : EV X W e da) (hs : swapsWith e (some (.Name x pos')) pos.line X.env = pure false := by rfl)
  (hf : X.fn x = true \/ X.env.scope.names.lookup x = some .local := by first | exact .inl rfl | exact .inr rfl | assumption) : SV X W fl (.Assign [.Name x pos'] e pos) (dSet i is da) :=
 XH (ps_set hN hi hx he hs hf) fun D σ H ⟨G, P, h, q⟩ => by
  unfold dSet at q
  obtain ⟨P1, h1, g⟩ := h.frz is
  obtain ⟨q1, q2, q3⟩ := VB q
  refine Zq h1 (fun c e H' s => q1 c e H' P1 (g.trans (.same s))) q2 fun t v H1 et s1 h2 r => ?_
  obtain ⟨P2, h3, r3, g3⟩ := after h h1 g s1 r
  exact (q3 t et) _ H1 (P2.del i) (g3.trans .del) (h3.setVal i r3)
end
theorem Uu {a : DE} : ∀ G ts, Zc a dNil G = .ok ts -> ts.length = 1 := fun G ts h => by
 unfold Zc dNil at h
 cases e : a G <;> rw [e] at h <;> first | (cases h; done) | (cases h; rfl)
theorem len_cs {a : DE} {r : DA} {n : Nat} (hr : ∀ G ts, r G = .ok ts -> ts.length = n) : ∀ G ts, Zc a r G = .ok ts -> ts.length = n + 1 := fun G ts h => by
 unfold Zc at h
 cases e : a G with
 | stuck => rw [e] at h; cases h
 | exc c => rw [e] at h; cases h
 | ok x =>
  rw [e, Res.bind_ok] at h
  cases e2 : r G with
  | stuck => rw [e2] at h; cases h
  | exc c => rw [e2] at h; cases h
  | ok xs => rw [e2] at h; cases h; simp [hr G xs e2]
theorem Qw {a b : DE} : ∀ G ts, Zc a (Zc b dNil) G = .ok ts -> ts.length = 2 := len_cs Uu
theorem Ju {a b c : DE} : ∀ G ts, Zc a (Zc b (Zc c dNil)) G = .ok ts -> ts.length = 3 := len_cs Qw
def spX (E : XK) (H : Hp) (c : Str) : Option (Str -> Value) -> Prop
 | none => False
 | some cl => ∀ dx H', Same H H' -> E (cl c) dx H'
def spF (K : PySem.W.Frag) (cl : Option (Str -> Value)) (np : Nat) (f : DF) : Sp := fun vs H Q E => vs.length = np /\ ∃ ts P, Rls K H P ts vs /\ (∀ i, P.own i = none) /\ ((∀ a, P.fb a -> ∃ o, H a = some o /\ LD o) /\ WR K H) /\
 match f ts with
 | .ok t => ∀ v H', Same H H' -> Rl K H' P t v -> Q v H'
 | .exc c => spX E H c cl
 | .stuck => False
def EX (cl : Option (Str -> Value)) (W : Str -> Hp -> Prop) : XK := fun v _ H => ∃ c f, cl = some f /\ v = f c /\ W c H
structure Cal (X : Cx) (W : Str -> Hp -> Prop) (cl : Option (Str -> Value)) (k : Nat) (x : Str) (np : Nat) (f : DF) : Prop where
 ex : ∃ (CX : CXT) (fa : Addr) (fd : FuncData) (ps : List Str), FnOk X.prog X.w X.K X.mg X.base CX k fa fd ps (spF X.K cl np f) /\ X.mg x = some (.ref fa) /\ PySem.W.keepIn X.K (.ref fa) = true /\ YV X.K fd ps [] /\ JO CX X (EX cl W)
 nox : cl = none -> ∀ ts c, f ts ≠ .exc c
section
variable {X : Cx} {W : Str -> Hp -> Prop} {fl : Bool} {a b c e : Expr} {es : List Expr} {da db : DE} {pos : Pos}
theorem Zw {cl : Option (Str -> Value)} {k np : Nat} {x : Str} {f : DF} {d : DA} {p : Pos} (C : Cal X W cl k x np f) (hr : Room k X.A) (hg : Gl X x) (ha : AV X W (e :: es) d) (hL : ∀ G ts, d G = .ok ts -> ts.length = np := by first | exact Uu | exact Qw | exact Ju | exact len_c4) (hdb : (x == ("__debug__" : Str)) = false := by decide)
  (he : starEach (e :: es) X.env = (false, eval e X.env) :: starEach es X.env := by rfl) (hpl : (backTo pos (starEach es X.env)).any (·.1) = false := by rfl) : EV X W (.Call (.Name x p) (e :: es) [] pos) (ZG f d) := by
 obtain ⟨CX, fa, fd, ps, F, hm, hk, hb, hx⟩ := C.ex
 refine Zp (pe_call (x := x) (p := p) F hr hg hm hk hb .nil hx ha (hdb := hdb) (he := he) (hpl := hpl)) fun σ H Q ⟨G, P, h, q⟩ => ?_
 unfold ZG at q
 obtain ⟨q1, q2, q3⟩ := zbj q
 refine WV h q1 q2 fun ts vs H1 es' s1 h1 rs => ?_
 have q4 := Yh.up (q3 ts es') s1
 have el : (vs ++ []) = vs := List.append_nil vs
 rw [el]
 -- the callee sees all that the caller may not hand on as forbidden
 have gg : Tr H1 P H1 ⟨fun _ => none, fun a => ¬ Off P a⟩ := fun a o e1 _ o1 => ⟨e1, fun _ z => (by cases z), fun z => z o1⟩
 have back : ∀ H2, Tr H2 ⟨fun _ => none, fun a => ¬ Off P a⟩ H2 P := fun H2 a o e1 _ o1 => ⟨e1, Classical.byContradiction fun z => o1.2 z⟩
 refine ⟨by rw [<- rs.length]; exact hL G ts es', ts, ⟨fun _ => none, fun a => ¬ Off P a⟩, Rls.go gg ts vs rs, fun _ => rfl, ⟨fun a z => h1.ld z, h1.tab⟩, ?_⟩
 ·cases e : f ts with
  | ok t => rw [e] at q4; exact fun v H' s r => q4 v H' s (Rl.go (back H') t v r)
  | exc c =>
   rw [e] at q4
   cases ec : cl with
   | none => exact absurd e (C.nox ec ts c)
   | some g => exact fun dx H' s => ⟨c, g, rfl, rfl, q4 H' s⟩
  | stuck => rw [e] at q4; exact q4
end
theorem Qz {K : PySem.W.Frag} {H : Hp} {P : Pv} {ts : List PyData} {vs : List V} {N : List Str} (r : Rls K H P ts vs) (ho : ∀ i, P.own i = none) (hf : (∀ a, P.fb a -> ∃ o, H a = some o /\ LD o) /\ WR K H) :
  Hol K H P (L2.start N vs) (ts.map .val ++ List.replicate (N.length - ts.length) .emp) where
 sl := fun i s e => by
  by_cases hi : i < ts.length
  ·rw [List.getElem?_append_left (by simpa using hi), List.getElem?_map] at e
   cases et : ts[i]? with
   | none => rw [et] at e; cases e
   | some t =>
    rw [et] at e
    cases e
    obtain ⟨v, ev, rv⟩ := r.getT et
    refine ⟨v, ?_, rv⟩
    have hl := r.length
    unfold L2.start
    rw [List.getD_eq_getElem?_getD, List.getElem?_append_left (by simp; omega), List.getElem?_map, ev]
    rfl
  ·rw [List.getElem?_append_right (by simpa using hi)] at e
   rw [List.getElem?_replicate] at e
   split at e
   ·cases e; trivial
   ·cases e
 inj := fun i j a h _ => by rw [ho i] at h; cases h
 only := fun i a h => by rw [ho i] at h; cases h
 fbd := hf.1
 tab := hf.2
 nfb := fun i a h => by rw [ho i] at h; cases h
 len := by
  have hl := r.length
  unfold L2.start
  simp [hl]
theorem fn_ok {P : Program} {w : World} {K : PySem.W.Frag} {mg : Str -> Option Value} {base : Heap} {x qual : Str} {st : Stmt} {f : Addr} {fd : FuncData} {N ps : List Str} {k np : Nat} {d : DS} (F : Fun K x qual st f fd) (S : FnScope N ps (Ze st)) (hnp : ps.length = np)
  (hb : ∀ (cdv : Value) (A : Around) (outer : List Env) (s : Shared) (H : Hp) (E : XK), Room k (A.deeper (envOfC qual (Ze st) s.heap.objs.size f cdv)) ->
   SVs (cxOf CX0 P w K mg base N qual (Ze st) f cdv A outer s H E).nox (fun _ _ => False) false (ZD st) d) : FnOk P w K mg base CX0 (k + 1) f fd ps (spF K none np (runQ N.length np d)) := by
 refine F.ok S (fun vs H Q E h => by rw [hnp]; exact h.1) fun cdv A outer s H vs Q E hr h => ⟨_, hb cdv A outer s H E hr, ?_⟩
 obtain ⟨hl, ts, P', rs, ho, hf, q⟩ := h
 have hlt : ts.length = np := by rw [rs.length]; exact hl
 refine ⟨_, P', Qz rs ho hf, ?_⟩
 unfold runQ runF at q
 rw [if_pos hlt] at q
 have en : N.length - np = N.length - ts.length := by rw [hlt]
 rw [en] at q
 have sm : ∀ H' P2, Go H P' H' P2 -> Same H H' := fun H' P2 g => g.all ho
 have bk : ∀ H' P2, Go H P' H' P2 -> Tr H' P2 H' P' := fun H' P2 g b o e _ z => ⟨e, fun i => by rw [ho i]; exact fun z => (by cases z), by rw [<- g.fbe]; exact z.2⟩
 cases e : d (ts.map .val ++ List.replicate (N.length - ts.length) .emp) with
 | stuck => rw [e] at q; exact q.elim
 | exc c => rw [e] at q; exact q.elim
 | ok o =>
  rw [e, Res.bind_ok] at q
  cases o with
  | nx G => exact fun σ' H' P2 g h' => q .non H' (sm H' P2 g) (X2.mpr rfl)
  | rt t => exact fun v H' P2 g r _ => q v H' (sm H' P2 g) (Rl.go (bk H' P2 g) t v r)
  | bk G => exact q.elim
  | ct G => exact q.elim
end Fx
namespace Fx
open PySem PySem.Spec PyProof.Rows L2
structure Cle (P : Program) (w : World) (K : PySem.W.Frag) (mg : Str -> Option Value) (base : Heap) (k : Nat) (x : Str) (np : Nat) (f : DF) : Prop where
 ex : ∃ (fa : Addr) (fd : FuncData) (ps : List Str), FnOk P w K mg base CX0 k fa fd ps (spF K none np f) /\ mg x = some (.ref fa) /\ PySem.W.keepIn K (.ref fa) = true /\ YV K fd ps []
 nox : ∀ ts c, f ts ≠ .exc c
section
variable {P : Program} {w : World} {K : PySem.W.Frag} {mg : Str -> Option Value} {base : Heap}
theorem Cle.cal {X : Cx} {W : Str -> Hp -> Prop} {k np : Nat} {x : Str} {f : DF} (C : Cle X.prog X.w X.K X.mg X.base k x np f) : Cal X W none k x np f := by
 obtain ⟨fa, fd, ps, F, hm, hk, hb⟩ := C.ex
 exact ⟨⟨CX0, fa, fd, ps, F, hm, hk, hb, fun _ _ _ _ _ _ _ h => h.elim⟩, fun _ => C.nox⟩
theorem Cle.mono {j k np : Nat} {x : Str} {f : DF} (C : Cle P w K mg base j x np f) (h : j <= k) : Cle P w K mg base k x np f := by
 obtain ⟨fa, fd, ps, F, r⟩ := C.ex
 exact ⟨⟨fa, fd, ps, F.mono h, r⟩, C.nox⟩
theorem Wn {x : Str} {st : Stmt} {fa : Addr} {fd : FuncData} {N ps : List Str} {k n np : Nat} {d : DS} (F : Fun K x x st fa fd) (hm : mg x = some (.ref fa)) (b : YV K fd ps []) (S : FnScope N ps (Ze st)) (hnp : ps.length = np) (hN : N.length = n)
  (hb : ∀ (cdv : Value) (A : Around) (outer : List Env) (s : Shared) (H : Hp) (E : XK), Room k (A.deeper (envOfC x (Ze st) s.heap.objs.size fa cdv)) ->
   SVs (cxOf CX0 P w K mg base N x (Ze st) fa cdv A outer s H E).nox (fun _ _ => False) false (ZD st) d) : Cle P w K mg base (k + 1) x np (runQ n np d) := by
 subst hN
 exact ⟨⟨fa, fd, ps, fn_ok F S hnp hb, hm, F.kp, b⟩, fun ts c => runQ_nox _ _ _ ts c⟩
theorem law_sp {f : DF} {ns : List Int} (h : f [.list (ns.map .int)] = .ok (.bool true)) {H : Hp} {a : Addr} (hT : WR K H) (hS : SqL K H a (ns.map V.int)) : spF K none 1 f [.ref a] H (fun v _ => v = .bl true) (fun _ _ _ => False) := by
 refine ⟨rfl, [.list (ns.map .int)], ⟨fun _ => none, fun _ => False⟩, Zx.mpr ⟨.ref a, [], rfl, Z1.mpr ⟨a, ns.map V.int, rfl, ?_, rls_ints ns⟩, ZV.mpr rfl⟩, fun _ => rfl, ⟨fun _ z => z.elim, hT⟩, ?_⟩
 ·rcases hS with h | h
  ·exact .inl ⟨h, fun _ z => (by cases z), fun z => z⟩
  ·exact .inr h
 ·rw [h]
  exact fun v H' _ r => Yt.mp r
end
end Fx
namespace Fx
open PySem PySem.Spec PyProof.Rows L2
def Yld (K : PySem.W.Frag) (J : It) (ts : List PyData) (H : Hp) (P : Pv) : Prop := ∀ H' P', Tr H P H' P' -> (∀ p, H' p = none -> Off P' p) -> ∀ i,
 (∀ t, ts[i]? = some t -> J.go i H' /\ ∀ x H'', J.yld i H' x H'' -> Same H' H'' /\ Rl K H'' P' t x) /\ (ts.length <= i -> J.stop i H')
def PostI (K : PySem.W.Frag) (W : Str -> Hp -> Prop) (H : Hp) (P : Pv) (r : Res (List PyData)) (R : It -> Hp -> Prop) : Prop :=
 match r with
 | .ok ts => ∀ J H', Same H H' -> Yld K J ts H' P -> R J H'
 | .exc c => ∀ H', Same H H' -> W c H'
 | .stuck => False
def tFI (K : PySem.W.Frag) (W : Str -> Hp -> Prop) (d : DA) : TI := fun σ H R => ∃ G P, Hol K H P σ G /\ PostI K W H P (d G) R
def IV (X : Cx) (W : Str -> Hp -> Prop) (tg iter : Expr) (d : DA) : Prop := PI X tg iter (tFI X.K W d)
theorem QX {X : Cx} {tg e : Expr} {t t' : TI} (h : PI X tg e t) (w : ∀ σ H Q, t' σ H Q -> t σ H Q) : PI X tg e t' := fun pins s σ H Q I q => h pins s σ H Q I (w σ H Q q)
theorem bindEI {a : Res PyData} {f : PyData -> Res (List PyData)} {K : PySem.W.Frag} {W : Str -> Hp -> Prop} {H : Hp} {P : Pv} {Q : It -> Hp -> Prop} (q : PostI K W H P (a.bind f) Q) :
  (∀ c, a = .exc c -> ∀ H', Same H H' -> W c H') /\ a ≠ .stuck /\ ∀ t, a = .ok t -> PostI K W H P (f t) Q := by
 cases a with
 | ok t => exact ⟨fun c e => (by cases e), (by intro e; cases e), fun t' e => by cases e; exact q⟩
 | exc c => exact ⟨fun c' e => by cases e; exact q, (by intro e; cases e), fun t e => by cases e⟩
 | stuck => exact q.elim
section
variable {X : Cx} {W : Str -> Hp -> Prop} {fl : Bool} {tg a b c e : Expr} {da db : DE} {pos : Pos}
def iSq (K : PySem.W.Frag) (tl : TE) : TI := fun σ H R => tl σ H fun x H1 => (∃ a, x = .ref a /\ (∃ xs, SqL K H1 a xs) /\ R (Itl K a) H1) \/ (∃ a, x = .ref a /\ (∃ xs, SqT K H1 a xs) /\ R (Itt K a) H1)
theorem pi_sq {l : Expr} {tl : TE} (hl : PE X l tl) : PI X tg l (iSq X.K tl) := by
 intro pins s σ H R I h
 refine thn (hl pins s σ H _ I h) fun v s1 ⟨x, H1, I1, r1, q1⟩ => ?_
 rcases q1 with ⟨a, e, ⟨xs, hq⟩, q⟩ | ⟨a, e, ⟨xs, hq⟩, q⟩
 ·subst e
  cases r1
  obtain ⟨its, rv, p, hz⟩ := I1.list hq
  refine wpAny_pyIter_list p.isList ?_
  refine ⟨s1.heap.objs.size, [s1.heap.objs.size], _, _, H1, rfl, I1.kept (t' := s1.toks) fun b o e => Heap.get?_push_of_some _ e, zap a _, ⟨_, Heap.get?_push_size _ rfl, rfl, rfl⟩, fun b hb => ?_, q⟩
  have e : b = s1.heap.objs.size := by simpa using hb
  subst e
  exact I1.fpOk (Nat.le_refl _) (I1.hok.fresh (Nat.le_refl _))
 ·subst e
  cases r1
  obtain ⟨its, rv, p, hz⟩ := I1.tuple hq
  refine wpAny_pyIter_tuple (show s1.heap.IsTuple a its.toArray from p) ?_
  refine ⟨s1.heap.objs.size, [s1.heap.objs.size], _, _, H1, rfl, I1.kept (t' := s1.toks) fun b o e => Heap.get?_push_of_some _ e, JP a _, ⟨_, Heap.get?_push_size _ rfl, rfl, rfl⟩, fun b hb => ?_, q⟩
  have e : b = s1.heap.objs.size := by simpa using hb
  subst e
  exact I1.fpOk (Nat.le_refl _) (I1.hok.fresh (Nat.le_refl _))
theorem yld_list {H : Hp} {P : Pv} {l : Addr} {xs : List PyData} {vs : List V} (s : SL X.K H P l vs) (r : Rls X.K H P xs vs) : Yld X.K (Itl X.K l) xs H P := fun H' P' tr nf i =>
 ⟨fun t e => by
  have r' := Rls.go tr xs vs r
  have s' := (s.go tr).sq
  obtain ⟨v, ev, rv⟩ := r'.getT e
  refine ⟨⟨vs, v, s', ev⟩, fun x H'' y => ?_⟩
  obtain ⟨rfl, y⟩ := y
  have := y vs s'
  rw [ev] at this
  cases this
  exact ⟨Same.refl _, rv⟩, fun hl => ⟨vs, (s.go tr).sq, by rw [<- r.length]; exact hl⟩⟩
theorem zak {H : Hp} {P : Pv} {l : Addr} {xs : List PyData} {vs : List V} (s : ST X.K H P l vs) (r : Rls X.K H P xs vs) : Yld X.K (Itt X.K l) xs H P := fun H' P' tr nf i =>
 ⟨fun t e => by
  have r' := Rls.go tr xs vs r
  have s' := (s.go tr).sq
  obtain ⟨v, ev, rv⟩ := r'.getT e
  refine ⟨⟨vs, v, s', ev⟩, fun x H'' y => ?_⟩
  obtain ⟨rfl, y⟩ := y
  have := y vs s'
  rw [ev] at this
  cases this
  exact ⟨Same.refl _, rv⟩, fun hl => ⟨vs, (s.go tr).sq, by rw [<- r.length]; exact hl⟩⟩
theorem Vs (ha : EV X W a da) : IV X W tg a (iSeq da) :=
 QX (pi_sq ha) fun σ H R ⟨G, P, h, q⟩ => by
  unfold iSeq at q
  obtain ⟨q1, q2, q3⟩ := bindEI q
  refine Zq h q1 q2 fun tx x H1 ex s1 h1 rx => ?_
  have q4 := q3 tx ex
  cases tx <;> try exact q4.elim
  ·obtain ⟨l, vs, rfl, sl, rs⟩ := Z1.mp rx
   exact .inl ⟨l, rfl, ⟨vs, sl.sq⟩, q4 _ H1 s1 (yld_list sl rs)⟩
  ·obtain ⟨l, vs, rfl, sl, rs⟩ := Yn.mp rx
   exact .inr ⟨l, rfl, ⟨vs, sl.sq⟩, q4 _ H1 s1 (zak sl rs)⟩
theorem rngT_get (lo : Int) (n i : Nat) : (rngT lo n)[i]? = if i < n then some (.int (lo + (i : Int))) else none := by
 unfold rngT
 rw [List.getElem?_map]
 by_cases h : i < n
 ·rw [if_pos h, List.getElem?_eq_getElem (by simpa using h)]
  simp
 ·rw [if_neg h, List.getElem?_eq_none (by simpa using h)]
  rfl
theorem zal {H : Hp} {P : Pv} (lo : Int) (n : Nat) : Yld X.K (Itr lo n) (rngT lo n) H P := by
 intro H' P' tr nf i
 refine ⟨fun t e => ?_, fun hl => ?_⟩
 ·rw [rngT_get] at e
  split at e
  ·rename_i hi
   cases e
   refine ⟨hi, fun x H'' y => ?_⟩
   obtain ⟨rfl, rfl⟩ := y
   exact ⟨Same.refl _, ZL.mpr rfl⟩
  ·cases e
 ·have : (rngT lo n).length = n := by simp [rngT]
  rw [this] at hl
  exact hl
theorem Jy {p : Pos} (hg : Gl X "range") (hm : X.mg "range" = none) (ha : EV X W a da) (hs : starEach [a] X.env = [(false, eval a X.env)] := by rfl) (hs' : starEach [a] X.env = (false, eval a X.env) :: starEach [] X.env := by rfl) : IV X W tg (.Call (.Name "range" p) [a] [] pos) (iRng da) :=
 QX (zaF hg hm (ZQ ha YA hs') hs) fun σ H R ⟨G, P, h, q⟩ => by
  unfold Fx.iRng at q
  obtain ⟨q1, q2, q3⟩ := bindEI q
  refine Zq h q1 q2 fun tx x H1 ex s1 h1 rx => ?_
  have q4 := q3 tx ex
  cases tx <;> try exact q4.elim
  rename_i j
  simp only at q4
  split at q4
  ·rename_i hj
   exact ⟨j, by rw [ZL.mp rx], (Jh hj).1, (Jh hj).2, q4 _ H1 s1 (zal 0 j.toNat)⟩
  ·exact q4.elim
def GV (X : Cx) (tg : Expr) (st : PyData -> List Sl -> Res (List Sl)) : Prop :=
 ∃ g, PG X tg g /\ ∀ (t : PyData) (v : V) (σ : L2.St) (H : Hp) (P : Pv) (G : List Sl) (Q : L2.St -> Hp -> Prop), Hol X.K H P σ G -> Rl X.K H P t v ->
  (∃ G', st t G = .ok G' /\ ∀ σ' P', Go H P H P' -> Hol X.K H P' σ' G' -> Q σ' H) -> g v σ H Q
theorem Y9 {i : Nat} {x : Str} (hN : X.N.Nodup) (hi : X.N[i]? = some x) (hx : Loc X.env.scope x) (hf : X.fn x = true \/ X.env.scope.names.lookup x = some .local := by first | exact .inl rfl | exact .inr rfl | assumption) : GV X (.Name x pos) (ZI i) :=
 ⟨gName i, pg_name hN hi hx hf, fun t v σ H P G Q h r ⟨G', e, q⟩ => by
  cases e
  exact q _ (P.del i) .del (h.setVal i r)⟩
theorem Hol.offn {K : PySem.W.Frag} {H : Hp} {P : Pv} {σ : L2.St} {G : List Sl} (h : Hol K H P σ G) : ∀ p, H p = none -> Off P p := fun p e => h.off_new e
theorem Qf {body : List Stmt} {is : List Nat} {st : PyData -> List Sl -> Res (List Sl)} {it : DA} {d : DS} {iter : Expr} (hp : PassesOwn (model X.prog X.w) X.A X.env X.xe) (hc : X.calm = true) (hi : IV X W tg iter it) (hg : GV X tg st) (hb : SVs X W fl body d)
  (hst : ∀ t G c, st t G ≠ .exc c := by first | exact zau | exact sTup2_nox) (hs : ∀ x, foldedSetIterable iter X.env x = pure x := by intro _; rfl) : SV X W fl (.For tg iter body [] pos) (dFor st is it d) := by
 obtain ⟨g, pg, gp⟩ := hg
 refine XH (ps_for hp hc hi pg hb hs) fun D σ H ⟨G, P, h, q⟩ => ?_
 unfold dFor at q
 obtain ⟨P1, h1, g1⟩ := h.frz is
 obtain ⟨q1, q2, q3⟩ := zbi q
 refine ⟨frz is G, P1, h1, ?_⟩
 cases e : it (frz is G) with
 | stuck => exact absurd e q2
 | exc c => exact fun H' s => q1 c e H' P1 (g1.trans (.same s))
 | ok ts =>
  intro J H1 s1 y
  have q4 := q3 ts e
  have g2 : Go H P H1 P1 := g1.trans (.same s1)
  refine ⟨fun i m σ' H' => m = ts.length - i /\ i <= ts.length /\ ∃ G' P', Go H1 P1 H' P' /\ Hol X.K H' P' σ' G' /\ X0 X.K W fl H P (forL st d (ts.drop i) G') D, ⟨ts.length, by simp, Nat.zero_le _, frz is G, P1, .refl _ _, h1.same s1, q4⟩, ?_⟩
  rintro i m σ' H' ⟨rfl, hi, G', P', g', h', q'⟩
  obtain ⟨y1, y2⟩ := y H' P' g'.tr h'.offn i
  by_cases hlt : i < ts.length
  ·have et : ts[i]? = some ts[i] := by simp [hlt]
   obtain ⟨go, yl⟩ := y1 _ et
   rw [List.drop_eq_getElem_cons hlt] at q'
   unfold forL at q'
   refine .inr ⟨go, fun σ2 H2 => ∃ G2 P2, Go H1 P1 H2 P2 /\ Hol X.K H2 P2 σ2 G2 /\ X0 X.K W fl H P (forL st d (ts.drop (i + 1)) G2) D, fun σ2 H2 z => ⟨_, by omega, rfl, hlt, z⟩, fun x H2 yy => ?_⟩
   obtain ⟨s2, r2⟩ := yl x H2 yy
   have h2 := h'.same s2
   cases es : st ts[i] G' with
   | stuck => rw [es] at q'; exact q'.elim
   | exc c => exact absurd es (hst _ _ c)
   | ok G1 =>
    rw [es, Res.bind_ok] at q'
    refine gp ts[i] x σ' H2 P' G' _ h2 r2 ⟨G1, es, fun σ3 P3 g3 h3 => ⟨G1, P3, h3, ?_⟩⟩
    have gg : Go H1 P1 H2 P3 := g'.trans ((Go.same s2).trans g3)
    cases ed : d G1 with
    | stuck => rw [ed] at q'; exact q'.elim
    | exc c => rw [ed] at q'; exact X0.up (r := .exc c) q' (g2.trans gg)
    | ok o =>
     rw [ed, Res.bind_ok] at q'
     cases o with
     | nx G4 => exact fun σ4 H4 P4 g4 h4 => ⟨G4, P4, gg.trans g4, h4, q'⟩
     | ct G4 => exact fun σ4 H4 P4 g4 h4 => ⟨G4, P4, gg.trans g4, h4, q'⟩
     | bk G4 => exact fun σ4 H4 P4 g4 h4 => q' σ4 H4 P4 (g2.trans (gg.trans g4)) h4
     | rt t => exact fun v H4 P4 g4 h4 n4 => q' v H4 P4 (g2.trans (gg.trans g4)) h4 fun z => (n4 z).back (g2.trans gg)
  ·have ei : i = ts.length := by omega
   subst ei
   rw [List.drop_length] at q'
   exact .inl ⟨y2 (Nat.le_refl _), q' σ' H' P' (g2.trans g') h'⟩
end
end Fx
namespace Fx
open PySem PySem.Spec PyProof.Rows L2
theorem Same.updL {H H8 : Hp} {D : Addr} {vs ws : List V} (s : Same H H8) (hD : H D = none) (h8 : H8 D = some (.lst vs)) : Same H (upd H8 D (.lst ws)) where
 kp := fun b o e n => by rw [Zz (ZO e hD)]; exact s.kp b o e n
 free := fun {b} w => by
  by_cases z : b = D
  ·rw [z]; exact hD
  ·rw [Zz z] at w; exact s.free w
 tab := fun K t => WR.mono (s.tab K t) fun b o e nl => by
  rw [Zz (fun z => by rw [z, h8] at e; cases e; exact nl (.inl ⟨_, rfl⟩))]; exact e
 tbk := fun b ps e => by rw [Zz (ZO e hD)]; exact s.tbk b ps e
def U7 (K : PySem.W.Frag) (W : Str -> Hp -> Prop) (H : Hp) (P : Pv) (r : Res (List PyData)) (Q : VK) : Prop :=
 match r with
 | .ok xs => ∀ p vs H', Same H H' -> H p = none -> H' p = some (.lst vs) -> Rls K H' (P.fbd p) xs vs -> Q (.ref p) H'
 | .exc c => ∀ H', Same H H' -> W c H'
 | .stuck => False
def tFO (K : PySem.W.Frag) (W : Str -> Hp -> Prop) (d : DA) : TE := fun σ H Q => ∃ G P, Hol K H P σ G /\ U7 K W H P (d G) Q
def OV (X : Cx) (W : Str -> Hp -> Prop) (e : Expr) (d : DA) : Prop := PE X e (tFO X.K W d)
theorem Tr.fbd {H : Hp} {P : Pv} {p : Addr} : Tr H (P.fbd p) H P := fun a o e _ q => ⟨e, q.1, fun z => q.2 (.inl z)⟩
theorem Tr.tofbd {H : Hp} {P : Pv} {p : Addr} (hp : H p = none) : Tr H P H (P.fbd p) := fun a o e _ q => ⟨e, q.1, fun z => z.elim q.2 fun z => by rw [z, hp] at e; cases e⟩
theorem rl_new {K : PySem.W.Frag} {H H' : Hp} {P : Pv} {σ : L2.St} {G : List Sl} {p : Addr} {vs : List V} {xs : List PyData} (h : Hol K H P σ G) (s : Same H H') (hp : H p = none) (hl : H' p = some (.lst vs)) (r : Rls K H' (P.fbd p) xs vs) : Rl K H' P (.list xs) (.ref p) :=
 Z1.mpr ⟨p, vs, rfl, .off hl (h.off_new hp), Rls.go .fbd xs vs r⟩
theorem Hol.own' {K : PySem.W.Frag} {H H' : Hp} {P : Pv} {σ : L2.St} {G : List Sl} {p : Addr} {vs : List V} {xs : List PyData} {i : Nat} (h : Hol K H P σ G) (hi : i < G.length) (s : Same H H') (hp : H p = none) (hl : H' p = some (.lst vs)) (r : Rls K H' (P.fbd p) xs vs) :
  Hol K H' (P.put i p) (σ.set i (some (.ref p))) (G.set i (.own xs)) /\ Go H P H' (P.put i p) := by
 have g0 : Go H P H' (P.put i p) := (Go.put hp).trans (.same s)
 have gg := g0.tr
 have tt : Tr H' (P.fbd p) H' (P.put i p) := fun a o e _ q => ⟨e, fun j z => by
  have z' : (if j = i then some p else P.own j) = some a := z
  split at z'
  ·cases z'; exact q.2 (Or.inr rfl)
  ·exact q.1 j z', fun z => q.2 (Or.inl z)⟩
 have rr : Rls K H' (P.put i p) xs vs := Rls.go tt xs vs r
 refine ⟨⟨fun j s' q => ?_, ?_, ?_, ?_, ?_, ?_, s.tab K h.tab⟩, g0⟩
 ·by_cases e : j = i
  ·subst e
   rw [List.getElem?_set_self hi] at q
   cases q
   exact ⟨p, vs, W4 (by rw [h.len]; exact hi), if_pos rfl, hl, rr⟩
  ·rw [List.getElem?_set_ne (Ne.symm e)] at q
   have z := h.sl j s' q
   rw [WK e]
   cases s' with
   | emp => trivial
   | val t' => obtain ⟨v', e1, r'⟩ := z; exact ⟨v', e1, Rl.go gg t' v' r'⟩
   | own xs' =>
    obtain ⟨p', vs', e1, e2, e3, r'⟩ := z
    exact ⟨p', vs', e1, (by show (if j = i then some p else P.own j) = _; rw [if_neg e]; exact e2), s.kp _ _ e3 Ur, Rls.go gg xs' vs' r'⟩
   | dct xs' =>
    obtain ⟨p', vs', e1, e2, e3, r'⟩ := z
    exact ⟨p', vs', e1, (by show (if j = i then some p else P.own j) = _; rw [if_neg e]; exact e2), s.kp _ _ e3 nt_dT, Rlk.go gg xs' vs' r'⟩
 ·intro a b c h1 h2
  have h1' : (if a = i then some p else P.own a) = some c := h1
  have h2' : (if b = i then some p else P.own b) = some c := h2
  split at h1'
  ·split at h2'
   ·rename_i z1 z2; rw [z1, z2]
   ·cases h1'; obtain ⟨ws, q, _⟩ := h.dom h2'; rw [hp] at q; cases q
  ·split at h2'
   ·cases h2'; obtain ⟨ws, q, _⟩ := h.dom h1'; rw [hp] at q; cases q
   ·exact h.inj a b c h1' h2'
 ·intro j a z
  have z' : (if j = i then some p else P.own j) = some a := z
  split at z'
  ·rename_i e; subst e; exact ⟨_, List.getElem?_set_self hi, trivial⟩
  ·rename_i ne
   obtain ⟨xs, q, m⟩ := h.only j a z'
   exact ⟨xs, by rw [List.getElem?_set_ne (Ne.symm ne)]; exact q, m⟩
 ·intro a z
  obtain ⟨o, q, m⟩ := h.fbd a z
  refine ⟨o, ?_, m⟩
  exact s.kp _ _ q m.nt
 ·intro j a z
  have z' : (if j = i then some p else P.own j) = some a := z
  split at z'
  ·cases z'; exact h.nofb hp
  ·exact h.nfb j a z'
 ·rw [List.length_set, List.length_set]; exact h.len
def YO (env : Env) : List (Str × NameKind) -> List (Str × Addr) -> List (Str × Addr)
 | [], cs => cs
 | (n, k) :: r, cs => YO env r (if (k == NameKind.free) = true then (n, (env.cells.lookup n).getD 0) :: cs else cs)
theorem QJ (env : Env) (f : Str × NameKind -> List (Str × Addr) -> Sem (ForInStep (List (Str × Addr))))
  (hf : ∀ n k cs, f (n, k) cs = if (k == NameKind.free) = true then (cellOf env n >>= fun a => pure (.yield ((n, a) :: cs))) else pure (.yield cs)) :
  ∀ (names : List (Str × NameKind)) (cs : List (Str × Addr)), (∀ y ∈ names, y.2 = .free -> ∃ c, env.cells.lookup y.1 = some c) -> (forIn names cs f : Sem (List (Str × Addr))) = pure (YO env names cs)
 | [], cs, h => rfl
 | (n, k) :: r, cs, h => by
  rw [List.forIn_cons, hf]
  have ih := fun cs => QJ env f hf r cs fun y hy => h y (List.mem_cons_of_mem _ hy)
  by_cases hk : (k == NameKind.free) = true
  ·obtain ⟨c, e⟩ := h (n, k) List.mem_cons_self (by simpa using hk)
   have e2 : cellOf env n = pure c := by unfold cellOf; rw [e]
   rw [if_pos hk, e2, pure_bind, pure_bind]
   show forIn r _ f = _
   rw [ih]
   have ec : YO env ((n, k) :: r) cs = YO env r (if (k == NameKind.free) = true then (n, (env.cells.lookup n).getD 0) :: cs else cs) := rfl
   rw [ec, if_pos hk, e]
   rfl
  ·rw [if_neg hk, pure_bind]
   show forIn r _ f = _
   rw [ih]
   have ec : YO env ((n, k) :: r) cs = YO env r (if (k == NameKind.free) = true then (n, (env.cells.lookup n).getD 0) :: cs else cs) := rfl
   rw [ec, if_neg hk]
theorem U4 {scope : Scope} {env : Env} (h : ∀ y ∈ scope.names, y.2 = .free -> ∃ c, env.cells.lookup y.1 = some c) : closureFor scope env = pure (YO env scope.names []) := by
 unfold closureFor
 have := QJ env (fun x r => match x with
  | (name, kind) => if (kind == NameKind.free) = true then (cellOf env name >>= fun a => pure (.yield ((name, a) :: r))) else pure (.yield r)) (fun _ _ _ => rfl) scope.names [] h
 simp only [bind_pure]
 exact this
theorem Vi (env : Env) : ∀ (names : List (Str × NameKind)) (cs : List (Str × Addr)), (∀ y ∈ names, y.2 = .free -> ∃ c, env.cells.lookup y.1 = some c) -> (∀ x c, cs.lookup x = some c -> env.cells.lookup x = some c) ->
  ∀ x c, (YO env names cs).lookup x = some c -> env.cells.lookup x = some c
 | [], cs, h, hc, x, c, e => hc x c e
 | (n, k) :: r, cs, h, hc, x, c, e => by
  unfold YO at e
  refine Vi env r _ (fun y hy => h y (List.mem_cons_of_mem _ hy)) (fun y d ey => ?_) x c e
  by_cases hk : (k == NameKind.free) = true
  ·rw [if_pos hk] at ey
   obtain ⟨c', e'⟩ := h (n, k) List.mem_cons_self (by simpa using hk)
   rw [List.lookup_cons] at ey
   split at ey
   ·rename_i q
    have : y = n := by simpa using q
    subst this
    rw [e'] at ey ⊢
    exact ey
   ·exact hc y d ey
  ·rw [if_neg hk] at ey
   exact hc y d ey
theorem XJ {α : Type} {x : Str} {a : α} : ∀ {cs : List (Str × α)}, (x, a) ∈ cs -> ∃ b, cs.lookup x = some b
 | (y, b) :: r, h => by
  rw [List.lookup_cons]
  split
  ·exact ⟨b, rfl⟩
  ·rename_i q
   rcases List.mem_cons.mp h with e | e
   ·cases e; simp at q
   ·exact XJ e
theorem Vj (env : Env) : ∀ (names : List (Str × NameKind)) (cs : List (Str × Addr)) (x : Str), ((∃ c, (x, c) ∈ cs) \/ (x, NameKind.free) ∈ names) -> ∃ c, (x, c) ∈ YO env names cs
 | [], cs, x, h => by
  rcases h with h | h
  ·exact h
  ·cases h
 | (n, k) :: r, cs, x, h => by
  unfold YO
  refine Vj env r _ x ?_
  rcases h with ⟨c, h⟩ | h
  ·left
   split
   ·exact ⟨c, List.mem_cons_of_mem _ h⟩
   ·exact ⟨c, h⟩
  ·rcases List.mem_cons.mp h with e | e
   ·cases e
    left
    exact ⟨_, by rw [if_pos (by rfl)]; exact List.mem_cons_self⟩
   ·exact .inr e
theorem XI {α : Type} {x : Str} {a : α} : ∀ {cs : List (Str × α)}, cs.lookup x = some a -> (x, a) ∈ cs
 | (y, b) :: r, h => by
  rw [List.lookup_cons] at h
  split at h
  ·rename_i q
   have : x = y := by simpa using q
   cases h; subst this
   exact List.mem_cons_self
  ·exact List.mem_cons_of_mem _ (XI h)
theorem Vp {scope : Scope} {env : Env} {x : Str} (hcell : ∀ y ∈ scope.names, y.2 ≠ .cell) : (relabel scope env).names.lookup x = some .cell \/ (relabel scope env).names.lookup x = some .free -> (x, NameKind.free) ∈ scope.names := by
 intro h
 have : ∃ k, (x, k) ∈ (relabel scope env).names /\ (k = .cell \/ k = .free) := by
  rcases h with h | h
  ·exact ⟨_, XI h, .inl rfl⟩
  ·exact ⟨_, XI h, .inr rfl⟩
 obtain ⟨k, hm, hk⟩ := this
 unfold relabel at hm
 obtain ⟨⟨n, k0⟩, hm0, e⟩ := List.mem_map.mp hm
 simp only at e
 split at e
 ·rename_i q
  cases e
  simp only [Bool.and_eq_true, beq_iff_eq] at q
  rw [q.1.1] at hm0
  exact hm0
 ·cases e
  rcases hk with rfl | rfl
  ·exact absurd rfl (hcell _ hm0)
  ·exact hm0
def cxC (X : Cx) (scope : Scope) (N : List Str) (s₀ : Shared) (H₀ : Hp) (ex : List Addr) (pn : List (Addr × Obj) := []) : Cx :=
 { X with env := compEnvC scope (YO X.env scope.names []) s₀.heap.objs.size X.env, N := N, s₀ := s₀, H₀ := H₀, outer := X.stack, ex := ex, fn := fun _ => false, pn := pn, xe := fun _ _ => False }
structure CompOk (X : Cx) (scope : Scope) (N : List Str) (nv : Nat) (cap : List Nat) : Prop where
 cell : ∀ y ∈ scope.names, y.2 ≠ .cell
 kind : scope.kind = .function
 names : ∀ y ∈ scope.names, y.2 = .local -> scope.names.lookup y.1 = some .local
 free : ∀ y ∈ scope.names, y.2 = .free -> X.env.kindOf y.1 = some .cell \/ X.env.kindOf y.1 = some .free
 len : N.length = nv + cap.length
 caps : ∀ (i j : Nat) (x : Str), cap[i]? = some j -> N[nv + i]? = some x -> X.N[j]? = some x /\ ((relabel scope X.env).names.lookup x = some .cell \/ (relabel scope X.env).names.lookup x = some .free) /\ (X.env.kindOf x = some .cell \/ X.env.kindOf x = some .free)
def sig (nv : Nat) (cap : List Nat) (σ : L2.St) : L2.St := List.replicate nv none ++ cap.map fun j => σ.getD j none
section
variable {X : Cx} {scope : Scope} {N : List Str} {nv : Nat} {cap : List Nat} {pins : List (Addr × Obj)} {σ : L2.St} {H : Hp} {s : Shared} {ex : List Addr}
theorem CompOk.has (C : CompOk X scope N nv cap) (ok : X.Ok) : ∀ y ∈ scope.names, y.2 = .free -> ∃ c, X.env.cells.lookup y.1 = some c := fun y hy e => ok.has y.1 (C.free y hy e)
theorem CompOk.start (C : CompOk X scope N nv cap) (I : Inv X pins σ H s) (hex : ∀ b ∈ ex, FpOk X pins H b /\ b < s.heap.objs.size) {h' : Heap} {t : Nat} {m : Str -> Option Value} (hn : h'.Ns s.heap.objs.size m) (hk : ∀ b o, s.heap.get? b = some o -> h'.get? b = some o) :
  Inv (cxC X scope N s H ex) [] (sig nv cap σ) H { s with heap := h', toks := t } := by
 have hh := C.has I.ok
 have sub := Vi X.env scope.names [] hh (fun x c e => by cases e)
 have hL : s.heap.objs.size <= (cxC X scope N s H ex).env.locals := Nat.le_refl _
 have stk : ∀ b ∈ frs X.stack, b < s.heap.objs.size := fun b hb => by
  obtain ⟨_, o, ho, _⟩ := I.stack.mem hb
  exact Heap.lt_size ho
 refine ⟨⟨I.ok.mod, C.kind, I.ok.glob, I.ok.blt, hL, fun x y c h1 h2 => I.ok.inj x y c (sub x c h1) (sub y c h2), fun x hx => ?_, fun x c h => ?_, I.ok.hd, I.ok.frames, .inl rfl, fun b hb => ?_, fun b o e => I.bs b o e, ?_, fun b o e hb => ?_, fun b hb => ?_, I.stack, I.stkFree⟩,
  rfl, I.bare, Un.kept hk, ⟨m, hn, fun i x v e1 e2 e3 => ?_⟩, fun x c e => ?_, I.hok.fresh (Nat.le_refl _), fun x c e => I.freeC x c (sub x c e), fun p hp => ?_, I.hok.kept hk, ?_⟩
 ·have hx' : (relabel scope X.env).names.lookup x = some .cell \/ (relabel scope X.env).names.lookup x = some .free := hx
  obtain ⟨c, hc⟩ := Vj X.env scope.names [] x (.inr (Vp C.cell hx'))
  exact XJ hc
 ·cases h
 ·obtain ⟨f, lt⟩ := hex b hb
  refine ⟨Nat.ne_of_lt lt, fun x c e => f.2.2.2.2.1 x c (sub x c e)⟩
 ·exact Nat.le_trans I.ok.bsz I.sz
 ·obtain ⟨f, lt⟩ := hex b hb
  rcases f.2.2.2.1 with z | z
  ·exact I.ok.noex b o e z
  ·exact absurd (Nat.lt_of_lt_of_le (Heap.lt_size e) (Nat.le_trans I.ok.bsz z)) (Nat.lt_irrefl _)
 ·obtain ⟨f, lt⟩ := hex b hb
  intro z
  rcases List.mem_cons.mp (I.stkSub b z) with e | e
  ·exact f.2.1 e
  ·exact f.2.2.1 e
 ·-- the names
  have hi : nv <= i := by
   rcases Nat.lt_or_ge i nv with z | z
   ·unfold sig at e2
    rw [List.getElem?_append_left (by simpa using z), List.getElem?_replicate] at e2
    split at e2 <;> cases e2
   ·exact z
  obtain ⟨k, rfl⟩ := Nat.exists_eq_add_of_le hi
  unfold sig at e2
  rw [List.getElem?_append_right (by simp), List.getElem?_map] at e2
  have ek : nv + k - (List.replicate nv (none : Option V)).length = k := by simp
  rw [ek] at e2
  cases ec : cap[k]? with
  | none => rw [ec] at e2; cases e2
  | some j =>
   rw [ec] at e2
   have e2' : σ.getD j none = some v := by simpa using e2
   obtain ⟨c1, c2, c3⟩ := C.caps k j x ec e1
   obtain ⟨m0, _, hl⟩ := I.loc
   have vis : Vis X.env.scope x := c3.elim (fun z => .inr (.inl z)) fun z => .inr (.inr z)
   obtain ⟨u, ru, lk⟩ := hl j x v c1 (getD_some e2') vis
   refine ⟨u, ru, .inr ⟨c2, ?_⟩⟩
   rcases lk with ⟨z, _⟩ | ⟨_, c, ec', o, ho, hd⟩
   ·rcases c3 with c3 | c3 <;> (rw [c3] at z; cases z)
   ·obtain ⟨c', hc'⟩ := Vj X.env scope.names [] x (.inr (Vp C.cell c2))
    obtain ⟨c'', hc''⟩ := XJ hc'
    have := sub x c'' hc''
    rw [ec'] at this
    cases this
    exact ⟨c, hc'', o, hk c o ho, hd⟩
 ·obtain ⟨v, o, ho, hd⟩ := I.cell x c (sub x c e)
  exact ⟨v, o, hk c o ho, hd⟩
 ·exact absurd (show p ∈ ([] : List (Addr × Obj)) from hp) (by simp)
 ·show (sig nv cap σ).length = N.length
  unfold sig
  rw [C.len]
  simp
theorem CompOk.stop {H' : Hp} {s' : Shared} {σ' : L2.St} {pl : List (Addr × Obj)} (I : Inv X pins σ H s) (hex : ∀ b ∈ ex, FpOk X pins H b) (J : Inv (cxC X scope N s H ex) pl σ' H' s') : Inv X pins σ H' s' :=
 I.call' J.os J.base J.hok J.bare fun b hb => by
  obtain ⟨f0, f1, f2, f3, f4, f5⟩ := hex b hb
  exact ⟨f3, f1, f4, f5⟩
theorem inv_pn {s₀ : Shared} {H₀ : Hp} {E : Value -> Shared -> Prop} (I : Inv (cxC X scope N s₀ H₀ ex) pins σ H s) : Inv ((cxC X scope N s₀ H₀ ex pins).wish E) [] σ H s :=
 ⟨⟨I.ok.mod, I.ok.kind, I.ok.glob, I.ok.blt, I.ok.above, I.ok.inj, I.ok.has, I.ok.cab, I.ok.hd, I.ok.frames, I.ok.stk, I.ok.exf, I.ok.bs, I.ok.bsz, I.ok.noex, I.ok.exfs, I.ok.funs, I.ok.frf⟩, I.os, I.bare, I.base, I.loc, I.cell, I.free, I.freeC,
  fun p hp => I.pin p (show p ∈ [] ++ pins by simpa using (show p ∈ pins ++ [] from hp)), I.hok, I.len⟩
theorem inv_np {s₀ : Shared} {H₀ : Hp} {pn : List (Addr × Obj)} {E : Value -> Shared -> Prop} (I : Inv ((cxC X scope N s₀ H₀ ex pn).wish E) pins σ H s) : Inv (cxC X scope N s₀ H₀ ex) (pn ++ pins) σ H s :=
 ⟨⟨I.ok.mod, I.ok.kind, I.ok.glob, I.ok.blt, I.ok.above, I.ok.inj, I.ok.has, I.ok.cab, I.ok.hd, I.ok.frames, I.ok.stk, I.ok.exf, I.ok.bs, I.ok.bsz, I.ok.noex, I.ok.exfs, I.ok.funs, I.ok.frf⟩, I.os, I.bare, I.base, I.loc, I.cell, I.free, I.freeC,
  fun p hp => I.pin p (show p ∈ pn ++ pins from by simpa using (show p ∈ [] ++ (pn ++ pins) from hp)), I.hok, I.len⟩
end
end Fx
namespace Fx
open PySem PySem.Spec PyProof.Rows L2
theorem zaf {prog : Program} {w : World} {A : Around} {R : Result -> Shared -> Prop} {s : Shared} {elt target iter : Expr} {ifs : List Expr} {scope : Scope} {pos : Pos} {it acc : Value} {env : Env} (I : Nat -> Shared -> Prop)
  (turn : ∀ n s, I n s -> wpAny (model prog w) A (pyNext it) (fun r s₁ => match r with
   | none => R (.ok .next) s₁
   | some v => wpAny (model prog w) A (letOwnedTupleGo target it v) (fun _ s₀ => wpAny (model prog w) A (assign target env v) (fun _ s₂ =>
     wpAny (model prog w) A (forIn ifs true fun c r => if r = true then do let ok <- isTrue c env (eval c env); pure (ForInStep.yield ok) else pure (ForInStep.yield r)) (fun ok s₃ =>
      if ok = true then wpAny (model prog w) A (eval elt env) (fun x s₄ =>
       wpAny (model prog w) A (call (.builtin "list.append") [acc, x]) (fun _ s₅ => ∃ m, m < n /\ I m s₅) (notedBy (model prog w) A env fun e s' => R (.error e) s') s₄) (notedBy (model prog w) A env fun e s' => R (.error e) s') s₃
      else ∃ m, m < n /\ I m s₃) (notedBy (model prog w) A env fun e s' => R (.error e) s') s₂) (notedBy (model prog w) A env fun e s' => R (.error e) s') s₀) (notedBy (model prog w) A env fun e s' => R (.error e) s') s₁) (notedBy (model prog w) A env fun e s' => R (.error e) s') s)
  (n : Nat) (h : I n s) :
  codeAny (model prog w) A (.compLoop (.ListComp elt [⟨target, iter, ifs, 0⟩] scope pos) 0 it acc env) R s := by
 refine codeAny_loop rfl I (fun n s hI => ?_) n h
 show wpAny _ A ((compTurn (.ListComp elt [⟨target, iter, ifs, 0⟩] scope pos) 0 it acc env).onRaise (fun x => do noteFrame x env; theTreesLotGoes x)) _ _ s
 refine wpAny_noted ?_
 rw [compTurn_list]
 refine wpAny_bind (wpAny_standAt (wpAny_bind (wpAny_mono (turn n s hI) (fun r s₁ h₁ => ?_) fun _ _ h' => h')))
 cases r with
 | none => exact wpAny_pure h₁
 | some v =>
  refine wpAny_bind (wpAny_mono h₁ (fun _ s₀ h₀ => ?_) fun _ _ h' => h')
  refine wpAny_bind (wpAny_mono h₀ (fun _ s₂ h₂ => wpAny_bind (wpAny_mono h₂ (fun ok s₃ h₃ => ?_) fun _ _ h' => h')) fun _ _ h' => h')
  cases ok with
  | false => exact wpAny_pure ⟨rfl, h₃⟩
  | true =>
   exact wpAny_bind (wpAny_bind (wpAny_mono h₃ (fun x s₄ h₄ => wpAny_bind (wpAny_mono h₄ (fun _ s₅ h₅ => wpAny_pure (wpAny_pure ⟨rfl, h₅⟩)) fun _ _ h' => h')) fun _ _ h' => h'))
def CT (X : Cx) (W : Str -> Hp -> Prop) (ifs : List Expr) (dc : DT) : Prop := (ifs = [] /\ dc = tT) \/ ∃ c, ifs = [c] /\ TV X W c dc
theorem WP {X : Cx} {W : Str -> Hp -> Prop} : CT X W [] tT := .inl ⟨rfl, rfl⟩
section
variable {X : Cx} {scope : Scope} {N : List Str} {nv : Nat} {cap : List Nat}
theorem hol_cap {K : PySem.W.Frag} {H H' : Hp} {P P' : Pv} {σ : L2.St} {G : List Sl} (h : Hol K H P σ G) (tr : Tr H P H' P') (ho : ∀ i, P'.own i = none) (hf : ∀ a, P'.fb a -> ∃ o, H' a = some o /\ LD o) (htb : WR K H') : Hol K H' P' (sig nv cap σ) (List.replicate nv .emp ++ capS cap G) where
 sl := fun i s e => by
  by_cases hi : i < nv
  ·rw [List.getElem?_append_left (by simpa using hi), List.getElem?_replicate, if_pos hi] at e
   cases e
   trivial
  ·rw [List.getElem?_append_right (by simpa using hi)] at e
   have el : i - (List.replicate nv Sl.emp).length = i - nv := by simp
   rw [el] at e
   unfold capS at e
   rw [List.getElem?_map] at e
   cases ec : cap[i - nv]? with
   | none => rw [ec] at e; cases e
   | some j =>
    rw [ec] at e
    have es : (sig nv cap σ).getD i none = σ.getD j none := by
     unfold sig
     rw [List.getD_eq_getElem?_getD, List.getElem?_append_right (by simpa using hi)]
     have el2 : i - (List.replicate nv (none : Option V)).length = i - nv := by simp
     rw [el2, List.getElem?_map, ec]
     rfl
    rw [es]
    simp only [Option.map_some, Option.some.injEq] at e
    cases eg : G[j]? with
    | none => rw [eg] at e; subst e; trivial
    | some x =>
     rw [eg] at e
     cases x with
     | emp => subst e; trivial
     | own xs => subst e; trivial
     | dct xs => subst e; trivial
     | val t =>
      subst e
      obtain ⟨v, ev, rv⟩ := h.sl j _ eg
      exact ⟨v, ev, Rl.go tr t v rv⟩
 inj := fun i j a z _ => by rw [ho i] at z; cases z
 only := fun i a z => by rw [ho i] at z; cases z
 fbd := hf
 nfb := fun i a z => by rw [ho i] at z; cases z
 len := by simp [sig]
 tab := htb
theorem zab {K : PySem.W.Frag} {H : Hp} {P : Pv} {σ : L2.St} {G1 : List Sl} {C : List Sl} (hC : ∀ i, i < nv -> ∀ s, C[i]? = some s -> s = .emp) (hC2 : ∀ (i : Nat) (x : Sl), C[i]? = some x -> ¬ x.mine) (h : Hol K H P σ G1) (hl : G1.length = C.length) (he : ∀ i, nv <= i -> G1[i]? = C[i]?) :
  Hol K H P.bare σ C := by
 obtain ⟨h', g⟩ := h.frzA
 refine ⟨fun i s e => ?_, fun _ _ _ z => (by cases z), fun _ _ z => (by cases z), h'.fbd, fun _ _ z => (by cases z), by rw [h.len, hl], h'.tab⟩
 by_cases hi : i < nv
 ·rw [hC i hi s e]; trivial
 ·have e1 : G1[i]? = some s := by rw [he i (by omega)]; exact e
  cases s with
  | emp => trivial
  | own xs => exact (hC2 i _ e trivial).elim
  | dct xs => exact (hC2 i _ e trivial).elim
  | val t =>
   refine h'.sl i (.val t) ?_
   rw [Wz, e1]; rfl
abbrev cxT (xz : Cx -> Value -> Shared -> Prop) (X : Cx) (scope : Scope) (N : List Str) (s₀ : Shared) (H₀ : Hp) (ex : List Addr) (pn : List (Addr × Obj)) : Cx := (cxC X scope N s₀ H₀ ex pn).wish (xz (cxC X scope N s₀ H₀ ex pn))
theorem zae {xz : Cx -> Value -> Shared -> Prop} {W : Str -> Hp -> Prop} {tg elt iter : Expr} {ifs : List Expr} {pos : Pos} {st : PyData -> List Sl -> Res (List Sl)} {dc : DT} {de : DE} {pins : List (Addr × Obj)} {σ : L2.St} {H2 : Hp} {s3 s4 : Shared} {P : Pv} {G : List Sl} {J : It} {fp : List Addr} {itA D : Addr} {tn : Nat -> Heap -> Prop} {ts : List PyData} {r : Res (List PyData)} {R : Result -> Shared -> Prop} {m : Str -> Option Value}
  (C : CompOk X scope N nv cap) (hc : X.calm = true) (hk : zai nv st)
  (hg : ∀ s₀ H₀ ex pn, GV (cxT xz X scope N s₀ H₀ ex pn) tg st) (ht : ∀ s₀ H₀ ex pn, (∀ b ∈ ex, ∃ o, (b, o) ∈ pn) -> CT (cxT xz X scope N s₀ H₀ ex pn) W ifs dc) (he : ∀ s₀ H₀ ex pn, (∀ b ∈ ex, ∃ o, (b, o) ∈ pn) -> EV (cxT xz X scope N s₀ H₀ ex pn) W elt de)
  (h2 : Hol X.K H2 P σ G) (hD : H2 D = none) (I3 : Inv X pins σ (upd H2 D (.lst [])) s3) (T : Turn X.prog X.w X.K tg J fp itA tn) (hf : ∀ b ∈ fp, FpOk X pins (upd H2 D (.lst [])) b /\ b < s3.heap.objs.size) (y : Yld X.K J ts H2 P) (hlen : ts.length <= 16777216)
  (hall : Yc st dc de (List.replicate nv .emp ++ capS cap G) ts = r) (hr : r ≠ .stuck) (hW : ∀ c, r = .exc c -> ∀ H', Same H2 H' -> W c H')
  (hn : s4.heap.Ns s3.heap.objs.size m) (hkp : ∀ b o, s3.heap.get? b = some o -> s4.heap.get? b = some o) (e4 : ∃ h' t, s4 = { s3 with heap := h', toks := t }) (tn0 : tn 0 s4.heap)
  (fin : ∀ s' H' σ' vs all, r = .ok all -> Inv (cxC X scope N s3 (upd H2 D (.lst [])) fp) [] σ' H' s' -> H' D = some (.lst vs) -> Same H2 H' -> Rls X.K H' (P.fbd D) all vs -> R (.ok .next) s')
  (finx : ∀ pn e s', (∀ b ∈ fp, ∃ o, (b, o) ∈ pn) -> xz (cxC X scope N s3 (upd H2 D (.lst [])) fp pn) e s' -> notedBy (model X.prog X.w) X.A (compEnvC scope (YO X.env scope.names []) s3.heap.objs.size X.env) (fun e s' => R (.error e) s') e s') :
  codeAny (model X.prog X.w) X.A (.compStart (.ListComp elt [⟨tg, iter, ifs, 0⟩] scope pos) 0 (.ref itA) (.ref D) (compEnvC scope (YO X.env scope.names []) s3.heap.objs.size X.env)) R s4 := by
 obtain ⟨h4, t4, rfl⟩ := e4
 have J4 := C.start (t := t4) I3 hf hn hkp
 -- what no element may hold
 have trc : ∀ H', Same H2 H' -> (∃ vs, H' D = some (.lst vs)) -> Tr H2 P H' ⟨fun _ => none, fun a => ¬ Off P a \/ a = D⟩ := fun H' s _ a o e n q => ⟨s.kp a o e n, fun _ z => (by cases z), fun z => z.elim (fun z => z q) fun z => by rw [z, hD] at e; cases e⟩
 have offc : ∀ H', Same H2 H' -> (∃ vs, H' D = some (.lst vs)) -> ∀ p, H' p = none -> Off ⟨fun _ => none, fun a => ¬ Off P a \/ a = D⟩ p := fun H' s ⟨vs, hv⟩ p hp => ⟨fun _ z => (by cases z), fun z => z.elim (fun z => z (h2.off_new (s.free hp))) fun z => by rw [z, hv] at hp; cases hp⟩
 have fbc : ∀ H', Same H2 H' -> (∃ vs, H' D = some (.lst vs)) -> ∀ a, (¬ Off P a \/ a = D) -> ∃ o, H' a = some o /\ LD o := fun H' s ⟨vs, hv⟩ a z => z.elim (fun z => let ⟨o, q, m⟩ := h2.ld z; ⟨o, s.kp _ _ q m.nt, m⟩) fun z => by rw [z]; exact ⟨_, hv, .inl ⟨vs, rfl⟩⟩
 have hCe : ∀ i, i < nv -> ∀ x, (List.replicate nv Sl.emp ++ capS cap G)[i]? = some x -> x = .emp := fun i hi x e => by
  rw [List.getElem?_append_left (by simpa using hi), List.getElem?_replicate, if_pos hi] at e
  cases e
  rfl
 have hCo : ∀ (i : Nat) xs, (List.replicate nv Sl.emp ++ capS cap G)[i]? = some xs -> ¬ xs.mine := fun i xs e m => by
  by_cases hi : i < nv
  ·rw [hCe i hi _ e] at m; exact m
  ·rw [List.getElem?_append_right (by simpa using hi)] at e
   unfold capS at e
   rw [List.getElem?_map] at e
   cases ec : cap[i - (List.replicate nv Sl.emp).length]? with
   | none => rw [ec] at e; cases e
   | some j =>
    rw [ec] at e
    simp only [Option.map_some, Option.some.injEq] at e
    subst e
    revert m
    cases eg : G[j]? with
    | none => exact fun m => m
    | some x => cases x <;> exact fun m => m
 have fpo : ∀ H', (∀ b ∈ fp, H' b = none) -> ∀ b ∈ fp, FpOk (cxC X scope N s3 (upd H2 D (.lst [])) fp) [] H' b := fun H' hz b hb => by
  obtain ⟨f, lt⟩ := hf b hb
  refine ⟨hz b hb, Nat.ne_of_lt lt, fun z => ?_, .inl hb, fun x c e => f.2.2.2.2.1 x c (Vi X.env scope.names [] (C.has I3.ok) (fun x c e => by cases e) x c e), fun p hp => absurd (show p ∈ ([] : List (Addr × Obj)) from hp) (by simp)⟩
  rcases List.mem_cons.mp (I3.stkSub b z) with e | e
  ·exact f.2.1 e
  ·exact f.2.2.1 e
 have up0 : Same H2 (upd H2 D (.lst [])) := ZX hD
 -- the loop
 have loop : ∀ s5 : Shared, s5 = { s3 with heap := h4, toks := t4 } -> codeAny (model X.prog X.w) X.A (.compLoop (.ListComp elt [⟨tg, iter, ifs, 0⟩] scope pos) 0 (.ref itA) (.ref D) (compEnvC scope (YO X.env scope.names []) s3.heap.objs.size X.env)) R s5 := by
  rintro s5 rfl
  refine zaf (fun n s => ∃ i σ' H' vs ys, n = ts.length - i /\ i <= ts.length /\ Inv (cxC X scope N s3 (upd H2 D (.lst [])) fp) [] σ' H' s /\ tn i s.heap /\ (∀ b ∈ fp, H' b = none) /\ Same H2 H' /\ H' D = some (.lst vs) /\
   Rls X.K H' ⟨fun _ => none, fun a => ¬ Off P a \/ a = D⟩ ys vs /\ Hol X.K H' ⟨fun _ => none, fun a => ¬ Off P a \/ a = D⟩ σ' (List.replicate nv .emp ++ capS cap G) /\ ((Yc st dc de (List.replicate nv .emp ++ capS cap G) (ts.drop i)).bind fun zs => .ok (ys ++ zs)) = r /\ ys.length <= i) ?_ ts.length
   ⟨0, _, _, [], [], rfl, Nat.zero_le _, J4, tn0, fun b hb => (hf b hb).1.1, up0, ZS, ZV.mpr rfl, hol_cap h2 (trc _ up0 ⟨_, ZS⟩) (fun _ => rfl) (fbc _ up0 ⟨_, ZS⟩) (up0.tab _ h2.tab), by rw [List.drop_zero, hall]; cases r <;> rfl, Nat.le_refl _⟩
  rintro n s ⟨i, σ', H', vs, ys, rfl, hi, Ji, tni, fpn, sm, hDv, rys, hol, ecl, hyl⟩
  obtain ⟨y1, y2⟩ := y H' ⟨fun _ => none, fun a => ¬ Off P a \/ a = D⟩ (trc H' sm ⟨vs, hDv⟩) (offc H' sm ⟨vs, hDv⟩) i
  by_cases hlt : i < ts.length
  ·have et : ts[i]? = some ts[i] := by simp [hlt]
   obtain ⟨go, yl⟩ := y1 _ et
   rw [List.drop_eq_getElem_cons hlt] at ecl
   unfold Yc at ecl
   -- the turn's own data
   obtain ⟨G1, eG⟩ : ∃ G1, st ts[i] (List.replicate nv .emp ++ capS cap G) = .ok G1 := by
    rcases W3 (st ts[i] (List.replicate nv .emp ++ capS cap G)) with ⟨G1, h⟩ | h
    ·exact ⟨G1, Js h⟩
    ·rw [h] at ecl; exact absurd ecl.symm hr
   rw [eG, show noX (Res.ok G1 : Res (List Sl)) = .ok G1 from rfl, Res.bind_ok] at ecl
   obtain ⟨kl, ke⟩ := hk _ _ _ eG
   refine wpAny_mono (T.item (cxC X scope N s3 (upd H2 D (.lst [])) fp) rfl rfl rfl hc i [] s σ' H' (fun _ _ => False) Ji (fpo H' fpn) tni go) (fun r' s1 hr' => ?_) fun _ _ z => z.elim
   obtain ⟨u, rfl, hr'⟩ := hr'
   refine wpAny_mono hr' (fun _ s2 hr2 => ?_) fun _ _ z => z.elim
   obtain ⟨x, H5, J5, r5, y5, tn5, fr5⟩ := hr2
   obtain ⟨sm5, rl5⟩ := yl x H5 y5
   have J5' : Inv (cxT xz X scope N s3 (upd H2 D (.lst [])) fp (Xe fp s2.heap)) [] σ' H5 s2 := inv_pn (J5.pinned (fpo H5 fr5) (T.obj _ _ tn5))
   have pnn : ∀ b ∈ fp, ∃ o, (b, o) ∈ Xe fp s2.heap := fun b hb => by
    obtain ⟨o, e, _⟩ := T.obj _ _ tn5 b hb
    exact ⟨o, Wx hb e⟩
   have finx' := fun e s' => finx (Xe fp s2.heap) e s' pnn
   obtain ⟨g, pg, gp⟩ := hg s3 (upd H2 D (.lst [])) fp (Xe fp s2.heap)
   have hol5 := hol.same sm5
   refine wpAny_mono (pg _ s2 σ' H5 x u (fun σ6 H6 => H6 = H5 /\ ∃ P6, Go H5 ⟨fun _ => none, fun a => ¬ Off P a \/ a = D⟩ H5 P6 /\ Hol X.K H5 P6 σ6 G1) J5' r5 (gp ts[i] x σ' H5 _ _ _ hol5 rl5 ⟨G1, eG, fun σ6 P6 g6 h6 => ⟨rfl, P6, g6, h6⟩⟩)) (fun _ s6 h6 => ?_) finx'
   obtain ⟨σ6, H6, J6, rfl, P6, g6, hol6⟩ := h6
   -- on to the next turn
   have fr6 : ∀ {H8 : Hp} {s8 : Shared}, Inv (cxT xz X scope N s3 (upd H2 D (.lst [])) fp (Xe fp s2.heap)) [] σ6 H8 s8 -> ∀ b ∈ fp, H8 b = none := fun {H8 s8} J8 b hb => by
    obtain ⟨o, e⟩ := pnn b hb
    exact (J8.pin (b, o) (List.mem_append_left _ e)).2.1
   have next : ∀ {H8 : Hp} {s8 : Shared} {ys' : List PyData} {vs' : List V}, Inv (cxT xz X scope N s3 (upd H2 D (.lst [])) fp (Xe fp s2.heap)) [] σ6 H8 s8 -> Same H2 H8 -> H8 D = some (.lst vs') -> (∀ b, b ≠ D -> ∀ o, H6 b = some o -> Nt o -> H8 b = some o) ->
     Rls X.K H8 ⟨fun _ => none, fun a => ¬ Off P a \/ a = D⟩ ys' vs' -> ((Yc st dc de (List.replicate nv .emp ++ capS cap G) (ts.drop (i + 1))).bind fun zs => .ok (ys' ++ zs)) = r -> ys'.length <= i + 1 ->
     ∃ m, m < ts.length - i /\ ∃ i σ' H' vs ys, m = ts.length - i /\ i <= ts.length /\ Inv (cxC X scope N s3 (upd H2 D (.lst [])) fp) [] σ' H' s8 /\ tn i s8.heap /\ (∀ b ∈ fp, H' b = none) /\ Same H2 H' /\ H' D = some (.lst vs) /\
      Rls X.K H' ⟨fun _ => none, fun a => ¬ Off P a \/ a = D⟩ ys vs /\ Hol X.K H' ⟨fun _ => none, fun a => ¬ Off P a \/ a = D⟩ σ' (List.replicate nv .emp ++ capS cap G) /\ ((Yc st dc de (List.replicate nv .emp ++ capS cap G) (ts.drop i)).bind fun zs => .ok (ys ++ zs)) = r /\ ys.length <= i := by
    intro H8 s8 ys' vs' J8 sm8 hD8 kp8 rys8 ecl8 hyl8
    refine ⟨ts.length - (i + 1), by omega, i + 1, σ6, H8, vs', ys', rfl, hlt, Inv.unpinned (pins := []) (pl := Xe fp s2.heap) (by simpa using inv_np J8), ?_, fr6 J8, sm8, hD8, rys8, ?_, ecl8, hyl8⟩
    ·exact T.keep _ _ _ tn5 fun b hb o e => (J8.pin (b, o) (List.mem_append_left _ (Wx hb e))).1
    ·have hF : Hol X.K H6 P6.bare σ6 (List.replicate nv .emp ++ capS cap G) := zab hCe hCo hol6 kl ke
     have ep : P6.bare = ⟨fun _ => none, fun a => ¬ Off P a \/ a = D⟩ := by
      unfold Pv.bare
      rw [g6.fbe]
     rw [ep] at hF
     have tr8 : Tr H6 ⟨fun _ => none, fun a => ¬ Off P a \/ a = D⟩ H8 ⟨fun _ => none, fun a => ¬ Off P a \/ a = D⟩ := fun a o e n q => ⟨kp8 a (fun z => q.2 (Or.inr z)) o e n, q⟩
     refine ⟨fun j x e => ?_, fun _ _ _ z => (by cases z), fun _ _ z => (by cases z), fbc H8 sm8 ⟨vs', hD8⟩, fun _ _ z => (by cases z), hF.len, sm8.tab _ h2.tab⟩
     have z := hF.sl j x e
     cases x with
     | emp => trivial
     | val t => obtain ⟨v, e1, r1⟩ := z; exact ⟨v, e1, Rl.go tr8 t v r1⟩
     | own xs => exact (hCo j _ e trivial).elim
     | dct xs => exact (hCo j _ e trivial).elim
   have sm6 : Same H2 H6 := sm.trans sm5
   -- behind the test
   have after : ∀ k s7 H7, Inv (cxT xz X scope N s3 (upd H2 D (.lst [])) fp (Xe fp s2.heap)) [] σ6 H7 s7 -> Same H6 H7 -> dc G1 = .ok k -> (if k = true then wpAny (model X.prog X.w) X.A (eval elt (compEnvC scope (YO X.env scope.names []) s3.heap.objs.size X.env)) (fun x s₄ =>
      wpAny (model X.prog X.w) X.A (call (.builtin "list.append") [.ref D, x]) (fun _ s₅ => ∃ m, m < ts.length - i /\ ∃ i σ' H' vs ys, m = ts.length - i /\ i <= ts.length /\ Inv (cxC X scope N s3 (upd H2 D (.lst [])) fp) [] σ' H' s₅ /\ tn i s₅.heap /\ (∀ b ∈ fp, H' b = none) /\ Same H2 H' /\ H' D = some (.lst vs) /\
      Rls X.K H' ⟨fun _ => none, fun a => ¬ Off P a \/ a = D⟩ ys vs /\ Hol X.K H' ⟨fun _ => none, fun a => ¬ Off P a \/ a = D⟩ σ' (List.replicate nv .emp ++ capS cap G) /\ ((Yc st dc de (List.replicate nv .emp ++ capS cap G) (ts.drop i)).bind fun zs => .ok (ys ++ zs)) = r /\ ys.length <= i) (notedBy (model X.prog X.w) X.A (compEnvC scope (YO X.env scope.names []) s3.heap.objs.size X.env) fun e s' => R (.error e) s') s₄) (notedBy (model X.prog X.w) X.A (compEnvC scope (YO X.env scope.names []) s3.heap.objs.size X.env) fun e s' => R (.error e) s') s7
     else ∃ m, m < ts.length - i /\ ∃ i σ' H' vs ys, m = ts.length - i /\ i <= ts.length /\ Inv (cxC X scope N s3 (upd H2 D (.lst [])) fp) [] σ' H' s7 /\ tn i s7.heap /\ (∀ b ∈ fp, H' b = none) /\ Same H2 H' /\ H' D = some (.lst vs) /\
      Rls X.K H' ⟨fun _ => none, fun a => ¬ Off P a \/ a = D⟩ ys vs /\ Hol X.K H' ⟨fun _ => none, fun a => ¬ Off P a \/ a = D⟩ σ' (List.replicate nv .emp ++ capS cap G) /\ ((Yc st dc de (List.replicate nv .emp ++ capS cap G) (ts.drop i)).bind fun zs => .ok (ys ++ zs)) = r /\ ys.length <= i) := by
    intro k s7 H7 J7 sm7 eK
    rw [eK, Res.bind_ok] at ecl
    have sm27 : Same H2 H7 := sm6.trans sm7
    have hD7 : H7 D = some (.lst vs) := sm7.kp _ _ (sm5.kp _ _ hDv Ur) Ur
    have r7 : Rls X.K H7 ⟨fun _ => none, fun a => ¬ Off P a \/ a = D⟩ ys vs := Rls.go (.same (sm5.trans sm7)) ys vs rys
    cases k with
    | false =>
     rw [if_neg Bool.false_ne_true] at ecl ⊢
     exact next J7 sm27 hD7 (fun b _ o e n => sm7.kp b o e n) r7 ecl (by omega)
    | true =>
     rw [if_pos rfl] at ecl ⊢
     cases eY : de G1 with
     | stuck => rw [eY] at ecl; exact absurd ecl.symm hr
     | exc c =>
      rw [eY] at ecl
      refine wpAny_mono (he s3 (upd H2 D (.lst [])) fp (Xe fp s2.heap) pnn _ s7 σ6 H7 (fun _ _ => False) J7 ⟨G1, P6, hol6.same sm7, by rw [eY]; exact fun H8 s8 => hW c ecl.symm H8 (sm27.trans s8)⟩) (fun xv s8 h8 => ?_) finx'
      obtain ⟨_, _, _, _, z⟩ := h8
      exact z.elim
     | ok yv =>
      rw [eY, Res.bind_ok] at ecl
      refine wpAny_mono (he s3 (upd H2 D (.lst [])) fp (Xe fp s2.heap) pnn _ s7 σ6 H7 (fun v H8 => Same H7 H8 /\ Rl X.K H8 P6 yv v) J7 ⟨G1, P6, hol6.same sm7, by rw [eY]; exact fun v H8 s r => ⟨s, r⟩⟩) (fun xv s8 h8 => ?_) finx'
      obtain ⟨v8, H8, J8, r8, sm8, rl8⟩ := h8
      have hD8 : H8 D = some (.lst vs) := sm8.kp _ _ hD7 Ur
      have lv := rys.length
      have tr6 : Tr H8 P6 H8 ⟨fun _ => none, fun a => ¬ Off P a \/ a = D⟩ := fun a o e _ q => ⟨e, fun _ z => (by cases z), by rw [<- g6.fbe]; exact q.2⟩
      refine wpAny_mono (Qu (X := cxT xz X scope N s3 (upd H2 D (.lst [])) fp (Xe fp s2.heap)) _ s8 σ6 H8 (.ref D) [v8] (.ref D) [xv] (fun w H9 => H9 = upd H8 D (.lst (vs ++ [v8]))) J8 rfl (.cons r8 .nil) ⟨D, vs, v8, rfl, rfl, hD8, by rw [sizeLine_eq]; omega, rfl⟩) (fun _ s9 h9 => ?_) finx'
      obtain ⟨_, H9, J9, _, rfl⟩ := h9
      have trD : Tr H8 ⟨fun _ => none, fun a => ¬ Off P a \/ a = D⟩ (upd H8 D (.lst (vs ++ [v8]))) ⟨fun _ => none, fun a => ¬ Off P a \/ a = D⟩ := fun a o e _ q => ⟨by rw [Zz (fun z => q.2 (Or.inr z))]; exact e, q⟩
      have smD : Same H2 (upd H8 D (.lst (vs ++ [v8]))) := (sm27.trans sm8).updL hD hD8
      refine next J9 smD ZS (fun b hb o e n => by rw [Zz hb]; exact sm8.kp b o (sm7.kp b o e n) n) (Rls.append (Rls.go trD ys vs (Rls.go (.same sm8) ys vs r7)) (Zx.mpr ⟨v8, [], rfl, Rl.go trD yv v8 (Rl.go tr6 yv v8 rl8), ZV.mpr rfl⟩)) ?_ (by simp; omega)
      rw [<- ecl]
      cases Yc st dc de (List.replicate nv .emp ++ capS cap G) (ts.drop (i + 1)) <;> simp
   rcases ht s3 (upd H2 D (.lst [])) fp (Xe fp s2.heap) pnn with ⟨rfl, rfl⟩ | ⟨cx, rfl, tvc⟩
   ·exact wpAny_tests_nil (after true s6 H6 J6 (Same.refl _) rfl)
   ·cases eK : dc G1 with
    | stuck => rw [eK] at ecl; exact absurd ecl.symm hr
    | exc c =>
     rw [eK] at ecl
     refine wpAny_tests_one (wpAny_mono (tvc _ s6 σ6 H6 (fun _ _ => False) J6 ⟨G1, P6, hol6, by rw [eK]; exact fun H7 s => hW c ecl.symm H7 (sm6.trans s)⟩) (fun b s7 h7 => ?_) finx')
     obtain ⟨_, _, z⟩ := h7
     exact z.elim
    | ok k =>
     refine wpAny_tests_one (wpAny_mono (tvc _ s6 σ6 H6 (fun b H7 => b = k /\ Same H6 H7) J6 ⟨G1, P6, hol6, by rw [eK]; exact fun H7 s => ⟨rfl, s⟩⟩) (fun b s7 h7 => ?_) finx')
     obtain ⟨H7, J7, rfl, sm7⟩ := h7
     exact after b s7 H7 J7 sm7 eK
  ·have ei : i = ts.length := by omega
   subst ei
   rw [List.drop_length] at ecl
   have ecl' : r = .ok ys := by rw [<- ecl]; simp [Yc]
   refine wpAny_mono (T.done (cxC X scope N s3 (upd H2 D (.lst [])) fp) rfl rfl rfl hc _ [] s σ' H' (fun _ _ => False) Ji (fpo H' fpn) tni (y2 (Nat.le_refl _))) (fun r' s1 hr' => ?_) fun _ _ z => z.elim
   obtain ⟨rfl, J1⟩ := hr'
   have trf : Tr H' ⟨fun _ => none, fun a => ¬ Off P a \/ a = D⟩ H' (P.fbd D) := fun a o e _ q => by
    have o1 : Off P a := Classical.byContradiction fun z => q.2 (Or.inl z)
    exact ⟨e, o1.1, fun z => z.elim o1.2 fun z => q.2 (Or.inr z)⟩
   exact fin s1 H' σ' vs ys ecl' J1 hDv sm (Rls.go trf ys vs rys)
 exact codeAny_compStart_list (loop _ rfl) (T.self _ 0 _ _ _ tn0 (loop _ rfl))
end
end Fx
namespace Fx
open PySem PySem.Spec PyProof.Rows L2
theorem bindAO {a : Res (List PyData)} {f : List PyData -> Res (List PyData)} {K : PySem.W.Frag} {W : Str -> Hp -> Prop} {H : Hp} {P : Pv} {Q : VK} (q : U7 K W H P (a.bind f) Q) :
  (∀ c, a = .exc c -> ∀ H', Same H H' -> W c H') /\ a ≠ .stuck /\ ∀ t, a = .ok t -> U7 K W H P (f t) Q := by
 cases a with
 | ok t => exact ⟨fun c e => (by cases e), (by intro e; cases e), fun t' e => by cases e; exact q⟩
 | exc c => exact ⟨fun c' e => by cases e; exact q, (by intro e; cases e), fun t e => by cases e⟩
 | stuck => exact q.elim
theorem zbh {a : Res PyData} {f : PyData -> Res (List PyData)} {K : PySem.W.Frag} {W : Str -> Hp -> Prop} {H : Hp} {P : Pv} {Q : VK} (q : U7 K W H P (a.bind f) Q) :
  (∀ c, a = .exc c -> ∀ H', Same H H' -> W c H') /\ a ≠ .stuck /\ ∀ t, a = .ok t -> U7 K W H P (f t) Q := by
 cases a with
 | ok t => exact ⟨fun c e => (by cases e), (by intro e; cases e), fun t' e => by cases e; exact q⟩
 | exc c => exact ⟨fun c' e => by cases e; exact q, (by intro e; cases e), fun t e => by cases e⟩
 | stuck => exact q.elim
theorem U7.up {K : PySem.W.Frag} {W : Str -> Hp -> Prop} {H H' : Hp} {P : Pv} {r : Res (List PyData)} {Q : VK} (q : U7 K W H P r Q) (s : Same H H') : U7 K W H' P r Q := by
 cases r with
 | ok t => exact fun p vs H2 s2 hp hl r2 => q p vs H2 (s.trans s2) (s.free hp) hl r2
 | exc c => exact fun H2 s2 => q H2 (s.trans s2)
 | stuck => exact q
def zaj (X : Cx) (scope : Scope) (N : List Str) (xz : Cx -> Value -> Shared -> Prop) : Prop :=
 ∀ (pins : List (Addr × Obj)) (σ : L2.St) (H3 : Hp) (s3 : Shared) (fp : List Addr) (pn : List (Addr × Obj)) (e : Value) (s' : Shared), Inv X pins σ H3 s3 -> (∀ b ∈ fp, FpOk X pins H3 b /\ b < s3.heap.objs.size) -> (∀ b ∈ fp, ∃ o, (b, o) ∈ pn) ->
  xz (cxC X scope N s3 H3 fp pn) e s' -> notedBy (model X.prog X.w) X.A (compEnvC scope (YO X.env scope.names []) s3.heap.objs.size X.env) (fun x s' => ∃ m, s'.heap.Ns s3.heap.objs.size m /\ ∀ h', Heap.SameBut s3.heap.objs.size s'.heap h' -> ∀ cenv : Env, cenv.locals = s3.heap.objs.size ->
   wpAny (model X.prog X.w) X.A (PySem.passOn "comprehension.variables-let-go" x cenv : Sem Value) (fun _ _ => False) X.xe { s' with heap := h' }) e s'
theorem JJ {X : Cx} {scope : Scope} {N : List Str} : zaj X scope N (fun _ _ _ => False) := fun _ _ _ _ _ _ _ _ _ _ _ h => h.elim
section
variable {X : Cx} {W : Str -> Hp -> Prop} {fl : Bool} {scope : Scope} {N : List Str} {nv : Nat} {cap : List Nat} {tg elt iter : Expr} {ifs : List Expr} {pos : Pos} {st : PyData -> List Sl -> Res (List Sl)} {it : DA} {dc : DT} {de : DE} {xz : Cx -> Value -> Shared -> Prop}
theorem JK {pins : List (Addr × Obj)} {σ : L2.St} {H : Hp} {s : Shared} {P : Pv} {G : List Sl} {use : Option (Value -> Sem Unit)} {Q : Value -> Shared -> Prop} {pos' : Pos}
  (C : CompOk X scope N nv cap) (hc : X.calm = true) (hk : zai nv st) (hi : IV X W tg iter it)
  (hX : zaj X scope N xz) (hg : ∀ s₀ H₀ ex pn, GV (cxT xz X scope N s₀ H₀ ex pn) tg st) (ht : ∀ s₀ H₀ ex pn, (∀ b ∈ ex, ∃ o, (b, o) ∈ pn) -> CT (cxT xz X scope N s₀ H₀ ex pn) W ifs dc) (he : ∀ s₀ H₀ ex pn, (∀ b ∈ ex, ∃ o, (b, o) ∈ pn) -> EV (cxT xz X scope N s₀ H₀ ex pn) W elt de)
  (I : Inv X pins σ H s) (h : Hol X.K H P σ G)
  (hx : ∀ c, it G = .exc c -> ∀ H', Same H H' -> W c H') (hs0 : it G ≠ .stuck)
  (fin : ∀ ts, it G = .ok ts -> ts.length <= 16777216 /\ Yc st dc de (List.replicate nv .emp ++ capS cap G) ts ≠ .stuck /\ (∀ c, Yc st dc de (List.replicate nv .emp ++ capS cap G) ts = .exc c -> ∀ H', Same H H' -> W c H') /\ ∀ all, Yc st dc de (List.replicate nv .emp ++ capS cap G) ts = .ok all ->
   ∀ D vs H' s' c, Inv X pins σ H' s' -> FpOk X pins H' c -> (∃ m, s'.heap.Ns c m) -> (X.env.locals ≠ c /\ ∀ x a, X.env.cells.lookup x = some a -> a ≠ c) -> Same H H' -> H D = none -> H' D = some (.lst vs) -> Rls X.K H' (P.fbd D) all vs ->
    compPost (model X.prog X.w) X.A X.xe use Q (.ref D) c (.ok .next) s')
  (hs : ∀ x, foldedSetIterable iter X.env x = pure x := by intro _; rfl) :
  wpAny (model X.prog X.w) X.A (comprehension (.ListComp elt [⟨tg, iter, ifs, 0⟩] scope pos) scope X.env pos' (newList []) false (eval iter X.env) use) Q X.xe s := by
 refine wpAny_comprehension_free rfl hs (U4 (C.has I.ok)) C.kind C.names (wpAny_mono (hi pins s σ H (fun J H' => Same H H' /\ ∃ ts, it G = .ok ts /\ Yld X.K J ts H' P) I ⟨G, P, h, ?_⟩) (fun v s1 h1 => wpAny_mono h1 (fun itv s2 h2 => ?_) fun _ _ z => z) fun _ _ z => z)
 ·cases e : it G with
  | ok ts => exact fun J H' s y => ⟨s, ts, rfl, y⟩
  | exc c => exact hx c e
  | stuck => exact absurd e hs0
 obtain ⟨itA, fp, tn, J, H2, rfl, I2, T, tn0, f2, sm2, ts, ets, y⟩ := h2
 obtain ⟨hlen, hns, hex, fin⟩ := fin ts ets
 have hD : H2 s2.heap.objs.size = none := I2.hok.fresh (Nat.le_refl _)
 refine wpAny_newObj_type (wpAny_newFunctionEnv C.cell (by intro y hy; simp at hy) (fun h₁ hns₁ hsb₁ => ?_) C.kind)
 have I3 : Inv X pins σ (upd H2 s2.heap.objs.size (.lst [])) { s2 with heap := s2.heap.push { cls := .type "list", dict := none, data := .seq ([] : List Value).toArray } } :=
  I2.laid (t' := s2.toks) (fun b u e => Heap.get?_push_of_some _ e) (Nat.le_refl _) ⟨by show 0 <= sizeLine; exact Nat.zero_le _, [], 0, .nil, Heap.get?_push_size _ rfl⟩
 have sz : (s2.heap.push { cls := .type "list", dict := none, data := .seq ([] : List Value).toArray }).objs.size = s2.heap.objs.size + 1 := Heap.size_push _ _
 have hf3 : ∀ b ∈ fp, FpOk X pins (upd H2 s2.heap.objs.size (.lst [])) b /\ b < (s2.heap.push { cls := .type "list", dict := none, data := .seq ([] : List Value).toArray }).objs.size := fun b hb => by
  obtain ⟨o, ho, _⟩ := T.obj 0 _ tn0 b hb
  have lt := Heap.lt_size ho
  obtain ⟨a1, a2⟩ := f2 b hb
  exact ⟨⟨by rw [Zz (Nat.ne_of_lt lt)]; exact a1, a2⟩, by rw [sz]; exact Nat.lt_succ_of_lt lt⟩
 have kp : ∀ b o, (s2.heap.push { cls := .type "list", dict := none, data := .seq ([] : List Value).toArray }).get? b = some o -> h₁.get? b = some o := fun b o e =>
  hsb₁.extBut b o (Nat.ne_of_lt (Heap.lt_size e)) (Heap.get?_push_of_some _ e)
 have tn3 : tn 0 h₁ := T.keep 0 _ _ tn0 fun b _ o e => kp b o (Heap.get?_push_of_some _ e)
 refine zae (s3 := { s2 with heap := s2.heap.push { cls := .type "list", dict := none, data := .seq ([] : List Value).toArray } }) (D := s2.heap.objs.size) C hc hk hg ht he (h.same sm2) hD I3 T hf3 y hlen rfl hns (fun c ec H' sm => hex c ec H' (sm2.trans sm)) hns₁ kp ⟨h₁, _, rfl⟩ tn3 (fun s' H' σ' vs all hall J' hl sm r => ?_) fun pn e s' pnn hx => hX pins σ _ _ fp pn e s' I3 hf3 pnn hx
 have IX := CompOk.stop I3 (fun b hb => (hf3 b hb).1) J'
 have fo : FpOk X pins H' (s2.heap.push { cls := .type "list", dict := none, data := .seq ([] : List Value).toArray }).objs.size := I3.fpOk (Nat.le_refl _) J'.free
 obtain ⟨m, hm, _⟩ := J'.loc
 exact fin all hall _ vs H' s' _ IX fo ⟨m, hm⟩ ⟨Ne.symm fo.2.1, fun x a e => fo.2.2.2.2.1 x a e⟩ (sm2.trans sm) (sm2.free hD) hl r
theorem atC {pins : List (Addr × Obj)} {σ : L2.St} {H : Hp} {s : Shared} {c : Addr} {h' : Heap} (I : Inv X pins σ H s) (f : FpOk X pins H c) (hs : Heap.SameBut c s.heap h') : Inv X pins σ H { s with heap := h' } :=
 I.turned (t' := s.toks) (fun b o hb e => (hs.2 b hb).trans e) f.1 f.2.1 f.2.2.2.1 f.2.2.2.2.1 f.2.2.2.2.2
theorem UL (C : CompOk X scope N nv cap) (hc : X.calm = true) (hk : zai nv st) (hi : IV X W tg iter it)
  (hX : zaj X scope N xz) (hg : ∀ s₀ H₀ ex pn, GV (cxT xz X scope N s₀ H₀ ex pn) tg st) (ht : ∀ s₀ H₀ ex pn, (∀ b ∈ ex, ∃ o, (b, o) ∈ pn) -> CT (cxT xz X scope N s₀ H₀ ex pn) W ifs dc) (he : ∀ s₀ H₀ ex pn, (∀ b ∈ ex, ∃ o, (b, o) ∈ pn) -> EV (cxT xz X scope N s₀ H₀ ex pn) W elt de)
  (hs : ∀ x, foldedSetIterable iter X.env x = pure x := by intro _; rfl) : OV X W (.ListComp elt [⟨tg, iter, ifs, 0⟩] scope pos) (WF nv cap st it dc de) := by
 intro pins s σ H Q I ⟨G, P, h, q⟩
 unfold WF at q
 obtain ⟨q1, q2, q3⟩ := bindAO q
 rw [eval_ListComp]
 refine JK (use := none) C hc hk hi hX hg ht he I h q1 q2 (fun ts ets => ?_) hs
 have q4 := q3 ts ets
 split at q4
 ·rename_i hl
  cases e : Yc st dc de (List.replicate nv .emp ++ capS cap G) ts with
  | stuck => rw [e] at q4; exact q4.elim
  | exc c => rw [e] at q4; exact ⟨hl, fun z => (by cases z), fun c' z => by cases z; exact q4, fun all z => by cases z⟩
  | ok all =>
   rw [e] at q4
   refine ⟨hl, fun z => (by cases z), fun c z => (by cases z), fun all' z D vs H' s' c IX fo hm hne sm hD hl r => ?_⟩
   cases z
   obtain ⟨m, hm⟩ := hm
   exact ⟨m, hm, fun h' hsb => ⟨.ref D, H', atC IX fo hsb, rfl, q4 D vs H' sm hD hl r⟩⟩
 ·exact q4.elim
theorem Xy {e : Expr} {d : DA} (h : OV X W e d) : EV X W e (dL d) :=
 Zp h fun σ H Q ⟨G, P, hh, q⟩ => by
  refine ⟨G, P, hh, ?_⟩
  unfold dL at q
  cases e : d G with
  | stuck => rw [e] at q; exact q.elim
  | exc c => rw [e] at q; exact q
  | ok xs => rw [e] at q; exact fun p vs H' s hp hl r => q _ H' s (rl_new hh s hp hl r)
theorem UE {e : Expr} {d : DA} {i : Nat} {x : Str} {is : List Nat} {pos' : Pos} (hN : X.N.Nodup) (hi : X.N[i]? = some x) (hx : Loc X.env.scope x) (he : OV X W e d) (hs : swapsWith e (some (.Name x pos')) pos.line X.env = pure false := by rfl)
  (hf : X.fn x = true \/ X.env.scope.names.lookup x = some .local := by first | exact .inl rfl | exact .inr rfl | assumption) : SV X W fl (.Assign [.Name x pos'] e pos) (zad i is d) :=
 XH (ps_set hN hi hx he hs hf) fun D σ H ⟨G, P, h, q⟩ => by
  unfold zad at q
  obtain ⟨P1, h1, g⟩ := h.frz is
  obtain ⟨q1, q2, q3⟩ := zbi q
  refine ⟨frz is G, P1, h1, ?_⟩
  cases e : d (frz is G) with
  | stuck => exact absurd e q2
  | exc c => exact fun H' s => q1 c e H' P1 (g.trans (.same s))
  | ok xs =>
   have q4 := q3 xs e
   intro p vs H' s hp hl r
   split at q4
   ·rename_i hlt
    have hlt' : i < (frz is G).length := by rw [<- h1.len, h.len]; exact hlt
    obtain ⟨h2, g2⟩ := h1.own' hlt' s hp hl r
    exact q4 _ H' _ (g.trans g2) h2
   ·exact q4.elim
theorem zas {i : Nat} {x : Str} {pos' : Pos} {d : DS} (C : CompOk X scope N nv cap) (hc : X.calm = true) (hk : zai nv st) (hi : IV X W tg iter it)
  (hX : zaj X scope N xz) (hg : ∀ s₀ H₀ ex pn, GV (cxT xz X scope N s₀ H₀ ex pn) tg st) (ht : ∀ s₀ H₀ ex pn, (∀ b ∈ ex, ∃ o, (b, o) ∈ pn) -> CT (cxT xz X scope N s₀ H₀ ex pn) W ifs dc) (he : ∀ s₀ H₀ ex pn, (∀ b ∈ ex, ∃ o, (b, o) ∈ pn) -> EV (cxT xz X scope N s₀ H₀ ex pn) W elt de)
  (hN : X.N.Nodup) (hix : X.N[i]? = some x) (hx : Loc X.env.scope x) {spos : Pos} (hsw : swapsWith (.ListComp elt [⟨tg, iter, ifs, 0⟩] scope pos) (some (.Name x pos')) spos.line X.env = pure true)
  (hs : ∀ x, foldedSetIterable iter X.env x = pure x) (hf : X.fn x = true \/ X.env.scope.names.lookup x = some .local)
  (hd : ∀ D σ H, tFS X.K W fl d D σ H -> ∃ G P, Hol X.K H P σ G /\ (∀ c, it G = .exc c -> ∀ H', Same H H' -> W c H') /\ it G ≠ .stuck /\ ∀ ts, it G = .ok ts -> ts.length <= 16777216 /\ Yc st dc de (List.replicate nv .emp ++ capS cap G) ts ≠ .stuck /\ (∀ c, Yc st dc de (List.replicate nv .emp ++ capS cap G) ts = .exc c -> ∀ H', Same H H' -> W c H') /\ ∀ all, Yc st dc de (List.replicate nv .emp ++ capS cap G) ts = .ok all ->
   ∀ p vs H', Same H H' -> H p = none -> H' p = some (.lst vs) -> Rls X.K H' (P.fbd p) all vs -> D.nx (σ.set i (some (.ref p))) H') : SV X W fl (.Assign [.Name x pos'] (.ListComp elt [⟨tg, iter, ifs, 0⟩] scope pos) spos) d := by
 intro pins s σ H D I hq
 obtain ⟨G, P, h, q1, q2, q3⟩ := hd D σ H hq
 rw [exec_Assign_Name_used _ _ _ _ hsw]
 refine wpAny_bind (wpAny_standAt (wpAny_bind ?_))
 show wpAny _ X.A (do let _ <- comprehension (.ListComp elt [⟨tg, iter, ifs, 0⟩] scope pos) scope X.env _ (newList []) false (eval iter X.env) (some (assign (.Name x pos') X.env))) _ _ s
 refine wpAny_bind (wpAny_mono (JK (use := some (assign (.Name x pos') X.env)) (Q := fun _ s' => SP X pins D .next s') C hc hk hi hX hg ht he I h q1 q2 (fun ts ets => ?_) hs) (fun _ s' hq => wpAny_pure (wpAny_pure hq)) fun _ _ e => e)
 obtain ⟨hl, n1, n2, q4⟩ := q3 ts ets
 refine ⟨hl, n1, n2, fun all hall p vs H' s' c IX fo hm hne sm hp hl r => ?_⟩
 obtain ⟨m, hm⟩ := hm
 show wpAny _ X.A (assign (.Name x pos') X.env (.ref p)) _ _ _
 refine wpAny_assign_Name (Qe IX hN hix hx (v := .ref p) rfl (fun s'' I'' ch => ?_) hf)
 obtain ⟨a, hsb, ha⟩ := ch
 have hca : c ≠ a := by
  rcases ha with rfl | ha
  ·exact Ne.symm hne.1
  ·exact Ne.symm (hne.2 x a ha)
 refine ⟨m, hm.sameBut hsb hca, fun h' hs' => ⟨_, H', atC I'' fo hs', q4 all hall p vs H' sm hp hl r⟩⟩
theorem QS {i : Nat} {x : Str} {is : List Nat} {pos' spos : Pos} (C : CompOk X scope N nv cap) (hc : X.calm = true) (hk : zai nv st) (hi : IV X W tg iter it)
  (hX : zaj X scope N xz) (hg : ∀ s₀ H₀ ex pn, GV (cxT xz X scope N s₀ H₀ ex pn) tg st) (ht : ∀ s₀ H₀ ex pn, (∀ b ∈ ex, ∃ o, (b, o) ∈ pn) -> CT (cxT xz X scope N s₀ H₀ ex pn) W ifs dc) (he : ∀ s₀ H₀ ex pn, (∀ b ∈ ex, ∃ o, (b, o) ∈ pn) -> EV (cxT xz X scope N s₀ H₀ ex pn) W elt de)
  (hN : X.N.Nodup) (hix : X.N[i]? = some x) (hx : Loc X.env.scope x) (hsw : swapsWith (.ListComp elt [⟨tg, iter, ifs, 0⟩] scope pos) (some (.Name x pos')) spos.line X.env = pure true := by rfl)
  (hs : ∀ x, foldedSetIterable iter X.env x = pure x := by intro _; rfl) (hf : X.fn x = true \/ X.env.scope.names.lookup x = some .local := by first | exact .inl rfl | exact .inr rfl | assumption) :
  SV X W fl (.Assign [.Name x pos'] (.ListComp elt [⟨tg, iter, ifs, 0⟩] scope pos) spos) (dSet i is (dL (WF nv cap st it dc de))) :=
 zas C hc hk hi hX hg ht he hN hix hx hsw hs hf fun D σ H ⟨G, P, h, q⟩ => by
  unfold dSet dL WF at q
  obtain ⟨P1, h1, g⟩ := h.frz is
  refine ⟨frz is G, P1, h1, ?_⟩
  cases e : it (frz is G) with
  | stuck => rw [e] at q; exact q.elim
  | exc c => rw [e] at q; exact ⟨fun c' ec H' s => by cases ec; exact q H' P1 (g.trans (.same s)), (by intro z; cases z), fun ts z => by cases z⟩
  | ok ts =>
   refine ⟨fun c' ec => (by cases ec), (by intro z; cases z), fun ts' z => ?_⟩
   cases z
   rw [e, Res.bind_ok] at q
   split at q
   ·rename_i hl
    refine ⟨hl, ?_⟩
    cases e2 : Yc st dc de (List.replicate nv .emp ++ capS cap (frz is G)) ts with
    | stuck => rw [e2] at q; exact q.elim
    | exc c => rw [e2] at q; exact ⟨fun z => (by cases z), fun c' z H' s => by cases z; exact q H' P1 (g.trans (.same s)), fun all z => by cases z⟩
    | ok all =>
     rw [e2] at q
     refine ⟨fun z => (by cases z), fun c z => (by cases z), fun all' z p vs H' s hp hl r => ?_⟩
     cases z
     have h2 := (h1.same s).setVal i (rl_new h1 s hp hl r)
     exact q _ H' _ (g.trans ((Go.same s).trans .del)) h2
   ·exact q.elim
end
end Fx
namespace Fx
open PySem PySem.Spec PyProof.Rows L2
def cf (k : Option NameKind) : Bool := k == some .cell || k == some .free
theorem cf_ok {k : Option NameKind} (h : cf k = true) : k = some .cell \/ k = some .free := by
 unfold cf at h
 rw [Bool.or_eq_true] at h
 rcases h with h | h
 ·exact .inl (by simpa using h)
 ·exact .inr (by simpa using h)
def capChk (scope : Scope) (env : Env) (N0 N : List Str) (nv : Nat) (cap : List Nat) : Bool :=
 (List.range cap.length).all fun i => match (cap[i]? : Option Nat), (N[nv + i]? : Option Str) with
  | some j, some x => N0[j]? == some x && cf ((relabel scope env).names.lookup x) && cf (env.kindOf x)
  | _, _ => true
def zbe (scope : Scope) (env : Env) (N0 N : List Str) (nv : Nat) (cap : List Nat) : Bool :=
 (scope.names.all fun y => y.2 != .cell) && (scope.kind == .function) && (scope.names.all fun y => y.2 != .local || scope.names.lookup y.1 == some .local)
  && (scope.names.all fun y => y.2 != .free || cf (env.kindOf y.1)) && (N.length == nv + cap.length) && capChk scope env N0 N nv cap
theorem V8 {X : Cx} {scope : Scope} {N : List Str} {nv : Nat} {cap : List Nat} (h : zbe scope X.env X.N N nv cap = true) : CompOk X scope N nv cap := by
 unfold zbe at h
 simp only [Bool.and_eq_true, List.all_eq_true] at h
 obtain ⟨⟨⟨⟨⟨h1, h2⟩, h3⟩, h4⟩, h5⟩, h6⟩ := h
 refine ⟨fun y hy => by simpa using h1 y hy, by simpa using h2, fun y hy e => ?_, fun y hy e => ?_, by simpa using h5, fun i j x hc hx => ?_⟩
 ·have := h3 y hy
  rw [e] at this
  simpa using this
 ·have := h4 y hy
  rw [e] at this
  exact cf_ok (by simpa using this)
 ·unfold capChk at h6
  rw [List.all_eq_true] at h6
  have hi : i < cap.length := (List.getElem?_eq_some_iff.mp hc).1
  have := h6 i (List.mem_range.mpr hi)
  rw [hc, hx] at this
  simp only [Bool.and_eq_true] at this
  exact ⟨by simpa using this.1.1, cf_ok this.1.2, cf_ok this.2⟩
section
variable {X : Cx} {W : Str -> Hp -> Prop} {fl : Bool} {a b c e : Expr} {es : List Expr} {da db : DE} {pos : Pos}
theorem zax {K : PySem.W.Frag} {H1 : Hp} {P : Pv} {p : Addr} {ts : List PyData} {vs : List V} {o : HO} (hp : H1 p = none) (rs : Rls K H1 P ts vs) : Rls K (upd H1 p o) (P.fbd p) ts vs :=
 Rls.go (.same (ZX hp)) ts vs (Rls.go (Tr.tofbd hp) ts vs rs)
theorem zaJ {d : DA} (h : AV X W es d) : OV X W (.List es pos) (oLst d) :=
 Zp (pe_lst h) fun σ H Q ⟨G, P, h, q⟩ => by
  unfold oLst at q
  obtain ⟨q1, q2, q3⟩ := bindAO q
  refine WV h q1 q2 fun ts vs H1 es' s1 h1 rs => ?_
  have q4 := q3 ts es'
  split at q4
  ·rename_i hl
   exact ⟨UT hl rs, fun p hp => q4 p vs _ (s1.trans (ZX hp)) (s1.free hp) ZS (zax hp rs)⟩
  ·exact q4.elim
theorem VL {p : Pos} (hg : Gl X "tuple") (hm : X.mg "tuple" = none) (ha : EV X W a da) (hs : starEach [a] X.env = (false, eval a X.env) :: starEach [] X.env := by rfl) : EV X W (.Call (.Name "tuple" p) [a] [] pos) (d1 Uw da) :=
 Zp (W1 U5 hg hm (show bootBuiltins "tuple" = some (.type "tuple") by decide +kernel) (ZQ ha YA hs) (he := hs)) fun σ H Q h => Vo (fun H P σ G x tx Q h rx q => by
  cases tx <;> try exact q.elim
  ·obtain ⟨l, vs, rfl, sl, rs⟩ := Z1.mp rx
   exact ⟨l, vs, rfl, .inl ⟨sl.sq, fun p hp => q _ _ (ZX hp) (Yn.mpr ⟨p, vs, rfl, .off ZS (h.off_new hp), Rls.go (.same (ZX hp)) _ vs rs⟩)⟩⟩
  ·obtain ⟨l, vs, rfl, sl, rs⟩ := Yn.mp rx
   exact ⟨l, vs, rfl, .inr ⟨sl.sq, q _ H (Same.refl H) rx⟩⟩) h
theorem Qm {K : PySem.W.Frag} {H : Hp} {P : Pv} : ∀ {bs : List Bool} {vs : List V}, Rls K H P (bs.map .bool) vs -> vs = bs.map V.bl
 | [], vs, h => ZV.mp h
 | b :: bs, vs, h => by
  obtain ⟨v, r, rfl, a, q⟩ := Zx.mp h
  rw [Yt.mp a, Qm q]
  rfl
theorem call_all (hc : X.calm = true) : VG X (.builtin "all") (fun xs H Q => ∃ (p : Addr) (bs : List Bool), xs = [.ref p] /\ SqL X.K H p (bs.map V.bl) /\ Q (.bl (bs.all id)) H) := by
 intro pins s σ H xs us Q I r h
 obtain ⟨l, bs, rfl, hq, q⟩ := h
 obtain ⟨u, rfl, ru⟩ := WT r
 cases ru
 obtain ⟨its, rv, pl, hz⟩ := I.list hq
 have hl : s.heap.IsList l its.toArray := pl.isList
 have hlt : l < s.heap.objs.size := by obtain ⟨_, e, _⟩ := hl; exact Heap.lt_size e
 have hb : ∀ (i : Nat) (v : Value), its[i]? = some v -> ∃ b, bs[i]? = some b /\ v = .bool b := fun i v e => by
  have hi : i < its.length := (List.getElem?_eq_some_iff.mp e).1
  have hl2 := rv.length
  rw [List.length_map] at hl2
  have hi2 : i < bs.length := by omega
  obtain ⟨u, hu, ru⟩ := rv.get (i := i) (x := V.bl bs[i]) (by simp [hi2])
  rw [e] at hu; cases hu
  cases ru
  exact ⟨bs[i], by simp [hi2], rfl⟩
 refine call_all_walk (wpAny_pyIter_list hl ?_)
 refine ⟨s.heap.objs.size, [s.heap.objs.size, l], [s.heap.objs.size], its.toArray.size, _, _, fun i => (bs[i]?).getD true, rfl, Walks.list (A := X.A.in1) (I.ok.hd hc) _ l (Nat.ne_of_lt hlt) its.toArray,
  ⟨⟨_, Heap.get?_push_size _ rfl, rfl, rfl⟩, hl.push _⟩, fun i v s' Q' E' hP hQ => ?_, fun h' tk hk => ?_⟩
 ·obtain ⟨b, e, rfl⟩ := hb i v (by simpa using hP)
  simp only [e, Option.getD_some] at hQ
  exact wpAny_truthy_bool hQ
 ·have e : ((List.range its.toArray.size).all fun i => (bs[i]?).getD true) = bs.all id := by
   have hl2 := rv.length
   rw [List.length_map] at hl2
   rw [List.size_toArray, <- hl2, Bool.eq_iff_iff, List.all_eq_true, List.all_eq_true]
   constructor
   ·intro h b hb
    obtain ⟨i, hi, e⟩ := List.getElem_of_mem hb
    have := h i (List.mem_range.mpr hi)
    simp only [List.getElem?_eq_getElem hi, Option.getD_some, e] at this
    exact this
   ·intro h i hi
    have hi' := List.mem_range.mp hi
    simp only [List.getElem?_eq_getElem hi', Option.getD_some]
    exact h _ (List.getElem_mem hi')
  rw [e]
  have kk : ∀ b x, s.heap.get? b = some x -> h'.get? b = some x := fun b x e => hk b x (fun hm => by rw [List.mem_singleton.mp hm] at e; exact Nat.lt_irrefl _ (Heap.lt_size e)) (Heap.get?_push_of_some _ e)
  exact ⟨.bl _, H, I.kept (t' := tk) kk, rfl, q⟩
theorem ev_all {p : Pos} (hg : Gl X "all") (hm : X.mg "all" = none) (ha : EV X W a da) (hc : X.calm = true := by rfl) (hs : starEach [a] X.env = (false, eval a X.env) :: starEach [] X.env := by rfl) : EV X W (.Call (.Name "all" p) [a] [] pos) (d1 fAll da) :=
 Zp (X4 (call_all hc) hg hm (show bootBuiltins "all" = some (.builtin "all") by decide +kernel) (ZQ ha YA hs) (he := hs)) fun σ H Q h => Vo (fun H P σ G x tx Q h rx q => by
  cases tx <;> try exact q.elim
  rename_i xs
  obtain ⟨l, vs, rfl, sl, rs⟩ := Z1.mp rx
  simp only [fAll] at q
  cases e : allT xs with
  | stuck => rw [e] at q; exact q.elim
  | exc c => exact absurd e (JM xs c)
  | ok k =>
   rw [e, Res.bind_ok] at q
   obtain ⟨bs, rfl, rfl⟩ := zbo e
   have := Qm rs
   subst this
   exact ⟨l, bs, rfl, sl.sq, ZM q⟩) h
theorem UU {G : List Sl} {i : Nat} (h : Ui G i = true) : ∃ xs, G[i]? = some (.own xs) := by
 unfold Ui at h
 split at h
 ·rename_i xs e; exact ⟨xs, e⟩
 ·cases h
theorem ss_app {i : Nat} {x : Str} {is : List Nat} {p1 p2 p3 : Pos} (hi : X.N[i]? = some x) (he : EV X W e da) (hv : Vis X.env.scope x := by first | exact Or.inl rfl | exact Or.inr (Or.inl rfl) | exact Or.inr (Or.inr rfl)) (hd : (x == ("__debug__" : Str)) = false := by decide)
  (hcd : (x == ("__classdict__" : Str)) = false := by decide) (hsw : swapsWith (.Call (.Attribute (.Name x p1) "append" p2) [e] [] p3) none pos.line X.env = pure false := by rfl)
  (hbase : attributeBase (.Name x p1) "append" X.env (eval (.Name x p1) X.env) = eval (.Name x p1) X.env := by rfl)
  (hfew : ((backTo p3 (starEach [e] X.env)).all (fun x => !x.1) && (backToKw p3 (keywordEach [] X.env)).all (fun x => x.1.isSome)
   && decide (([e] : List Expr).length + ([] : List Keyword).length + (if ([] : List Keyword).isEmpty then 0 else 1) < 30)) = true := by rfl)
  (hline : (p2.endLine == p3.line) = true := by rfl) (hs : starEach [e] X.env = (false, eval e X.env) :: starEach [] X.env := by rfl) :
  SV X W fl (.Expr (.Call (.Attribute (.Name x p1) "append" p2) [e] [] p3) pos) (dApp i is da) :=
 XH (QW (JV PySem.F.plainAttrs_list PySem.F.slot_list_append PySem.F.type_list_append Qu (Qp hi hv hd hcd) (ZQ he YA hs) hbase hfew hline hs rfl) hsw) fun D σ H ⟨G, P, h, q⟩ => by
  unfold dApp at q
  obtain ⟨P1, h1, g⟩ := h.frz is
  split at q
  ·rename_i ho
   obtain ⟨xs0, e0⟩ := UU ho
   obtain ⟨q1, q2, q3⟩ := VB q
   obtain ⟨p, vs, ev, ep, eh, rs⟩ := h.sl i _ e0
   refine ⟨.ref p, getD_some ev, .inl ⟨rfl, vs, SqL.of eh⟩, ?_⟩
   refine Zq h1 (fun c e H' s => q1 c e H' P1 (g.trans (.same s))) q2 fun t v H1 et s1 h2 r => ?_
   obtain ⟨P2, h3, r3, g3⟩ := after h h1 g s1 r
   have q4 := q3 t et
   unfold QQ at q4
   split at q4
   ·rename_i xs1 e1
    split at q4
    ·rename_i hz
     obtain ⟨p', vs', ev', ep', eh', rs'⟩ := h3.sl i _ e1
     rw [ev] at ev'
     cases ev'
     have hl := rs'.length
     obtain ⟨h4, g4⟩ := h3.upOwn e1 ep' (rs'.append (Zx.mpr ⟨v, [], rfl, r3, ZV.mpr rfl⟩))
     exact ⟨p, vs', v, rfl, rfl, eh', by rw [sizeLine_eq]; omega, q4 σ _ P2 (g3.trans g4) h4⟩
    ·exact q4.elim
   ·exact q4.elim
  ·exact q.elim
theorem ss_setIt {i : Nat} {x : Str} {is : List Nat} {dk : DE} {k : Expr} {p1 p2 : Pos} (hi : X.N[i]? = some x) (hk : EV X W k dk) (he : EV X W e da) (hv : Vis X.env.scope x := by first | exact Or.inl rfl | exact Or.inr (Or.inl rfl) | exact Or.inr (Or.inr rfl)) (hd : (x == ("__debug__" : Str)) = false := by decide)
  (hcd : (x == ("__classdict__" : Str)) = false := by decide)
  (ha : ∀ v, assign (.Subscript (.Name x p1) k p2) X.env v = (do
   let ov <- holding [v] (eval (.Name x p1) X.env)
   let iv <- holding [v, ov] (eval k X.env)
   standAt p2
   holding [v, ov, iv] (setItem ov iv v)
   release [v, ov, iv] []) := by intro _; rfl)
  (hs : swapsWithSole [.Subscript (.Name x p1) k p2] e pos.line X.env = pure false := by rfl) (hw : swappedStores [.Subscript (.Name x p1) k p2] e X.env = pure none := by rfl)
  (h1 : (assignEach [.Subscript (.Name x p1) k p2] X.env).map (·.2) = [assign (.Subscript (.Name x p1) k p2) X.env] := by rfl) :
  SV X W fl (.Assign [.Subscript (.Name x p1) k p2] e pos) (UA i is dk da) :=
 XH (ps_asg he (pg_sub (Qp hi hv hd hcd) hk set_list ha) hs hw h1) fun D σ H ⟨G, P, h, q⟩ => by
  unfold UA at q
  obtain ⟨P1, h1, g⟩ := h.frz is
  obtain ⟨q1, q2, q3⟩ := VB q
  refine Zq h1 (fun c e H' s => q1 c e H' P1 (g.trans (.same s))) q2 fun t v H1 et s1 h2 r => ?_
  obtain ⟨P2, h3, r3, g3⟩ := after h h1 g s1 r
  have q4 := q3 t et
  generalize (if Y0 t = true then G else frz is G) = G' at h3 q4
  split at q4
  ·rename_i ho
   obtain ⟨xs0, e0⟩ := UU ho
   obtain ⟨p, vs, ev, ep, eh, rs⟩ := h3.sl i _ e0
   refine ⟨.ref p, getD_some ev, ?_⟩
   obtain ⟨q5, q6, q7⟩ := VB q4
   refine Zq h2 (fun c e H' s => q5 c e H' P1 ((g.trans (.same s1)).trans (.same s))) q6 fun kt kv H2 ek s2 h4 rk => ?_
   have q8 := q7 kt ek
   unfold Qh at q8
   rw [e0] at q8
   cases kt <;> try exact q8.elim
   rename_i j
   simp only at q8
   cases em : ixP xs0.length j with
   | none => rw [em] at q8; exact q8.elim
   | some m =>
    rw [em] at q8
    have h5 := h3.same s2
    have hl := rs.length
    obtain ⟨p', vs', ev', ep', eh', rs'⟩ := h5.sl i _ e0
    rw [ev] at ev'
    cases ev'
    have hl' := rs'.length
    obtain ⟨h6, g6⟩ := h5.upOwn e0 ep' (rs'.set m (Rl.go (.same s2) t v r3))
    refine ⟨p, vs', j, m, rfl, ZL.mp rk, eh', by rw [<- hl', <- ixP_eq]; exact em, q8 σ _ P2 ((g3.trans (.same s2)).trans g6) h6⟩
  ·exact q4.elim
end
end Fx
namespace Fx
open PySem PySem.Spec PyProof.Rows L2
theorem ex_of_ok {P : Program} {w : World} {H : Hp} {h : Heap} {a : Addr} {o : HO} (x : WS P w H h a o) : ∃ ob, h.get? a = some ob := by
 cases o with
 | lst xs => obtain ⟨_, _, _, _, e⟩ := x; exact ⟨_, e⟩
 | tup xs => obtain ⟨_, _, _, o, e, _⟩ := x; exact ⟨_, e⟩
 | dK kvs => obtain ⟨_, _, _, _, o, _, _, e, _⟩ := x; exact ⟨_, e⟩
 | dT kvs => obtain ⟨_, _, _, _, o, _, _, e, _⟩ := x; exact ⟨_, e⟩
 | set S n => obtain ⟨o, _, _, _, e, _⟩ := x; exact ⟨_, e⟩
 | ins C dx fs => obtain ⟨_, _, _, e, _⟩ := x; exact ⟨_, e⟩
 | own y => obtain ⟨_, e⟩ := x; exact ⟨_, e⟩
 | xd fs => obtain ⟨_, ⟨_, _, _, e, _⟩, _⟩ := x; exact ⟨_, e⟩
 | rng lo hi => obtain ⟨_, _, _, e⟩ := x; exact ⟨_, e⟩
 | frz ob u => obtain ⟨e, _⟩ := x; exact ⟨_, e⟩
 | tbl ps => exact ⟨_, show h.get? a = some _ from x⟩
 | met f y => exact ⟨_, show h.get? a = some _ from x⟩
 | ext φ => obtain ⟨_, ⟨_, e⟩, _⟩ := x; exact ⟨_, e⟩
structure Alien (X : Cx) (pins : List (Addr × Obj)) (H : Hp) (b : Addr) : Prop where
 young : X.s₀.heap.get? b = none
 loc : b ≠ X.env.locals
 cell : ∀ x c, X.env.cells.lookup x = some c -> c ≠ b
 pin : ∀ p ∈ X.pn ++ pins, p.1 ≠ b
 trk : H b = none
 frm : b ∉ frs X.stack
class Dirt where
 d : Value -> Prop
variable [Dirt]
def zbr (cv : Value) (vs : Array Value) : Prop := ∃ c, vs[2]? = some c /\ (c = .none \/ Dirt.d cv)
def ExO (h : Heap) (a : Addr) (cv : Value) : Option (Addr × Value) -> Prop
 | none => ∃ oe vs a0, h.get? a = some oe /\ oe.cls = cv /\ oe.data = .fields vs /\ vs[0]? = some a0 /\ vs[1]? = some .none /\ zbr cv vs
 | some (T, f) => ∃ oe vs a0 oT ts, h.get? a = some oe /\ oe.cls = cv /\ oe.data = .fields vs /\ vs[0]? = some a0 /\ vs[1]? = some (.ref T) /\ T ≠ a /\ h.get? T = some oT /\ oT.data = .fields ts /\ ts[3]? = some f /\ zbr cv vs
structure Exc (X : Cx) (pins : List (Addr × Obj)) (σ : L2.St) (H : Hp) (a : Addr) (cv : Value) (n : Option (Addr × Value)) (s : Shared) : Prop where
 inv : Inv X pins σ H s
 al : Alien X pins H a
 ob : ExO s.heap a cv n
 nt : ∀ T f, n = some (T, f) -> Alien X pins H T
section
variable {X : Cx} {pins : List (Addr × Obj)} {σ : L2.St} {H H' : Hp} {s : Shared} {h' : Heap} {a T : Addr} {cv fl : Value} {n : Option (Addr × Value)}
theorem Inv.stepA {t' : Nat} {ch : List Addr} (I : Inv X pins σ H s)
  (hch : ∀ b ∈ ch, X.s₀.heap.get? b = none /\ b ≠ X.env.locals /\ (∀ x c, X.env.cells.lookup x = some c -> c ≠ b) /\ ∀ p ∈ X.pn ++ pins, p.1 ≠ b)
  (keep : ∀ b o, b ≠ X.env.locals -> b ∉ X.fs -> b ∉ ch -> s.heap.get? b = some o -> H b = none -> h'.get? b = some o)
  (slot : ∀ b o, b ≠ X.env.locals -> b ∈ X.fs -> b ∉ ch -> s.heap.get? b = some o -> H b = none -> ∃ sl, h'.get? b = some { o with slots := sl })
  (there : ∀ b o, b ∉ ch -> s.heap.get? b = some o -> ∃ o', h'.get? b = some o')
  (ns : ∀ m, s.heap.Ns X.env.locals m -> h'.Ns X.env.locals m) (hok : HOk X.prog X.w H h') :
  Inv X pins σ H { s with heap := h', toks := t' } := by
 have neL : ∀ b o, X.s₀.heap.get? b = some o -> b ≠ X.env.locals := fun b o e => Nat.ne_of_lt (Nat.lt_of_lt_of_le (Heap.lt_size e) I.ok.above)
 have neC : ∀ b o, X.s₀.heap.get? b = some o -> b ∉ X.ex -> b ∉ ch := fun b o e hx hb => by
  have z := (hch b hb).1
  rw [e] at z; cases z
 have cellK : ∀ x c, X.env.cells.lookup x = some c -> ∀ v, s.heap.IsCell c v -> h'.IsCell c v := fun x c e v ⟨o, ho, hd⟩ => by
  have nch : c ∉ ch := fun z => (hch c z).2.2.1 x c e rfl
  by_cases hc : c ∈ X.fs
  ·obtain ⟨sl, q⟩ := slot c o (I.cne x c e) hc nch ho (I.freeC x c e)
   exact ⟨_, q, hd⟩
  ·exact ⟨o, keep c o (I.cne x c e) hc nch ho (I.freeC x c e), hd⟩
 refine ⟨I.ok, I.os, I.bare, ⟨fun b o e n hb hx => ?_, fun b o e n hb hx => ?_, fun b o e n hx => I.base.free b o e n hx, fun b o e hx => ?_, fun b xs e => I.base.tups b xs e, fun b o xs e => I.base.frzs b o xs e, fun b ps e => I.base.tbls b ps e⟩, ?_, fun x c e => ?_, I.free, fun x c e => I.freeC x c e, fun p hp => ?_, hok, I.len⟩
 ·exact keep b o (neL b o e) hb (neC b o e hx) (I.base.keep b o e n hb hx) (I.base.free b o e n hx)
 ·obtain ⟨sl, e1⟩ := I.base.slot b o e n hb hx
  obtain ⟨sl', e2⟩ := slot b _ (neL b o e) hb (neC b o e hx) e1 (I.base.free b o e n hx)
  exact ⟨sl', e2⟩
 ·obtain ⟨o', e1⟩ := I.base.there b o e hx
  exact there b o' (neC b o e hx) e1
 ·obtain ⟨m, hn, hl⟩ := I.loc
  refine ⟨m, ns m hn, fun i x v e1 e2 e3 => ?_⟩
  obtain ⟨u, r, l⟩ := hl i x v e1 e2 e3
  refine ⟨u, r, ?_⟩
  rcases l with l | ⟨k, c, e, z⟩
  ·exact .inl l
  ·exact .inr ⟨k, c, e, cellK x c e _ z⟩
 ·obtain ⟨v, z⟩ := I.cell x c e
  exact ⟨v, cellK x c e v z⟩
 ·obtain ⟨e, n, ne, nf, d⟩ := I.pin p hp
  have nch : p.1 ∉ ch := fun z => (hch p.1 z).2.2.2 p hp rfl
  exact ⟨keep p.1 p.2 ne nf nch e n, n, ne, nf, d⟩
def Ub (X : Cx) : Prop := ∀ b ∈ X.ex, ∃ o, (b, o) ∈ X.pn
theorem XZ (hp : Ub X) (I : Inv X pins σ H s) (e : s.heap.get? a = none) : Alien X pins H a := by
 refine ⟨?_, fun z => ?_, fun x c ec z => ?_, fun p hp z => ?_, ?_, fun z => ?_⟩
 ·by_cases hx : a ∈ X.ex
  ·obtain ⟨o, ho⟩ := hp a hx
   have := (I.pin (a, o) (List.mem_append_left _ ho)).1
   rw [e] at this; cases this
  ·cases q : X.s₀.heap.get? a with
   | none => rfl
   | some o => obtain ⟨o', e'⟩ := I.base.there a o q hx; rw [e] at e'; cases e'
 ·obtain ⟨m, ⟨o, _, _, ho, _⟩, _⟩ := I.loc
  rw [<- z, e] at ho; cases ho
 ·obtain ⟨v, o, ho, _⟩ := I.cell x c ec
  rw [z, e] at ho; cases ho
 ·obtain ⟨q, _⟩ := I.pin p hp
  rw [z, e] at q; cases q
 ·cases q : H a with
  | none => rfl
  | some o => 
   obtain ⟨o', e'⟩ : ∃ o', s.heap.get? a = some o' := ex_of_ok (I.hok a o q)
   rw [e] at e'; cases e'
 ·obtain ⟨_, o, ho, _⟩ := I.stack.mem z
  rw [e] at ho; cases ho
def hid (X : Cx) (a : Addr) : Option (Addr × Value) -> List Addr
 | none => a :: frs X.stack
 | some (T, _) => a :: T :: frs X.stack
theorem hid_frs (X : Cx) (a : Addr) (n : Option (Addr × Value)) : ∀ b ∈ frs X.stack, b ∈ hid X a n := by
 intro b hb
 cases n with
 | none => exact List.mem_cons_of_mem _ hb
 | some p => obtain ⟨T, f⟩ := p; exact List.mem_cons_of_mem _ (List.mem_cons_of_mem _ hb)
theorem QA {X : Cx} {a b : Addr} {n : Option (Addr × Value)} (h : b ∈ hid X a n) : b = a \/ (∃ T f, n = some (T, f) /\ b = T) \/ b ∈ frs X.stack := by
 cases n with
 | none =>
  rcases List.mem_cons.mp h with h | h
  ·exact .inl h
  ·exact .inr (.inr h)
 | some p =>
  obtain ⟨T, f⟩ := p
  rcases List.mem_cons.mp h with h | h
  ·exact .inl h
  ·rcases List.mem_cons.mp h with h | h
   ·exact .inr (.inl ⟨T, f, rfl, h⟩)
   ·exact .inr (.inr h)
theorem Exc.moved {t' : Nat} (E : Exc X pins σ H a cv n s) (k1 : (PySem.W.hideAll s.heap (hid X a n)).StaysIn h') (k2 : s.heap.UpToSlots h') : Inv X pins σ H { s with heap := h', toks := t' } := by
 have I := E.inv
 have al : ∀ b, b ∈ hid X a n -> b ∉ frs X.stack -> Alien X pins H b := fun b hb hf => by
  rcases QA hb with z | ⟨T, f, z1, z2⟩ | z
  ·rw [z]; exact E.al
  ·rw [z2]; exact E.nt T f z1
  ·exact absurd z hf
 have up : ∀ b, b ∈ frs X.stack -> ∀ o, s.heap.get? b = some o -> ∃ sl, h'.get? b = some { o with slots := sl } := fun b hb o ho => by
  obtain ⟨_, o', ho', hd⟩ := I.stack.mem hb
  rw [ho] at ho'; cases ho'
  exact k2 b o ho hd
 have fsub : ∀ b ∈ X.fs, b ∈ frs X.stack := fun b hb => by
  rcases I.ok.stk with z | ⟨z, _⟩
  ·rw [z]; exact hb
  ·rw [z]
   unfold frs at *
   simp only [List.filterMap_cons]
   split
   ·exact hb
   ·exact List.mem_cons_of_mem _ hb
 have stay : ∀ b o, b ∉ hid X a n -> s.heap.get? b = some o -> h'.get? b = some o := fun b o hb e => k1 b o (PySem.W.hideAll_get _ e hb)
 have trk : ∀ b, H b ≠ none -> b ∉ hid X a n := fun b hb hm => by
  by_cases hf : b ∈ frs X.stack
  ·exact hb (I.stkFree b hf)
  ·exact hb (al b hm hf).trk
 refine Inv.stepA (t' := t') (ch := (hid X a n).filter fun b => decide (b ∉ frs X.stack)) I (fun b hb => ?_) (fun b o hL hf hc e hn => ?_) (fun b o hL hf hc e hn => up b (fsub b hf) o e) (fun b o hc e => ?_) (fun m hm => k2.ns hm) fun b o e => ?_
 ·have hb' := List.mem_filter.mp hb
  have A := al b hb'.1 (of_decide_eq_true hb'.2)
  exact ⟨A.young, A.loc, A.cell, A.pin⟩
 ·by_cases hm : b ∈ hid X a n
  ·by_cases hs : b ∈ frs X.stack
   ·rcases List.mem_cons.mp (I.stkSub b hs) with z | z
    ·exact absurd z hL
    ·exact absurd z hf
   ·exact absurd (List.mem_filter.mpr ⟨hm, decide_eq_true hs⟩) hc
  ·exact stay b o hm e
 ·by_cases hs : b ∈ frs X.stack
  ·obtain ⟨sl, q⟩ := up b hs o e; exact ⟨_, q⟩
  ·by_cases hm : b ∈ hid X a n
   ·exact absurd (List.mem_filter.mpr ⟨hm, decide_eq_true hs⟩) hc
   ·exact ⟨o, stay b o hm e⟩
 ·refine (I.hok b o e).stay (fun c v hc q => stay c v ?_ q) (fun _ q => q) fun _ _ q => q
  rcases hc with z | z
  ·rw [z]; exact trk b (by rw [e]; simp)
  ·exact trk c (by rw [z]; simp)
def NoteX (h base : Heap) (e : Addr) (cls a0 fl : Value) : Prop :=
 ∃ oe vs T oT ts, h.get? e = some oe /\ (oe.cls = cls /\ vs[0]? = some a0 /\ zbr cls vs) /\ oe.data = .fields vs /\ vs[1]? = some (.ref T) /\ base.get? T = none /\ T ≠ e /\ h.get? T = some oT /\ oT.data = .fields ts /\ ts[3]? = some fl
theorem entryX {M : Model} {A : Around} {Ee : Value -> Shared -> Prop} {base : Heap} {env : Env} {outer : List Env} {L e : Addr} {oe : Obj} {vs : Array Value} {head a0 : Value} {hadNext : Bool} {Q : Unit -> Shared -> Prop}
  (hfr : A.frames = some (env :: outer)) (hl : s.heap.FunFrames base (env :: outer)) (hf : env.frame = some L) (he : s.heap.get? e = some oe) (hkb : base.StaysIn s.heap) (hen : base.get? e = none) (hd : oe.data = .fields vs) (hsz : 1 < vs.size) (h0 : vs[0]? = some a0) (hb : zbr oe.cls vs)
  (h : ∀ h', base.StaysIn h' /\ s.heap.UpToSlots h' /\ NoteX h' base e oe.cls a0 (rawInt L) -> Q () { s with heap := h' }) :
  wpAny M A (do let fr <- PySem.frameOf env; let pl <- entryPlaceOf L hadNext; let b <- EntryCells.newEntry head fr .none (rawInt L) .none pl; setField (.ref e) 1 b) Q Ee s := by
 have out : e ∉ (env :: outer).filterMap (·.frame) := fun z => by
  obtain ⟨_, o, ho, hq⟩ := hl.mem z
  rw [he] at ho
  cases ho
  exact hq vs hd
 refine wpAny_bind (wpAny_frameOf_fun hfr hl hf fun g hg => ?_)
 refine wpAny_bind (wpAny_entryPlaceOf fun pl hpl => ?_)
 unfold EntryCells.newEntry newFields
 refine wpAny_bind (wpAny_newObj_type ?_ (hpl.sizeOk5 _ _ _ _ _))
 have e1 : g.get? e = some oe := (hg.2.1 e out).trans he
 have kb : base.StaysIn g := fun b o q => (hg.2.1 b fun z => by rw [(hl.mem z).1] at q; cases q).trans (hkb b o q)
 generalize eN : ({ cls := .type "traceback", dict := none, data := .fields ([head, .ref L, .none, rawInt L, .none] ++ (if pl.isEmpty then List.replicate 6 Value.none else pl)).toArray } : Obj) = N
 have e2 := Heap.get?_push_of_some N e1
 refine wpAny_setField e2 hd hsz (h _ ?_)
 have ne : g.objs.size ≠ e := Nat.ne_of_gt (Heap.lt_size e1)
 have d3 := Obj.data_mapFields hd (·.setIfInBounds 1 (Value.ref g.objs.size))
 have e3 := Heap.get?_update_self (Obj.mapFields (·.setIfInBounds 1 (Value.ref g.objs.size))) e2 (Obj.isFreed_of_fields d3)
 have fN : N.isFreed = false := by rw [<- eN]; rfl
 have t3 := (Heap.get?_update_other (g.push N) (Obj.mapFields (·.setIfInBounds 1 (Value.ref g.objs.size))) (Ne.symm ne)).trans (Heap.get?_push_size g fN)
 have kp : ∀ b o, b ≠ e -> g.get? b = some o -> ((g.push N).update e (Obj.mapFields (·.setIfInBounds 1 (Value.ref g.objs.size)))).get? b = some o := fun b o hbe q => by
  rw [Heap.get?_update_other _ _ (Ne.symm hbe)]
  exact Heap.get?_push_of_some _ q
 have no : ∀ b o, s.heap.get? b = some o -> (∀ vs, o.data ≠ .fields vs) -> b ≠ e := fun b o q hn z => by
  rw [z, he] at q
  cases q
  exact hn vs hd
 refine ⟨fun b o q => kp b o (fun z => by rw [z, hen] at q; cases q) (kb b o q), fun b o q hn => ?_, ?_⟩
 ·obtain ⟨sl, z⟩ := hg.2.2 b o q
  exact ⟨sl, kp b _ (no b o q hn) z⟩
 ·obtain ⟨c2, b1, b2⟩ := hb
  refine ⟨_, _, g.objs.size, _, _, e3, ⟨Obj.cls_mapFields _ _, by rw [Array.getElem?_setIfInBounds_ne (by decide)]; exact h0, c2, by rw [Array.getElem?_setIfInBounds_ne (by decide)]; exact b1, b2⟩, d3, by simp [hsz], kb.fresh, ne, t3, by rw [<- eN], ?_⟩
  rcases hpl with rfl | ⟨_, _, _, _, _, _, _, rfl⟩ <;> simp
theorem Exc.noted {t' : Nat} {a0 : Value} (hp : Ub X) (E : Exc X pins σ H a cv n s) (k1 : (PySem.W.hideAll s.heap (hid X a n)).StaysIn h') (k2 : s.heap.UpToSlots h') (ht : NoteX h' (PySem.W.hideAll s.heap (hid X a n)) a cv a0 fl) :
  ∃ T', Exc X pins σ H a cv (some (T', fl)) { s with heap := h', toks := t' } := by
 obtain ⟨oe, vs, T', oT, ts, he, ⟨hc, h0, hb⟩, hd, h1, hn, hne, hT, hdT, h3⟩ := ht
 have I := E.inv
 refine ⟨T', E.moved k1 k2, E.al, ⟨oe, vs, a0, oT, ts, he, hc, hd, h0, h1, hne, hT, hdT, h3, hb⟩, fun T f q => ?_⟩
 cases q
 cases q : s.heap.get? T' with
 | none => exact XZ hp I q
 | some o =>
  have hm : T' ∈ hid X a n := Classical.byContradiction fun z => by
   rw [PySem.W.hideAll_get _ q z] at hn; cases hn
  rcases QA hm with z | ⟨T, f, z1, z2⟩ | z
  ·exact absurd z hne
  ·rw [z2]; exact E.nt T f z1
  ·obtain ⟨_, o', ho', hd'⟩ := I.stack.mem z
   obtain ⟨sl, hs⟩ := k2 T' o' ho' hd'
   rw [hT] at hs
   cases hs
   exact absurd hdT (hd' ts)
theorem fun_hid {as : List Addr} {base h : Heap} : ∀ {l : List Env}, h.FunFrames base l -> (∀ b ∈ frs l, b ∈ as) -> h.FunFrames (PySem.W.hideAll h as) l := fun {l} hf hs =>
 PySem.W.funFrames_hide hf fun env he b hb => hs b (List.mem_filterMap.mpr ⟨env, he, hb⟩)
theorem zac {h : Heap} {as : List Addr} : (PySem.W.hideAll h as).StaysIn h := fun b o e => PySem.W.of_hideAll as e
theorem JY {v : Value} {e1 e2 : Env} (h : e1.frame = e2.frame) : noteFrame v e1 = noteFrame v e2 := by
 unfold noteFrame PySem.frameOf
 rw [h]
structure InFrame (X : Cx) (L : Addr) : Prop where
 pin : Ub X
 ex : ∃ e0 rest, X.stack = e0 :: rest /\ e0.frame = some L
 env : X.env.frame = some L
theorem Exc.setT {f v : Value} {Q : Unit -> Shared -> Prop} {Ee : Value -> Shared -> Prop} (E : Exc X pins σ H a cv (some (T, f)) s) (q : ∀ s', Exc X pins σ H a cv (some (T, v)) s' -> Q () s') : wpAny (model X.prog X.w) X.A (setField (.ref T) 3 v) Q Ee s := by
 obtain ⟨oe, vs, a0, oT, ts, he, hc, hd, h0, h1, hne, hT, hdT, h3, hb⟩ := E.ob
 have hz : 3 < ts.size := (Array.getElem?_eq_some_iff.mp h3).1
 refine wpAny_setField hT hdT hz (q _ ?_)
 have other : ∀ b, b ≠ T -> (s.heap.update T (Obj.mapFields (·.setIfInBounds 3 v))).get? b = s.heap.get? b := fun b hb => Heap.get?_update_other _ _ (Ne.symm hb)
 have self := Heap.get?_update_self (Obj.mapFields (·.setIfInBounds 3 v)) hT (Obj.isFreed_of_fields (Obj.data_mapFields hdT _))
 have A := E.nt T f rfl
 refine ⟨E.moved (t' := s.toks) (fun b o e => ?_) (fun b o e hn => ?_), E.al, ⟨oe, vs, a0, _, _, (other a (Ne.symm hne)).trans he, hc, hd, h0, h1, hne, self, Obj.data_mapFields hdT _, by simp [hz], hb⟩, fun T' f' z => by cases z; exact A⟩
 ·have hb : b ≠ T := fun z => by
   have hh : (PySem.W.hideAll s.heap (hid X a (some (T, f)))).get? T = none := PySem.W.hideAll_none (hid X a (some (T, f))) (List.mem_cons_of_mem _ List.mem_cons_self)
   rw [z, hh] at e; cases e
  exact (other b hb).trans (PySem.W.of_hideAll _ e)
 ·have hb : b ≠ T := fun z => by rw [z, hT] at e; cases e; exact hn ts hdT
  exact ⟨o.slots, (other b hb).trans e⟩
theorem ExO.first {h : Heap} {a : Addr} {cv : Value} {n : Option (Addr × Value)} (x : ExO h a cv n) : ∃ oe vs a0 b1, h.get? a = some oe /\ oe.cls = cv /\ oe.data = .fields vs /\ vs[0]? = some a0 /\ vs[1]? = some b1 /\ zbr cv vs := by
 cases n with
 | none => obtain ⟨oe, vs, a0, h1, h2, h3, h4, h5, h6⟩ := x; exact ⟨oe, vs, a0, _, h1, h2, h3, h4, h5, h6⟩
 | some p => obtain ⟨T, f⟩ := p; obtain ⟨oe, vs, a0, _, _, h1, h2, h3, h4, h5, _, _, _, _, h6⟩ := x; exact ⟨oe, vs, a0, _, h1, h2, h3, h4, h5, h6⟩
theorem Exc.entry (hp : Ub X) {L : Addr} {e0 : Env} {rest : List Env} {head : Value} {hadNext : Bool} {Q : Unit -> Shared -> Prop} {Ee : Value -> Shared -> Prop} (hst : X.stack = e0 :: rest) (hf : e0.frame = some L) (E : Exc X pins σ H a cv n s)
  (q : ∀ T' s', Exc X pins σ H a cv (some (T', rawInt L)) s' -> Q () s') :
  wpAny (model X.prog X.w) X.A (do let fr <- PySem.frameOf e0; let pl <- entryPlaceOf L hadNext; let b <- EntryCells.newEntry head fr .none (rawInt L) .none pl; setField (.ref a) 1 b) Q Ee s := by
 have hfr : X.A.frames = some (e0 :: rest) := by rw [<- hst]; exact E.inv.ok.frames
 have fun0 : s.heap.FunFrames (PySem.W.hideAll s.heap (hid X a n)) (e0 :: rest) := by rw [<- hst]; exact fun_hid E.inv.stack (hid_frs X a n)
 have hen : (PySem.W.hideAll s.heap (hid X a n)).get? a = none := PySem.W.hideAll_none _ (by cases n with | none => exact List.mem_cons_self | some p => exact List.mem_cons_self)
 obtain ⟨oe, vs, a0, b1, he, hc, hd, h0, h1, hb⟩ := E.ob.first
 refine entryX hfr fun0 hf he zac hen hd (Array.getElem?_eq_some_iff.mp h1).1 h0 (by rw [hc]; exact hb) fun h' x => ?_
 rw [hc] at x
 obtain ⟨k1, k4, k3⟩ := x
 obtain ⟨T', x⟩ := E.noted (t' := s.toks) hp k1 k4 k3
 exact q T' _ x
theorem Exc.note {L : Addr} {Q : Unit -> Shared -> Prop} {Ee : Value -> Shared -> Prop} (F : InFrame X L) (E : Exc X pins σ H a cv n s)
  (q : ∀ T' s', Exc X pins σ H a cv (some (T', rawInt L)) s' -> Q () s') : wpAny (model X.prog X.w) X.A (noteFrame (.ref a) X.env) Q Ee s := by
 obtain ⟨e0, rest, hst, hf⟩ := F.ex
 rw [JY (e1 := X.env) (e2 := e0) (by rw [F.env, hf])]
 unfold noteFrame
 simp only [hf]
 cases n with
 | none =>
  obtain ⟨oe, vs, a0, he, hc, hd, h0, h1, _⟩ := E.ob
  refine wpAny_bind (wpAny_field he hd h1 ?_)
  rw [if_neg (by decide)]
  exact E.entry F.pin hst hf q
 | some p =>
  obtain ⟨T, f⟩ := p
  obtain ⟨oe, vs, a0, oT, ts, he, hc, hd, h0, h1, hne, hT, hdT, h3, _⟩ := id E.ob
  refine wpAny_bind (wpAny_field he hd h1 ?_)
  rw [if_pos (show (Value.ref T != Value.none) = true from by simp)]
  refine wpAny_bind (wpAny_field hT hdT h3 ?_)
  by_cases hfl : (f == rawInt L) = true
  ·rw [if_pos hfl]
   refine wpAny_pure (q T s ?_)
   have : f = rawInt L := by simpa using hfl
   rw [<- this]
   exact E
  ·rw [if_neg hfl]
   exact wpAny_bind (E.setT fun s1 E1 => E1.entry F.pin hst hf q)
theorem Exc.flight {f : Value} {fr : Option Addr} {Q : Unit -> Shared -> Prop} {Ee : Value -> Shared -> Prop} (E : Exc X pins σ H a cv (some (T, f)) s)
  (q : ∀ s', Exc X pins σ H a cv (some (T, fr.elim .none fun f => rawInt f)) s' -> Q () s') : wpAny (model X.prog X.w) X.A (setFlight (.ref a) fr) Q Ee s := by
 obtain ⟨oe, vs, a0, oT, ts, he, hc, hd, h0, h1, hne, hT, hdT, h3, _⟩ := id E.ob
 unfold setFlight
 refine wpAny_bind (wpAny_field he hd h1 ?_)
 rw [if_pos (show (Value.ref T != Value.none) = true from by simp)]
 exact E.setT q
theorem Exc.leave {L : Addr} {Q : Unit -> Shared -> Prop} {Ee : Value -> Shared -> Prop} (F : InFrame X L) (E : Exc X pins σ H a cv n s)
  (q : ∀ T' s', Exc X pins σ H a cv (some (T', .none)) s' -> Q () s') : wpAny (model X.prog X.w) X.A (leaving X.env (.ref a)) Q Ee s := by
 unfold leaving
 exact wpAny_bind (E.note F fun T' s1 E1 => E1.flight (fr := none) fun s2 E2 => q T' s2 E2)
theorem Exc.pass {α : Type} {w : String} {f : Value} {env : Env} {Q : α -> Shared -> Prop} {Ee : Value -> Shared -> Prop} (E : Exc X pins σ H a cv (some (T, f)) s)
  (q : ∀ fl s', Exc X pins σ H a cv (some (T, fl)) s' -> Ee (.ref a) s') : wpAny (model X.prog X.w) X.A (PySem.passOn w (.ref a) env : Sem α) Q Ee s := by
 obtain ⟨oe, vs, a0, oT, ts, he, hc, hd, h0, h1, hne, hT, hdT, h3, _⟩ := id E.ob
 unfold PySem.passOn
 refine wpAny_bind (wpAny_field he hd h1 ?_)
 rw [if_neg (show ¬ ((Value.ref T == Value.none) = true) from Bool.false_ne_true)]
 exact wpAny_bind (E.flight fun s1 E1 => wpAny_throw (q _ _ E1))
end
end Fx
namespace Fx
open PySem PySem.Spec PyProof.Rows L2
variable [Dirt]
def XE (X : Cx) (cl : Str -> Value) (W : Str -> Hp -> Prop) : Value -> Shared -> Prop := fun e s => ∃ a c pins σ H n, e = .ref a /\ Exc X pins σ H a (cl c) n s /\ W c H
abbrev Cx.xw (X : Cx) (cl : Str -> Value) (W : Str -> Hp -> Prop) : Cx := X.wish (XE X cl W)
def CX1 (P : Program) (w : World) : CXT := fun outer H s E e s' => ∃ a cv T H', e = .ref a /\ s'.os = s.os /\ AllBare s'.gens /\ Un (frs outer) [] H H' s.heap s'.heap /\ HOk P w H' s'.heap /\ H' a = none /\ H' T = none /\
 s.heap.get? a = none /\ s.heap.get? T = none /\ ExO s'.heap a cv (some (T, .none)) /\ E cv none H'
section
variable {X : Cx} {cl : Str -> Value} {W : Str -> Hp -> Prop} {pins : List (Addr × Obj)} {σ : L2.St} {H H' : Hp} {s s' : Shared} {a : Addr}
theorem Alien.to (A : Alien X pins H a) (e : H' a = none) : Alien X pins H' a := ⟨A.young, A.loc, A.cell, A.pin, e, A.frm⟩
theorem V2 (hp : Ub X) {E : XK} {e : Value} (I : Inv X pins σ H s) (h : CX1 X.prog X.w X.stack H s E e s') : ∃ a cv T H', e = .ref a /\ Exc X pins σ H' a cv (some (T, .none)) s' /\ E cv none H' := by
 obtain ⟨a, cv, T, H', rfl, os, bare, un, hok, ha, hT, na, nT, ob, hE⟩ := h
 obtain ⟨hh, g, d, t, os'⟩ := s'
 obtain rfl : os' = s.os := os
 refine ⟨a, cv, T, H', rfl, ⟨I.call (h' := hh) (g' := g) (d' := d) (t' := t) (ch := []) un hok bare (fun b z => absurd z (by simp)), (XZ hp I na).to ha, ob, fun T' f z => ?_⟩, hE⟩
 cases z
 exact (XZ hp I nT).to hT
theorem pass_xw (hp : Ub X) : JO (CX1 X.prog X.w) (Cx.xw X cl W) (EX (some cl) W) := fun pins σ H s e s' I h => by
 obtain ⟨a, cv, T, H', rfl, x, c, f, e1, rfl, hw⟩ := V2 hp I.unwish h
 cases e1
 exact ⟨a, c, pins, σ, H', _, rfl, x, hw⟩
end
structure Clx (P : Program) (w : World) (K : PySem.W.Frag) (mg : Str -> Option Value) (base : Heap) (cl : Str -> Value) (k : Nat) (x : Str) (np : Nat) (f : DF) : Prop where
 ex : ∃ (fa : Addr) (fd : FuncData) (ps : List Str), FnOk P w K mg base (CX1 P w) k fa fd ps (spF K (some cl) np f) /\ mg x = some (.ref fa) /\ PySem.W.keepIn K (.ref fa) = true /\ YV K fd ps []
theorem Clx.cal {X : Cx} {cl : Str -> Value} {W : Str -> Hp -> Prop} {k np : Nat} {x : Str} {f : DF} (hp : Ub X) (C : Clx X.prog X.w X.K X.mg X.base cl k x np f) : Cal (Cx.xw X cl W) W (some cl) k x np f := by
 obtain ⟨fa, fd, ps, F, hm, hk, hb⟩ := C.ex
 exact ⟨⟨CX1 X.prog X.w, fa, fd, ps, F, hm, hk, hb, pass_xw hp⟩, fun z => by cases z⟩
theorem Clx.mono {P : Program} {w : World} {K : PySem.W.Frag} {mg : Str -> Option Value} {base : Heap} {cl : Str -> Value} {j k np : Nat} {x : Str} {f : DF} (C : Clx P w K mg base cl j x np f) (h : j <= k) : Clx P w K mg base cl k x np f := by
 obtain ⟨fa, fd, ps, F, r⟩ := C.ex
 exact ⟨⟨fa, fd, ps, F.mono h, r⟩⟩
theorem pss_xe {X : Cx} {E' : Value -> Shared -> Prop} {st : List Stmt} {t : TS} (h : PSs (X.wish E') st t) (hx : ∀ e s, E' e s -> X.xe e s) : PSs X st t := fun pins s σ H D I hw =>
 wpAny_mono (h pins s σ H D (I.wish _) hw) (fun _ _ q => q.unwish) hx
section
variable {P : Program} {w : World} {K : PySem.W.Frag} {mg : Str -> Option Value} {base : Heap}
theorem ZA {CX : CXT} {N : List Str} {qual : Str} {scope : Scope} {f : Addr} {cdv : Value} {A : Around} {outer : List Env} {s : Shared} {H : Hp} {E : XK} : InFrame (cxOf CX P w K mg base N qual scope f cdv A outer s H E) s.heap.objs.size :=
 ⟨fun b z => absurd (show b ∈ ([] : List Addr) from z) (by simp), ⟨_, _, rfl, rfl⟩, rfl⟩
theorem fn_okX {cl : Str -> Value} {x qual : Str} {st : Stmt} {f : Addr} {fd : FuncData} {N ps : List Str} {k np : Nat} {d : DS} (F : Fun K x qual st f fd) (S : FnScope N ps (Ze st)) (hnp : ps.length = np)
  (hb : ∀ (cdv : Value) (A : Around) (outer : List Env) (s : Shared) (H : Hp) (E : XK) (W : Str -> Hp -> Prop), Room k (A.deeper (envOfC qual (Ze st) s.heap.objs.size f cdv)) ->
   SVs (Cx.xw (cxOf (CX1 P w) P w K mg base N qual (Ze st) f cdv A outer s H E) cl W) W false (ZD st) d) : FnOk P w K mg base (CX1 P w) (k + 1) f fd ps (spF K (some cl) np (runF N.length np d)) := by
 obtain ⟨oc, od, kV, doc, pm, an, cdv, ct, osl, rfl, lk, hcd⟩ := F.ex
 refine fn_of lk hcd S (fun vs H Q E h => by rw [hnp]; exact h.1) fun A outer s H vs Q E hr h => ⟨_, pss_xe (hb cdv A outer s H E (fun c H' => E (cl c) none H') hr) (fun e s1 hx => ?_), ?_⟩
 ·obtain ⟨a, c, pins, σ, H', n, rfl, x, hw⟩ := hx
  refine x.leave ZA fun T s2 x2 => ?_
  refine ⟨a, cl c, T, H', rfl, x2.inv.os, x2.inv.bare, x2.inv.base, x2.inv.hok, x2.al.trk, (x2.nt T _ rfl).trk, x2.al.young, (x2.nt T _ rfl).young, x2.ob, hw⟩
 ·obtain ⟨hl, ts, P', rs, ho, hf, q⟩ := h
  have hlt : ts.length = np := by rw [rs.length]; exact hl
  refine ⟨_, P', Qz rs ho hf, ?_⟩
  unfold runF at q
  rw [if_pos hlt] at q
  have en : N.length - np = N.length - ts.length := by rw [hlt]
  rw [en] at q
  have sm : ∀ H' P2, Go H P' H' P2 -> Same H H' := fun H' P2 g => g.all ho
  have bk : ∀ H' P2, Go H P' H' P2 -> Tr H' P2 H' P' := fun H' P2 g b o e _ z => ⟨e, fun i => by rw [ho i]; exact fun z => (by cases z), by rw [<- g.fbe]; exact z.2⟩
  cases e : d (ts.map .val ++ List.replicate (N.length - ts.length) .emp) with
  | stuck => rw [e] at q; exact q.elim
  | exc c => rw [e] at q; exact fun H' P2 g => q none H' (sm H' P2 g)
  | ok o =>
   rw [e, Res.bind_ok] at q
   cases o with
   | nx G => exact fun σ' H' P2 g h' => q .non H' (sm H' P2 g) (X2.mpr rfl)
   | rt t => exact fun v H' P2 g r _ => q v H' (sm H' P2 g) (Rl.go (bk H' P2 g) t v r)
   | bk G => exact q.elim
   | ct G => exact q.elim
theorem UB {cl : Str -> Value} {x : Str} {st : Stmt} {fa : Addr} {fd : FuncData} {N ps : List Str} {k n np : Nat} {d : DS} (F : Fun K x x st fa fd) (hm : mg x = some (.ref fa)) (b : YV K fd ps []) (S : FnScope N ps (Ze st)) (hnp : ps.length = np) (hN : N.length = n)
  (hb : ∀ (cdv : Value) (A : Around) (outer : List Env) (s : Shared) (H : Hp) (E : XK) (W : Str -> Hp -> Prop), Room k (A.deeper (envOfC x (Ze st) s.heap.objs.size fa cdv)) ->
   SVs (Cx.xw (cxOf (CX1 P w) P w K mg base N x (Ze st) fa cdv A outer s H E) cl W) W false (ZD st) d) : Clx P w K mg base cl (k + 1) x np (runF n np d) := by
 subst hN
 exact ⟨⟨fa, fd, ps, fn_okX F S hnp hb, hm, F.kp, b⟩⟩
end
structure XCls (K : PySem.W.Frag) (mg : Str -> Option Value) (x : Str) (C : Addr) : Prop where
 bd : mg x = some (.ref C)
 ex : PySem.W.excIn K C [.type "ValueError", .type "Exception", .type "BaseException", .type "object"] "ValueError.__new__" = true
theorem XCls.obj {K : PySem.W.Frag} {mg : Str -> Option Value} {x : Str} {C : Addr} {h : Heap} (c : XCls K mg x C) (k : K.In h) : OwnCls x C [.type "ValueError", .type "Exception", .type "BaseException", .type "object"] "ValueError.__new__" mg h := by
 refine ⟨c.bd, ?_⟩
 have q := c.ex
 unfold PySem.W.excIn at q
 split at q
 ·rename_i d0 cdat slts look
  split at q
  ·rename_i C1 tl a0 a1 a2 a3 nid a5 em es
   simp only [Bool.and_eq_true, beq_iff_eq, Bool.not_eq_true'] at q
   obtain ⟨⟨⟨⟨⟨q1, q2⟩, q3⟩, q4⟩, q5⟩, q6⟩ := q
   obtain ⟨c1, c2, c3, c4, c5, c6, c7, c8, c9, c10, c11⟩ := cdat
   dsimp only at em q3 q5 q6
   subst em q3 q1 q2
   obtain ⟨lst⟩ := slts
   dsimp only at es
   subst es
   exact ⟨tl, c4, c1, c5, c2, c6, c7, c8, c9, c10, d0, a0, a1, a2, a3, a5, _, k _ _ look, .of_isNs (PySem.W.isNs_of_in k q5), PySem.W.nsMap_none_of_in k q5 q6, PySem.W.tail_of_in k q4⟩
  ·cases q
 ·cases q
section
variable {X : Cx} {cl : Str -> Value} {W : Str -> Hp -> Prop} {e : Expr} {es : List Expr} {d : DA} {pos : Pos}
theorem YF {x : Str} {C : Addr} {np cpos : Pos} (hp : Ub X) (c : XCls X.K X.mg x C) (hcl : cl x = .ref C) (ha : AV (Cx.xw X cl W) W (e :: es) d) (hg : Gl X x) (hc : X.calm = true := by rfl) (hdb : (x == ("__debug__" : Str)) = false := by decide)
  (he : starEach (e :: es) X.env = (false, eval e X.env) :: starEach es X.env := by rfl) (hpl : (backTo cpos (starEach es X.env)).any (·.1) = false := by rfl)
  (hln : ∀ G ts, d G = .ok ts -> ts.length <= 4 := by intro G ts h; have := Uu G ts h; omega) :
  SV (Cx.xw X cl W) W fl (.Raise (some (.Call (.Name x np) (e :: es) [] cpos)) none pos) (XD x d) := by
 intro pins s σ H D I ⟨G, P, h, q⟩
 unfold XD at q
 obtain ⟨h', g⟩ := h.frzA
 obtain ⟨q1, q2, q3⟩ := zbi q
 obtain ⟨tl, N, nm, qn, bs, hd, sn, sb, ab, co, dd, k0, k1, k2, k3, k5, mN, hC, hN, hni, tail⟩ := (c.obj I.mod.kin).obj
 refine wpAny_Raise_call_subT (C := C) (nm := nm) (q := qn) (N := N) (bs := bs) (bm := tl) (hdct := hd) (sn := sn) (sub := sb) (ab := ab) (col := co) (dd := dd) (k0 := k0) (k1 := k1) (k2 := k2) (k3 := k3) (k5 := k5)
  PySem.F.excBase_ValueError (mN := mN) (tail.hasType PySem.F.excBase_ValueError.hasBase) (I.ok.hd hc) (by rw [show starEach (e :: es) (Cx.xw X cl W).env = _ from he]; show (false || (backTo cpos (starEach es X.env)).any (·.1)) = false; rw [hpl]; rfl) hni (Wb I hg c.bd ⟨rfl, ?_⟩ hdb)
 have hA := ha cpos pins s σ H (fun vs H2 => vs.length <= 4 /\ W x H2) I ⟨frzA G, P.bare, h', ?_⟩
 ·rw [show starEach (e :: es) (Cx.xw X cl W).env = _ from he] at hA ⊢
  refine Calls.evalArgs_plain (wpAny_mono hA (fun us s2 ⟨vs, H2, I2, r2, hl, hw⟩ => ?_) fun _ _ z => z)
  have hl2 := r2.length
  refine ⟨rfl, by show us.length <= sizeLine; rw [sizeLine_eq]; omega, I2.bk _ _ hC, hN.keeps I2.bk, tail.keeps I2.bk, fun h2 a mk => ?_⟩
  obtain ⟨t, ho, _, _⟩ := mk.there
  refine ⟨a, x, pins, σ, H2, none, rfl, ⟨I2.unwish.kept (t' := s2.toks) mk.keeps, XZ hp I2.unwish mk.new, ⟨_, _, .ref t, ho, hcl.symm, rfl, rfl, rfl, ⟨.none, rfl, .inl rfl⟩⟩, fun T f z => by cases z⟩, hw⟩
 ·cases ed : d (frzA G) with
  | stuck => exact absurd ed q2
  | exc c' => exact fun H2 sm => q1 c' ed H2 P.bare (g.trans (.same sm))
  | ok ts => exact fun vs H2 sm rs => ⟨by rw [<- rs.length]; exact hln _ _ ed, q3 ts ed H2 P.bare (g.trans (.same sm))⟩
end
end Fx
namespace Fx
open PySem PySem.Spec PyProof.Rows L2
variable [Dirt]
section
variable {X : Cx} {cl : Str -> Value} {W : Str -> Hp -> Prop} {L : Addr} {scope : Scope} {N : List Str}
theorem frame_c {s₀ : Shared} {H₀ : Hp} {ex : List Addr} {pn : List (Addr × Obj)} (F : InFrame X L) (hp : ∀ b ∈ ex, ∃ o, (b, o) ∈ pn) : InFrame (cxC X scope N s₀ H₀ ex pn) L := ⟨hp, F.ex, F.env⟩
theorem InFrame.wish {E : Value -> Shared -> Prop} (F : InFrame X L) : InFrame (X.wish E) L := ⟨F.pin, F.ex, F.env⟩
theorem Va (F : InFrame X L) : zaj (Cx.xw X cl W) scope N (fun Y => XE Y cl W) := by
 intro pins σ H3 s3 fp pn e s' I3 hf pnn hx
 obtain ⟨a, c, pins', σ', H', n, rfl, x, hw⟩ := hx
 refine Exc.note (X := cxC (Cx.xw X cl W) scope N s3 H3 fp pn) (L := L) (frame_c (InFrame.wish F) pnn) x fun T s1 x1 => ?_
 obtain ⟨m, hm, _⟩ := x1.inv.loc
 refine ⟨m, hm, fun h' hsb cenv hc => ?_⟩
 have J : Inv (cxC (Cx.xw X cl W) scope N s3 H3 fp) (pn ++ pins') σ' H' s1 := inv_np (x1.inv.wish fun _ _ => False)
 have I0 : Inv X pins σ H' s1 := (CompOk.stop I3 (fun b hb => (hf b hb).1) J).unwish
 have al : ∀ b, Alien (cxC (Cx.xw X cl W) scope N s3 H3 fp pn) pins' H' b -> Alien X pins H' b := fun b A => (XZ F.pin I3.unwish A.young).to A.trk
 have fo : FpOk X pins H' s3.heap.objs.size := I3.unwish.fpOk (Nat.le_refl _) x1.inv.free
 have ne : ∀ b, Alien (cxC (Cx.xw X cl W) scope N s3 H3 fp pn) pins' H' b -> h'.get? b = s1.heap.get? b := fun b A => hsb.2 b A.loc
 have aT := x1.nt T _ rfl
 have x2 : Exc X pins σ H' a (cl c) (some (T, rawInt L)) { s1 with heap := h' } := by
  refine ⟨atC I0 fo hsb, al a x1.al, ?_, fun T' f z => by cases z; exact al T aT⟩
  obtain ⟨oe, vs, a0, oT, ts, he, hc, hd, h0, h1, hne, hT, hdT, h3, hb⟩ := x1.ob
  exact ⟨oe, vs, a0, oT, ts, (ne a x1.al).trans he, hc, hd, h0, h1, hne, (ne T aT).trans hT, hdT, h3, hb⟩
 exact x2.pass fun fl s2 x3 => ⟨a, c, pins, σ, H', _, rfl, x3, hw⟩
end
end Fx
namespace Fx
open PySem PySem.Spec PyProof.Rows L2
variable [Dirt]
def cxH (X : Cx) (a : Addr) : Cx := { X with A := X.A.mark (some (.ref a)), calm := false, xe := fun _ _ => False }
section
variable {X : Cx} {pins : List (Addr × Obj)} {σ : L2.St} {H H' : Hp} {s s' : Shared} {a : Addr} {cv : Value} {n : Option (Addr × Value)} {cl : Str -> Value} {W : Str -> Hp -> Prop} {L : Addr}
theorem inv_h (I : Inv X pins σ H s) : Inv (cxH X a) pins σ H s :=
 ⟨⟨I.ok.mod, I.ok.kind, I.ok.glob, I.ok.blt, I.ok.above, I.ok.inj, I.ok.has, I.ok.cab, fun z => (by cases z), I.ok.frames, I.ok.stk, I.ok.exf, I.ok.bs, I.ok.bsz, I.ok.noex, I.ok.exfs, I.ok.funs, I.ok.frf⟩, I.os, I.bare, I.base, I.loc, I.cell, I.free, I.freeC, I.pin, I.hok, I.len⟩
theorem VY (ok : X.Ok) (I : Inv (cxH X a) pins σ H s) : Inv X pins σ H s := ⟨ok, I.os, I.bare, I.base, I.loc, I.cell, I.free, I.freeC, I.pin, I.hok, I.len⟩
theorem exc_h (x : Exc X pins σ H a cv n s) : Exc (cxH X a) pins σ H a cv n s := ⟨inv_h x.inv, ⟨x.al.young, x.al.loc, x.al.cell, x.al.pin, x.al.trk, x.al.frm⟩, x.ob, fun T f z => let A := x.nt T f z; ⟨A.young, A.loc, A.cell, A.pin, A.trk, A.frm⟩⟩
theorem sp_oh {D : Ends} {f : Flow} (ok : X.Ok) (h : SP (cxH X a) pins D f s') : SP X pins D f s' := by
 cases f with
 | next => obtain ⟨σ', H', I, q⟩ := h; exact ⟨σ', H', VY ok I, q⟩
 | brk => obtain ⟨σ', H', I, q⟩ := h; exact ⟨σ', H', VY ok I, q⟩
 | cont => obtain ⟨σ', H', I, q⟩ := h; exact ⟨σ', H', VY ok I, q⟩
 | ret u => obtain ⟨v, σ', H', I, r, q⟩ := h; exact ⟨v, σ', H', VY ok I, r, q⟩
theorem V3 {K : PySem.W.Frag} {M : Model} {A : Around} {E : Value -> Shared -> Prop} {mg : Str -> Option Value} {x : Str} {C C' : Addr} {ob : Obj} {Q : Bool -> Shared -> Prop} (k : K.In s.heap) (c : XCls K mg x C') (ho : s.heap.get? a = some ob) (hc : ob.cls = .ref C)
  (hsub : PySem.W.subIn K (.ref C) (.ref C') = some true) (q : Q true s) : wpAny M A (excMatches (.ref a) (.ref C')) Q E s := by
 obtain ⟨tl, N, nm, qn, bs, hd, sn, sb, ab, co, dd, k0, k1, k2, k3, k5, mN, hC, hN, hni, tail⟩ := (c.obj k).obj
 have hB : (Value.ref C' :: tl).contains (.type "BaseException") = true := by rw [List.contains_cons, tail.hasType PySem.F.excBase_ValueError.hasBase, Bool.or_true]
 have nt := tc_notTuple
 obtain ⟨hp, g, d, tk, os⟩ := s
 unfold excMatches
 repeat (first | (with_reducible refine wpAny_loadPart_at ho ?_; rw [hc]) | with_reducible refine wpAny_loadPart_at hC ?_ | (with_reducible refine wpAny_isSubtype_exc hC ?_; rw [hB]) | (refine (PySem.W.looks_subIn k hsub).at ?_) | wp_step)
 exact q
theorem isi_exc {x : Addr} {A : Around} {Ee : Value -> Shared -> Prop} {Q : Value -> Shared -> Prop} (I : Inv X pins σ H s) (h : H x = some (XO X.K x)) (q : Q (.bool true) s) : wpAny (model X.prog X.w) A (call (.builtin "isinstance") [.ref x, .type "ValueError"]) Q Ee s := by
 obtain ⟨⟨ob, C, ho, hc, hs⟩, _, _⟩ := I.hok x _ h
 have lt : PySem.W.Looks (model X.prog X.w) s.heap (typeOf (.ref x)) (.ref C) := hc ▸ (PySem.W.Looks.ld ho).andThen .now
 have li : PySem.W.Looks (model X.prog X.w) s.heap (isInstance (.ref x) (.type "ValueError")) true := lt.andThen (PySem.W.looks_subIn I.kIn hs)
 refine call_isinstance_of ?_ (by intro e; cases e)
 unfold Builtin.«isinstance.nested»
 refine wpAny_bind (lt.at ?_)
 rw [if_neg (show ¬ ((Value.ref C == Value.type "ValueError") = true) from Bool.false_ne_true)]
 refine wpAny_bind (wpAny_of_eq (a := Value.type "type") (PySem.W.kitMeta_of (by decide +kernel)) ?_)
 rw [if_pos (by decide)]
 k_delta "plainIsInstance"
 refine wpAny_bind (wpAny_bind (wpAny_of_eq (a := true) rfl ?_))
 simp only [Bool.not_true, Bool.false_eq_true, if_false]
 refine wpAny_bind (li.at ?_)
 simp only [if_true]
 exact wpAny_pure (wpAny_pure q)
theorem call_isx : VG X (.builtin "isinstance") (fun xs H Q => ∃ x, xs = [.ref x, .ty "ValueError"] /\ H x = some (XO X.K x) /\ Q (.bl true) H) := by
 intro pins s σ H xs us Q I r h
 obtain ⟨x, rfl, hx, q⟩ := h
 obtain ⟨u, w', rfl, ru, rw'⟩ := vals2 r
 cases ru
 cases rw'
 exact isi_exc I hx ⟨.bl true, H, I, rfl, q⟩
theorem ev_isx {ex : Expr} {da : DE} {p p2 pos : Pos} (hg : Gl X "isinstance") (hm : X.mg "isinstance" = none) (hg2 : Gl X "ValueError") (hm2 : X.mg "ValueError" = none) (ha : EV X W ex da)
  (hs : starEach [ex, .Name "ValueError" p2] X.env = (false, eval ex X.env) :: starEach [.Name "ValueError" p2] X.env := by rfl) (hs2 : starEach [.Name "ValueError" p2] X.env = (false, eval (.Name "ValueError" p2) X.env) :: starEach [] X.env := by rfl)
  (hpl : (backTo pos (starEach [.Name "ValueError" p2] X.env)).any (·.1) = false := by rfl) :
  EV X W (.Call (.Name "isinstance" p) [ex, .Name "ValueError" p2] [] pos) (d1 fIsX da) :=
 Zp (X4 call_isx hg hm (show bootBuiltins "isinstance" = some (.builtin "isinstance") by decide +kernel) (ZQ ha (ZQ (zaH (v := .ty "ValueError") hg2 hm2 (show bootBuiltins "ValueError" = some (.type "ValueError") by decide +kernel) rfl) YA hs2) hs) (he := hs) (hpl := hpl)) fun σ H Q ⟨G, P, h, q⟩ => by
  unfold d1 at q
  obtain ⟨q1, q2, q3⟩ := Wo q
  refine Zq h q1 q2 fun tx x H1 ex s1 h1 rx => ?_
  have q4 := Yh.up (q3 tx ex) s1
  cases tx <;> try exact q4.elim
  rename_i ys
  cases ys with
  | cons y ys => exact q4.elim
  | nil =>
   obtain ⟨y, rfl, hy, _⟩ := rl_exc.mp rx
   exact ⟨y, rfl, hy, ZM q4⟩
theorem ev_intc {ex : Expr} {da : DE} {p pos : Pos} (hg : Gl X "int") (hm : X.mg "int" = none) (ha : EV X W ex da) (hs : starEach [ex] X.env = (false, eval ex X.env) :: starEach [] X.env := by rfl) : EV X W (.Call (.Name "int" p) [ex] [] pos) (d1 fInt da) :=
 Zp (W1 zbg hg hm (show bootBuiltins "int" = some (.type "int") by decide +kernel) (ZQ ha YA hs) (he := hs)) fun σ H Q h => Vo (fun H P σ G x tx Q h rx q => by
  cases tx <;> try exact q.elim
  ·exact .inr ⟨_, by rw [Yt.mp rx], ZT q⟩
  ·exact .inl ⟨_, by rw [ZL.mp rx], ZT q⟩) h
theorem U6 {ex : Expr} {es : List Expr} {k np : Nat} {x : Str} {f : DF} {d : DA} {p pos : Pos} (C : Clx X.prog X.w X.K X.mg X.base cl k x np f) (hr : Room k X.A) (hp : Ub X) (hg : Gl X x) (ha : AV X.nox (fun _ _ => False) (ex :: es) d)
  (hL : ∀ G ts, d G = .ok ts -> ts.length = np) (hdb : (x == ("__debug__" : Str)) = false) (he : starEach (ex :: es) X.env = (false, eval ex X.env) :: starEach es X.env) (hpl : (backTo pos (starEach es X.env)).any (·.1) = false)
  {G : List Sl} {P : Pv} (I : Inv X pins σ H s) (h : Hol X.K H P σ G) {Q : Value -> Shared -> Prop} {Ee : Value -> Shared -> Prop} {ts : List PyData} (hd : d G = .ok ts) (hns : f ts ≠ .stuck)
  (ok : ∀ t, f ts = .ok t -> ∀ v u H' s', Inv X pins σ H' s' -> Same H H' -> Rl X.K H' P t v -> RelV v u -> Q u s')
  (xc : ∀ c, f ts = .exc c -> ∀ a T H' s', Exc X pins σ H' a (cl c) (some (T, .none)) s' -> Same H H' -> Ee (.ref a) s') :
  wpAny (model X.prog X.w) X.A (eval (.Call (.Name x p) (ex :: es) [] pos) X.env) Q Ee s := by
 obtain ⟨fa, fd, ps, F, hm, hk, hb⟩ := C.ex
 refine wpAny_Call_Name_kw (Wb I hg hm ?_ hdb)
 refine PySem.W.callWith_K (h₀ := X.base) I.ok.mod.kin hk (wpAny_mono (ha pos pins s σ H (fun vs H1 => Same H H1 /\ Rls X.K H1 P ts vs) (I.wish _) ⟨G, P, h, by rw [hd]; exact fun vs H' s r => ⟨s, r⟩⟩) (fun us s1 hA => ?_) fun _ _ z => False.elim z) he hpl
 obtain ⟨vs, H1, I1, r, sm, rs⟩ := hA
 have J := I1.unwish
 refine ⟨J.kIn, ?_⟩
 have h1 := h.same sm
 have el : vs ++ [] = vs := List.append_nil vs
 have eu : us ++ [] = us := List.append_nil us
 have gg : Tr H1 P H1 ⟨fun _ => none, fun a => ¬ Off P a⟩ := fun a o e1 _ o1 => ⟨e1, fun _ z => (by cases z), fun z => z o1⟩
 have back : ∀ H2, Tr H2 ⟨fun _ => none, fun a => ¬ Off P a⟩ H2 P := fun H2 a o e1 _ o1 => ⟨e1, Classical.byContradiction fun z => o1.2 z⟩
 have sp : spF X.K (some cl) np f (vs ++ []) H1 (fun v H' => ∃ t, f ts = .ok t /\ Same H1 H' /\ Rl X.K H' P t v) (fun cv _ H' => ∃ c, f ts = .exc c /\ cv = cl c /\ Same H1 H') := by
  rw [el]
  refine ⟨by rw [<- rs.length]; exact hL G ts hd, ts, ⟨fun _ => none, fun a => ¬ Off P a⟩, Rls.go gg ts vs rs, fun _ => rfl, ⟨fun a z => h1.ld z, h1.tab⟩, ?_⟩
  cases e : f ts with
  | ok t => exact fun v H' s r => ⟨t, rfl, s, Rl.go (back H') t v r⟩
  | exc c => exact fun dx H' s => ⟨c, rfl, rfl, s⟩
  | stuck => exact hns e
 have hl : (us ++ []).length = ps.length := by rw [eu, <- r.length, <- el]; exact F.len _ _ _ _ sp
 refine wpAny_call (codeAny_mono (F.run X.A X.stack s1 H1 ⟨us, []⟩ (us ++ []) (vs ++ []) _ _ hr J.env0 (hb s1 us J.kIn hl) (by rw [el, eu]; exact r) sp) fun r' s' hq => ?_)
 cases r' with
 | error e =>
  have hq' : CX1 X.prog X.w X.stack H1 s1 (fun cv _ H' => ∃ c, f ts = .exc c /\ cv = cl c /\ Same H1 H') e s' := hq
  obtain ⟨a, cv, T, H', rfl, x, c, ec, rfl, s2⟩ := V2 hp J hq'
  exact xc c ec a T H' s' x (sm.trans s2)
 | ok fl =>
  cases fl with
  | ret u =>
   obtain ⟨v, H', I', rv, t, et, s2, rl⟩ := J.after hq
   exact ok t et v u H' s' I' (sm.trans s2) rl rv
  | next => exact False.elim hq
  | brk => exact False.elim hq
  | cont => exact False.elim hq
def Vc (X : Cx) (cl : Str -> Value) (sub : Str -> Bool) (C' : Addr) : Prop := ∀ c, sub c = true -> ∃ C, cl c = .ref C /\ PySem.W.subIn X.K (.ref C) (.ref C') = some true
theorem handled0 {Cn : Str} {C' : Addr} {sub : Str -> Bool} {c : Str} {dh : DS} {b₀ : Stmt} {suite : List Stmt} {np hpos : Pos} {D : Ends} {G : List Sl} {P : Pv} (F : InFrame X L) (hcn : XCls X.K X.mg Cn C') (hgn : Gl X Cn) (hdb : (Cn == ("__debug__" : Str)) = false) (hsub : Vc X cl sub C') (hs : sub c = true)
  (hh : SVs (cxH X a) (fun _ _ => False) fl (b₀ :: suite) dh) {T : Addr} (x : Exc X pins σ H a (cl c) (some (T, .none)) s) (h : Hol X.K H P σ G) (q : X0 X.K (fun _ _ => False) fl H P (dh G) D) :
  wpAny (model X.prog X.w) X.A (noteFrame (.ref a) X.env) (fun _ s₂ => wpAny (model X.prog X.w) X.A (setFlight (.ref a) none) (fun _ s₃ => wpAny (model X.prog X.w) X.A (handleBy (.ref a) X.env [.ExceptHandler (some (.Name Cn np)) none (b₀ :: suite) hpos]) (SP X pins D) X.xe s₃) X.xe s₂) X.xe s := by
 refine x.note F fun T1 s1 x1 => x1.flight (fr := none) fun s2 x2 => ?_
 obtain ⟨C, ec, hC⟩ := hsub c hs
 obtain ⟨oe, vs, a0, b1, ho, hc, _⟩ := x2.ob.first
 refine wpAny_handleBy_cons (codeAny_handlers_test (Wb (X := cxH X a) (inv_h x2.inv) hgn hcn.bd ?_ hdb)) (by intro z; cases z)
 refine V3 x2.inv.kIn hcn ho (hc.trans ec) hC ?_
 refine codeAny_handlers_suite (Exc.flight (X := cxH X a) (fr := none) (exc_h x2) fun s3 x3 => ?_)
 refine wpAny_mono (hh pins s3 σ H D x3.inv ⟨G, P, h, q⟩) (fun f s4 h4 => sp_oh x2.inv.ok h4) fun _ _ z => False.elim z
section
variable {Cn : Str} {C' : Addr} {sub : Str -> Bool} {dh : DS} {b₀ : Stmt} {suite : List Stmt} {np hpos : Pos} {ex : Expr} {es : List Expr} {k nps : Nat} {x : Str} {f : DF} {d : DA} {p cpos epos pos : Pos}
theorem ss_try (F : InFrame X L) (C : Clx X.prog X.w X.K X.mg X.base cl k x nps f) (hr : Room k X.A) (hg : Gl X x) (ha : AV X.nox (fun _ _ => False) (ex :: es) d) (hcn : XCls X.K X.mg Cn C') (hgn : Gl X Cn) (hsub : Vc X cl sub C')
  (hh : ∀ a, SVs (cxH X a) (fun _ _ => False) fl (b₀ :: suite) dh) (hL : ∀ G ts, d G = .ok ts -> ts.length = nps := by first | exact Uu | exact Qw | exact Ju | exact len_c4) (hdb : (x == ("__debug__" : Str)) = false := by decide) (hdn : (Cn == ("__debug__" : Str)) = false := by decide)
  (he : starEach (ex :: es) X.env = (false, eval ex X.env) :: starEach es X.env := by rfl) (hpl : (backTo cpos (starEach es X.env)).any (·.1) = false := by rfl) (hsw : swapsWith (.Call (.Name x p) (ex :: es) [] cpos) none epos.line X.env = pure false := by rfl) :
  SV X W fl (.Try [.Expr (.Call (.Name x p) (ex :: es) [] cpos) epos] [.ExceptHandler (some (.Name Cn np)) none (b₀ :: suite) hpos] [] [] pos) (dTry (U2 (W9 f d)) sub dh) := by
 intro pins s σ H D I ⟨G, P, h, q⟩
 obtain ⟨h', g⟩ := h.frzA
 unfold dTry U2 W9 at q
 cases ed : noX (d (frzA G)) with
 | exc c => rcases W3 (d (frzA G)) with ⟨t, z⟩ | z <;> (rw [ed] at z; cases z)
 | stuck => rw [ed] at q; exact q.elim
 | ok ts =>
  rw [ed, Res.bind_ok] at q
  have hd : d (frzA G) = .ok ts := Js ed
  refine wpAny_Try_except (wpAny_execs_cons (wpAny_Expr_any (U6 C hr F.pin hg ha hL hdb he hpl I h' hd (fun z => ?_) (fun t et v u H' s' I' sm rl rv => ?_) fun c ec a T H' s' xx sm => ?_) I.quiet hsw))
  ·rw [z] at q; exact q.elim
  ·rw [et] at q
   refine wpAny_execs_nil ?_
   exact wpAny_execs_nil ⟨σ, H', I', q σ H' P (.same sm) (h.same sm)⟩
  ·rw [ec] at q
   simp only [Res.bind_exc] at q
   split at q
   ·rename_i hs
    refine handled0 F hcn hgn hdn hsub hs (hh a) xx (h.same sm) ?_
    cases eh : dh G with
    | ok o =>
     rw [eh] at q
     exact X0.up (W := fun _ _ => False) (r := .ok o) (by cases o <;> exact q) (.same sm)
    | exc c' => rw [eh] at q; exact q.elim
    | stuck => rw [eh] at q; exact q.elim
   ·exact q.elim
end
theorem Qy {o : HO} (I : Inv X pins σ H s) (A : Alien X pins H a) (ho : WS X.prog X.w (upd H a o) s.heap a o) : Inv X pins σ (upd H a o) s := by
 refine ⟨I.ok, I.os, I.bare, ⟨I.base.keep, I.base.slot, fun b u e n hx => ?_, I.base.there, fun b xs e => ?_, fun b u xs e => ?_, fun b ps e => ?_⟩, I.loc, I.cell, ?_, fun x c e => ?_, fun p hp => ?_, fun b u e => ?_, I.len⟩
 ·rw [Zz (fun z => by rw [z, A.young] at e; cases e)]
  exact I.base.free b u e n hx
 ·have q := I.base.tups b xs e
  rw [Zz (ZO q A.trk)]
  exact q
 ·have q := I.base.frzs b u xs e
  rw [Zz (ZO q A.trk)]
  exact q
 ·obtain ⟨m, q⟩ := I.base.tbls b ps e
  exact ⟨m, by rw [Zz (ZO q A.trk)]; exact q⟩
 ·rw [Zz (Ne.symm A.loc)]; exact I.free
 ·rw [Zz (A.cell x c e)]; exact I.freeC x c e
 ·obtain ⟨e, q, r⟩ := I.pin p hp
  exact ⟨e, by rw [Zz (A.pin p hp)]; exact q, r⟩
 ·by_cases hb : b = a
  ·subst hb
   rw [ZS] at e
   cases e
   exact ho
  ·rw [Zz hb] at e
   exact (I.hok b u e).stay (fun _ _ _ q => q) (fun c q => by rw [Zz (ZO q A.trk)]; exact q) fun c ys q => by rw [Zz (ZO q A.trk)]; exact q
theorem zao {M : Model} {A : Around} {Ee : Value -> Shared -> Prop} {i : Nat} {x : Str} {v : V} {Q : Unit -> Shared -> Prop} (I : Inv X pins σ H s) (hN : X.N.Nodup) (hi : X.N[i]? = some x) (hv : σ[i]? = some (some v)) (hx : X.env.kindOf x = some .local)
  (h : ∀ s', Inv X pins (σ.set i none) H s' -> Q () s') : wpAny M A (unbindName X.env x) Q Ee s := by
 obtain ⟨m, hn, hl⟩ := id I.loc
 have hcls : (X.env.scope.kind == .class || (X.env.scope.kind == .module && X.env.locals != X.env.globals)) = false := by rw [I.ok.kind]; rfl
 obtain ⟨u, _, lk⟩ := hl i x v hi hv (.inl hx)
 have hm : m x = some u := by
  rcases lk with ⟨_, e⟩ | ⟨k, _⟩
  ·exact e
  ·rw [hx] at k; rcases k with k | k <;> cases k
 have hiσ : i < σ.length := by rw [I.len]; exact (List.getElem?_eq_some_iff.mp hi).1
 obtain ⟨oL, _, _, hoL, _⟩ := id hn
 have low : ∀ b o, X.s₀.heap.get? b = some o -> b ≠ X.env.locals := fun b o e => Nat.ne_of_lt (Nat.lt_of_lt_of_le (Heap.lt_size e) I.ok.above)
 refine wpAny_unbindName_local hx hn hm hcls fun h' w hn' hs => h _ ⟨I.ok, I.os, I.bare, ⟨fun b o e n hb hx => (hs.2 b (low b o e)).trans (I.base.keep b o e n hb hx), fun b o e n hb hx => ?_, I.base.free, fun b o e hx => ?_, I.base.tups, I.base.frzs, I.base.tbls⟩,
  ⟨_, hn', fun j y v' e1 e2 e3 => ?_⟩, fun y c e => ?_, I.free, I.freeC, fun p hp => ?_, fun b ob e => ?_, by simpa using I.len⟩
 ·obtain ⟨sl, e1⟩ := I.base.slot b o e n hb hx
  exact ⟨sl, (hs.2 b (low b o e)).trans e1⟩
 ·obtain ⟨o', e1⟩ := I.base.there b o e hx
  exact ⟨o', (hs.2 b (low b o e)).trans e1⟩
 ·by_cases hj : j = i
  ·subst hj
   rw [List.getElem?_set_self hiσ] at e2
   cases e2
  ·rw [List.getElem?_set_ne (Ne.symm hj)] at e2
   obtain ⟨u', r', q⟩ := hl j y v' e1 e2 e3
   refine ⟨u', r', ?_⟩
   rcases q with ⟨k, e⟩ | ⟨k, c, e, z⟩
   ·refine .inl ⟨k, ?_⟩
    have : y ≠ x := fun e => hj (UR hN e1 (e ▸ hi))
    simp [this, e]
   ·exact .inr ⟨k, c, e, z.sameBut hs (I.cne y c e)⟩
 ·obtain ⟨w', z⟩ := I.cell y c e
  exact ⟨w', z.sameBut hs (I.cne y c e)⟩
 ·obtain ⟨e, n, ne, nf, d⟩ := I.pin p hp
  exact ⟨(hs.2 p.1 ne).trans e, n, ne, nf, d⟩
 ·refine (I.hok b ob e).stay (fun c w' hc q => (hs.2 c ?_).trans q) (fun _ q => q) fun _ _ q => q
  rintro rfl
  rcases hc with z | z
  ·rw [<- z, I.free] at e; cases e
  ·rw [I.free] at z; cases z
theorem Hol.forget {K : PySem.W.Frag} {H : Hp} {P : Pv} {σ : L2.St} {G : List Sl} (h : Hol K H P σ G) (i : Nat) (x : Option V) : ∃ P', Hol K H P' (σ.set i x) (G.set i .emp) /\ Go H P H P' := by
 refine ⟨P.del i, ⟨fun j s q => ?_, fun a b c h1 h2 => ?_, fun j a z => ?_, h.fbd, fun j a z => ?_, by rw [List.length_set, List.length_set]; exact h.len, h.tab⟩, .del⟩
 ·by_cases e : j = i
  ·subst e
   have hl : j < G.length := by simpa using (List.getElem?_eq_some_iff.mp q).1
   rw [List.getElem?_set_self hl] at q
   cases q
   trivial
  ·rw [List.getElem?_set_ne (Ne.symm e)] at q
   have z := h.sl j s q
   rw [WK e]
   cases s with
   | emp => trivial
   | val t' => obtain ⟨v', e1, r'⟩ := z; exact ⟨v', e1, Rl.go .del t' v' r'⟩
   | own xs => obtain ⟨p, vs, e1, e2, e3, r'⟩ := z; exact ⟨p, vs, e1, (by show (if j = i then none else P.own j) = _; rw [if_neg e]; exact e2), e3, Rls.go .del xs vs r'⟩
   | dct xs => obtain ⟨p, vs, e1, e2, e3, r'⟩ := z; exact ⟨p, vs, e1, (by show (if j = i then none else P.own j) = _; rw [if_neg e]; exact e2), e3, Rlk.go .del xs vs r'⟩
 ·have h1' : (if a = i then none else P.own a) = some c := h1
  have h2' : (if b = i then none else P.own b) = some c := h2
  split at h1'
  ·cases h1'
  ·split at h2'
   ·cases h2'
   ·exact h.inj a b c h1' h2'
 ·have z' : (if j = i then none else P.own j) = some a := z
  split at z'
  ·cases z'
  ·rename_i ne
   obtain ⟨xs, q, m⟩ := h.only j a z'
   exact ⟨xs, by rw [List.getElem?_set_ne (Ne.symm ne)]; exact q, m⟩
 ·have z' : (if j = i then none else P.own j) = some a := z
  split at z'
  ·cases z'
  ·exact h.nfb j a z'
def endsA (K : PySem.W.Frag) (H : Hp) (P : Pv) (i : Nat) (D : Ends) : Ends where
 nx := fun σ' H' => ∃ G' P', Go H P H' P' /\ Hol K H' P' σ' G' /\ ∀ σ2 P2, Go H P H' P2 -> Hol K H' P2 σ2 (G'.set i .emp) -> D.nx σ2 H'
 rt := D.rt
theorem unbound {i : Nat} {n : Str} {hpos : Pos} {Q : Unit -> Shared -> Prop} (I : Inv X pins σ H s) (hN : X.N.Nodup) (hi : X.N[i]? = some n) (hn : X.env.kindOf n = some .local) (q : ∀ s', Inv X pins ((σ.set i (some .non)).set i none) H s' -> Q () s') :
  wpAny (model X.prog X.w) X.A (do bindName X.env n .none; unbindBehindTheSuite X.env n hpos) Q X.xe s := by
 refine wpAny_bind (wpAny_bindName (WW I hN hi (.inl hn) (v := .non) rfl (fun s1 I1 => ?_) (.inr hn)))
 unfold unbindBehindTheSuite
 refine wpAny_onRaise (zao I1 hN hi (v := .non) ?_ hn fun s2 I2 => q s2 I2)
 exact List.getElem?_set_self (by rw [I.len]; exact (List.getElem?_eq_some_iff.mp hi).1)
theorem handledA {Cn n : Str} {i : Nat} {C' : Addr} {sub : Str -> Bool} {c : Str} {dh : DS} {b₀ : Stmt} {suite : List Stmt} {np hpos : Pos} {D : Ends} {G : List Sl} {P : Pv} (F : InFrame X L) (hcn : XCls X.K X.mg Cn C') (hgn : Gl X Cn) (hdb : (Cn == ("__debug__" : Str)) = false) (hsub : Vc X cl sub C') (hs : sub c = true)
  (hve : ∀ C, cl c = .ref C -> PySem.W.subIn X.K (.ref C) (.type "ValueError") = some true) (hN : X.N.Nodup) (hi : X.N[i]? = some n) (hn : X.env.kindOf n = some .local)
  (hh : SVs (cxH X a) (fun _ _ => False) fl (b₀ :: suite) dh) {T : Addr} (x : Exc X pins σ H a (cl c) (some (T, .none)) s) (h : Hol X.K H P σ G)
  (q : X0 X.K (fun _ _ => False) fl H P ((noX (dh (G.set i (.val (.dict []))))).bind fun o => match o with
   | .nx G' => .ok (.nx (G'.set i .emp))
   | .rt t => .ok (.rt t)
   | _ => .stuck) D) :
  wpAny (model X.prog X.w) X.A (noteFrame (.ref a) X.env) (fun _ s₂ => wpAny (model X.prog X.w) X.A (setFlight (.ref a) none) (fun _ s₃ => wpAny (model X.prog X.w) X.A (handleBy (.ref a) X.env [.ExceptHandler (some (.Name Cn np)) (some n) (b₀ :: suite) hpos]) (SP X pins D) X.xe s₃) X.xe s₂) X.xe s := by
 refine x.note F fun T1 s1 x1 => x1.flight (fr := none) fun s2 x2 => ?_
 obtain ⟨C, ec, hC⟩ := hsub c hs
 obtain ⟨oe, vs, a0, b1, ho, hc, _⟩ := x2.ob.first
 refine wpAny_handleBy_cons (codeAny_handlers_test (Wb (X := cxH X a) (inv_h x2.inv) hgn hcn.bd ?_ hdb)) (by intro z; cases z)
 refine V3 x2.inv.kIn hcn ho (hc.trans ec) hC ?_
 refine codeAny_handlers_suite_as (Exc.flight (X := cxH X a) (fr := none) (exc_h x2) fun s3 x3 => ?_)
 obtain ⟨oe3, vs3, a03, b13, ho3, hc3, _⟩ := x3.ob.first
 have hx0 : H a = none := x3.al.trk
 have I4 : Inv (cxH X a) pins σ (upd H a (XO X.K a)) s3 := by
  refine Qy x3.inv x3.al ⟨⟨oe3, C, ho3, hc3.trans ec, hve C ec⟩, ⟨oe3, ho3⟩, ?_⟩
  rintro h1 h2 ⟨ob, C1, e1, e2, e3⟩ k
  exact ⟨ob, C1, k ob e1, e2, e3⟩
 refine WW (X := cxH X a) I4 hN hi (.inl hn) (v := .ref a) rfl (fun s4 I5 => ?_) (.inr hn)
 have h4 : Hol X.K (upd H a (XO X.K a)) (P.del i) (σ.set i (some (.ref a))) (G.set i (.val (.dict []))) := (h.same (ZX hx0)).setVal i (rl_exc.mpr ⟨a, rfl, ZS, h.off_new hx0⟩)
 have g4 : Go H P (upd H a (XO X.K a)) (P.del i) := (Go.same (ZX hx0)).trans .del
 refine wpAny_mono (hh pins s4 _ _ (endsA X.K H P i D) I5 ⟨_, _, h4, ?_⟩) (fun f s5 h5 => ?_) fun _ _ z => False.elim z
 ·cases ed : dh (G.set i (.val (.dict []))) with
  | stuck => rw [ed] at q; exact q.elim
  | exc c => rw [ed] at q; exact q.elim
  | ok o =>
   rw [ed] at q
   cases o with
   | nx G' => exact fun σ' H' P' g' h' => ⟨G', P', g4.trans g', h', fun σ2 P2 g2 h2 => q σ2 H' P2 g2 h2⟩
   | rt t => exact fun v H' P' g' r n => q v H' P' (g4.trans g') r fun z => (n z).back g4
   | bk G' => exact q.elim
   | ct G' => exact q.elim
 ·have ok := x2.inv.ok
  cases f with
  | next =>
   obtain ⟨σ', H', I6, G', P', g', h', q'⟩ := h5
   refine unbound (VY ok I6) hN hi hn fun s6 I7 => ⟨_, H', I7, ?_⟩
   obtain ⟨P2, h2, g2⟩ := h'.forget i (some .non)
   obtain ⟨P3, h3, g3⟩ := h2.forget i none
   have e3 : (G'.set i Sl.emp).set i Sl.emp = G'.set i Sl.emp := List.set_set ..
   rw [e3] at h3
   exact q' _ P3 (g'.trans (g2.trans g3)) h3
  | ret u =>
   obtain ⟨v, σ', H', I6, rv, q'⟩ := h5
   exact unbound (VY ok I6) hN hi hn fun s6 I7 => ⟨v, _, H', I7, rv, q'⟩
  | brk => obtain ⟨_, _, _, z⟩ := h5; exact False.elim z
  | cont => obtain ⟨_, _, _, z⟩ := h5; exact False.elim z
section
variable {Cn n : Str} {i : Nat} {C' : Addr} {sub : Str -> Bool} {dh : DS} {b₀ : Stmt} {suite : List Stmt} {np hpos : Pos} {ex : Expr} {es : List Expr} {k nps : Nat} {x : Str} {f : DF} {d : DA} {p cpos epos pos : Pos}
theorem ss_tryA (F : InFrame X L) (C : Clx X.prog X.w X.K X.mg X.base cl k x nps f) (hr : Room k X.A) (hg : Gl X x) (ha : AV X.nox (fun _ _ => False) (ex :: es) d) (hcn : XCls X.K X.mg Cn C') (hgn : Gl X Cn) (hsub : Vc X cl sub C')
  (hve : ∀ c, sub c = true -> ∀ C, cl c = .ref C -> PySem.W.subIn X.K (.ref C) (.type "ValueError") = some true) (hN : X.N.Nodup) (hi : X.N[i]? = some n) (hn : X.env.kindOf n = some .local)
  (hh : ∀ a, SVs (cxH X a) (fun _ _ => False) fl (b₀ :: suite) dh) (hL : ∀ G ts, d G = .ok ts -> ts.length = nps := by first | exact Uu | exact Qw | exact Ju | exact len_c4) (hdb : (x == ("__debug__" : Str)) = false := by decide) (hdn : (Cn == ("__debug__" : Str)) = false := by decide)
  (he : starEach (ex :: es) X.env = (false, eval ex X.env) :: starEach es X.env := by rfl) (hpl : (backTo cpos (starEach es X.env)).any (·.1) = false := by rfl) (hsw : swapsWith (.Call (.Name x p) (ex :: es) [] cpos) none epos.line X.env = pure false := by rfl) :
  SV X W fl (.Try [.Expr (.Call (.Name x p) (ex :: es) [] cpos) epos] [.ExceptHandler (some (.Name Cn np)) (some n) (b₀ :: suite) hpos] [] [] pos) (dTryA i (U2 (W9 f d)) sub dh) := by
 intro pins s σ H D I ⟨G, P, h, q⟩
 obtain ⟨h', g⟩ := h.frzA
 unfold dTryA U2 W9 at q
 cases ed : noX (d (frzA G)) with
 | exc c => rcases W3 (d (frzA G)) with ⟨t, z⟩ | z <;> (rw [ed] at z; cases z)
 | stuck => rw [ed] at q; exact q.elim
 | ok ts =>
  rw [ed, Res.bind_ok] at q
  have hd : d (frzA G) = .ok ts := Js ed
  refine wpAny_Try_except (wpAny_execs_cons (wpAny_Expr_any (U6 C hr F.pin hg ha hL hdb he hpl I h' hd (fun z => ?_) (fun t et v u H' s' I' sm rl rv => ?_) fun c ec a T H' s' xx sm => ?_) I.quiet hsw))
  ·rw [z] at q; exact q.elim
  ·rw [et] at q
   refine wpAny_execs_nil ?_
   exact wpAny_execs_nil ⟨σ, H', I', q σ H' P (.same sm) (h.same sm)⟩
  ·rw [ec] at q
   simp only [Res.bind_exc] at q
   split at q
   ·rename_i hs
    refine handledA F hcn hgn hdn hsub hs (hve c hs) hN hi hn (hh a) xx (h.same sm) ?_
    have q' := X0.up q (.same sm)
    revert q'
    cases dh (G.set i (.val (.dict []))) with
    | ok o => cases o <;> exact fun z => z
    | exc c' => exact fun z => z.elim
    | stuck => exact fun z => z.elim
   ·exact q.elim
end
end
end Fx
namespace Fx
open PySem PySem.Spec PyProof.Rows L2
section
variable {X : Cx} {W : Str -> Hp -> Prop} {a b c e : Expr} {es : List Expr} {da db : DE} {pos : Pos}
theorem ev_lenN {i : Nat} {x : Str} {p p1 : Pos} (hg : Gl X "len") (hm : X.mg "len" = none) (hi : X.N[i]? = some x) (hv : Vis X.env.scope x := by first | exact Or.inl rfl | exact Or.inr (Or.inl rfl) | exact Or.inr (Or.inr rfl)) (hd : (x == ("__debug__" : Str)) = false := by decide)
  (hcd : (x == ("__classdict__" : Str)) = false := by decide) (hs : starEach [.Name x p1] X.env = (false, eval (.Name x p1) X.env) :: starEach [] X.env := by rfl) : EV X W (.Call (.Name "len" p) [.Name x p1] [] pos) (dLenN i) :=
 Zp (X4 VA hg hm PySem.boot_len (ZQ (Qp hi hv hd hcd) YA hs) (he := hs)) fun σ H Q ⟨G, P, h, q⟩ => by
  unfold dLenN at q
  cases e : G[i]? with
  | none => rw [e] at q; exact q.elim
  | some s =>
   rw [e] at q
   cases s with
   | emp => exact q.elim
   | dct xs => exact q.elim
   | own xs =>
    obtain ⟨p, vs, ev, ep, eh, rs⟩ := h.sl i _ e
    refine ⟨.ref p, getD_some ev, p, vs, rfl, .inl (SqL.of eh), ?_⟩
    rw [<- rs.length]; exact ZT q
   | val t =>
    obtain ⟨v, ev, rx⟩ := h.sl i _ e
    refine ⟨v, getD_some ev, ?_⟩
    cases t <;> try exact q.elim
    ·obtain ⟨l, us, rfl, s1, r1⟩ := Z1.mp rx
     refine ⟨l, us, rfl, .inl s1.sq, ?_⟩
     rw [<- r1.length]; exact ZT q
    ·obtain ⟨l, us, rfl, s1, r1⟩ := Yn.mp rx
     refine ⟨l, us, rfl, .inr s1.sq, ?_⟩
     rw [<- r1.length]; exact ZT q
theorem zav (n d : Nat) (o : Option Int) : sIxT n d o = HT.sIx n d o := by cases o <;> rfl
theorem cut_rls {K : PySem.W.Frag} {H : Hp} {P : Pv} {xs : List PyData} {vs : List V} (lo hi : Option Int) (r : Rls K H P xs vs) : Rls K H P (cutT xs lo hi) (cutV vs lo hi) := by
 unfold cutT cutV
 rw [zav, zav, r.length]
 exact (r.drop _).take _
def PV (X : Cx) (W : Str -> Hp -> Prop) (e : Option Expr) (d : DP) : Prop := PO X e fun σ H Q => ∃ G P, Hol X.K H P σ G /\ match d G with
 | .ok o => ∀ H', Same H H' -> Q o H'
 | .exc c => ∀ H', Same H H' -> W c H'
 | .stuck => False
theorem Vd : PV X W none pNo := fun pins s σ H Q I ⟨G, P, h, q⟩ => po_none pins s σ H Q I (q H (Same.refl H))
theorem Ve (he : EV X W e da) : PV X W (some e) (pAt da) := fun pins s σ H Q I ⟨G, P, h, q⟩ => po_some he pins s σ H Q I (by
 unfold pAt at q
 refine ⟨G, P, h, ?_⟩
 cases ed : da G with
 | stuck => rw [ed] at q; exact q.elim
 | exc c => rw [ed] at q; exact q
 | ok t =>
  rw [ed, Res.bind_ok] at q
  cases t <;> try exact q.elim
  exact fun v H' s r => ⟨_, ZL.mp r, q H' s⟩)
theorem Qq {lo hi : Option Expr} {dl dh : DP} {p2 : Pos} (ha : EV X W a da) (hl : PV X W lo dl) (hh : PV X W hi dh) : OV X W (.Subscript a (.Slice lo hi none p2) pos) (oCut da dl dh) :=
 Zp (Jn sl_list ha hl hh) fun σ H Q ⟨G, P, h, q⟩ => by
  unfold oCut at q
  obtain ⟨q1, q2, q3⟩ := zbh q
  refine Zq h q1 q2 fun tx x H1 ex s1 h1 rx => ⟨G, P, h1, ?_⟩
  have q4 := q3 tx ex
  cases el : dl G with
  | stuck => rw [el] at q4; exact q4.elim
  | exc c => rw [el] at q4; exact fun H' s => q4 H' (s1.trans s)
  | ok l =>
   rw [el, Res.bind_ok] at q4
   refine fun H2 s2 => ⟨G, P, h1.same s2, ?_⟩
   cases eh : dh G with
   | stuck => rw [eh] at q4; exact q4.elim
   | exc c => rw [eh] at q4; exact fun H' s => q4 H' ((s1.trans s2).trans s)
   | ok u =>
    rw [eh, Res.bind_ok] at q4
    intro H3 s3
    cases tx <;> try exact q4.elim
    obtain ⟨p, vs, rfl, sl, rs⟩ := Z1.mp (Rl.go (.same (s2.trans s3)) _ x rx)
    exact ⟨p, vs, rfl, sl.sq, fun p hp => q4 p _ _ (((s1.trans s2).trans s3).trans (ZX hp)) (((s1.trans s2).trans s3).free hp) ZS (zax hp (cut_rls l u rs))⟩
end
theorem Clx.calN [Dirt] {X : Cx} {cl : Str -> Value} {k np : Nat} {x : Str} {f : DF} (C : Clx X.prog X.w X.K X.mg X.base cl k x np f) : Cal X (fun _ _ => False) (some cl) k x np f := by
 obtain ⟨fa, fd, ps, F, hm, hk, hb⟩ := C.ex
 refine ⟨⟨CX1 X.prog X.w, fa, fd, ps, F, hm, hk, hb, fun pins σ H s e s' I h => ?_⟩, fun z => by cases z⟩
 obtain ⟨_, _, _, _, _, _, _, _, _, _, _, _, _, _, c, g, _, _, z⟩ := h
 exact z.elim
theorem Vk {X : Cx} {cl : Str -> Value} {C' : Addr} : Vc X cl (subs []) C' := fun c h => by simp at h
theorem WQ {X : Cx} {cl : Str -> Value} {C' C : Addr} {x : Str} {l : List Str} (e : cl x = .ref C) (h : PySem.W.subIn X.K (.ref C) (.ref C') = some true) (r : Vc X cl (subs l) C') : Vc X cl (subs (x :: l)) C' := fun c hc => by
 simp only [subs, List.contains_cons, Bool.or_eq_true] at hc
 rcases hc with z | z
 ·have : c = x := by simpa using z
  subst this
  exact ⟨C, e, h⟩
 ·exact r c z
theorem ve_nil {X : Cx} {cl : Str -> Value} : ∀ c, subs [] c = true -> ∀ C, cl c = .ref C -> PySem.W.subIn X.K (.ref C) (.type "ValueError") = some true := fun c h => by simp at h
theorem ve_cons {X : Cx} {cl : Str -> Value} {C : Addr} {x : Str} {l : List Str} (e : cl x = .ref C) (h : PySem.W.subIn X.K (.ref C) (.type "ValueError") = some true) (r : ∀ c, subs l c = true -> ∀ C, cl c = .ref C -> PySem.W.subIn X.K (.ref C) (.type "ValueError") = some true) :
  ∀ c, subs (x :: l) c = true -> ∀ C, cl c = .ref C -> PySem.W.subIn X.K (.ref C) (.type "ValueError") = some true := fun c hc C' ec => by
 simp only [subs, List.contains_cons, Bool.or_eq_true] at hc
 rcases hc with z | z
 ·have : c = x := by simpa using z
  subst this
  rw [e] at ec
  cases ec
  exact h
 ·exact r c z C' ec
end Fx
namespace Fx
open PySem PySem.Spec PyProof.Rows L2
section
variable {X : Cx} {W : Str -> Hp -> Prop} {fl : Bool} {a b c e : Expr} {es : List Expr} {da db : DE} {pos : Pos}
theorem isN_b (t : PyData) : ∃ k, fIsN t = .ok (.bool k) := by cases t <;> exact ⟨_, rfl⟩
theorem tv_of1 {f : PyData -> Res PyData} (hf : ∀ t, ∃ k, f t = .ok (.bool k)) {σ : L2.St} {H : Hp} {Q : Bool -> Hp -> Prop} (h : tFT X.K W (tV (d1 f da)) σ H Q) : tF X.K W (d1 f da) σ H fun x H1 => ∃ c, x = .bl c /\ Q c H1 := by
 obtain ⟨G, P, h, q⟩ := h
 refine ⟨G, P, h, ?_⟩
 unfold tV at q
 cases e : d1 f da G with
 | stuck => rw [e] at q; exact q
 | exc c => rw [e] at q; exact q
 | ok t =>
  rw [e] at q
  have hb : ∃ k, t = .bool k := by
   unfold d1 at e
   cases e1 : da G with
   | stuck => rw [e1] at e; cases e
   | exc c => rw [e1] at e; cases e
   | ok tx =>
    rw [e1, Res.bind_ok] at e
    obtain ⟨k, e3⟩ := hf tx
    rw [e3] at e
    cases e
    exact ⟨k, rfl⟩
  obtain ⟨k, rfl⟩ := hb
  exact fun v H' s r => ⟨k, Yt.mp r, q H' s⟩
theorem tv_isN {j pos'} (ha : EV X W a da) : TV X W (.Compare a [.Is] [.Constant .none j pos'] pos) (tV (d1 fIsN da)) := by
 intro pins s σ H Q I h
 refine pt_cmp (t := tF X.K W (d1 fIsN da)) (fun pins s σ H Q I h => ?_) (by first | exact Jr _ (by decide) (by decide) | rfl) pins s σ H Q I (tv_of1 isN_b h)
 exact pc_isN ha pins s σ H Q I (by
  obtain ⟨G, P, h, q⟩ := h
  unfold d1 at q
  obtain ⟨q1, q2, q3⟩ := Wo q
  refine Zq h q1 q2 fun tx x H1 ex s1 h1 rx => ?_
  have q4 := Yh.up (q3 tx ex) s1
  cases tx with
  | none => rw [X2.mp rx]; exact ZM q4
  | bool b => rw [Yt.mp rx]; exact ZM q4
  | int b => rw [ZL.mp rx]; exact ZM q4
  | str b => rw [Z3.mp rx]; exact ZM q4
  | list b => obtain ⟨l, us, rfl, _⟩ := Z1.mp rx; exact ZM q4
  | tuple b => obtain ⟨l, us, rfl, _⟩ := Yn.mp rx; exact ZM q4
  | dict b => rcases zaA.mp rx with ⟨_, l, rfl, _⟩ | ⟨_, l, _, _, _, rfl, _⟩ | ⟨l, _, _, rfl, _⟩ <;> exact ZM q4)
end
end Fx
namespace Fx
open PySem
def dHs : List ((Str -> Bool) × (Str -> Bool) × DS) -> Str -> DS
 | [], _ => fun _ => .stuck
 | (y, n, h) :: r, c => fun G => if y c then noX (h G) else if n c then dHs r c G else .stuck
@[simp] theorem dHs_cons (y n : Str -> Bool) (h : DS) (r : List ((Str -> Bool) × (Str -> Bool) × DS)) (c : Str) (G : List Sl) : dHs ((y, n, h) :: r) c G = if y c then noX (h G) else if n c then dHs r c G else .stuck := rfl
end Fx
namespace Fx
open PySem PySem.Spec PyProof.Rows L2
theorem star_tup {xs es : List Expr} {k : Nat} {pos : Pos} {env : Env} : starEach (.Tuple xs k pos :: es) env = (false, eval (.Tuple xs k pos) env) :: starEach es env := rfl
theorem star_lst {xs es : List Expr} {pos : Pos} {env : Env} : starEach (.List xs pos :: es) env = (false, eval (.List xs pos) env) :: starEach es env := rfl
variable [Dirt]
end Fx
namespace L2
open PySem PySem.Spec PyProof.Rows
section
variable {κ : Type} [DecidableEq κ]
def valV (kvs : List (κ × V)) (k : κ) : Option V := (kvs.find? fun kv => decide (kv.1 = k)).map (·.2)
theorem valV_nil {k : κ} : valV ([] : List (κ × V)) k = none := rfl
end
end L2
namespace Fx
open PySem
def fStr : PyData -> Res PyData
 | .int i => if i.natAbs.log2 < 1920 then .ok (.str (Str.ofString (toString i))) else .stuck
 | _ => .stuck
def YI : PyData -> PyData -> Res PyData
 | .str x, .str y => if x.length + y.length <= 16777216 then .ok (.str (x ++ y)) else .stuck
 | _, _ => .stuck
def X9 : PyData -> Res PyData
 | .str x => if x.length <= 16777216 then .ok (.int (x.length : Int)) else .stuck
 | _ => .stuck
def fInS : PyData -> PyData -> Res PyData
 | .str y, .str x => .ok (.bool (!(Builtin.Str.occurrences x y 0 x.length 1).isEmpty))
 | _, _ => .stuck
def za7 : PyData -> Res PyData
 | .str x => match intText? x with
  | some n => if x.length <= 640 then .ok (.int n) else .stuck
  | none => .stuck
 | _ => .stuck
def JE : PyData -> Res PyData
 | .list [] => .ok (.str (Str.ofString ""))
 | _ => .stuck
def dM1 (g : Str -> PyData -> Res PyData) (a b : DE) : DE := fun G => (a G).bind fun tx => match tx with
 | .str x => (b G).bind (g x)
 | _ => .stuck
def oM1 (g : Str -> PyData -> Res (List PyData)) (a b : DE) : DA := fun G => (a G).bind fun tx => match tx with
 | .str x => (b G).bind (g x)
 | _ => .stuck
def gSw (x : Str) : PyData -> Res PyData
 | .str y => .ok (.bool (Txt.startswith x y))
 | _ => .stuck
def XT (x : Str) : PyData -> Res (List PyData)
 | .str y => if (y.length == 0) = false /\ x.length <= 16777216 /\ (Builtin.Str.partsBetween x (Builtin.Str.occurrences x y 0 x.length (x.length + 1)) y.length).length <= 16777216 /\ (Txt.split x y).length <= 16777216 then .ok ((Txt.split x y).map .str) else .stuck
 | _ => .stuck
def XY (a : DE) (lo hi : DP) : DE := fun G => (a G).bind fun x => (lo G).bind fun l => (hi G).bind fun h => match x with
 | .str x => if x.length <= 16777216 then .ok (.str (Txt.slice x l h)) else .stuck
 | _ => .stuck
def iStr (a : DE) : DA := fun G => (a G).bind fun x => match x with
 | .str x => if x.cps.all (· < 128) = true then .ok (x.cps.toList.map fun c => .str ⟨#[c]⟩) else .stuck
 | _ => .stuck
def fIxS : PyData -> PyData -> Res PyData
 | .str z, .int i => if 0 <= i /\ i < (z.length : Int) /\ z.length <= 16777216 then .ok (.str ⟨#[z.cps.getD i.toNat 0]⟩) else .stuck
 | _, _ => .stuck
def Qd : List PyData -> Option (List Str)
 | [] => some []
 | .str x :: r => (Qd r).map fun l => x :: l
 | _ => none
def za3 (sep : Str) : PyData -> Res PyData
 | .list xs => match Qd xs with
  | some ts => if JoinOk sep ts = true then .ok (.str (Txt.join sep ts)) else .stuck
  | none => .stuck
 | _ => .stuck
def dWh0 (c : DT) : DS := fun G => (c (frzA G)).bind fun k => if k then .stuck else .ok (.nx G)
end Fx
namespace Fx
open PySem PySem.Spec PyProof.Rows L2
section
variable {X : Cx} {W : Str -> Hp -> Prop} {fl : Bool} {tg a b c e : Expr} {da db : DE} {pos : Pos}
theorem X3 {K : PySem.W.Frag} {H : Hp} {P : Pv} {Q : VK} {x : Str} (q : Yh K W H P (.ok (.str x)) Q) : Q (.str x) H := q _ H (Same.refl H) (Z3.mpr rfl)
theorem UV {p : Pos} (hg : Gl X "str") (hm : X.mg "str" = none) (ha : EV X W a da) (hs : starEach [a] X.env = (false, eval a X.env) :: starEach [] X.env := by rfl) : EV X W (.Call (.Name "str" p) [a] [] pos) (d1 fStr da) :=
 Zp (W1 QK hg hm (show bootBuiltins "str" = some (.type "str") by decide +kernel) (ZQ ha YA hs) (he := hs)) fun σ H Q h => Vo (fun H P σ G x tx Q h rx q => by
  cases tx <;> try exact q.elim
  rename_i i
  simp only [fStr] at q
  split at q
  ·rename_i hz
   exact ⟨i, by rw [ZL.mp rx], hz, X3 q⟩
  ·exact q.elim) h
theorem UW {p : Pos} (hg : Gl X "len") (hm : X.mg "len" = none) (ha : EV X W a da) (hs : starEach [a] X.env = (false, eval a X.env) :: starEach [] X.env := by rfl) : EV X W (.Call (.Name "len" p) [a] [] pos) (d1 X9 da) :=
 Zp (X4 QL hg hm PySem.boot_len (ZQ ha YA hs) (he := hs)) fun σ H Q h => Vo (fun H P σ G x tx Q h rx q => by
  cases tx <;> try exact q.elim
  rename_i i
  simp only [X9] at q
  split at q
  ·rename_i hz
   exact ⟨i, by rw [Z3.mp rx], by rw [sizeLine_eq]; exact hz, ZT q⟩
  ·exact q.elim) h
theorem zbf : VG X (.type "int") (fun xs H Q => ∃ x n, xs = [.str x] /\ intText? x = some n /\ x.length <= 640 /\ Q (.int n) H) := by
 intro pins s σ H xs us Q I r h
 obtain ⟨x, n, rfl, hn, hl, q⟩ := h
 obtain ⟨u, rfl, t, rfl⟩ := WT r
 exact PySem.W.KIN.call_text hn hl ⟨.int n, H, I.tok _, ⟨_, rfl⟩, q⟩
theorem ev_intS {p : Pos} (hg : Gl X "int") (hm : X.mg "int" = none) (ha : EV X W a da) (hs : starEach [a] X.env = (false, eval a X.env) :: starEach [] X.env := by rfl) : EV X W (.Call (.Name "int" p) [a] [] pos) (d1 za7 da) :=
 Zp (W1 zbf hg hm (show bootBuiltins "int" = some (.type "int") by decide +kernel) (ZQ ha YA hs) (he := hs)) fun σ H Q h => Vo (fun H P σ G x tx Q h rx q => by
  cases tx <;> try exact q.elim
  rename_i i
  simp only [za7] at q
  cases en : intText? i with
  | none => rw [en] at q; exact q.elim
  | some n =>
   rw [en] at q
   dsimp only at q
   split at q
   ·rename_i hz
    exact ⟨i, n, by rw [Z3.mp rx], en, hz, ZT q⟩
   ·exact q.elim) h
def rAddS : R2 := fun x y H Q => ∃ i j, x = .str i /\ y = .str j /\ i.length + j.length <= sizeLine /\ Q (.str (i ++ j)) H
theorem Y8 : OpR X (binaryOp .Add) rAddS /\ Fop X W rAddS YI :=
 ⟨JW, fun H P σ G x y tx ty Q h rx ry q => by
  cases tx <;> cases ty <;> try exact q.elim
  rename_i i j
  simp only [YI] at q
  split at q
  ·rename_i hz
   exact ⟨i, j, Z3.mp rx, Z3.mp ry, by rw [sizeLine_eq]; exact hz, X3 q⟩
  ·exact q.elim⟩
def rInS : R2 := fun x y H Q => ∃ i j, x = .str i /\ y = .str j /\ Q (.bl (!(Builtin.Str.occurrences j i 0 j.length 1).isEmpty)) H
theorem op_inS : OpR X (compareOp .In) rInS /\ Fop X W rInS fInS :=
 ⟨zaM, fun H P σ G x y tx ty Q h rx ry q => by
  cases tx <;> cases ty <;> try exact q.elim
  exact ⟨_, _, Z3.mp rx, Z3.mp ry, ZM q⟩⟩
theorem ev_globS {x y : Str} {t : Tok} {pos : Pos} (hg : Gl X x) (hm : X.mg x = some (.str y t)) (hd : (x == ("__debug__" : Str)) = false := by decide) : EV X W (.Name x pos) (dC (.str y)) :=
 Zp (zaG (v := .str y) hg hm ⟨t, rfl⟩ hd) fun σ H Q ⟨G, P, h, q⟩ => q _ H (Same.refl H) (Z3.mpr rfl)
def rSlS : V -> Option Int -> Option Int -> Hp -> VK -> Prop := fun x lo hi H Q => ∃ z, x = .str z /\ z.length <= sizeLine /\ Q (.str (Txt.slice z lo hi)) H
theorem sl_str : SlR X rSlS := by
 intro pins s σ H x v vl vu lo hi sl Q I rx hs pl pu h
 obtain ⟨z, rfl, hz, q⟩ := h
 obtain ⟨t, rfl⟩ := rx
 have fin : ∀ l u : Option (Int × Tok), l.map (·.1) = lo -> u.map (·.1) = hi -> (sliceMade z t l u none).post (EP X pins σ Q) s := fun l u el eu => by
  subst el; subst eu
  exact post_val_or_str ⟨Nat.le_trans (Txt.slice_le z _ _) hz, fun t' k => ⟨.str _, H, I.tok _, ⟨_, rfl⟩, q⟩⟩
 refine ⟨"str", _, F.slot_str_getitem.lookup, typeIs_str _ _ _, ?_⟩
 cases pl with
 | none =>
  cases pu with
  | none => exact wpAny_getItem_str_slice (l := none) (u := none) (st := none) hs rfl (fin none none rfl rfl)
  | int j uj => exact wpAny_getItem_str_slice (l := none) (u := some (j, uj)) (st := none) hs rfl (fin none (some (j, uj)) rfl rfl)
 | int i ui =>
  cases pu with
  | none => exact wpAny_getItem_str_slice (l := some (i, ui)) (u := none) (st := none) hs rfl (fin (some (i, ui)) none rfl rfl)
  | int j uj => exact wpAny_getItem_str_slice (l := some (i, ui)) (u := some (j, uj)) (st := none) hs rfl (fin (some (i, ui)) (some (j, uj)) rfl rfl)
theorem Wc {lo hi : Option Expr} {dl dh : DP} {p2 : Pos} (ha : EV X W a da) (hl : PV X W lo dl) (hh : PV X W hi dh) : EV X W (.Subscript a (.Slice lo hi none p2) pos) (XY da dl dh) :=
 Zp (Jn sl_str ha hl hh) fun σ H Q ⟨G, P, h, q⟩ => by
  unfold XY at q
  obtain ⟨q1, q2, q3⟩ := Wo q
  refine Zq h q1 q2 fun tx x H1 ex s1 h1 rx => ⟨G, P, h1, ?_⟩
  have q4 := q3 tx ex
  cases el : dl G with
  | stuck => rw [el] at q4; exact q4.elim
  | exc c => rw [el] at q4; exact fun H' s => q4 H' (s1.trans s)
  | ok l =>
   rw [el, Res.bind_ok] at q4
   refine fun H2 s2 => ⟨G, P, h1.same s2, ?_⟩
   cases eh : dh G with
   | stuck => rw [eh] at q4; exact q4.elim
   | exc c => rw [eh] at q4; exact fun H' s => q4 H' ((s1.trans s2).trans s)
   | ok u =>
    rw [eh, Res.bind_ok] at q4
    intro H3 s3
    cases tx <;> try exact q4.elim
    rename_i z
    dsimp only at q4
    split at q4
    ·rename_i hz
     exact ⟨z, Z3.mp rx, by rw [sizeLine_eq]; exact hz, X3 (Yh.up q4 ((s1.trans s2).trans s3))⟩
    ·exact q4.elim
theorem mt_sw : MtR X "str.startswith" (fun x xs H Q => ∃ y z, x = .str y /\ xs = [.str z] /\ Q (.bl (Txt.startswith y z)) H) := by
 intro pins s σ H x xs v us Q I rx rs h
 obtain ⟨y, z, rfl, rfl, q⟩ := h
 obtain ⟨t, rfl⟩ := rx
 obtain ⟨u, rfl, t', rfl⟩ := WT rs
 exact call_gives F.slot_str_startswith (typeIs_str _ _ _) F.entry_str_startswith (F.args_str_startswith_2 _ _) (gives_str_startswith y z t t') (show (Made.val (.bool (Txt.startswith y z))).post _ s from ⟨.bl _, H, I, rfl, q⟩)
theorem ev_sw {p : Pos} (ha : EV X W a da) (hb : EV X W b db) (hs : starEach [b] X.env = (false, eval b X.env) :: starEach [] X.env := by rfl) (hbase : attributeBase a "startswith" X.env (eval a X.env) = eval a X.env := by rfl)
  (hfew : ((backTo pos (starEach [b] X.env)).all (fun x => !x.1) && (backToKw pos (keywordEach [] X.env)).all (fun x => x.1.isSome)
   && decide (([b] : List Expr).length + ([] : List Keyword).length + (if ([] : List Keyword).isEmpty then 0 else 1) < 30)) = true := by rfl)
  (hline : (p.endLine == pos.line) = true := by rfl) : EV X W (.Call (.Attribute a "startswith" p) [b] [] pos) (dM1 gSw da db) :=
 Zp (JV F.plainAttrs_str F.slot_str_startswith F.type_str_startswith mt_sw ha (ZQ hb YA hs) hbase hfew hline hs rfl) fun σ H Q ⟨G, P, h, q⟩ => by
  unfold dM1 at q
  obtain ⟨q1, q2, q3⟩ := Wo q
  refine Zq h q1 q2 fun tx x H1 ex s1 h1 rx => ?_
  have q4 := q3 tx ex
  cases tx <;> try exact q4.elim
  rename_i y
  have ey := Z3.mp rx
  subst ey
  refine ⟨rfl, ?_⟩
  obtain ⟨q5, q6, q7⟩ := Wo (Yh.up q4 s1)
  refine Zq h1 q5 q6 fun ty w H2 ey s2 h2 ry => ?_
  have q8 := q7 ty ey
  cases ty <;> try exact q8.elim
  rename_i z
  have ez := Z3.mp ry
  subst ez
  exact ⟨y, z, rfl, rfl, ZM (Yh.up q8 s2)⟩
theorem U8 : ∀ (l : List (Str × Tok)), Vals (l.map fun p => V.str p.1) (strValues l)
 | [] => .nil
 | p :: l => .cons ⟨p.2, rfl⟩ (U8 l)
theorem mt_split : MtR X "str.split" (fun x xs H Q => ∃ y z, x = .str y /\ xs = [.str z] /\ (z.length == 0) = false /\ y.length <= sizeLine /\ (Builtin.Str.partsBetween y (Builtin.Str.occurrences y z 0 y.length (y.length + 1)) z.length).length <= sizeLine /\ (Txt.split y z).length <= sizeLine /\
  ∀ p, H p = none -> Q (.ref p) (upd H p (.lst ((Txt.split y z).map V.str)))) := by
 intro pins s σ H x xs v us Q I rx rs h
 obtain ⟨y, z, rfl, rfl, hz, hy, hn, hl, q⟩ := h
 obtain ⟨t, rfl⟩ := rx
 obtain ⟨u, rfl, t', rfl⟩ := WT rs
 have fin : ∀ (l : List (Str × Tok)) (k : Nat), l.map (·.1) = Txt.split y z -> EP X pins σ Q (.ref s.heap.objs.size) { s with heap := s.heap.push { cls := .type "list", data := .seq (strValues l).toArray }, toks := k } := fun l k e => by
  have ev : l.map (fun p => V.str p.1) = (Txt.split y z).map V.str := by rw [<- e, List.map_map]; rfl
  have hv := U8 l
  rw [ev] at hv
  exact ⟨.ref _, _, I.lnew (t' := k) hv (by rw [List.length_map]; exact hl), rfl, q _ I.fresh⟩
 cases h1 : (decide (y.length < z.length) || decide (Builtin.Str.strKind y < Builtin.Str.strKind z))
 ·cases hf : (Builtin.Str.occurrences y z 0 y.length (y.length + 1)).isEmpty
  ·refine call_meets F.slot_str_split (typeIs_str _ _ _) F.entry_str_split (F.args_str_split_2 _ _) (meets_str_split_sep y z t t' h1 hz hf hy hn) ?_
   have e0 : Txt.split y z = Builtin.Str.partsBetween y (Builtin.Str.occurrences y z 0 y.length (y.length + 1)) z.length := (if_neg (ne_true_of_eq_false h1)).trans (if_neg (ne_true_of_eq_false hf))
   have := fun k => fin (numbered s.toks (Builtin.Str.partsBetween y (Builtin.Str.occurrences y z 0 y.length (y.length + 1)) z.length)) k ((numbered_texts _ _).trans e0.symm)
   simp only [<- strsFrom_eq] at this
   exact this _
  ·refine call_meets F.slot_str_split (typeIs_str _ _ _) F.entry_str_split (F.args_str_split_2 _ _) (meets_str_split_not_found y z t t' h1 hz hf) ?_
   exact fin [(y, t)] s.toks ((if_neg (ne_true_of_eq_false h1)).trans (if_pos hf)).symm
 ·refine call_meets F.slot_str_split (typeIs_str _ _ _) F.entry_str_split (F.args_str_split_2 _ _) (meets_str_split_cannot_occur y z t t' h1) ?_
  exact fin [(y, t)] s.toks (if_pos h1).symm
theorem Jj {K : PySem.W.Frag} {H : Hp} {P : Pv} : ∀ (xs : List Str), Rls K H P (xs.map .str) (xs.map V.str)
 | [] => ZV.mpr rfl
 | x :: xs => Zx.mpr ⟨_, _, rfl, Z3.mpr rfl, Jj xs⟩
theorem Ww {p : Pos} (ha : EV X W a da) (hb : EV X W b db) (hs : starEach [b] X.env = (false, eval b X.env) :: starEach [] X.env := by rfl) (hbase : attributeBase a "split" X.env (eval a X.env) = eval a X.env := by rfl)
  (hfew : ((backTo pos (starEach [b] X.env)).all (fun x => !x.1) && (backToKw pos (keywordEach [] X.env)).all (fun x => x.1.isSome)
   && decide (([b] : List Expr).length + ([] : List Keyword).length + (if ([] : List Keyword).isEmpty then 0 else 1) < 30)) = true := by rfl)
  (hline : (p.endLine == pos.line) = true := by rfl) : OV X W (.Call (.Attribute a "split" p) [b] [] pos) (oM1 XT da db) :=
 Zp (JV F.plainAttrs_str F.slot_str_split F.type_str_split mt_split ha (ZQ hb YA hs) hbase hfew hline hs rfl) fun σ H Q ⟨G, P, h, q⟩ => by
  unfold oM1 at q
  obtain ⟨q1, q2, q3⟩ := zbh q
  refine Zq h q1 q2 fun tx x H1 ex s1 h1 rx => ?_
  have q4 := q3 tx ex
  cases tx <;> try exact q4.elim
  rename_i y
  have ey := Z3.mp rx
  subst ey
  refine ⟨rfl, ?_⟩
  obtain ⟨q5, q6, q7⟩ := zbh (U7.up q4 s1)
  refine Zq h1 q5 q6 fun ty w H2 ey s2 h2 ry => ?_
  have q8 := q7 ty ey
  cases ty <;> try exact q8.elim
  rename_i z
  have ez := Z3.mp ry
  subst ez
  simp only [XT] at q8
  split at q8
  ·rename_i hc
   exact ⟨y, z, rfl, rfl, hc.1, by rw [sizeLine_eq]; exact hc.2.1, by rw [sizeLine_eq]; exact hc.2.2.1, by rw [sizeLine_eq]; exact hc.2.2.2, fun p hp => q8 p _ _ (s2.trans (ZX hp)) (s2.free hp) ZS (Jj _)⟩
  ·exact q8.elim
def Its (x : Str) : It :=
 ⟨fun i H => i < x.cps.size, fun i H v H' => H' = H /\ ∃ c, x.cps[i]? = some c /\ v = .str ⟨#[c]⟩, fun i H => x.cps.size <= i⟩
theorem turn_str {P : Program} {w : World} {K : PySem.W.Frag} {tg : Expr} (it : Addr) (x : Str) (t : Tok) : Turn P w K tg (Its x) [it] it (fun i h => h.IsStrIter it "str_ascii_iterator" x t i) where
 mem := by simp
 obj := fun i h st b hb => by
  have e : b = it := by simpa using hb
  subst e
  obtain ⟨o, e, c, d⟩ := st
  exact ⟨o, e, fun v z => by rw [d] at z; cases z⟩
 keep := fun i h h' st k => by
  obtain ⟨o, e, r⟩ := st
  exact ⟨o, k it (by simp) o e, r⟩
 item := by
  intro X hP hw hK hc i pins s σ H E I hf st hg
  subst hP hw hK
  have hi : i < x.cps.size := hg
  obtain ⟨f0, f1, f2, f3, f4, f5⟩ := hf it (by simp)
  refine wpAny_pyNext_ascii_item st (c := x.cps[i]) (by simp [hi]) fun h' st' sb => ?_
  have I1 : Inv X pins σ H { s with heap := h', toks := s.toks + 1 } := I.turned (t' := s.toks + 1) (fun b o hb e => (sb.2 b hb).trans e) f0 f1 f3 f4 f5
  obtain ⟨o, e, c, d⟩ := id st'
  exact ⟨_, rfl, go_of (s := { s with heap := h', toks := s.toks + 1 }) e c d (by decide) ⟨.str ⟨#[x.cps[i]]⟩, H, I1, ⟨_, rfl⟩, ⟨rfl, _, by simp [hi], rfl⟩, st', fun b hb => (hf b hb).1⟩⟩
 done := by
  intro X hP hw hK hc i pins s σ H E I hf st hg
  subst hP hw hK
  have hn : x.cps.size <= i := hg
  obtain ⟨f0, f1, f2, f3, f4, f5⟩ := hf it (by simp)
  exact wpAny_pyNext_ascii_end (I.ok.hd hc) st (by simp [hn]) fun h' eb => ⟨rfl, I.turned (t' := s.toks) (fun b o hb e => eb b o hb e) f0 f1 f3 f4 f5⟩
 self := fun _ _ _ _ _ st h => wpAny_pyIter_striter_ascii st h
def iSg (ta : TE) : TI := fun σ H R => ta σ H fun v H1 => ∃ x, v = .str x /\ x.cps.all (· < 128) = true /\ R (Its x) H1
theorem pi_str {ta : TE} (hl : PE X a ta) : PI X tg a (iSg ta) := by
 intro pins s σ H R I h
 refine thn (hl pins s σ H _ I h) fun v s1 ⟨y, H1, I1, r1, q1⟩ => ?_
 obtain ⟨x, rfl, ha, q⟩ := q1
 obtain ⟨t, rfl⟩ := r1
 refine wpAny_pyIter_ascii ha ?_
 have I2 : Inv X pins σ H1 { s1 with heap := s1.heap.push { cls := .type "str_ascii_iterator", data := .fields #[.str x t, .int 0 0] } } := I1.kept (t' := s1.toks) fun b o e => Heap.get?_push_of_some _ e
 refine ⟨_, [s1.heap.objs.size], _, Its x, H1, rfl, I2, turn_str _ x t, ⟨_, Heap.get?_push_size _ rfl, rfl, rfl⟩, fun b hb => ?_, q⟩
 have : b = s1.heap.objs.size := by simpa using hb
 rw [this]
 exact I1.fpOk (Nat.le_refl _) (I1.hok.fresh (Nat.le_refl _))
theorem iv_str (ha : EV X W a da) : IV X W tg a (iStr da) :=
 QX (pi_str ha) fun σ H R ⟨G, P, h, q⟩ => by
  unfold iStr at q
  cases e : da G with
  | stuck => rw [e] at q; exact q.elim
  | exc c => rw [e] at q; exact ⟨G, P, h, by rw [e]; exact q⟩
  | ok tx =>
   rw [e, Res.bind_ok] at q
   refine ⟨G, P, h, ?_⟩
   rw [e]
   intro v H1 s1 rx
   cases tx <;> try exact q.elim
   rename_i x
   dsimp only at q
   split at q
   ·rename_i hc
    refine ⟨x, Z3.mp rx, hc, q _ H1 s1 fun H' P' tr nf i => ⟨fun t et => ?_, fun hl => ?_⟩⟩
    ·obtain ⟨n, en, rfl⟩ := List.getElem?_map .. ▸ et |> Option.map_eq_some_iff.mp
     have hi : i < x.cps.size := by
      have := (List.getElem?_eq_some_iff.mp en).1
      simpa using this
     refine ⟨hi, fun v H'' y => ?_⟩
     obtain ⟨rfl, n', en', rfl⟩ := y
     have : n' = n := by
      have z : x.cps.toList[i]? = some n' := by rw [Array.getElem?_toList]; exact en'
      rw [en] at z
      exact (Option.some.inj z).symm
     subst this
     exact ⟨Same.refl _, Z3.mpr rfl⟩
    ·have : x.cps.size <= i := by simpa using hl
     exact this
   ·exact q.elim
theorem ss_wh0 {body : List Stmt} {dc : DT} (hp : PassesOwn (model X.prog X.w) X.A X.env X.xe) (hc : TV X W c dc) : SV X W fl (.While c body [] pos) (dWh0 dc) :=
 XH (ps_while (tb := fun _ _ _ => False) hp hc (fun _ _ _ _ _ _ z => z.elim)) fun D σ H ⟨G, P, h, q⟩ => by
  refine ⟨fun _ σ' H' => σ' = σ /\ Same H H', ⟨0, rfl, .refl H⟩, ?_⟩
  rintro m σ' H' ⟨rfl, s0⟩
  unfold dWh0 at q
  obtain ⟨h2, g2⟩ := (h.same s0).frzA
  obtain ⟨q1, q2, q3⟩ := bindTS q
  refine Ws h2 (fun c e H1 s => q1 c e H1 P.bare ((Go.same s0).trans (g2.trans (.same s)))) q2 fun k H1 ek s1 _ => ?_
  have q4 := q3 k ek
  cases k with
  | false => exact iteF (q4 σ' H1 P (.same (s0.trans s1)) (h.same (s0.trans s1)))
  | true => exact q4.elim
end
end Fx
namespace Fx
open PySem PySem.Spec PyProof.Rows L2 PySem.Builtin
section
theorem nolen_rv : typeLookup (.type "list_reverseiterator") "__len__" = pure none := by rw [typeLookup_type, builtinLookup_eq_fast]; kernel_rfl
theorem hint_rv : typeLookup (.type "list_reverseiterator") "__length_hint__" = pure (some (.builtin "list_reverseiterator.__length_hint__")) := by rw [typeLookup_type, builtinLookup_eq_fast]; kernel_rfl
variable {prog : Program} {w : World} {A : Around} {E : Value -> Shared -> Prop} {s : Shared}
theorem Q9 {I l : Addr} {Q : List Value -> Shared -> Prop} (hh : A.handled = none) (hne : l ≠ I) (hit : s.heap.IsRevIter I l (-1)) (hl : s.heap.IsList l #[])
  (hQ : ∀ s', (∀ b o, b ≠ I -> s.heap.get? b = some o -> s'.heap.get? b = some o) -> s'.gens = s.gens -> s'.drawn = s.drawn -> s'.os = s.os -> Q [] s') : wpAny (model prog w) A (collect (.ref I)) Q E s := by
 have W := (Walks.listRev (prog := prog) (w := w) (A := A.in1) hh I l hne #[]).toS
 have st0 : (0 : Nat) <= (#[] : Array Value).size /\ s.heap.IsRevIter I l (((#[] : Array Value).size : Int) - 1 - ((0 : Nat) : Int)) /\ s.heap.IsList l #[] := ⟨Nat.le_refl _, hit, hl⟩
 have lt : ∀ b ∈ [I, l], b < s.heap.objs.size := fun b hb => by
  rcases List.mem_cons.mp hb with rfl | hb
  ·obtain ⟨o, ho, _⟩ := hit; exact Heap.lt_size ho
  ·rw [List.mem_singleton.mp hb]; obtain ⟨o, ho, _⟩ := hl; exact Heap.lt_size ho
 have nf : s.heap.objs.size ∉ [I, l] := fun hm => Nat.lt_irrefl _ (lt _ hm)
 have nI : s.heap.objs.size ≠ I := fun e => nf (e ▸ List.mem_cons_self)
 (unfold collect); (refine wpAny_bind (wpAny_runValue (codeAny_builtin F.entry_proto_collect ?_))); (rw [Around.under_plainId F.plain_proto_collect _])
 (show wpAny _ A.in1 (newList [] >>= fun d => again (.builtin "list.__iadd__" ⟨[d, .ref I], []⟩)) _ _ s); (refine wpAny_bind (wpAny_newObj_type ?_))
 (refine wpAny_pure ⟨plainId_quiet F.plain_list_iadd _, codeAny_builtin F.entry_list_iadd ?_⟩); (rw [Around.under_plainId F.plain_list_iadd _])
 have st1 := W.frame 0 s (s.heap.push { cls := .type "list", data := .seq ([] : List Value).toArray }) s.toks st0 (Nat.le_refl _) fun b _ o e => Heap.get?_push_of_some _ e
 have hT1 : Shared.TypeIs { s with heap := s.heap.push { cls := .type "list", data := .seq ([] : List Value).toArray } } (.ref I) "list_reverseiterator" := st1.2.1.typeIs
 have hS1 : (s.heap.push { cls := .type "list", data := .seq ([] : List Value).toArray }).get? s.heap.objs.size = some { cls := .type "list", data := .seq ([] : List Value).toArray } := Heap.get?_push_size _ rfl
 have ns : Builtin.List.listSameRef (.ref s.heap.objs.size) (.ref I) = false := by simp [Builtin.List.listSameRef, nI]
 (show wpAny _ A.in1 (Builtin.List.listExtendWith (.ref s.heap.objs.size) (.ref I) (.ref s.heap.objs.size)) _ _ _); (unfold Builtin.List.listExtendWith)
 (refine wpAny_bind (wpAny_typeOf hT1 ?_)); (rw [if_neg (by rw [ns]; decide)]); (refine wpAny_bind (W.self 0 _ _ _ st1 ?_))
 (refine wpAny_bind (wpAny_holding ?_)); (unfold Builtin.List.listLengthHint); (refine wpAny_bind (wpAny_specialOf hT1 nolen_rv ?_))
 (show wpAny _ A.in1 (specialOf (Value.ref I) (Str.ofString "__length_hint__") >>= _) _ _ _); (refine wpAny_bind (wpAny_specialOf hT1 hint_rv ?_))
 (generalize hid : ("list_reverseiterator.__length_hint__" : String) = id0; (fail_if_success (clear hid id0)); wp_delta; rw [show splitId id0 = some ("list_reverseiterator", "__length_hint__") from by subst hid; decide +kernel]; subst hid)
 (refine wpAny_bind (wpAny_isInstance (b := true) hT1 (by rw [isSubtype_type]; kernel_rfl) ?_)); (refine wpAny_pure ?_); (rw [if_neg (by decide)])
 (refine wpAny_pure ⟨plainId_quiet F.plain_extend_loop _, codeAny_extend_loopS W (by decide) _ nf _ 0 0 _ _ _ rfl (Nat.zero_le _) st1 hS1 (ItemsOf.nil _) fun s' acc c' hm hS' hacc => ?_⟩)
 (show wpAny _ A (load s.heap.objs.size >>= _) _ _ s'); (refine wpAny_bind (wpAny_load hS' ?_))
 have m2 := Moved.drop_new (o := { cls := .type "list", data := .seq ([] : List Value).toArray }) (tk := s.toks) hm (Nat.le_refl _)
 have e0 : acc = #[] := Array.eq_empty_of_size_eq_zero hacc.1
 subst e0
 exact wpAny_pure (hQ s' (fun b o hb e => m2.heap b o (fun h => hb (List.mem_singleton.mp h)) e) m2.gens m2.drawn m2.os)
variable {X : Cx} {W : Str -> Hp -> Prop} {a : Expr} {da : DE} {pos : Pos}
theorem pe_joinR {ta : TA} {j : Nat} {p0 apos p1 p2 : Pos} (hh : X.A.handled = none) (hg : Gl X "reversed") (hm : X.mg "reversed" = none) (hl : PA X [a] ta) (hs : starEach [a] X.env = (false, eval a X.env) :: starEach [] X.env)
  (hs2 : starEach [.Call (.Name "reversed" p1) [a] [] p2] X.env = (false, eval (.Call (.Name "reversed" p1) [a] [] p2) X.env) :: starEach [] X.env)
  (hbase : attributeBase (.Constant (.str (Str.ofString "")) j p0) "join" X.env (eval (.Constant (.str (Str.ofString "")) j p0) X.env) = eval (.Constant (.str (Str.ofString "")) j p0) X.env)
  (hfew : ((backTo pos (starEach [.Call (.Name "reversed" p1) [a] [] p2] X.env)).all (fun x => !x.1) && (backToKw pos (keywordEach [] X.env)).all (fun x => x.1.isSome)
   && decide (([.Call (.Name "reversed" p1) [a] [] p2] : List Expr).length + ([] : List Keyword).length + (if ([] : List Keyword).isEmpty then 0 else 1) < 30)) = true) (hline : (apos.endLine == pos.line) = true) :
  PE X (.Call (.Attribute (.Constant (.str (Str.ofString "")) j p0) "join" apos) [.Call (.Name "reversed" p1) [a] [] p2] [] pos) (fun σ H Q => ta σ H fun vs H1 => ∃ l, vs = [.ref l] /\ SqL X.K H1 l [] /\ Q (.str (Str.ofString "")) H1) := by
 intro pins s σ H Q I h
 refine wpAny_Call_method_late hbase hfew hline rfl (Calls.Constant_str ?_)
 refine ⟨"str", "str.join", F.plainAttrs_str, F.slot_str_join, F.type_str_join, typeIs_str _ _ _, (fun _ e => nomatch e), ?_⟩
 rw [hs2]
 refine Calls.callWith_builtin rfl (Calls.evalArgs_plain (Calls.spliced_cons ?_))
 have I0 : Inv X pins σ H { s with toks := s.toks + 1 } := I.tok _
 refine Call_ (Qx I0 hg hm (show bootBuiltins "reversed" = some (.type "reversed") by decide +kernel) (PyProof.Rows.callWith_type1 (thn (hl p2 pins _ σ H _ I0 h) fun us s1 ⟨vs, H1, I1, r1, q1⟩ => ?_) hs rfl))
 obtain ⟨l, rfl, hq, q⟩ := q1
 obtain ⟨u, rfl, ru⟩ := WT r1
 cases ru
 obtain ⟨its, rv, pl, hz⟩ := I1.list hq
 have e0 : its = [] := by cases rv; rfl
 subst e0
 refine call_reversed_list pl.isList ?_
 have st : (s1.heap.push (revObj l (-1))).IsRevIter s1.heap.objs.size l (-1) := ⟨_, Heap.get?_push_size _ rfl, rfl, rfl⟩
 have kk : ∀ b o, s1.heap.get? b = some o -> (s1.heap.push (revObj l (-1))).get? b = some o := fun b o e => Heap.get?_push_of_some _ e
 have I2 : Inv X pins σ H1 { s1 with heap := s1.heap.push (revObj l (-1)) } := I1.kept (t' := s1.toks) kk
 obtain ⟨f0, f1, f2, f3, f4, f5⟩ := I1.fpOk (H' := H1) (Nat.le_refl _) (I1.hok.fresh (Nat.le_refl _))
 have il : (s1.heap.push (revObj l (-1))).IsList l #[] := by
  obtain ⟨o, ho, r⟩ := pl.isList
  exact ⟨o, kk _ _ ho, r⟩
 have ne : l ≠ s1.heap.objs.size := fun z => by
  obtain ⟨o, ho, _⟩ := pl.isList
  have := Heap.lt_size ho
  rw [z] at this
  exact Nat.lt_irrefl _ this
 refine Calls.spliced_nil ?_
 refine wpAny_call (codeAny_call_builtin F.slot_str_join.plain F.entry_str_join (F.slot_str_join.check _ _ _ _ _ _ _ _ (typeIs_str _ _ _) (F.args_str_join_2 _ _) ?_))
 show wpAny _ _ (Builtin.«str.join» ⟨[.str (Str.ofString "") s.toks, .ref s1.heap.objs.size], []⟩) _ _ _
 rw [join_tree_other]
 refine wpAny_bind (wpAny_typeOf (T := "list_reverseiterator") st.typeIs ?_)
 show wpAny _ X.A.in1 ((pyIter (.ref s1.heap.objs.size)).tryCatch _ >>= fun d => collect d >>= fun ds => joinTail (Str.ofString "") ds) _ _ _
 refine wpAny_bind (wpAny_tryCatch (wpAny_pyIter_revIter st ?_)); refine wpAny_bind (Q9 (s := { s1 with heap := s1.heap.push (revObj l (-1)) }) hh ne st il fun s' k1 k2 k3 k4 => ?_)
 obtain ⟨hp, gs, dr, tk, os⟩ := s'
 simp only at k1 k2 k3 k4
 subst k2 k3 k4
 have g := gives_joinTail (Str.ofString "") [] (by decide +kernel)
 refine g X.prog X.w X.A (wants (EP X pins σ Q) X.xe) _ ?_
 refine post_join [] ⟨by decide +kernel, fun t' k => ⟨.str (Str.ofString ""), H1, ?_, ⟨t', congrArg (fun z => Value.str z t') (show Txt.join (Str.ofString "") [] = Str.ofString "" by decide +kernel)⟩, q⟩⟩
 exact (I2.turned (h' := hp) (t' := tk) (it := s1.heap.objs.size) (fun b o hb e => k1 b o hb e) f0 f1 f3 f4 f5).tok k
theorem ev_joinR {j : Nat} {p0 apos p1 p2 : Pos} (hh : X.A.handled = none) (hg : Gl X "reversed") (hm : X.mg "reversed" = none) (ha : EV X W a da) (hs : starEach [a] X.env = (false, eval a X.env) :: starEach [] X.env := by rfl)
  (hs2 : starEach [.Call (.Name "reversed" p1) [a] [] p2] X.env = (false, eval (.Call (.Name "reversed" p1) [a] [] p2) X.env) :: starEach [] X.env := by rfl)
  (hbase : attributeBase (.Constant (.str (Str.ofString "")) j p0) "join" X.env (eval (.Constant (.str (Str.ofString "")) j p0) X.env) = eval (.Constant (.str (Str.ofString "")) j p0) X.env := by rfl)
  (hfew : ((backTo pos (starEach [.Call (.Name "reversed" p1) [a] [] p2] X.env)).all (fun x => !x.1) && (backToKw pos (keywordEach [] X.env)).all (fun x => x.1.isSome)
   && decide (([.Call (.Name "reversed" p1) [a] [] p2] : List Expr).length + ([] : List Keyword).length + (if ([] : List Keyword).isEmpty then 0 else 1) < 30)) = true := by rfl) (hline : (apos.endLine == pos.line) = true := by rfl) :
  EV X W (.Call (.Attribute (.Constant (.str (Str.ofString "")) j p0) "join" apos) [.Call (.Name "reversed" p1) [a] [] p2] [] pos) (d1 JE da) :=
 Zp (pe_joinR hh hg hm (ZQ ha YA hs) hs hs2 hbase hfew hline) fun σ H Q ⟨G, P, h, q⟩ => by
  unfold d1 at q
  obtain ⟨q1, q2, q3⟩ := Wo q
  refine Zq h q1 q2 fun tx x H1 ex s1 h1 rx => ?_
  have q4 := Yh.up (q3 tx ex) s1
  cases tx <;> try exact q4.elim
  rename_i xs
  cases xs with
  | cons => exact q4.elim
  | nil =>
   obtain ⟨l, vs, rfl, sl, rs⟩ := Z1.mp rx
   have e := ZV.mp rs
   subst e
   exact ⟨l, rfl, sl.sq, X3 q4⟩
end
end Fx
namespace Fx
open PySem PySem.Spec PyProof.Rows L2
section
variable {X : Cx} {W : Str -> Hp -> Prop} {fl : Bool} {a b : Expr} {da db : DE} {pos : Pos}
theorem ev_ixS (ha : EV X W a da) (hb : EV X W b db) (hs : JN b) : EV X W (.Subscript a b pos) (d2 fIxS da db) :=
 Zp (QY ha hb hs) fun σ H Q h => Qa (fun H P σ G x y tx ty Q h rx ry q => by
  cases tx <;> cases ty <;> try exact q.elim
  rename_i z i
  simp only [fIxS] at q
  split at q
  ·rename_i hc
   have hi : i.toNat < z.cps.size := by
    have := hc.2.1
    have e : z.length = z.cps.size := rfl
    omega
   refine ⟨z, i, z.cps.getD i.toNat 0, Z3.mp rx, ZL.mp ry, hc.1, ?_, hc.2.1, ?_, X3 q⟩
   ·have := hc.2.1
    have := hc.2.2
    omega
   ·simp [Array.getD, hi]
  ·exact q.elim) h
theorem Qb {K : PySem.W.Frag} {H : Hp} {P : Pv} : ∀ {xs : List PyData} {vs : List V} {ts : List Str}, Rls K H P xs vs -> Qd xs = some ts -> vs = ts.map V.str
 | [], vs, ts, r, e => by
  have : ts = [] := by simpa [Qd] using e.symm
  subst this
  exact ZV.mp r
 | x :: xs, vs, ts, r, e => by
  obtain ⟨v, w, rfl, r1, r2⟩ := Zx.mp r
  cases x with
  | str z =>
   obtain ⟨l, el, rfl⟩ := Option.map_eq_some_iff.mp (show (Qd xs).map (fun l => z :: l) = some ts from e)
   rw [Qb r2 el, Z3.mp r1]; rfl
  | _ => cases e
theorem Uj : ∀ {ts : List Str} {us : List Value}, Vals (ts.map V.str) us -> ∃ l : List (Str × Tok), us = strValues l /\ l.map (·.1) = ts
 | [], us, r => by cases r; exact ⟨[], rfl, rfl⟩
 | t :: ts, us, r => by
  cases r with
  | cons r1 r2 =>
   obtain ⟨k, rfl⟩ := r1
   obtain ⟨l, e1, e2⟩ := Uj r2
   exact ⟨(t, k) :: l, by rw [e1]; rfl, by rw [<- e2]; rfl⟩
theorem mt_joinL : MtR X "str.join" (fun x xs H Q => ∃ sep l ts, x = .str sep /\ xs = [.ref l] /\ SqL X.K H l (ts.map V.str) /\ JoinOk sep ts = true /\ Q (.str (Txt.join sep ts)) H) := by
 intro pins s σ H x xs v us Q I rx rs h
 obtain ⟨sep, l, ts, rfl, rfl, hq, hj, q⟩ := h
 obtain ⟨t, rfl⟩ := rx
 obtain ⟨u, rfl, ru⟩ := WT rs
 cases ru
 obtain ⟨its, rv, pl, hz⟩ := I.list hq
 obtain ⟨m, rfl, em⟩ := Uj rv
 exact SC.join pl.isList em hj fun t' k => ⟨.str _, H, I.tok _, ⟨_, rfl⟩, q⟩
theorem ev_joinL {p : Pos} (ha : EV X W a da) (hb : EV X W b db) (hs : starEach [b] X.env = (false, eval b X.env) :: starEach [] X.env := by rfl) (hbase : attributeBase a "join" X.env (eval a X.env) = eval a X.env := by rfl)
  (hfew : ((backTo pos (starEach [b] X.env)).all (fun x => !x.1) && (backToKw pos (keywordEach [] X.env)).all (fun x => x.1.isSome)
   && decide (([b] : List Expr).length + ([] : List Keyword).length + (if ([] : List Keyword).isEmpty then 0 else 1) < 30)) = true := by rfl)
  (hline : (p.endLine == pos.line) = true := by rfl) : EV X W (.Call (.Attribute a "join" p) [b] [] pos) (dM1 za3 da db) :=
 Zp (JV F.plainAttrs_str F.slot_str_join F.type_str_join mt_joinL ha (ZQ hb YA hs) hbase hfew hline hs rfl) fun σ H Q ⟨G, P, h, q⟩ => by
  unfold dM1 at q
  obtain ⟨q1, q2, q3⟩ := Wo q
  refine Zq h q1 q2 fun tx x H1 ex s1 h1 rx => ?_
  have q4 := q3 tx ex
  cases tx <;> try exact q4.elim
  rename_i y
  have ey := Z3.mp rx
  subst ey
  refine ⟨rfl, ?_⟩
  obtain ⟨q5, q6, q7⟩ := Wo (Yh.up q4 s1)
  refine Zq h1 q5 q6 fun ty w H2 ey s2 h2 ry => ?_
  have q8 := Yh.up (q7 ty ey) s2
  cases ty <;> try exact q8.elim
  rename_i xs
  simp only [za3] at q8
  cases et : Qd xs with
  | none => rw [et] at q8; exact q8.elim
  | some ts =>
   rw [et] at q8
   dsimp only at q8
   split at q8
   ·rename_i hc
    obtain ⟨l, vs, rfl, sl, rs⟩ := Z1.mp ry
    have ev := Qb rs et
    subst ev
    exact ⟨y, l, ts, rfl, rfl, sl.sq, hc, X3 q8⟩
   ·exact q8.elim
end
end Fx
namespace Fx
open PySem PySem.Spec PyProof.Rows L2
def fIn : PyData -> PyData -> Res PyData
 | x, .list xs => if ZF x && ZF (.list xs) then .ok (.bool (xs.any fun y => y.eqv x)) else .stuck
 | _, _ => .stuck
def rNin (K : PySem.W.Frag) (k : Bool -> Bool) : R2 := fun x y H Q => ∃ P tx xs, Rl K H P tx x /\ Rl K H P (.list xs) y /\ ZF tx = true /\ ZF (.list xs) = true /\ Q (.bl (k (xs.any fun t => t.eqv tx))) H
variable {X : Cx} {W : Str -> Hp -> Prop}
theorem JS {xs : List PyData} (h : ZF (.list xs) = true) : PyData.depthAll xs <= 63 := by
 unfold ZF at h
 rw [Bool.and_eq_true] at h
 have h2 := of_decide_eq_true h.2
 unfold PyData.depth at h2
 omega
theorem op_inF (hu : X.A.units + 64 < cLine) : OpR X (compareOp .In) (rNin X.K fun k => k) /\ Fop X W (rNin X.K fun k => k) fIn :=
 ⟨by
  intro pins s σ H x y v u Q I rx ry h
  obtain ⟨P, tx, xs, hx, hy, sx, sy, q⟩ := h
  obtain ⟨as, ra⟩ := Rl.reads I tx x v (Yv sx) hx rx
  obtain ⟨bs, rb⟩ := Rl.reads I (.list xs) y u (Yv sy) hy ry
  have := JS sy
  exact SeqAt.in_list_reads rb ra (by simpa [PyData.canLay0] using Yv sy) (Yv sx) (by have := Nat.min_le_left (PyData.depthAll xs) tx.depth; omega) ⟨.bl _, H, I, rfl, q⟩,
 fun H P σ G x y tx ty Q h rx ry q => by
  unfold fIn at q
  split at q
  ·split at q
   ·rename_i hc
    rw [Bool.and_eq_true] at hc
    exact ⟨P, _, _, rx, ry, hc.1, hc.2, ZM q⟩
   ·exact q.elim
  ·exact q.elim⟩
end Fx
namespace Fx
open PySem
def QC : PyData -> PyData -> Res PyData
 | .str x, .int n => if 1 <= n /\ n <= 1000 /\ x.length <= 1000 then .ok (.str (Txt.mul x n)) else .stuck
 | _, _ => .stuck
def za4 (x : Str) : PyData -> Res PyData
 | .str y => .ok (.int (Txt.find x y))
 | _ => .stuck
def fInL : PyData -> PyData -> Res PyData
 | x, .list xs => if ZF x && ZF (.list xs) then .ok (.bool (xs.any fun y => y.eqv x)) else .stuck
 | _, _ => .stuck
theorem fInL_b : ∀ x y, (∃ k, fInL x y = .ok (.bool k)) \/ fInL x y = .stuck := by
 intro x y
 unfold fInL
 split
 ·split
  ·exact .inl ⟨_, rfl⟩
  ·exact .inr rfl
 ·exact .inr rfl
def zaZ (i : Nat) (G : List Sl) (kt t : PyData) : Res Out :=
 match G[i]?, kt with
 | some (.own xs), .int j => if 0 <= j /\ j <= (xs.length : Int) /\ xs.length < 16777216 then .ok (.nx (G.set i (.own (xs.take j.toNat ++ t :: xs.drop j.toNat)))) else .stuck
 | _, _ => .stuck
def dIns (i : Nat) (k e : DE) : DS := fun G => if Ui G i then (k G).bind fun kt => (e G).bind fun t => zaZ i G kt t else .stuck
def zbd (b : DE) (sub : Str -> Bool) (c : Str) : DS := fun G => match b (frzA G) with
 | .ok t => .ok (.rt t)
 | .exc c0 => if sub c0 then .exc c else .stuck
 | .stuck => .stuck
end Fx
namespace Fx
open PySem PySem.Spec PyProof.Rows L2
section
variable {X : Cx} {W : Str -> Hp -> Prop} {fl : Bool} {tg a b c e : Expr} {da db : DE} {pos : Pos}
theorem zaP {x : Str} {n : Int} (h : 1 <= n /\ n <= 1000 /\ x.length <= 1000) : MulOk x n := by
 obtain ⟨h1, h2, h3⟩ := h
 obtain ⟨m, rfl⟩ := Int.eq_ofNat_of_zero_le (show 0 <= n by omega)
 have b : x.length * m <= 1000 * 1000 := Nat.mul_le_mul h3 (by omega)
 refine ⟨?_, fun _ _ z => ?_, fun _ _ => ?_⟩
 ·rw [Bool.or_eq_false_iff]
  exact ⟨decide_eq_false (by omega), decide_eq_false (by omega)⟩
 ·have : (1000 : Int) <= (2 ^ 63 - 1) / (m : Int) := Int.le_ediv_of_mul_le (by omega) (by omega)
  omega
 ·have := sizeLine_eq
  simp [Builtin.Str.tooLong]
  omega
def rMulS : R2 := fun x y H Q => ∃ i j, x = .str i /\ y = .int j /\ MulOk i j /\ Q (.str (Txt.mul i j)) H
theorem zaL : OpR X (binaryOp .Mult) rMulS /\ Fop X W rMulS QC :=
 ⟨by
  intro pins s σ H x y v u Q I rx ry h
  obtain ⟨i, j, rfl, rfl, hz, q⟩ := h
  obtain ⟨t, rfl⟩ := rx
  obtain ⟨t', rfl⟩ := ry
  exact SB.mul hz fun t' tk => ⟨.str _, H, I.tok _, ⟨_, rfl⟩, q⟩, fun H P σ G x y tx ty Q h rx ry q => by
  cases tx <;> cases ty <;> try exact q.elim
  rename_i i j
  simp only [QC] at q
  split at q
  ·rename_i hz
   exact ⟨i, j, Z3.mp rx, ZL.mp ry, zaP hz, X3 q⟩
  ·exact q.elim⟩
theorem mt_find : MtR X "str.find" (fun x xs H Q => ∃ y z, x = .str y /\ xs = [.str z] /\ Q (.int (Txt.find y z)) H) := by
 intro pins s σ H x xs v us Q I rx rs h
 obtain ⟨y, z, rfl, rfl, q⟩ := h
 obtain ⟨t, rfl⟩ := rx
 obtain ⟨u, rfl, t', rfl⟩ := WT rs
 exact SC.find ⟨.int _, H, I.tok _, ⟨_, rfl⟩, q⟩
theorem ev_find {p : Pos} (ha : EV X W a da) (hb : EV X W b db) (hs : starEach [b] X.env = (false, eval b X.env) :: starEach [] X.env := by rfl) (hbase : attributeBase a "find" X.env (eval a X.env) = eval a X.env := by rfl)
  (hfew : ((backTo pos (starEach [b] X.env)).all (fun x => !x.1) && (backToKw pos (keywordEach [] X.env)).all (fun x => x.1.isSome)
   && decide (([b] : List Expr).length + ([] : List Keyword).length + (if ([] : List Keyword).isEmpty then 0 else 1) < 30)) = true := by rfl)
  (hline : (p.endLine == pos.line) = true := by rfl) : EV X W (.Call (.Attribute a "find" p) [b] [] pos) (dM1 za4 da db) :=
 Zp (JV F.plainAttrs_str F.slot_str_find F.type_str_find mt_find ha (ZQ hb YA hs) hbase hfew hline hs rfl) fun σ H Q ⟨G, P, h, q⟩ => by
  unfold dM1 at q
  obtain ⟨q1, q2, q3⟩ := Wo q
  refine Zq h q1 q2 fun tx x H1 ex s1 h1 rx => ?_
  have q4 := q3 tx ex
  cases tx <;> try exact q4.elim
  rename_i y
  have ey := Z3.mp rx
  subst ey
  refine ⟨rfl, ?_⟩
  obtain ⟨q5, q6, q7⟩ := Wo (Yh.up q4 s1)
  refine Zq h1 q5 q6 fun ty w H2 ey s2 h2 ry => ?_
  have q8 := q7 ty ey
  cases ty <;> try exact q8.elim
  rename_i z
  have ez := Z3.mp ry
  subst ez
  exact ⟨y, z, rfl, rfl, ZT (Yh.up q8 s2)⟩
theorem op_inL (hu : X.A.units + 64 < cLine) : OpR X (compareOp .In) (rNin X.K fun k => k) /\ Fop X W (rNin X.K fun k => k) fInL :=
 ⟨(op_inF (W := W) hu).1, fun H P σ G x y tx ty Q h rx ry q => by
  unfold fInL at q
  split at q
  ·split at q
   ·rename_i hc
    rw [Bool.and_eq_true] at hc
    exact ⟨P, _, _, rx, ry, hc.1, hc.2, ZM q⟩
   ·exact q.elim
  ·exact q.elim⟩
def rInsert : V -> List V -> Hp -> VK -> Prop := fun x vs H Q => ∃ l xs j y, x = .ref l /\ vs = [.int j, y] /\ H l = some (.lst xs) /\ xs.length < sizeLine /\ 0 <= j /\ j <= (xs.length : Int) /\ Q .non (upd H l (.lst (xs.take j.toNat ++ y :: xs.drop j.toNat)))
theorem zaQ : MtM X "list.insert" rInsert := by
 intro pins s σ H x vs v us Q I rx rv h
 obtain ⟨l, xs, j, y, rfl, rfl, hH, hz, h0, h1, q⟩ := h
 cases rx
 obtain ⟨u1, u, rfl, ⟨t, rfl⟩, ru⟩ := vals2 rv
 obtain ⟨z, its, n, r, hl, e⟩ := I.lstM hH
 have sz := sizeLine_eq
 have hc : ¬ (!Builtin.List.listFitsIndex j) = true := by
  have : Builtin.List.listFitsIndex j = true := by
   unfold Builtin.List.listFitsIndex
   rw [Bool.and_eq_true]
   exact ⟨decide_eq_true (by omega), decide_eq_true (by omega)⟩
  rw [this]; decide
 refine call_meets F.slot_list_insert ⟨_, e, rfl⟩ F.entry_list_insert (F.args_list_insert_3 _ _ _) (PySem.AutoListH.list_insert_list_int_val_1 l its.toArray n j t u hc (by rw [List.size_toArray]; omega)) ⟨e, ?_⟩
 refine ⟨.non, _, I.lset (its' := its.take j.toNat ++ u :: its.drop j.toNat) hH e ?_ ((r.take _).append (.cons ru (r.drop _))) ?_, rfl, q⟩
 ·have hn : ¬ (j < 0) := by omega
  have hm : min j.toNat its.toArray.size = j.toNat := by rw [List.size_toArray]; omega
  have hm2 : min j.toNat its.length = j.toNat := by omega
  simp only [hn, if_false, List.size_toArray, hm2]
  apply Array.toList_inj.mp
  simp
  rw [List.take_of_length_le (by rw [List.length_drop]; omega)]
 ·rw [List.length_append, List.length_cons, List.length_take, List.length_drop]
  omega
theorem ss_ins {i : Nat} {x : Str} {k : Expr} {dk : DE} {p1 p2 p3 : Pos} (hi : X.N[i]? = some x) (hk : EV X W k dk) (he : EV X W e da) (hv : Vis X.env.scope x := by first | exact Or.inl rfl | exact Or.inr (Or.inl rfl) | exact Or.inr (Or.inr rfl)) (hd : (x == ("__debug__" : Str)) = false := by decide)
  (hcd : (x == ("__classdict__" : Str)) = false := by decide) (hsw : swapsWith (.Call (.Attribute (.Name x p1) "insert" p2) [k, e] [] p3) none pos.line X.env = pure false := by rfl)
  (hbase : attributeBase (.Name x p1) "insert" X.env (eval (.Name x p1) X.env) = eval (.Name x p1) X.env := by rfl)
  (hfew : ((backTo p3 (starEach [k, e] X.env)).all (fun x => !x.1) && (backToKw p3 (keywordEach [] X.env)).all (fun x => x.1.isSome)
   && decide (([k, e] : List Expr).length + ([] : List Keyword).length + (if ([] : List Keyword).isEmpty then 0 else 1) < 30)) = true := by rfl)
  (hline : (p2.endLine == p3.line) = true := by rfl) (hs : starEach [k, e] X.env = (false, eval k X.env) :: starEach [e] X.env := by rfl) (hs2 : starEach [e] X.env = (false, eval e X.env) :: starEach [] X.env := by rfl)
  (hpl : (backTo p3 (starEach [e] X.env)).any (·.1) = false := by rfl) :
  SV X W fl (.Expr (.Call (.Attribute (.Name x p1) "insert" p2) [k, e] [] p3) pos) (dIns i dk da) :=
 XH (QW (JV PySem.F.plainAttrs_list PySem.F.slot_list_insert PySem.F.type_list_insert zaQ (Qp hi hv hd hcd) (ZQ hk (ZQ he YA hs2) hs) hbase hfew hline hs hpl) hsw) fun D σ H ⟨G, P, h, q⟩ => by
  unfold dIns at q
  split at q
  ·rename_i ho
   obtain ⟨xs0, e0⟩ := UU ho
   obtain ⟨q1, q2, q3⟩ := VB q
   obtain ⟨p, vs, ev, ep, eh, rs⟩ := h.sl i _ e0
   refine ⟨.ref p, getD_some ev, .inl ⟨rfl, vs, SqL.of eh⟩, ?_⟩
   refine Zq h (fun c e H' s => q1 c e H' P (.same s)) q2 fun kt kv H1 ek s1 h2 rk => ?_
   obtain ⟨q4, q5, q6⟩ := VB (q3 kt ek)
   refine Zq h2 (fun c e H' s => q4 c e H' P ((Go.same s1).trans (.same s))) q5 fun t v H2 et s2 h3 r => ?_
   have q8 := q6 t et
   unfold zaZ at q8
   rw [e0] at q8
   cases kt <;> try exact q8.elim
   rename_i j
   simp only at q8
   split at q8
   ·rename_i hc
    obtain ⟨p', vs', ev', ep', eh', rs'⟩ := h3.sl i _ e0
    rw [ev] at ev'
    cases ev'
    have hl := rs'.length
    obtain ⟨h4, g4⟩ := h3.upOwn e0 ep' ((rs'.take j.toNat).append (Zx.mpr ⟨v, _, rfl, r, rs'.drop j.toNat⟩))
    exact ⟨p, vs', j, v, rfl, by rw [ZL.mp rk], eh', by rw [sizeLine_eq]; omega, hc.1, by omega, q8 σ _ P (((Go.same s1).trans (.same s2)).trans g4) h4⟩
   ·exact q8.elim
  ·exact q.elim
end
end Fx
namespace Fx
open PySem PySem.Spec PyProof.Rows L2
variable [Dirt]
theorem Jz {K : PySem.W.Frag} {M : Model} {A : Around} {E : Value -> Shared -> Prop} {mg : Str -> Option Value} {s : Shared} {x : Str} {C a : Addr} {ob : Obj} {m : String} {Q : Value -> Shared -> Prop} (k : K.In s.heap) (c : XCls K mg x C) (ho : s.heap.get? a = some ob) (hc : ob.cls = .ref C) {fs : Array Value} (hf : ob.data = .fields fs) (q : Q (.ref a) s) : wpAny M A (excFromValue (.ref a) m) Q E s := by
 obtain ⟨tl, N, nm, qn, bs, hd, sn, sb, ab, co, dd, k0, k1, k2, k3, k5, mN, hC, hN, hni, tail⟩ := (c.obj k).obj
 have hB : (Value.ref C :: tl).contains (.type "BaseException") = true := by rw [List.contains_cons, tail.hasType PySem.F.excBase_ValueError.hasBase, Bool.or_true]
 obtain ⟨hp, g, d, tk, os⟩ := s
 obtain ⟨o1, o2, o3, o4⟩ := ob
 dsimp only at hc hf
 subst hc hf
 unfold excFromValue isExcClass
 repeat (first | with_reducible refine wpAny_loadPart_at ho ?_ | with_reducible refine wpAny_loadPart_at hC ?_ | (with_reducible refine wpAny_isSubtype_exc hC ?_; rw [hB]) | wp_step)
 exact q
theorem isx_type {K : PySem.W.Frag} {M : Model} {A : Around} {E : Value -> Shared -> Prop} {mg : Str -> Option Value} {s : Shared} {x : Str} {C a : Addr} {ob : Obj} {Q : Bool -> Shared -> Prop} (k : K.In s.heap) (c : XCls K mg x C) (ho : s.heap.get? a = some ob) (hc : ob.cls = .ref C) {fs : Array Value} (hf : ob.data = .fields fs) (q : Q false s) : wpAny M A (isType (.ref a)) Q E s := by
 obtain ⟨tl, N, nm, qn, bs, hd, sn, sb, ab, co, dd, k0, k1, k2, k3, k5, mN, hC, hN, hni, tail⟩ := (c.obj k).obj
 have hB : (Value.ref C :: tl).contains (.type "BaseException") = true := by rw [List.contains_cons, tail.hasType PySem.F.excBase_ValueError.hasBase, Bool.or_true]
 obtain ⟨hp, g, d, tk, os⟩ := s
 obtain ⟨o1, o2, o3, o4⟩ := ob
 dsimp only at hc hf
 subst hc hf
 repeat (first | with_reducible refine wpAny_loadPart_at ho ?_ | with_reducible refine wpAny_loadPart_at hC ?_ | (with_reducible refine wpAny_isSubtype_exc hC ?_; rw [hB]) | wp_step)
 exact q
theorem isx_inst {K : PySem.W.Frag} {M : Model} {A : Around} {E : Value -> Shared -> Prop} {mg : Str -> Option Value} {s : Shared} {x : Str} {C a : Addr} {ob : Obj} {Q : Value -> Shared -> Prop} (k : K.In s.heap) (c : XCls K mg x C) (ho : s.heap.get? a = some ob) (hc : ob.cls = .ref C) {fs : Array Value} (hf : ob.data = .fields fs) (q : Q (.ref a) s) : wpAny M A (raisedInstance (.ref a)) Q E s := by
 obtain ⟨tl, N, nm, qn, bs, hd, sn, sb, ab, co, dd, k0, k1, k2, k3, k5, mN, hC, hN, hni, tail⟩ := (c.obj k).obj
 have hB : (Value.ref C :: tl).contains (.type "BaseException") = true := by rw [List.contains_cons, tail.hasType PySem.F.excBase_ValueError.hasBase, Bool.or_true]
 obtain ⟨hp, g, d, tk, os⟩ := s
 obtain ⟨o1, o2, o3, o4⟩ := ob
 dsimp only at hc hf
 subst hc hf
 unfold raisedInstance
 repeat (first | with_reducible refine wpAny_loadPart_at ho ?_ | with_reducible refine wpAny_loadPart_at hC ?_ | (with_reducible refine wpAny_isSubtype_exc hC ?_; rw [hB]) | wp_step)
 exact q
theorem UY : entryFor table "proto.unchain" = some Builtin.«proto.unchain» := entryFor_of_tree (by kernel_rfl)
theorem zaB {prog : Program} {w : World} {A : Around} {Ee : Value -> Shared -> Prop} {s : Shared} {a b : Addr} {oa ob : Obj} {va vb : Array Value} {α : Type} {Q : α -> Shared -> Prop} (hh : A.handled = some (.ref a)) (hab : a ≠ b) (ha : s.heap.get? a = some oa) (da : oa.data = .fields va) (h2 : va[2]? = some .none)
  (hb : s.heap.get? b = some ob) (db : ob.data = .fields vb) (hz : 2 < vb.size) (q : Ee (.ref b) { s with heap := s.heap.update b (Obj.mapFields (·.setIfInBounds 2 (Value.ref a))) }) : wpAny (model prog w) A (raiseNew (.ref b) : Sem α) Q Ee s := by
 have hne : (Value.ref a != Value.ref b) = true := by simp [hab]
 unfold raiseNew
 refine wpAny_bind (wpAny_handled ?_)
 rw [hh]
 dsimp only
 rw [if_pos hne]
 refine wpAny_bind (wpAny_holding (wpAny_runValue (codeAny_builtin UY ?_)))
 unfold Builtin.«proto.unchain»
 dsimp only
 refine wpAny_bind (wpAny_field ha da h2 ?_)
 rw [if_pos (by decide)]
 refine wpAny_bind (wpAny_pure (wpAny_pure ?_))
 exact wpAny_bind (show wpAny _ _ (setField (.ref b) 2 (.ref a)) _ _ _ from wpAny_setField hb db hz (wpAny_throw q))
theorem made_exc {Z : Cx} {pins : List (Addr × Obj)} {σ : L2.St} {H : Hp} {s : Shared} {Dn : Str} {CD : Addr} {e1 : Expr} {es1 : List Expr} {d : DA} {np cpos : Pos} {G : List Sl} {P : Pv} {ts : List PyData} {Ee : Value -> Shared -> Prop} {Q : Value -> Shared -> Prop}
  (hp : Ub Z) (hD : XCls Z.K Z.mg Dn CD) (hgD : Gl Z Dn) (ha : AV Z (fun _ _ => False) (e1 :: es1) d) (hx : ∀ e s, ¬ Z.xe e s) (I : Inv Z pins σ H s) (h : Hol Z.K H P σ G) (hd : d G = .ok ts) (hl : ts.length <= 4)
  (q : ∀ b t H' s', Exc Z pins σ H' b (.ref CD) none s' -> s'.heap.get? b = some { cls := .ref CD, data := .fields #[.ref t, .none, .none, .none, .bool false, .none] } -> Same H H' -> Q (.ref b) s')
  (hdb : (Dn == ("__debug__" : Str)) = false) (he : starEach (e1 :: es1) Z.env = (false, eval e1 Z.env) :: starEach es1 Z.env) (hpl : (backTo cpos (starEach es1 Z.env)).any (·.1) = false) :
  wpAny (model Z.prog Z.w) Z.A (eval (.Call (.Name Dn np) (e1 :: es1) [] cpos) Z.env) Q Ee s := by
 obtain ⟨tl, N, nm, qn, bs, hdd, sn, sb, ab, co, dd, k0, k1, k2, k3, k5, mN, hC, hN, hni, tail⟩ := (hD.obj I.mod.kin).obj
 refine wpAny_Call_ofName (Wb I hgD hD.bd ?_ hdb)
 have hA := ha cpos pins s σ H (fun vs H2 => vs.length <= 4 /\ Same H H2) I ⟨G, P, h, by
  rw [hd]; exact fun vs H2 sm rs => ⟨by rw [<- rs.length]; exact hl, sm⟩⟩
 have hpl' : (backTo cpos (starEach (e1 :: es1) Z.env)).any (·.1) = false := by rw [he]; show (false || (backTo cpos (starEach es1 Z.env)).any (·.1)) = false; rw [hpl]; rfl
 unfold callWith
 rw [he] at hA ⊢
 rw [he] at hpl'
 refine wpAny_bind (wpAny_holding (wpAny_mono (Calls.evalArgs_plain (wpAny_mono hA (fun us s2 h2 => ?_) fun e s z => (hx e s z).elim)) (fun a s2 h2 => h2) fun _ _ z => z))
 obtain ⟨vs, H2, I2, r2, hv, sm⟩ := h2
 refine wpAny_bind (wpAny_standAt ?_)
 simp only [hpl']
 have hl2 := r2.length
 have hC2 := I2.bk _ _ hC
 have hN2 := hN.keeps I2.bk
 have tl2 := tail.keeps I2.bk
 have I2' := I2
 obtain ⟨hq, g, dr, tk, os⟩ := s2
 refine wpAny_bind (wpAny_keeperOf_exc hC2 ?_)
 refine wpAny_bind (wpAny_call_exc_subT (hrest := by show us.length <= sizeLine; rw [sizeLine_eq]; omega) PySem.F.excBase_ValueError tl2 hC2 hN2 hni fun h' b mk => wpAny_bind (wpAny_holding (wpAny_point (wpAny_pure ?_))))
 obtain ⟨t, ho, _, _⟩ := mk.there
 refine q b t H2 _ ⟨Inv.kept (t' := tk) I2' mk.keeps, XZ hp I2' mk.new, ⟨_, _, .ref t, ho, rfl, rfl, rfl, rfl, ⟨.none, rfl, .inl rfl⟩⟩, fun T f z => by cases z⟩ ho sm
def XF (a C : Addr) : HO := .ext fun h => ∃ ob vs, h.get? a = some ob /\ ob.cls = .ref C /\ ob.data = .fields vs /\ vs[2]? = some .none
theorem Jf {H H' : Hp} {a : Addr} {φ : Heap -> Prop} (s : Same H H') (h : H a = some (.ext φ)) : H' a = some (.ext φ) := s.kp a _ h nt_ext
theorem za8 {Z : Cx} {pins : List (Addr × Obj)} {σ : L2.St} {H : Hp} {s : Shared} {Dn n xc : Str} {CD C a : Addr} {i : Nat} {e1 : Expr} {es1 : List Expr} {d : DA} {np cpos npos pos : Pos} {G : List Sl} {P : Pv} {ts : List PyData} {Ee : Value -> Shared -> Prop} {Q : Flow -> Shared -> Prop}
  (hp : Ub Z) (hD : XCls Z.K Z.mg Dn CD) (hc : XCls Z.K Z.mg xc C) (hgD : Gl Z Dn) (ha : AV Z (fun _ _ => False) (e1 :: es1) d) (hx : ∀ e s, ¬ Z.xe e s) (hh : Z.A.handled = some (.ref a))
  (hi : Z.N[i]? = some n) (hn : Z.env.kindOf n = some .local) (I : Inv Z pins σ H s) (hσ : σ[i]? = some (some (.ref a))) (ht : H a = some (XF a C)) (h : Hol Z.K H P σ G) (hd : d G = .ok ts) (hl : ts.length <= 4) (dirt : Dirt.d (.ref CD))
  (q : ∀ b H' s', Exc Z pins σ H' b (.ref CD) none s' -> Same H H' -> Ee (.ref b) s')
  (hdb : (Dn == ("__debug__" : Str)) = false) (hdn : (n == ("__debug__" : Str)) = false) (he : starEach (e1 :: es1) Z.env = (false, eval e1 Z.env) :: starEach es1 Z.env) (hpl : (backTo cpos (starEach es1 Z.env)).any (·.1) = false) :
  wpAny (model Z.prog Z.w) Z.A (exec (.Raise (some (.Call (.Name Dn np) (e1 :: es1) [] cpos)) (some (.Name n npos)) pos) Z.env) Q Ee s := by
 rw [arm_exec_Raise]
 refine wpAny_bind (wpAny_standAt ?_)
 show wpAny _ _ (raiseStmt Z.env (some (do let v <- eval (.Call (.Name Dn np) (e1 :: es1) [] cpos) Z.env; standAt pos; pure v)) (some (do let v <- eval (.Name n npos) Z.env; standAt pos; pure v))) _ _ _
 unfold raiseStmt
 dsimp only
 refine wpAny_bind (wpAny_bind (made_exc hp hD hgD ha hx I h hd hl (fun b t H6 s6 E6 hb sm => ?_) hdb he hpl))
 refine wpAny_bind (wpAny_standAt (wpAny_pure ?_))
 have I6 := E6.inv
 obtain ⟨⟨oa, va, ga, ca, da, a2⟩, _, _⟩ := I6.hok a _ (Jf sm ht)
 have hab : a ≠ b := fun z => by
  have := E6.al.trk
  rw [<- z, Jf sm ht] at this
  cases this
 obtain ⟨m, hm, hlk⟩ := I6.loc
 obtain ⟨u, ru, lk⟩ := hlk i n _ hi hσ (.inl hn)
 cases ru
 have hmn : m n = some (.ref a) := by
  rcases lk with ⟨_, e⟩ | ⟨k, _⟩
  ·exact e
  ·rw [hn] at k; rcases k with k | k <;> cases k
 refine wpAny_bind (wpAny_holding (wpAny_bind (wpAny_Name (wpAny_loadName_local I6.ok.kind hn hm hmn ?_) hdn)))
 refine wpAny_bind (wpAny_standAt (wpAny_pure ?_))
 refine wpAny_bind (wpAny_pure ?_)
 refine wpAny_bind (wpAny_holding (Jz I6.kIn hD hb rfl rfl ?_))
 dsimp only
 rw [if_neg (show ¬ ((Value.ref a == Value.none) = true) from Bool.false_ne_true)]
 refine wpAny_bind (wpAny_holding (Jz I6.kIn hc ga ca da ?_))
 have mv : ∀ h' : Heap, (∀ c, c ≠ b -> h'.get? c = s6.heap.get? c) -> Inv Z pins σ H6 { s6 with heap := h' } := fun h' k => E6.moved (t' := s6.toks) (fun c o e => by
   have hcb : c ≠ b := fun z => by
    have hz : (PySem.W.hideAll s6.heap (hid Z b none)).get? b = none := PySem.W.hideAll_none (hid Z b none) List.mem_cons_self
    rw [z, hz] at e; cases e
   exact (k c hcb).trans (PySem.W.of_hideAll _ e)) fun c o e hno => by
   have hcb : c ≠ b := fun z => by rw [z, hb] at e; cases e; exact hno _ rfl
   exact ⟨o.slots, (k c hcb).trans e⟩
 refine wpAny_bind (wpAny_setField hb rfl (by decide : 3 < 6) ?_)
 have b7 : (s6.heap.update b (Obj.mapFields (·.setIfInBounds 3 (Value.ref a)))).get? b = some { cls := .ref CD, data := .fields #[.ref t, .none, .none, .ref a, .bool false, .none] } := Heap.get?_update_self _ hb rfl
 refine wpAny_bind (wpAny_setField b7 rfl (by decide : 4 < 6) ?_)
 generalize eh : (s6.heap.update b (Obj.mapFields (·.setIfInBounds 3 (Value.ref a)))).update b (Obj.mapFields (·.setIfInBounds 4 (Value.bool true))) = h8
 have b8 : h8.get? b = some { cls := .ref CD, data := .fields #[.ref t, .none, .none, .ref a, .bool true, .none] } := by rw [<- eh]; exact Heap.get?_update_self _ b7 rfl
 have o8 : ∀ c, c ≠ b -> h8.get? c = s6.heap.get? c := fun c hcb => by rw [<- eh, Heap.get?_update_other _ _ (Ne.symm hcb), Heap.get?_update_other _ _ (Ne.symm hcb)]
 have I8 := mv h8 o8
 refine wpAny_bind (isx_type (s := { s6 with heap := h8 }) I8.kIn hD b8 rfl rfl ?_)
 rw [if_neg Bool.false_ne_true]
 refine wpAny_bind (isx_inst (s := { s6 with heap := h8 }) I8.kIn hD b8 rfl rfl ?_)
 unfold setFlight
 refine wpAny_bind (wpAny_bind (wpAny_field (s := { s6 with heap := h8 }) (x := Value.none) b8 rfl rfl ?_))
 rw [if_neg (show ¬ ((Value.none != Value.none) = true) from by decide)]
 refine wpAny_pure ?_
 refine zaB (s := { s6 with heap := h8 }) hh hab ((o8 a hab).trans ga) da a2 b8 rfl (by decide : 2 < 6) ?_
 have b9 : (h8.update b (Obj.mapFields (·.setIfInBounds 2 (Value.ref a)))).get? b = some { cls := .ref CD, data := .fields #[.ref t, .none, .ref a, .ref a, .bool true, .none] } := Heap.get?_update_self _ b8 rfl
 refine q b H6 _ ⟨mv _ fun c hcb => (Heap.get?_update_other _ _ (Ne.symm hcb)).trans (o8 c hcb), E6.al, ⟨_, _, .ref t, b9, rfl, rfl, rfl, rfl, ⟨.ref a, rfl, .inr dirt⟩⟩, fun T f z => by cases z⟩ sm
section
variable {X : Cx} {pins : List (Addr × Obj)} {σ : L2.St} {H : Hp} {s : Shared} {a b : Addr} {cv : Value} {n : Option (Addr × Value)} {cl : Str -> Value} {W : Str -> Hp -> Prop} {L : Addr}
theorem exc_ob (ok : X.Ok) (x : Exc (cxH X a) pins σ H b cv n s) : Exc X pins σ H b cv n s := ⟨VY ok x.inv, ⟨x.al.young, x.al.loc, x.al.cell, x.al.pin, x.al.trk, x.al.frm⟩, x.ob, fun T f z => let A := x.nt T f z; ⟨A.young, A.loc, A.cell, A.pin, A.trk, A.frm⟩⟩
theorem za5 (F : InFrame X L) : InFrame (cxH X a) L := ⟨F.pin, F.ex, F.env⟩
theorem fs_frs (ok : X.Ok) : ∀ b ∈ X.fs, b ∈ frs X.stack := fun b hb => by
 rcases ok.stk with z | ⟨z, _⟩
 ·rw [z]; exact hb
 ·rw [z]
  unfold frs at *
  simp only [List.filterMap_cons]
  split
  ·exact hb
  ·exact List.mem_cons_of_mem _ hb
theorem Exc.unbound {T : Addr} {f : Value} {i : Nat} {y : Str} {hpos : Pos} {Q : Unit -> Shared -> Prop} {Ee : Value -> Shared -> Prop} (E : Exc X pins σ H b cv (some (T, f)) s) (hx : ∀ e s, ¬ X.xe e s) (hN : X.N.Nodup) (hi : X.N[i]? = some y) (hn : X.env.kindOf y = some .local)
  (q : ∀ σ' s', Exc X pins σ' H b cv (some (T, f)) s' -> Q () s') : wpAny (model X.prog X.w) X.A (do bindName X.env y .none; unbindBehindTheSuite X.env y hpos) Q Ee s := by
 obtain ⟨oe, vs, a0, oT, ts, he, hc, hd, h0, h1, hne, hT, hdT, h3, hb⟩ := id E.ob
 have AT := E.nt T f rfl
 have I1 : Inv X (pins ++ [(b, oe), (T, oT)]) σ H s := E.inv.pins_of fun p hp => by
  rcases List.mem_append.mp hp with z | z
  ·exact E.inv.pin p (List.mem_append_right _ z)
  ·rcases List.mem_cons.mp z with rfl | z
   ·exact ⟨he, E.al.trk, E.al.loc, fun w => E.al.frm (fs_frs E.inv.ok _ w), fun v w => by rw [hd] at w; cases w⟩
   ·rw [List.mem_singleton.mp z]
    exact ⟨hT, AT.trk, AT.loc, fun w => AT.frm (fs_frs E.inv.ok _ w), fun v w => by rw [hdT] at w; cases w⟩
 refine wpAny_mono (Fx.unbound I1 hN hi hn fun s1 I2 => ?_) (fun _ _ z => z) fun e s z => (hx e s z).elim
 have m1 : (b, oe) ∈ X.pn ++ (pins ++ [(b, oe), (T, oT)]) := by simp
 have m2 : (T, oT) ∈ X.pn ++ (pins ++ [(b, oe), (T, oT)]) := by simp
 exact q _ s1 ⟨I2.unpinned, E.al, ⟨oe, vs, a0, oT, ts, (I2.pin _ m1).1, hc, hd, h0, h1, hne, (I2.pin _ m2).1, hdT, h3, hb⟩, E.nt⟩
theorem handledF {Cn y Dn : Str} {i : Nat} {C' CD : Addr} {sub : Str -> Bool} {c : Str} {e1 : Expr} {es1 : List Expr} {d : DA} {np np2 cpos npos rpos hpos : Pos} {Q : Flow -> Shared -> Prop} {G : List Sl} {P : Pv} (F : InFrame X L) (hcn : XCls X.K X.mg Cn C') (hgn : Gl X Cn) (hdb : (Cn == ("__debug__" : Str)) = false) (hsub : Vc X cl sub C') (hs : sub c = true)
  (hxc : ∃ xc C, cl c = .ref C /\ XCls X.K X.mg xc C) (hcl : ¬ Dirt.d (cl c)) (hN : X.N.Nodup) (hi : X.N[i]? = some y) (hn : X.env.kindOf y = some .local)
  (hD : XCls X.K X.mg Dn CD) (ecD : cl Dn = .ref CD) (dirt : Dirt.d (cl Dn)) (hgD : Gl X Dn) (ha : ∀ a, AV (cxH X a) (fun _ _ => False) (e1 :: es1) d) (hd : ∀ G, ∃ ts, d G = .ok ts /\ ts.length <= 4)
  (hdD : (Dn == ("__debug__" : Str)) = false) (hdn : (y == ("__debug__" : Str)) = false) (he : starEach (e1 :: es1) X.env = (false, eval e1 X.env) :: starEach es1 X.env) (hpl : (backTo cpos (starEach es1 X.env)).any (·.1) = false)
  {T : Addr} (x : Exc X pins σ H a (cl c) (some (T, .none)) s) (h : Hol X.K H P σ G) (q : ∀ H' P', Go H P H' P' -> W Dn H') :
  wpAny (model X.prog X.w) X.A (noteFrame (.ref a) X.env) (fun _ s₂ => wpAny (model X.prog X.w) X.A (setFlight (.ref a) none) (fun _ s₃ => wpAny (model X.prog X.w) X.A (handleBy (.ref a) X.env [.ExceptHandler (some (.Name Cn np)) (some y) [.Raise (some (.Call (.Name Dn np2) (e1 :: es1) [] cpos)) (some (.Name y npos)) rpos] hpos]) Q (XE X cl W) s₃) (XE X cl W) s₂) (XE X cl W) s := by
 refine x.note F fun T1 s1 x1 => x1.flight (fr := none) fun s2 x2 => ?_
 obtain ⟨C, ec, hC⟩ := hsub c hs
 obtain ⟨xc, C2, ec2, hX⟩ := hxc
 have : C2 = C := by rw [ec] at ec2; cases ec2; rfl
 subst this
 obtain ⟨oe, vs, a0, b1, ho, hc, _⟩ := x2.ob.first
 refine wpAny_handleBy_cons (codeAny_handlers_test (Wb (X := cxH X a) (inv_h x2.inv) hgn hcn.bd ?_ hdb)) (by intro z; cases z)
 refine V3 x2.inv.kIn hcn ho (hc.trans ec) hC ?_
 refine codeAny_handlers_suite_as (Exc.flight (X := cxH X a) (fr := none) (exc_h x2) fun s3 x3 => ?_)
 obtain ⟨oe3, vs3, a03, b13, ho3, hc3, hd3, _, _, c2, hb3, hb4⟩ := x3.ob.first
 have hx0 : H a = none := x3.al.trk
 have z2 : c2 = .none := hb4.resolve_right hcl
 subst z2
 have I4 : Inv (cxH X a) pins σ (upd H a (XF a C2)) s3 := by
  refine Qy x3.inv x3.al ⟨⟨oe3, vs3, ho3, hc3.trans ec, hd3, hb3⟩, ⟨oe3, ho3⟩, ?_⟩
  rintro h1 h2 ⟨ob, vs, e1, e2, e3, e4⟩ k
  exact ⟨ob, vs, k ob e1, e2, e3, e4⟩
 refine WW (X := cxH X a) I4 hN hi (.inl hn) (v := .ref a) rfl (fun s4 I5 => ?_) (.inr hn)
 have sm0 : Same H (upd H a (XF a C2)) := ZX hx0
 obtain ⟨P', h5, g5⟩ := (h.same sm0).forget i (some (.ref a))
 obtain ⟨ts, ets, hts⟩ := hd (G.set i .emp)
 have hiσ : i < σ.length := by rw [x3.inv.len]; exact (List.getElem?_eq_some_iff.mp hi).1
 refine wpAny_execs_cons (za8 (Z := cxH X a) (C := C2) F.pin hD hX hgD (ha a) (fun _ _ z => z) rfl hi hn I5 (List.getElem?_set_self hiσ) ZS h5 ets hts (by rw [<- ecD]; exact dirt) (fun b H6 s5 E5 sm => ?_) hdD hdn he hpl)
 refine E5.note (za5 F) fun T2 s6 E6 => ?_
 refine E6.unbound (fun _ _ z => z) hN hi hn fun σ7 s7 E7 => ?_
 refine E7.pass fun fl s8 E8 => ?_
 refine E8.note (za5 F) fun T3 s9 E9 => ?_
 have E10 := exc_ob x2.inv.ok E9
 obtain ⟨oe9, vs9, a09, oT9, ts9, he9, hc9, hd9, h09, h19, _⟩ := id E10.ob
 show wpAny _ _ _ _ _ _
 refine wpAny_bind (wpAny_field he9 hd9 h19 ?_)
 rw [if_neg (show ¬ ((Value.ref T3 == Value.none) = true) from Bool.false_ne_true)]
 refine E10.flight (fr := X.env.frame) fun s10 E11 => ?_
 refine ⟨b, Dn, pins, σ7, H6, _, rfl, by rw [ecD]; exact E11, q H6 P' ?_⟩
 exact ((Go.same sm0).trans g5).trans (.same sm)
def Plain (X : Cx) (cl : Str -> Value) (sub : Str -> Bool) : Prop := ∀ c, sub c = true -> (∃ xc C, cl c = .ref C /\ XCls X.K X.mg xc C) /\ ¬ Dirt.d (cl c)
theorem zaE : Plain X cl (subs []) := fun c h => by simp [subs] at h
theorem JU {C : Addr} {c : Str} {cs : List Str} (e : cl c = .ref C) (u : XCls X.K X.mg c C) (nd : ¬ Dirt.d (.ref C)) (h : Plain X cl (subs cs)) : Plain X cl (subs (c :: cs)) := fun d hd => by
 simp only [subs, List.contains_cons, Bool.or_eq_true] at hd
 rcases hd with hd | hd
 ·have z : d = c := by simpa using hd
  subst z
  exact ⟨⟨_, C, e, u⟩, by rw [e]; exact nd⟩
 ·exact h d hd
theorem ss_tryF {Cn y Dn : Str} {i : Nat} {C' CD : Addr} {sub : Str -> Bool} {e1 : Expr} {es1 : List Expr} {d1 : DA} {ex : Expr} {es : List Expr} {k nps : Nat} {x : Str} {f : DF} {d : DA} {p cp np np2 cpos npos rpos hpos tpos pos : Pos} (F : InFrame X L) (C : Clx X.prog X.w X.K X.mg X.base cl k x nps f) (hr : Room k X.A) (hg : Gl X x) (ha : AV X.nox (fun _ _ => False) (ex :: es) d) (hcn : XCls X.K X.mg Cn C') (hgn : Gl X Cn) (hsub : Vc X cl sub C') (hok : Plain X cl sub)
  (hN : X.N.Nodup) (hi : X.N[i]? = some y) (hn : X.env.kindOf y = some .local) (hD : XCls X.K X.mg Dn CD) (ecD : cl Dn = .ref CD) (dirt : Dirt.d (.ref CD)) (hgD : Gl X Dn) (ha1 : ∀ a, AV (cxH X a) (fun _ _ => False) (e1 :: es1) d1) (hd1 : ∀ G, ∃ ts, d1 G = .ok ts /\ ts.length <= 4)
  (hL : ∀ G ts, d G = .ok ts -> ts.length = nps := by first | exact Uu | exact Qw | exact Ju | exact len_c4) (hdb : (x == ("__debug__" : Str)) = false := by decide) (hdn : (Cn == ("__debug__" : Str)) = false := by decide) (hdy : (y == ("__debug__" : Str)) = false := by decide) (hdD : (Dn == ("__debug__" : Str)) = false := by decide)
  (he : starEach (ex :: es) X.env = (false, eval ex X.env) :: starEach es X.env := by rfl) (hpl : (backTo cp (starEach es X.env)).any (·.1) = false := by rfl) (he1 : starEach (e1 :: es1) X.env = (false, eval e1 X.env) :: starEach es1 X.env := by rfl) (hpl1 : (backTo cpos (starEach es1 X.env)).any (·.1) = false := by rfl) :
  SV (Cx.xw X cl W) W false (.Try [.Return (some (.Call (.Name x p) (ex :: es) [] cp)) tpos] [.ExceptHandler (some (.Name Cn np)) (some y) [.Raise (some (.Call (.Name Dn np2) (e1 :: es1) [] cpos)) (some (.Name y npos)) rpos] hpos] [] [] pos) (zbd (W9 f d) sub Dn) := by
 intro pins s σ H D I ⟨G, P, h, q⟩
 obtain ⟨h', g⟩ := h.frzA
 unfold zbd W9 at q
 have J : Inv X pins σ H s := I.unwish
 cases ed : noX (d (frzA G)) with
 | exc c => rcases W3 (d (frzA G)) with ⟨t, z⟩ | z <;> (rw [ed] at z; cases z)
 | stuck => rw [ed] at q; exact q.elim
 | ok ts =>
  rw [ed, Res.bind_ok] at q
  have hd : d (frzA G) = .ok ts := Js ed
  refine wpAny_Try_except (wpAny_execs_cons (wpAny_Return_some (U6 C hr F.pin hg ha hL hdb he hpl J h' hd (fun z => ?_) (fun t et v u H' s' I' sm rl rv => ?_) fun c ec a T H' s' xx sm => ?_)))
  ·rw [z] at q; exact q.elim
  ·rw [et] at q
   exact ⟨v, σ, H', I'.wish _, rv, q v H' P.bare (g.trans (.same sm)) rl fun z => by cases z⟩
  ·rw [ec] at q
   dsimp only at q
   split at q
   ·rename_i hs
    exact handledF F hcn hgn hdn hsub hs (hok c hs).1 (hok c hs).2 hN hi hn hD ecD (by rw [ecD]; exact dirt) hgD ha1 hd1 hdD hdy he1 hpl1 xx (h.same sm) fun H2 P2 g2 => q H2 P2 ((Go.same sm).trans g2)
   ·exact q.elim
end
end Fx
namespace Fx
open PySem
theorem mulOk_r {i j : Int} (hj : j.natAbs < 18446744073709551616) : Vf i j = true := by
 simp only [Vf, Bool.or_eq_true, decide_eq_true_eq]
 exact .inr hj
theorem Q4 {i j : Int} (hi : i.natAbs < 18446744073709551616) : Vf i j = true := by
 simp only [Vf, Bool.or_eq_true, decide_eq_true_eq]
 exact .inl (.inr hi)
theorem abs_if (a : Int) : (if a < 0 then -a else a) = (a.natAbs : Int) := by split <;> omega
end Fx
namespace Fx
open PySem
theorem JC {st : PyData -> List Sl -> Res (List Sl)} {b : DS} (Inv : Nat -> List Sl -> Prop) : ∀ (ts : List PyData) (k : Nat) (G : List Sl), Inv k G ->
  (∀ i t G, ts[i]? = some t -> Inv (k + i) G -> ∃ G1, st t G = .ok G1 /\ ∃ G2, (b G1 = .ok (.nx G2) \/ b G1 = .ok (.ct G2)) /\ Inv (k + i + 1) G2) ->
  ∃ G', forL st b ts G = .ok (.nx G') /\ Inv (k + ts.length) G'
 | [], k, G, h0, _ => ⟨G, rfl, h0⟩
 | t :: ts, k, G, h0, hs => by
  obtain ⟨G1, e1, G2, e2, h2⟩ := hs 0 t G rfl h0
  obtain ⟨G', e3, h3⟩ := JC Inv ts (k + 1) G2 h2 fun i t' G' ht hi => by
   have := hs (i + 1) t' G' (by simpa using ht) (by rw [<- Nat.add_assoc, Nat.add_right_comm]; exact hi)
   simpa [Nat.add_assoc, Nat.add_comm, Nat.add_left_comm] using this
  refine ⟨G', ?_, by simpa [Nat.add_assoc, Nat.add_comm, Nat.add_left_comm] using h3⟩
  rw [forL, e1, Res.bind_ok]
  rcases e2 with e2 | e2 <;> rw [e2, Res.bind_ok] <;> exact e3
theorem Jg (lo : Int) (n : Nat) : (rngT lo n).length = n := by simp [rngT]
theorem rngT_at {lo : Int} {n i : Nat} {t : PyData} (h : (rngT lo n)[i]? = some t) : i < n /\ t = .int (lo + (i : Int)) := by
 unfold rngT at h
 rw [List.getElem?_map] at h
 by_cases hi : i < n
 ·rw [List.getElem?_eq_getElem (by simpa using hi)] at h
  simp at h
  exact ⟨hi, h.symm⟩
 ·rw [List.getElem?_eq_none (by simpa using hi)] at h
  cases h
theorem for_rng {st : PyData -> List Sl -> Res (List Sl)} {b : DS} {n : Nat} {G : List Sl} (Inv : Nat -> List Sl -> Prop) (h0 : Inv 0 G)
  (hs : ∀ i G, i < n -> Inv i G -> ∃ G1, st (.int (i : Int)) G = .ok G1 /\ ∃ G2, (b G1 = .ok (.nx G2) \/ b G1 = .ok (.ct G2)) /\ Inv (i + 1) G2) :
  ∃ G', forL st b (rngT 0 n) G = .ok (.nx G') /\ Inv n G' := by
 obtain ⟨G', e, h⟩ := JC Inv (rngT 0 n) 0 G h0 fun i t G ht hi => by
  obtain ⟨hl, rfl⟩ := rngT_at ht
  simpa using hs i G hl (by simpa using hi)
 refine ⟨G', e, ?_⟩
 rw [Jg] at h
 simpa using h
theorem QH {st : PyData -> List Sl -> Res (List Sl)} {e : DE} {C : List Sl} (f : PyData -> PyData) : ∀ (ts : List PyData), (∀ t ∈ ts, ∃ G1, st t C = .ok G1 /\ e G1 = .ok (f t)) -> Yc st tT e C ts = .ok (ts.map f)
 | [], _ => rfl
 | t :: ts, h => by
  obtain ⟨G1, e1, e2⟩ := h t List.mem_cons_self
  have ih := QH f ts fun t' ht => h t' (List.mem_cons_of_mem _ ht)
  unfold Yc
  simp [e1, e2, ih]
theorem Vb {α : Type} {st : PyData -> List Sl -> Res (List Sl)} {e : DE} {C : List Sl} (inj f : α -> PyData) : ∀ (xs : List α), (∀ x ∈ xs, ∃ G1, st (inj x) C = .ok G1 /\ e G1 = .ok (f x)) -> Yc st tT e C (xs.map inj) = .ok (xs.map f)
 | [], _ => rfl
 | t :: ts, h => by
  obtain ⟨G1, e1, e2⟩ := h t List.mem_cons_self
  have ih := Vb inj f ts fun t' ht => h t' (List.mem_cons_of_mem _ ht)
  rw [List.map_cons]
  unfold Yc
  simp [e1, e2, ih]
theorem rngT_map (n : Nat) : rngT 0 n = (List.range n).map fun (k : Nat) => PyData.int (k : Int) := by simp [rngT]
theorem Vl {α : Type} {f : α -> PyData} : ∀ (xs : List α), (∀ x ∈ xs, (f x).canLay0 = true) -> PyData.canLayAll0 (xs.map f) = true
 | [], _ => by simp [PyData.canLayAll0]
 | x :: xs, h => by simp [PyData.canLayAll0, h x List.mem_cons_self, Vl xs fun y hy => h y (List.mem_cons_of_mem _ hy)]
theorem V6 {α : Type} {f : α -> PyData} {n : Nat} : ∀ (xs : List α), (∀ x ∈ xs, (f x).depth <= n) -> PyData.depthAll (xs.map f) <= n
 | [], _ => by simp [PyData.depthAll]
 | x :: xs, h => by
  have h1 := h x List.mem_cons_self
  have h2 := V6 (f := f) (n := n) xs fun y hy => h y (List.mem_cons_of_mem _ hy)
  simp only [List.map_cons, PyData.depthAll]
  omega
def Shp (n : Nat) (t : PyData) : Prop := t.canLay0 = true /\ t.depth <= n
theorem Shp.ok {n : Nat} {t : PyData} (h : Shp n t) (hn : n <= 64) : ZF t = true := by
 simp [ZF, h.1]; exact Nat.le_trans h.2 hn
theorem Shp.mono {m n : Nat} {t : PyData} (h : Shp m t) (l : m <= n) : Shp n t := ⟨h.1, Nat.le_trans h.2 l⟩
theorem UH (i : Int) : Shp 0 (.int i) := ⟨by simp [PyData.canLay0], by simp [PyData.depth]⟩
theorem shp_list {α : Type} {f : α -> PyData} {n : Nat} {xs : List α} (h : ∀ x ∈ xs, Shp n (f x)) : Shp (n + 1) (.list (xs.map f)) := by
 refine ⟨by simp [PyData.canLay0, Vl xs fun x hx => (h x hx).1], ?_⟩
 have := V6 (f := f) (n := n) xs fun x hx => (h x hx).2
 simp [PyData.depth]; omega
theorem VP {α : Type} {f : α -> PyData} {n : Nat} {xs : List α} (h : ∀ x ∈ xs, Shp n (f x)) : Shp (n + 1) (.tuple (xs.map f)) := by
 refine ⟨by simp [PyData.canLay0, Vl xs fun x hx => (h x hx).1], ?_⟩
 have := V6 (f := f) (n := n) xs fun x hx => (h x hx).2
 simp [PyData.depth]; omega
theorem Jd {n : Nat} {a b : PyData} (ha : Shp n a) (hb : Shp n b) : Shp (n + 1) (.tuple [a, b]) := by
 have := VP (f := id) (n := n) (xs := [a, b]) (by intro x hx; simp at hx; rcases hx with rfl | rfl <;> assumption)
 simpa using this
mutual
theorem JH : ∀ (t : PyData), t.canLay0 = true -> t.eqv t = true
 | .none, _ => by simp [PyData.eqv]
 | .bool b, _ => by simp [PyData.eqv]
 | .int i, _ => by simp [PyData.eqv]
 | .str x, _ => by simp [PyData.eqv]
 | .list xs, h => by simp only [PyData.eqv]; exact WM xs (by simpa [PyData.canLay0] using h)
 | .tuple xs, h => by simp only [PyData.eqv]; exact WM xs (by simpa [PyData.canLay0] using h)
 | .dict _, h => by simp [PyData.canLay0] at h
theorem WM : ∀ (ts : List PyData), PyData.canLayAll0 ts = true -> PyData.eqvAll ts ts = true
 | [], _ => by simp [PyData.eqvAll]
 | t :: ts, h => by
  simp only [PyData.canLayAll0, Bool.and_eq_true] at h
  simp [PyData.eqvAll, JH t h.1, WM ts h.2]
end
theorem fEq_refl {n : Nat} {t : PyData} (h : Shp n t) (hn : n <= 64) : fEq t t = .ok (.bool true) := by
 unfold fEq
 split
 ·simp
 ·simp [h.ok hn, JH t h.1]
end Fx
namespace Lw
open PySem Fx
def Uz : DS :=
  (dRet (dAndV (d1 (fIs isInt) (dVar 0)) (dNotV (d1 (fIs isBool) (dVar 0)))))
def YB : DF := runQ 1 1 Uz
def Yi : DS :=
  (dRet (dAndV (ZG YB (Zc (dVar 0) dNil)) (d2 fLe (d1 fAbs (dVar 0)) (dC (.int 999999999999)))))
def Zv : DF := runQ 1 1 Yi
def Xt : DS :=
  (dRet (d2 fAdd (d2 fMul (d2 fIx (dVar 0) (d2 fMod (dVar 1) (d1 fLen (dVar 0)))) (dC (.int 31))) (dVar 1)))
def YN : DS :=
  dSeq (dIf (tV (d2 fEq (dVar 0) (dLst dNil)))
  (dRet (dC (.int 0)))
  Z7)
  Xt
def Xh : DS :=
  dSeq (dIf (tV (d2 fLt (dVar 1) (d1 fLen (dVar 0))))
  (dRet (d2 fIx (dVar 0) (dVar 1)))
  Z7)
  YN
def Zh : DF := runQ 2 2 Xh
def XN : DS :=
  (dRet (dVar 2))
def XQ : DS :=
  dSeq (dIf (tV (d2 fGt (dVar 2) (dVar 1)))
  (dRet (d2 fSub (d2 fSub (dVar 2) (d2 fMul (dC (.int 2)) (dVar 1))) (dC (.int 1))))
  Z7)
  XN
def Wk : DS :=
  dSeq (dSet 2 [] (d2 fMod (dVar 0) (d2 fAdd (d2 fMul (dC (.int 2)) (dVar 1)) (dC (.int 1)))))
  XQ
def ZJ : DF := runQ 3 2 Wk
def Vw : DS :=
  (dRet (dTup (Zc (dVar 1) (Zc (dVar 4) dNil))))
def Vx : DS :=
  dSeq (dFor (ZI 5) [] (iRng (dVar 2))
  (dSeq (dSet 6 [] (d2 fAdd (dC (.int 8)) (d2 fMul (dVar 5) (d2 fAdd (dVar 1) (dC (.int 1))))))
  (dSeq (dSet 7 [] (dL (WF 1 [0, 6, 3] (ZI 0) (iRng (dVar 1)) tT (ZG ZJ (Zc (ZG Zh (Zc (dVar 1) (Zc (d2 fAdd (dVar 2) (dVar 0)) dNil))) (Zc (dVar 3) dNil))))))
  (dSeq (dSet 8 [] (ZG ZJ (Zc (ZG Zh (Zc (dVar 0) (Zc (d2 fAdd (dVar 6) (dVar 1)) dNil))) (Zc (dVar 3) dNil))))
  (dSeq (dIf (tV (d2 fEq (d2 fMod (ZG Zh (Zc (dVar 0) (Zc (dC (.int 4)) dNil))) (dC (.int 2))) (dC (.int 1))))
  (dSet 8 [] (d1 fAbs (dVar 8)))
  Z7)
  (dApp 4 [] (dTup (Zc (dVar 7) (Zc (dVar 8) dNil)))))))))
  Vw
def Wl : DS :=
  dSeq (zad 4 [] (oLst dNil))
  Vx
def XC : DS :=
  dSeq (dIf (tV (d2 fGt (dVar 3) (dC (.int 9))))
  (dSeq (dSet 1 [] (d2 fAdd (dC (.int 1)) (d2 fMod (dVar 1) (dC (.int 2)))))
  (dSet 2 [] (d2 fMod (dVar 2) (dC (.int 4)))))
  Z7)
  Wl
def Y7 : DS :=
  dSeq (dIf (tV (d2 fEq (d2 fMod (ZG Zh (Zc (dVar 0) (Zc (dC (.int 3)) dNil))) (dC (.int 6))) (dC (.int 5))))
  (dSeq (dSet 1 [] (dC (.int 4)))
  (dSeq (dSet 2 [] (dC (.int 10)))
  (dSet 3 [] (dC (.int 2)))))
  Z7)
  XC
def Vy : DS :=
  dSeq (dSet 3 [] (d2 fIx (dLst (Zc (dC (.int 3)) (Zc (dC (.int 3)) (Zc (dC (.int 9)) (Zc (d2 fSub (d2 fPow (dC (.int 10)) (dC (.int 12))) (dC (.int 1))) dNil))))) (d2 fMod (ZG Zh (Zc (dVar 0) (Zc (dC (.int 2)) dNil))) (dC (.int 4)))))
  Y7
def Vz : DS :=
  dSeq (dSet 2 [] (d2 fMod (ZG Zh (Zc (dVar 0) (Zc (dC (.int 1)) dNil))) (dC (.int 6))))
  Vy
def Uy : DS :=
  dSeq (dSet 1 [] (d2 fAdd (dC (.int 1)) (d2 fMod (ZG Zh (Zc (dVar 0) (Zc (dC (.int 0)) dNil))) (dC (.int 3)))))
  Vz
def Xn : DF := runQ 9 1 Uy
end Lw
namespace Lw
open PySem Fx
theorem at0 (x y : PyData) : atP [x, y] 0 = some x := rfl
theorem at1 (x y : PyData) : atP [x, y] 1 = some y := rfl
theorem at_lt {ns : List Int} {k : Int} (h0 : 0 <= k) (h : k < ns.length) : ∃ c : Int, atP (ns.map .int) k = some (.int c) := by
 have hk : k.toNat < ns.length := by omega
 refine ⟨ns[k.toNat], ?_⟩
 simp [atP, ixP, h0, h, hk]
theorem VQ : ∀ ns : List Int, ZF (.list (ns.map .int)) = true := by
 intro ns
 have h1 : ∀ ns : List Int, PyData.canLayAll0 (ns.map .int) = true := by
  intro ns
  induction ns with
  | nil => simp [PyData.canLayAll0]
  | cons n ns ih => simp [PyData.canLayAll0, PyData.canLay0, ih]
 have h2 : ∀ ns : List Int, PyData.depthAll (ns.map .int) = 0 := by
  intro ns
  induction ns with
  | nil => simp [PyData.depthAll]
  | cons n ns ih => simp [PyData.depthAll, PyData.depth, ih]
 simp [ZF, PyData.canLay0, PyData.depth, h1, h2]
theorem eqv_nil (ns : List Int) : PyData.eqv (.list (ns.map .int)) (.list []) = ns.isEmpty := by
 cases ns <;> simp [PyData.eqv, PyData.eqvAll]
theorem Uk : ZF (.list []) = true := VQ []
theorem X5 (ns : List Int) (k : Int) (h0 : 0 <= k) : ∃ c : Int, Zh [.list (ns.map .int), .int k] = .ok (.int c) := by
 by_cases h : k < ns.length
 ·obtain ⟨c, e⟩ := at_lt h0 h
  exact ⟨c, by simp [Zh, runQ, runF, Xh, YN, Xt, h, e]⟩
 ·by_cases hz : ns = []
  ·subst hz
   exact ⟨0, by
    have z := Uk
    have hk : ¬ k < 0 := by omega
    simp [Zh, runQ, runF, Xh, YN, fEq, z, hk, PyData.eqv, PyData.eqvAll]⟩
  ·have hl : (0 : Int) < ns.length := by
    have : ns.length ≠ 0 := by simpa using hz
    omega
   have hf : Int.fmod k ns.length = k % ns.length := Int.fmod_eq_emod_of_nonneg _ (by omega)
   obtain ⟨c, e⟩ := at_lt (ns := ns) (k := k % ns.length) (Int.emod_nonneg _ (by omega)) (Int.emod_lt_of_pos _ hl)
   have hE : ns.isEmpty = false := by simpa using hz
   have o : Vf c 31 = true := mulOk_r (by decide)
   refine ⟨c * 31 + k, ?_⟩
   simp [Zh, runQ, runF, Xh, YN, Xt, h, fEq, VQ, Uk, eqv_nil, hE, hz, hf, e, o]
theorem Qs (c w : Int) (hw : 0 <= w) (hs : w.natAbs < 2 ^ 67) : ∃ r : Int, ZJ [.int c, .int w] = .ok (.int r) /\ -w <= r /\ r <= w := by
 have o : Vf 2 w = true := Q4 (by decide)
 have hm : 2 * w + 1 ≠ 0 := by omega
 have hf : Int.fmod c (2 * w + 1) = c % (2 * w + 1) := Int.fmod_eq_emod_of_nonneg _ (by omega)
 have h1 : 0 <= c % (2 * w + 1) := Int.emod_nonneg _ hm
 have h2 : c % (2 * w + 1) < 2 * w + 1 := Int.emod_lt_of_pos _ (by omega)
 by_cases h : w < c % (2 * w + 1)
 ·refine ⟨c % (2 * w + 1) - 2 * w - 1, ?_, by omega, by omega⟩
  simp [ZJ, runQ, runF, Wk, XQ, XN, o, hm, hf, h]
 ·refine ⟨c % (2 * w + 1), ?_, by omega, by omega⟩
  simp [ZJ, runQ, runF, Wk, XQ, XN, o, hm, hf, h]
@[simp] def noD : PyData -> Bool
 | .dict _ => false
 | _ => true
theorem Wr (t : PyData) (h : noD t = true) : YB [t] = .ok (.bool (match t with | .int _ => true | _ => false)) := by
 cases t <;> simp [YB, runQ, runF, Uz] at h ⊢
theorem YE (i : Int) : YB [.int i] = .ok (.bool true) := Wr (.int i) rfl
theorem V9 {α : Type} {f : α -> PyData} {xs : List α} {i : Nat} (h : i < xs.length) : atP (xs.map f) (i : Int) = some (f xs[i]) := by
 simp [atP, ixP, h]
end Lw
namespace Lw
open PySem Fx
abbrev Lim := List Int × Int
def limL (l : Lim) : PyData := .tuple [.list (l.1.map .int), .int l.2]
def limT (l : Lim) : PyData := .tuple [.tuple (l.1.map .int), .int l.2]
structure DeskOk (k w : Nat) (ls : List Lim) : Prop where
 k1 : 1 <= k
 k4 : k <= 4
 len : ls.length <= 10
 ws : ∀ l ∈ ls, l.1.length = k /\ (∀ x ∈ l.1, x.natAbs <= w) /\ l.2.natAbs <= w
 small : (k = 4 /\ ls.length = 10 /\ w = 2) \/ (k <= 3 /\ ls.length <= 5 /\ w <= 9) \/ (k <= 2 /\ ls.length <= 3 /\ w = 999999999999)
theorem X7 {c : Int} {n : Nat} (h : 0 < n) : ∃ r : Nat, Int.fmod c (n : Int) = (r : Int) /\ r < n := by
 rw [Int.fmod_eq_emod_of_nonneg _ (by omega)]
 have h1 := Int.emod_nonneg c (b := (n : Int)) (by omega)
 have h2 := Int.emod_lt_of_pos c (b := (n : Int)) (by omega)
 exact ⟨(c % n).toNat, by omega, by omega⟩
def zag : DS := (dSeq (dSet 6 [] (d2 fAdd (dC (.int 8)) (d2 fMul (dVar 5) (d2 fAdd (dVar 1) (dC (.int 1))))))
  (dSeq (dSet 7 [] (dL (WF 1 [0, 6, 3] (ZI 0) (iRng (dVar 1)) tT (ZG ZJ (Zc (ZG Zh (Zc (dVar 1) (Zc (d2 fAdd (dVar 2) (dVar 0)) dNil))) (Zc (dVar 3) dNil))))))
  (dSeq (dSet 8 [] (ZG ZJ (Zc (ZG Zh (Zc (dVar 0) (Zc (d2 fAdd (dVar 6) (dVar 1)) dNil))) (Zc (dVar 3) dNil))))
  (dSeq (dIf (tV (d2 fEq (d2 fMod (ZG Zh (Zc (dVar 0) (Zc (dC (.int 4)) dNil))) (dC (.int 2))) (dC (.int 1))))
  (dSet 8 [] (d1 fAbs (dVar 8)))
  Z7)
  (dApp 4 [] (dTup (Zc (dVar 7) (Zc (dVar 8) dNil))))))))
theorem QG (ns : List Int) (at_ w : Nat) (hw : w <= 999999999999) : ∀ (ks : List Nat), ∃ rs : List Int, Yc (ZI 0) tT (ZG ZJ (Zc (ZG Zh (Zc (dVar 1) (Zc (d2 fAdd (dVar 2) (dVar 0)) dNil))) (Zc (dVar 3) dNil)))
  [.emp, .val (.list (ns.map .int)), .val (.int at_), .val (.int w)] (ks.map fun (k : Nat) => PyData.int (k : Int)) = .ok (rs.map .int) /\ rs.length = ks.length /\ ∀ x ∈ rs, x.natAbs <= w
 | [] => ⟨[], rfl, rfl, by simp⟩
 | k :: ks => by
  obtain ⟨rs, e, hl, hb⟩ := QG ns at_ w hw ks
  obtain ⟨c, e1⟩ := X5 ns ((at_ : Int) + (k : Int)) (by omega)
  obtain ⟨r, e2, h1, h2⟩ := Qs c w (by omega) (by omega)
  refine ⟨r :: rs, ?_, by simp [hl], ?_⟩
  ·rw [List.map_cons]
   unfold Yc
   simp [e1, e2, e]
  ·intro x hx
   rcases List.mem_cons.mp hx with rfl | hx
   ·omega
   ·exact hb x hx
theorem zbb (ns : List Int) (k many w i : Nat) (hk : 1 <= k /\ k <= 4) (hi : i < 100) (hw : w <= 999999999999) (xs : List PyData) (hx : xs.length < 100) (s6 s7 s8 : Sl) : ∃ (l : Lim) (s6' s7' s8' : Sl), (l.1.length = k /\ (∀ x ∈ l.1, x.natAbs <= w) /\ l.2.natAbs <= w) /\
  zag [.val (.list (ns.map .int)), .val (.int k), .val (.int many), .val (.int w), .own xs, .val (.int i), s6, s7, s8] = .ok (.nx [.val (.list (ns.map .int)), .val (.int k), .val (.int many), .val (.int w), .own (xs ++ [limL l]), .val (.int i), s6', s7', s8']) := by
 obtain ⟨a, e1'⟩ : ∃ a : Nat, (8 : Int) + (i : Int) * ((k : Int) + 1) = (a : Int) := ⟨8 + i * (k + 1), by simp⟩
 obtain ⟨rs, e1, hl, hb⟩ := QG ns a w hw (List.range k)
 have hk2 := Ql (n := k) (by omega)
 obtain ⟨c, e2⟩ := X5 ns ((a : Int) + (k : Int)) (by omega)
 obtain ⟨r, e3, h1, h2⟩ := Qs c w (by omega) (by omega)
 obtain ⟨c4, e4⟩ := X5 ns 4 (by omega)
 have m1 : Vf (i : Int) ((k : Int) + 1) = true := Q4 (by omega)
 have hxl : xs.length < 16777216 := by omega
 have hk3 : k <= 16777216 := by omega
 rw [<- rngT_map] at e1
 have e1k : (if (rngT 0 k).length <= 16777216 then Yc (ZI 0) tT (ZG ZJ (Zc (ZG Zh (Zc (dVar 1) (Zc (d2 fAdd (dVar 2) (dVar 0)) dNil))) (Zc (dVar 3) dNil)))
  [.emp, .val (.list (ns.map .int)), .val (.int a), .val (.int w)] (rngT 0 k) else .stuck) = .ok (rs.map .int) := by rw [Jg, if_pos hk3, e1]
 have step : ∀ G, zag [.val (.list (ns.map .int)), .val (.int k), .val (.int many), .val (.int w), .own xs, .val (.int i), s6, s7, s8] = .ok (.nx G) ↔
   (dSeq (dIf (tV (d2 fEq (d2 fMod (ZG Zh (Zc (dVar 0) (Zc (dC (.int 4)) dNil))) (dC (.int 2))) (dC (.int 1)))) (dSet 8 [] (d1 fAbs (dVar 8))) Z7) (dApp 4 [] (dTup (Zc (dVar 7) (Zc (dVar 8) dNil)))))
    [.val (.list (ns.map .int)), .val (.int k), .val (.int many), .val (.int w), .own xs, .val (.int i), .val (.int a), .val (.list (rs.map .int)), .val (.int r)] = .ok (.nx G) := fun G => by
  unfold zag
  simp only [dSeq, dSet_nil, d2, dC, dVar, Res.bind_ok, dL, WF, iRng, capS, List.map_cons, List.map_nil, ZG, Zc, dNil]
  simp [m1, e1', hk2, e1k, e2, e3]
 by_cases h4 : Int.fmod c4 2 = 1
 ·refine ⟨(rs, (r.natAbs : Int)), .val (.int a), .val (.list (rs.map .int)), .val (.int (r.natAbs : Int)), ⟨by simpa using hl, hb, by simp; omega⟩, (step _).mpr ?_⟩
  have ha : (if r < 0 then -r else r) = (r.natAbs : Int) := abs_if r
  simp [e4, fEq, h4, ha, hxl, limL]
 ·refine ⟨(rs, r), .val (.int a), .val (.list (rs.map .int)), .val (.int r), ⟨by simpa using hl, hb, by omega⟩, (step _).mpr ?_⟩
  simp [e4, fEq, h4, hxl, limL]
theorem zbc (ns : List Int) (k many w : Nat) (hk : 1 <= k /\ k <= 4) (hm : many <= 10) (hw : w <= 999999999999) : ∃ (ls : List Lim) (G' : List Sl), ls.length = many /\ (∀ l ∈ ls, l.1.length = k /\ (∀ x ∈ l.1, x.natAbs <= w) /\ l.2.natAbs <= w) /\
  (∃ s5 s6 s7 s8, G' = [.val (.list (ns.map .int)), .val (.int k), .val (.int many), .val (.int w), .own (ls.map limL), s5, s6, s7, s8]) /\
  forL (ZI 5) zag (rngT 0 many) [.val (.list (ns.map .int)), .val (.int k), .val (.int many), .val (.int w), .own [], .emp, .emp, .emp, .emp] = .ok (.nx G') := by
 obtain ⟨G', e, ls, s5, s6, s7, s8, hl, hb, rfl⟩ := for_rng (st := ZI 5) (b := zag) (n := many) (G := [.val (.list (ns.map .int)), .val (.int k), .val (.int many), .val (.int w), .own [], .emp, .emp, .emp, .emp])
  (fun i G => ∃ (ls : List Lim) (s5 s6 s7 s8 : Sl), ls.length = i /\ (∀ l ∈ ls, l.1.length = k /\ (∀ x ∈ l.1, x.natAbs <= w) /\ l.2.natAbs <= w) /\ G = [.val (.list (ns.map .int)), .val (.int k), .val (.int many), .val (.int w), .own (ls.map limL), s5, s6, s7, s8])
  ⟨[], .emp, .emp, .emp, .emp, rfl, by simp, rfl⟩ fun i G hi ⟨ls, s5, s6, s7, s8, hl, hb, hG⟩ => by
   subst hG
   obtain ⟨l, s6', s7', s8', hlk, e⟩ := zbb ns k many w i hk (by omega) hw (ls.map limL) (by rw [List.length_map]; omega) s6 s7 s8
   refine ⟨_, rfl, _, .inl e, ls ++ [l], .val (.int i), s6', s7', s8', by simp [hl], ?_, by simp⟩
   intro l' hl'
   rcases List.mem_append.mp hl' with h | h
   ·exact hb l' h
   ·simp at h; subst h; exact hlk
 exact ⟨ls, _, hl, hb, ⟨s5, s6, s7, s8, rfl⟩, e⟩
theorem at4 {a b c d : PyData} {r : Nat} (h : r < 4) : atP [a, b, c, d] (r : Int) = some (if r = 0 then a else if r = 1 then b else if r = 2 then c else d) := by
 match r, h with
 | 0, _ => rfl
 | 1, _ => rfl
 | 2, _ => rfl
 | 3, _ => rfl
theorem big12' : (10 : Int) ^ 12 = 1000000000000 := by decide
theorem V5 (ns : List Int) (k many w : Nat) (hk : 1 <= k /\ k <= 4) (hm : many <= 10) (hw : w <= 999999999999) (hs : (k = 4 /\ many = 10 /\ w = 2) \/ (k <= 3 /\ many <= 5 /\ w <= 9) \/ (k <= 2 /\ many <= 3 /\ w = 999999999999)) :
  ∃ (ls : List Lim), DeskOk k w ls /\ Wl [.val (.list (ns.map .int)), .val (.int k), .val (.int many), .val (.int w), .emp, .emp, .emp, .emp, .emp] = .ok (.rt (.tuple [.int k, .list (ls.map limL)])) := by
 obtain ⟨ls, G', hl, hb, ⟨s5, s6, s7, s8, rfl⟩, e⟩ := zbc ns k many w hk hm hw
 have h2 := Ql (n := many) (by omega)
 refine ⟨ls, ⟨hk.1, hk.2, by omega, hb, by rw [hl]; exact hs⟩, ?_⟩
 simp only [zag] at e
 simp [Wl, Vx, Vw, h2, e]
theorem desk_ok (ns : List Int) : ∃ (k w : Nat) (ls : List Lim), DeskOk k w ls /\ Xn [.list (ns.map .int)] = .ok (.tuple [.int k, .list (ls.map limL)]) := by
 obtain ⟨c0, e0⟩ := X5 ns 0 (by omega)
 obtain ⟨c1, e1⟩ := X5 ns 1 (by omega)
 obtain ⟨c2, e2⟩ := X5 ns 2 (by omega)
 obtain ⟨c3, e3⟩ := X5 ns 3 (by omega)
 obtain ⟨r0, m0, h0⟩ : ∃ r : Nat, Int.fmod c0 3 = (r : Int) /\ r < 3 := X7 (n := 3) (by decide)
 obtain ⟨r1, m1, h1⟩ : ∃ r : Nat, Int.fmod c1 6 = (r : Int) /\ r < 6 := X7 (n := 6) (by decide)
 obtain ⟨r2, m2, h2⟩ : ∃ r : Nat, Int.fmod c2 4 = (r : Int) /\ r < 4 := X7 (n := 4) (by decide)
 obtain ⟨r3, m3, h3⟩ : ∃ r : Nat, Int.fmod c3 6 = (r : Int) /\ r < 6 := X7 (n := 6) (by decide)
 have a4 := at4 (a := .int 3) (b := .int 3) (c := .int 9) (d := .int 999999999999) h2
 obtain ⟨w, aw, hw⟩ : ∃ w : Nat, atP [.int 3, .int 3, .int 9, .int 999999999999] (r2 : Int) = some (.int w) /\ (w <= 9 \/ w = 999999999999) := by
  rw [a4]
  by_cases q0 : r2 = 0
  ·exact ⟨3, by simp [q0], .inl (by decide)⟩
  ·by_cases q1 : r2 = 1
   ·exact ⟨3, by simp [q1], .inl (by decide)⟩
   ·by_cases q2 : r2 = 2
    ·exact ⟨9, by simp [q2], .inl (by decide)⟩
    ·exact ⟨999999999999, by simp [q0, q1, q2], .inr rfl⟩
 -- the three ways
 have top : ∀ (G : List Sl) (t : PyData), Y7 [.val (.list (ns.map .int)), .val (.int (1 + (r0 : Int))), .val (.int r1), .val (.int w), .emp, .emp, .emp, .emp, .emp] = .ok (.rt t) -> Xn [.list (ns.map .int)] = .ok t := fun _ t h => by
  simp [Xn, runQ, runF, Uy, Vz, Vy, e0, e1, e2, m0, m1, m2, big12', aw, h]
 by_cases h35 : r3 = 5
 ·obtain ⟨ls, ok, e⟩ := V5 ns 4 10 2 (by decide) (by decide) (by decide) (.inl (by decide))
  refine ⟨_, _, ls, ok, top [] _ ?_⟩
  simp [Y7, XC, e3, m3, h35, fEq]
  exact e
 ·have h35' : ¬ ((r3 : Int) = 5) := by omega
  rcases hw with hw | hw
  ·obtain ⟨ls, ok, e⟩ := V5 ns (1 + r0) r1 w (by omega) (by omega) (by omega) (.inr (.inl (by omega)))
   refine ⟨_, _, ls, ok, top [] _ ?_⟩
   have hw9 : ¬ (9 < (w : Int)) := by omega
   simp [Y7, XC, e3, m3, h35', fEq, hw9]
   exact e
  ·obtain ⟨rk, mk, hk⟩ : ∃ r : Nat, Int.fmod (1 + (r0 : Int)) 2 = (r : Int) /\ r < 2 := X7 (n := 2) (by decide)
   obtain ⟨rm, mm, hm⟩ : ∃ r : Nat, Int.fmod (r1 : Int) 4 = (r : Int) /\ r < 4 := X7 (n := 4) (by decide)
   obtain ⟨ls, ok, e⟩ := V5 ns (1 + rk) rm w (by omega) (by omega) (by omega) (.inr (.inr (by omega)))
   refine ⟨_, _, ls, ok, top [] _ ?_⟩
   have hw9 : 9 < (w : Int) := by omega
   simp [Y7, XC, e3, m3, h35', fEq, hw9, mk, mm]
   exact e
end Lw
namespace Lw
open PySem Fx
theorem JA {i : Int} (h : i.natAbs <= 999999999999) : Zv [.int i] = .ok (.bool true) := by
 have : (if i < 0 then -i else i) <= 999999999999 := by split <;> omega
 simp [Zv, runQ, runF, Yi, YE, this]
theorem QR {α : Type} : ∀ (xs : List α), allT (xs.map fun _ => PyData.bool true) = .ok true
 | [] => rfl
 | _ :: xs => by simp [allT, QR xs]
structure LimOk (k w : Nat) (l : Lim) : Prop where
 len : l.1.length = k
 ws : ∀ x ∈ l.1, x.natAbs <= w
 bd : l.2.natAbs <= w
theorem DeskOk.lim {k w : Nat} {ls : List Lim} (h : DeskOk k w ls) : ∀ l ∈ ls, LimOk k w l := fun l hl => ⟨(h.ws l hl).1, (h.ws l hl).2.1, (h.ws l hl).2.2⟩
theorem DeskOk.wb {k w : Nat} {ls : List Lim} (h : DeskOk k w ls) : w <= 999999999999 := by rcases h.small with h | h | h <;> omega
end Lw
namespace K20
open PySem Fx Lw
def Xa : DS :=
  (dRet (d2 YI (d2 YI (dVar 3) (d1 fStr (dVar 1))) (d1 JE (dVar 2))))
def Xb : DS :=
  dSeq (dSet 3 [] (dIfE (tV (d2 fLt (dVar 0) (dC (.int 0)))) (dC (.str (PySem.Str.ofString "-"))) (dC (.str (PySem.Str.ofString "")))))
  Xa
def Xc : DS :=
  dSeq (dWh0 (tV (d2 fGe (dVar 1) (d2 fPow (dC (.int 10)) (dC (.int 64))))))
  Xb
def Xd : DS :=
  dSeq (zad 2 [] (oLst dNil))
  Xc
def XL : DS :=
  dSeq (dSet 1 [] (d1 fAbs (dVar 0)))
  Xd
def Zi : DF := runQ 4 1 XL
def Wm : DS :=
  (dIf (tNot (tV (d1 (fIs J2) (dVar 0))))
  (XD "NoText" (Zc (dC (.str (PySem.Str.ofString "what is read is a text"))) dNil))
  Z7)
def Zo : DF := runF 1 1 Wm
def We : DS :=
  (dRet (dVar 2))
def Xq : DS :=
  dSeq (dIf (tV (d2 fNe (ZG Zi (Zc (dVar 2) dNil)) (dVar 0)))
  (XD "NoText" (Zc (dC (.str (PySem.Str.ofString "a number has no nought ahead of other figures, and nought no sign"))) dNil))
  Z7)
  We
def YJ : DS :=
  dSeq (dSet 2 [] (d1 za7 (dVar 0)))
  Xq
def Wf : DS :=
  dSeq (dIf (tNot (tV (d1 fAll (dL (WF 1 [] (ZI 0) (iStr (dVar 1)) tT (d2 fInS (dVar 0) (dC (.str (PySem.Str.ofString "0123456789")))))))))
  (XD "NoText" (Zc (dC (.str (PySem.Str.ofString "a number is written in figures"))) dNil))
  Z7)
  YJ
def Z5 : DS :=
  dSeq (dIf (tOr (tV (d2 fLt (d1 X9 (dVar 1)) (dC (.int 1)))) (tV (d2 fGt (d1 X9 (dVar 1)) (dC (.int 30)))))
  (XD "NoText" (Zc (dC (.str (PySem.Str.ofString "a number has 1 to 30 figures"))) dNil))
  Z7)
  Wf
def W7 : DS :=
  dSeq (dSet 1 [] (dIfE (tV (dM1 gSw (dVar 0) (dC (.str (PySem.Str.ofString "-"))))) (XY (dVar 0) (pAt (dC (.int 1))) pNo) (dVar 0)))
  Z5
def Zg : DF := runF 3 1 W7
end K20
namespace K03
open PySem Fx Lw
def Vv : DS :=
  (dRet (dTup (Zc (d1 Uw (dVar 2)) (Zc (dVar 3) dNil))))
def Wg : DS :=
  dSeq (dIf (tNot (tV (ZG Zv (Zc (dVar 3) dNil))))
  (XD "NoDesk" (Zc (dC (.str (PySem.Str.ofString "a bound is a whole number of at most 12 figures"))) dNil))
  Z7)
  Vv
def Xz : DS :=
  dSeq (dIf (tNot (tV (d1 fAll (dL (WF 1 [] (ZI 0) (iSeq (dVar 2)) tT (ZG Zv (Zc (dVar 0) dNil)))))))
  (XD "NoDesk" (Zc (dC (.str (PySem.Str.ofString "a weight is a whole number of at most 12 figures"))) dNil))
  Z7)
  Wg
def Y3 : DS :=
  dSeq (dIf (tOr (tNot (tV (d1 (fIs isList) (dVar 2)))) (tV (d2 fNe (d1 fLen (dVar 2)) (dVar 0))))
  (XD "NoDesk" (Zc (dC (.str (PySem.Str.ofString "weights are a list with one number for each kind"))) dNil))
  Z7)
  Xz
def Y4 : DS :=
  dSeq (dSet 3 [] (d2 fIx (dVar 1) (dC (.int 1))))
  Y3
def Y5 : DS :=
  dSeq (dSet 2 [] (d2 fIx (dVar 1) (dC (.int 0))))
  Y4
def XW : DS :=
  dSeq (dIf (tOr (tNot (tV (d1 (fIs zaX) (dVar 1)))) (tV (d2 fNe (d1 fLen (dVar 1)) (dC (.int 2)))))
  (XD "NoDesk" (Zc (dC (.str (PySem.Str.ofString "a limit is a tuple of weights and a bound"))) dNil))
  Z7)
  Y5
def Zl : DF := runF 4 2 XW
def WO : DS :=
  (dRet (dTup (Zc (dVar 0) (Zc (d1 Uw (dL (WF 1 [0] (ZI 0) (iSeq (dVar 1)) tT (ZG Zl (Zc (dVar 1) (Zc (dVar 0) dNil)))))) dNil))))
def YU : DS :=
  dSeq (dIf (tOr (tNot (tV (d1 (fIs isList) (dVar 1)))) (tV (d2 fGt (d1 fLen (dVar 1)) (dC (.int 10)))))
  (XD "NoDesk" (Zc (dC (.str (PySem.Str.ofString "limits are a list of at most 10"))) dNil))
  Z7)
  WO
def d_desk_of : DS :=
  dSeq (dIf (tOr (tNot (tV (ZG YB (Zc (dVar 0) dNil)))) (tOr (tV (d2 fLt (dVar 0) (dC (.int 1)))) (tV (d2 fGt (dVar 0) (dC (.int 4))))))
  (XD "NoDesk" (Zc (dC (.str (PySem.Str.ofString "kinds are a whole number from 1 to 4"))) dNil))
  Z7)
  YU
def Zn : DF := runF 2 2 d_desk_of
theorem QI {α : Type} {st : PyData -> List Sl -> Res (List Sl)} {e : DE} {C : List Sl} {c : Str} (inj f : α -> PyData) (bad : PyData) (post : List PyData) (hb : ∃ G1, st bad C = .ok G1 /\ e G1 = .exc c) : ∀ (pre : List α), (∀ x ∈ pre, ∃ G1, st (inj x) C = .ok G1 /\ e G1 = .ok (f x)) ->
  Yc st tT e C (pre.map inj ++ bad :: post) = .exc c
 | [], _ => by
  obtain ⟨G1, e1, e2⟩ := hb
  show Yc st tT e C (bad :: post) = _
  unfold Yc
  simp [e1, e2]
 | x :: pre, h => by
  obtain ⟨G1, e1, e2⟩ := h x List.mem_cons_self
  have ih := QI inj f bad post hb pre fun y hy => h y (List.mem_cons_of_mem _ hy)
  rw [List.map_cons, List.cons_append]
  unfold Yc
  simp [e1, e2, ih]
def numOk : PyData -> Bool
 | .int i => decide (i.natAbs <= 999999999999)
 | _ => false
theorem isnum (t : PyData) (h : noD t = true) : Zv [t] = .ok (.bool (numOk t)) := by
 cases t with
 | int i =>
  have : (decide ((if i < 0 then -i else i) <= 999999999999)) = decide (i.natAbs <= 999999999999) := by
   congr 1
   apply propext
   split <;> omega
  simp [Zv, runQ, runF, Yi, YE, numOk, this]
 | dict _ => simp at h
 | none => simp [Zv, runQ, runF, Yi, Wr .none rfl, numOk]
 | bool b => simp [Zv, runQ, runF, Yi, Wr (.bool b) rfl, numOk]
 | str b => simp [Zv, runQ, runF, Yi, Wr (.str b) rfl, numOk]
 | list b => simp [Zv, runQ, runF, Yi, Wr (.list b) rfl, numOk]
 | tuple b => simp [Zv, runQ, runF, Yi, Wr (.tuple b) rfl, numOk]
theorem WE : ∀ (xs : List PyData), allT (xs.map fun x => PyData.bool (numOk x)) = .ok (xs.all numOk)
 | [] => rfl
 | x :: xs => by simp [allT, WE xs]
section
variable {k : Nat} {w b : PyData} {xs : List PyData}
theorem lim_c (h : xs.length ≠ k) : Zl [.int k, .tuple [.list xs, b]] = .exc "NoDesk" := by
 have h' : ¬ ((xs.length : Int) = (k : Int)) := by omega
 simp [Zl, runF, XW, Y5, Y4, Y3, fNe, at0, at1, h']
theorem lim_d (hl : xs.length = k) (hk : k <= 1000) (hx : ∀ x ∈ xs, noD x = true) (hb : noD b = true) (h : xs.all numOk = false \/ numOk b = false) : Zl [.int k, .tuple [.list xs, b]] = .exc "NoDesk" := by
 have e := QH (st := ZI 0) (e := (ZG Zv (Zc (dVar 0) dNil))) (C := [.emp]) (fun x => PyData.bool (numOk x)) xs fun x hm => ⟨[.val x], rfl, by simp [isnum x (hx x hm)]⟩
 have a := WE xs
 have hl2 : xs.length <= 16777216 := by omega
 have nb := isnum b hb
 subst hl
 cases ha : xs.all numOk with
 | false =>
  rw [ha] at a
  simp [Zl, runF, XW, Y5, Y4, Y3, Xz, fNe, at0, at1, hl2, e, a]
 | true =>
  rw [ha] at a
  have hb' : numOk b = false := h.resolve_left (by rw [ha]; simp)
  rw [hb'] at nb
  simp [Zl, runF, XW, Y5, Y4, Y3, Xz, Wg, fNe, at0, at1, hl2, e, a, nb]
end
theorem Ut {k w : Nat} {l : Lim} (h : LimOk k w l) (hw : w <= 999999999999) (hk : k <= 1000) : Zl [.int k, limL l] = .ok (limT l) := by
 have e := Vb (st := ZI 0) (e := (ZG Zv (Zc (dVar 0) dNil))) (C := [.emp]) PyData.int (fun _ => PyData.bool true) l.1 fun x hx => ⟨[.val (.int x)], rfl, by simp [JA (Nat.le_trans (h.ws x hx) hw)]⟩
 have hl : l.1.length <= 16777216 := by rw [h.len]; omega
 have hb := JA (Nat.le_trans h.bd hw)
 have a := QR l.1
 obtain rfl := h.len
 simp [Zl, runF, XW, Y5, Y4, Y3, Xz, Wg, Vv, limL, limT, at0, at1, fNe, hl, e, hb, a]
theorem desk_good {k w : Nat} {ls : List Lim} (h : ∀ l ∈ ls, LimOk k w l) (hw : w <= 999999999999) (hk : 1 <= k /\ k <= 4) (hl : ls.length <= 10) : Zn [.int k, .list (ls.map limL)] = .ok (.tuple [.int k, .tuple (ls.map limT)]) := by
 have e := Vb (st := ZI 0) (e := (ZG Zl (Zc (dVar 1) (Zc (dVar 0) dNil)))) (C := [.emp, .val (.int k)]) limL limT ls fun l hm => ⟨[.val (limL l), .val (.int k)], rfl, by simp [Ut (h l hm) hw (by omega)]⟩
 have h1 : ¬ ((k : Int) < 1) := by omega
 have h2 : ¬ (4 < (k : Int)) := by omega
 have h3 : ¬ (10 < (ls.length : Int)) := by omega
 have h4 : ls.length <= 16777216 := by omega
 simp [Zn, runF, d_desk_of, YU, WO, YE, h1, h2, h3, h4, e]
theorem desk_bad {k w : Nat} {pre : List Lim} {t : PyData} {post : List PyData} (h : ∀ l ∈ pre, LimOk k w l) (hw : w <= 999999999999) (hk : 1 <= k /\ k <= 4) (hl : pre.length + post.length < 10) (hb : Zl [.int k, t] = .exc "NoDesk") :
  Zn [.int k, .list (pre.map limL ++ t :: post)] = .exc "NoDesk" := by
 have e := QI (st := ZI 0) (e := (ZG Zl (Zc (dVar 1) (Zc (dVar 0) dNil)))) (C := [.emp, .val (.int k)]) (c := "NoDesk") limL limT t post ⟨[.val t, .val (.int k)], rfl, by simp [hb]⟩ pre fun l hm => ⟨[.val (limL l), .val (.int k)], rfl, by simp [Ut (h l hm) hw (by omega)]⟩
 have h1 : ¬ ((k : Int) < 1) := by omega
 have h2 : ¬ (4 < (k : Int)) := by omega
 have h3 : ¬ (10 < ((pre.length : Int) + ((post.length : Int) + 1))) := by omega
 have h4 : pre.length + (post.length + 1) <= 16777216 := by omega
 simp [Zn, runF, d_desk_of, YU, WO, YE, h1, h2, h3, h4, e]
theorem ints_noD (ws : List Int) : ∀ x ∈ ws.map PyData.int, noD x = true := by
 intro x hx
 obtain ⟨i, _, rfl⟩ := List.mem_map.mp hx
 rfl
theorem limits_bad {k : Nat} (hk : 1 <= k /\ k <= 4) : Zn [.int k, .none] = .exc "NoDesk" /\ (∀ ys, Zn [.int k, .tuple ys] = .exc "NoDesk") /\ ∀ ys : List PyData, 10 < ys.length -> Zn [.int k, .list ys] = .exc "NoDesk" := by
 have h1 : ¬ ((k : Int) < 1) := by omega
 have h2 : ¬ (4 < (k : Int)) := by omega
 refine ⟨by simp [Zn, runF, d_desk_of, YU, YE, h1, h2], fun ys => by simp [Zn, runF, d_desk_of, YU, YE, h1, h2], fun ys hy => ?_⟩
 have h3 : 10 < (ys.length : Int) := by omega
 simp [Zn, runF, d_desk_of, YU, YE, h1, h2, h3]
end K03
namespace K19
open PySem Fx
open Lw
open K20 (Zi Zo Zg)
open K03 (Zl Zn)
def XM : DS :=
  (dRet (dTup (Zc (dL (WF 1 [] (ZI 0) (iSeq (dL (oM1 XT (d2 fIx (dVar 1) (dC (.int 0))) (dC (.str (PySem.Str.ofString " ")))))) tT (ZG Zg (Zc (dVar 0) dNil)))) (Zc (ZG Zg (Zc (d2 fIx (dVar 1) (dC (.int 1))) dNil)) dNil))))
def Ye : DS :=
  dSeq (dIf (tV (d2 fNe (d1 fLen (dVar 1)) (dC (.int 2))))
  (XD "NoText" (Zc (dC (.str (PySem.Str.ofString "a limit is weights and a bound with a : between"))) dNil))
  Z7)
  XM
def Y2 : DS :=
  dSeq (dSet 1 [] (dL (oM1 XT (dVar 0) (dC (.str (PySem.Str.ofString " : "))))))
  Ye
def ZY : DF := runF 2 1 Y2
def WA : DS :=
  (zbd (W9 Zn (Zc (dVar 2) (Zc (dVar 3) dNil))) (subs ["NoDesk"]) "NoText")
def WB : DS :=
  dSeq (dSet 3 [] (dL (WF 1 [] (ZI 0) (iSeq (dL (oCut (dVar 1) (pAt (dC (.int 1))) pNo))) tT (ZG ZY (Zc (dVar 0) dNil)))))
  WA
def WC : DS :=
  dSeq (dSet 2 [] (ZG Zg (Zc (d2 fIx (dVar 1) (dC (.int 0))) dNil)))
  WB
def VN : DS :=
  dSeq (dSet 1 [] (dL (oM1 XT (dVar 0) (dC (.str (PySem.Str.ofString " ; "))))))
  WC
def QF : DS :=
  dSeq (U2 (ZG Zo (Zc (dVar 0) dNil)))
  VN
def Xx : DF := runF 5 1 QF
def XX : DS :=
  (dRet (dVar 2))
def YS : DS :=
  dSeq (dIf (tV (d2 fEq (XY (dVar 0) pNo (pAt (dC (.int 1)))) (dC (.str (PySem.Str.ofString "-")))))
  (dRet (d1 fNeg (dVar 2)))
  Z7)
  XX
def YT : DS :=
  dSeq (dFor (ZI 3) [] (iStr (dVar 1))
  (dSeq (dSet 4 [] (dM1 za4 (dC (.str (PySem.Str.ofString "0123456789"))) (dVar 3)))
  (dSeq (dIf (tV (d2 fLt (dVar 4) (dC (.int 0))))
  (dRet (dC .none))
  Z7)
  (dSet 2 [] (d2 fAdd (d2 fMul (dC (.int 10)) (dVar 2)) (dVar 4))))))
  YS
def ZP : DS :=
  dSeq (dSet 2 [] (dC (.int 0)))
  YT
def Yo : DS :=
  dSeq (dIf (tOr (tV (d2 fEq (dVar 1) (dC (.str (PySem.Str.ofString ""))))) (tOr (tV (d2 fGt (d1 X9 (dVar 1)) (dC (.int 12)))) (tAnd (tV (d2 fEq (d2 fIxS (dVar 1) (dC (.int 0))) (dC (.str (PySem.Str.ofString "0"))))) (tV (d2 fNe (dVar 0) (dC (.str (PySem.Str.ofString "0"))))))))
  (dRet (dC .none))
  Z7)
  ZP
def Z6 : DS :=
  dSeq (dIf (tV (d2 fEq (XY (dVar 0) pNo (pAt (dC (.int 1)))) (dC (.str (PySem.Str.ofString "-")))))
  (dSet 1 [] (XY (dVar 0) (pAt (dC (.int 1))) pNo))
  Z7)
  Yo
def YK : DS :=
  dSeq (dSet 1 [] (dVar 0))
  Z6
def ZB : DF := runQ 5 1 YK
def Xr : DS :=
  (dRet (dTup (Zc (dVar 2) (Zc (d1 Uw (dVar 3)) dNil))))
def Xs : DS :=
  dSeq (dFor (ZI 4) [] (iSeq (dL (oCut (dVar 1) (pAt (dC (.int 1))) pNo)))
  (dSeq (dSet 5 [] (dL (oM1 XT (dVar 4) (dC (.str (PySem.Str.ofString " "))))))
  (dSeq (dIf (tOr (tV (d2 fNe (d1 fLen (dVar 5)) (d2 fAdd (dVar 2) (dC (.int 2))))) (tV (d2 fNe (d2 fIx (dVar 5) (dVar 2)) (dC (.str (PySem.Str.ofString ":"))))))
  (dRet (dC .none))
  Z7)
  (dSeq (dSet 6 [] (dL (WF 1 [] (ZI 0) (iSeq (d2 fAdd (dL (oCut (dVar 5) pNo (pAt (dVar 2)))) (dL (oCut (dVar 5) (pAt (d2 fAdd (dVar 2) (dC (.int 1)))) pNo)))) tT (ZG ZB (Zc (dVar 0) dNil)))))
  (dSeq (dIf (tV (d2 fInL (dC .none) (dVar 6)))
  (dRet (dC .none))
  Z7)
  (dApp 3 [] (dTup (Zc (d1 Uw (dL (oCut (dVar 6) pNo (pAt (dVar 2))))) (Zc (d2 fIx (dVar 6) (dVar 2)) dNil)))))))))
  Xr
def YL : DS :=
  dSeq (zad 3 [] (oLst dNil))
  Xs
def Zs : DS :=
  dSeq (dIf (tOr (tV (d1 fIsN (dVar 2))) (tOr (tV (d2 fLt (dVar 2) (dC (.int 1)))) (tOr (tV (d2 fGt (dVar 2) (dC (.int 4)))) (tV (d2 fGt (d1 fLen (dVar 1)) (dC (.int 11)))))))
  (dRet (dC .none))
  Z7)
  YL
def YM : DS :=
  dSeq (dSet 2 [] (ZG ZB (Zc (d2 fIx (dVar 1) (dC (.int 0))) dNil)))
  Zs
def Xg : DS :=
  dSeq (dSet 1 [] (dL (oM1 XT (dVar 0) (dC (.str (PySem.Str.ofString " ; "))))))
  YM
def YH : DF := runQ 7 1 Xg
def Y6 : DS :=
  (dRet (dVar 1))
def XB : DS :=
  dSeq (dFor (ZI 2) [] (iSeq (d2 fIx (dVar 0) (dC (.int 1))))
  (dSeq (dSet 1 [] (d2 YI (dVar 1) (dC (.str (PySem.Str.ofString " ;")))))
  (dSeq (dFor (ZI 3) [] (iSeq (d2 fIx (dVar 2) (dC (.int 0))))
  (dSet 1 [] (d2 YI (d2 YI (dVar 1) (dC (.str (PySem.Str.ofString " ")))) (d1 fStr (dVar 3)))))
  (dSet 1 [] (d2 YI (d2 YI (dVar 1) (dC (.str (PySem.Str.ofString " : ")))) (d1 fStr (d2 fIx (dVar 2) (dC (.int 1)))))))))
  Y6
def WD : DS :=
  dSeq (dSet 1 [] (d1 fStr (d2 fIx (dVar 0) (dC (.int 0)))))
  XB
def XU : DF := runQ 4 1 WD
def Yr : DS :=
  (dRet (dM1 za3 (dC (.str (PySem.Str.ofString " "))) (dVar 4)))
def Z2 : DS :=
  dSeq (dIf (tV (d2 fEq (dVar 1) (dC (.int 6))))
  (dIns 4 (dVar 3) (dC (.str (PySem.Str.ofString "1"))))
  Z7)
  Yr
def Yf : DS :=
  dSeq (dIf (tV (d2 fEq (dVar 1) (dC (.int 5))))
  (UA 4 [] (dVar 3) (d2 fIx (dLst (Zc (dC (.str (PySem.Str.ofString "00"))) (Zc (dC (.str (PySem.Str.ofString "-0"))) (Zc (dC (.str (PySem.Str.ofString "01"))) (Zc (dC (.str (PySem.Str.ofString ""))) (Zc (dC (.str (PySem.Str.ofString "-"))) (Zc (dC (.str (PySem.Str.ofString "x"))) (Zc (d2 YI (dC (.str (PySem.Str.ofString "1"))) (d2 QC (dC (.str (PySem.Str.ofString "0"))) (dC (.int 12)))) (Zc (d2 YI (dC (.str (PySem.Str.ofString "1"))) (d2 QC (dC (.str (PySem.Str.ofString "0"))) (dC (.int 30)))) (Zc (dC (.str (PySem.Str.ofString "0"))) (Zc (dC (.str (PySem.Str.ofString "5"))) (Zc (dC (.str (PySem.Str.ofString ":"))) (Zc (dC (.str (PySem.Str.ofString ";"))) dNil))))))))))))) (d2 fMod (dVar 2) (dC (.int 12)))))
  Z7)
  Z2
def YW : DS :=
  dSeq (dSet 3 [] (d2 fMod (d2 fDiv (dVar 2) (dC (.int 13))) (dLenN 4)))
  Yf
def YX : DS :=
  dSeq (zad 4 [] (oM1 XT (dVar 0) (dC (.str (PySem.Str.ofString " ")))))
  YW
def Yg : DS :=
  dSeq (dIf (tV (d2 fLt (dVar 1) (dC (.int 5))))
  (dRet (d2 YI (XY (dVar 0) pNo (pAt (dVar 3))) (XY (dVar 0) (pAt (d2 fAdd (dVar 3) (dC (.int 1)))) pNo)))
  Z7)
  YX
def Zr : DS :=
  dSeq (dIf (tV (d2 fLt (dVar 1) (dC (.int 3))))
  (dRet (d2 YI (d2 YI (XY (dVar 0) pNo (pAt (dVar 3))) (d2 fIx (dLst (Zc (dC (.str (PySem.Str.ofString " "))) (Zc (dC (.str (PySem.Str.ofString ";"))) (Zc (dC (.str (PySem.Str.ofString ":"))) (Zc (dC (.str (PySem.Str.ofString "-"))) (Zc (dC (.str (PySem.Str.ofString "0"))) (Zc (dC (.str (PySem.Str.ofString "a"))) (Zc (dC (.str (PySem.Str.ofString "+"))) (Zc (dC (.str (PySem.Str.ofString "_"))) (Zc (dC (.str (PySem.Str.ofString "\n"))) (Zc (dC (.str (PySem.Str.ofString "\t"))) dNil))))))))))) (d2 fMod (d2 fDiv (dVar 2) (dC (.int 7))) (dC (.int 10))))) (XY (dVar 0) (pAt (dVar 3)) pNo)))
  Z7)
  Yg
def XA : DS :=
  dSeq (dSet 3 [] (d2 fMod (dVar 2) (d2 fAdd (d1 X9 (dVar 0)) (dC (.int 1)))))
  Zr
def Y1 : DF := runQ 5 3 XA
def Wh : DS :=
  (dRet (d2 fEq (dVar 1) (dC (.int 2))))
def Wi : DS :=
  dSeq (dTryA 2 (U2 (W9 Xx (Zc (dVar 0) dNil))) (subs ["NoText"])
  (dSet 1 [] (d2 fAdd (dVar 1) (d1 fInt (d1 fIsX (dVar 2))))))
  Wh
def Wj : DS :=
  dSeq (dTry (U2 (W9 Xx (Zc (dVar 0) dNil))) (subs ["NoText"])
  (dSet 1 [] (d2 fAdd (dVar 1) (dC (.int 1)))))
  Wi
def W8 : DS :=
  dSeq (dSet 1 [] (dC (.int 0)))
  Wj
def ZZ : DF := runQ 3 1 W8
def Q7 : DS :=
  (dRet (d2 fEq (ZG Xx (Zc (dVar 3) dNil)) (dVar 4)))
def V7 : DS :=
  dSeq (dIf (tV (d1 fIsN (dVar 4)))
  (dRet (ZG ZZ (Zc (dVar 3) dNil)))
  Z7)
  Q7
def UZ : DS :=
  dSeq (dSet 4 [] (ZG YH (Zc (dVar 3) dNil)))
  V7
def U0 : DS :=
  dSeq (dSet 3 [] (ZG Y1 (Zc (ZG XU (Zc (ZG Xn (Zc (dVar 0) dNil)) dNil)) (Zc (dVar 1) (Zc (dVar 2) dNil)))))
  UZ
def Vh : DS :=
  dSeq (dIf (tV (d2 fEq (dVar 1) (dC (.int 7))))
  (dRet (ZG ZZ (Zc (d2 fIx (dLst (Zc (dC .none) (Zc (dC (.int 2)) (Zc (dLst (Zc (dC (.str (PySem.Str.ofString "2"))) dNil)) (Zc (dTup (Zc (dC (.str (PySem.Str.ofString "2"))) dNil)) (Zc (dC (.bool true)) dNil)))))) (d2 fMod (dVar 2) (dC (.int 5)))) dNil)))
  Z7)
  U0
def U1 : DS :=
  dSeq (dSet 2 [] (ZG Zh (Zc (dVar 0) (Zc (dC (.int 6)) dNil))))
  Vh
def d_law : DS :=
  dSeq (dSet 1 [] (d2 fMod (ZG Zh (Zc (dVar 0) (Zc (dC (.int 5)) dNil))) (dC (.int 8))))
  U1
def Q5 : DF := runQ 5 1 d_law
end K19
namespace K19
open PySem PySem.Spec PyProof.Rows L2 Fx
open Lw
open K20 (Zi Zo Zg)
open K03 (Zl Zn)
variable {P : Program} {w : World} {K : PySem.W.Frag} {mg : Str -> Option Value} {base : Heap} {k : Nat} {fa : Addr} {fd : FuncData}
set_option maxHeartbeats 0
set_option smartUnfolding false
def top (i : Nat) : Stmt := PySem.Challenge.pw_limitdesk_k19_texts_refused.main.body.getD i (.Pass ⟨0, 0, 0, 0⟩)
abbrev Xl : Stmt := top 5
theorem QT : FnScope ["value"] ["value"] (Ze Xl) := ⟨rfl, rfl, rfl, by decide +kernel, rfl, by decide +kernel, by decide +kernel⟩
abbrev YR : Stmt := top 10
theorem Qk : FnScope ["value"] ["value"] (Ze YR) := ⟨rfl, rfl, rfl, by decide +kernel, rfl, by decide +kernel, by decide +kernel⟩
abbrev Xi : Stmt := top 11
theorem WH : FnScope ["kinds", "limit", "weights", "bound"] ["kinds", "limit"] (Ze Xi) := ⟨rfl, rfl, rfl, by decide +kernel, rfl, by decide +kernel, by decide +kernel⟩
abbrev XS : Stmt := top 12
theorem JT : FnScope ["kinds", "limits"] ["kinds", "limits"] (Ze XS) := ⟨rfl, rfl, rfl, by decide +kernel, rfl, by decide +kernel, by decide +kernel⟩
abbrev Yd : Stmt := top 16
theorem YG : FnScope ["number", "left", "pieces", "sign"] ["number"] (Ze Yd) := ⟨rfl, rfl, rfl, by decide +kernel, rfl, by decide +kernel, by decide +kernel⟩
abbrev Yz : Stmt := top 17
theorem UJ : FnScope ["line"] ["line"] (Ze Yz) := ⟨rfl, rfl, rfl, by decide +kernel, rfl, by decide +kernel, by decide +kernel⟩
abbrev Yj : Stmt := top 18
theorem XG : FnScope ["written", "figures", "number"] ["written"] (Ze Yj) := ⟨rfl, rfl, rfl, by decide +kernel, rfl, by decide +kernel, by decide +kernel⟩
abbrev Yw : Stmt := top 19
theorem WX : FnScope ["written", "parts"] ["written"] (Ze Yw) := ⟨rfl, rfl, rfl, by decide +kernel, rfl, by decide +kernel, by decide +kernel⟩
abbrev Ul : Stmt := top 20
theorem VR : FnScope ["line", "parts", "kinds", "limits", "error"] ["line"] (Ze Ul) := ⟨rfl, rfl, rfl, by decide +kernel, rfl, by decide +kernel, by decide +kernel⟩
abbrev Ym : Stmt := top 22
theorem Uc : FnScope ["_law_script", "_law_k"] ["_law_script", "_law_k"] (Ze Ym) := ⟨rfl, rfl, rfl, by decide +kernel, rfl, by decide +kernel, by decide +kernel⟩
abbrev Yy : Stmt := top 23
theorem WY : FnScope ["_law_cell", "_law_wide", "_law_number_here"] ["_law_cell", "_law_wide"] (Ze Yy) := ⟨rfl, rfl, rfl, by decide +kernel, rfl, by decide +kernel, by decide +kernel⟩
abbrev Xk : Stmt := top 24
theorem Zu : FnScope ["_law_script", "_law_kinds", "_law_many", "_law_wide", "_law_limits", "_law_k", "_law_at", "_law_weights", "_law_bound"] ["_law_script"] (Ze Xk) := ⟨rfl, rfl, rfl, by decide +kernel, rfl, by decide +kernel, by decide +kernel⟩
abbrev Z4 : Stmt := top 25
theorem ZK : FnScope ["_law_word", "_law_figures", "_law_made", "_law_sign", "_law_at"] ["_law_word"] (Ze Z4) := ⟨rfl, rfl, rfl, by decide +kernel, rfl, by decide +kernel, by decide +kernel⟩
abbrev Yl : Stmt := top 26
theorem Z0 : FnScope ["_law_line_here", "_law_pieces", "_law_kinds", "_law_limits", "_law_piece", "_law_words", "_law_row"] ["_law_line_here"] (Ze Yl) := ⟨rfl, rfl, rfl, by decide +kernel, rfl, by decide +kernel, by decide +kernel⟩
abbrev Xj : Stmt := top 27
theorem Ys : FnScope ["_law_drawn", "_law_made", "_law_limit", "_law_number_here"] ["_law_drawn"] (Ze Xj) := ⟨rfl, rfl, rfl, by decide +kernel, rfl, by decide +kernel, by decide +kernel⟩
abbrev Yx : Stmt := top 28
theorem Xf : FnScope ["_law_line_here", "_law_way", "_law_cell", "_law_at", "_law_words"] ["_law_line_here", "_law_way", "_law_cell"] (Ze Yx) := ⟨rfl, rfl, rfl, by decide +kernel, rfl, by decide +kernel, by decide +kernel⟩
abbrev Yk : Stmt := top 29
theorem Yq : FnScope ["_law_line_here", "_law_refused_here", "e"] ["_law_line_here"] (Ze Yk) := ⟨rfl, rfl, rfl, by decide +kernel, rfl, by decide +kernel, by decide +kernel⟩
abbrev UK : Stmt := top 30
theorem Qj : FnScope ["_law_script", "_law_way", "_law_cell", "_law_line_here", "_law_due"] ["_law_script"] (Ze UK) := ⟨rfl, rfl, rfl, by decide +kernel, rfl, by decide +kernel, by decide +kernel⟩
section
variable [Fx.Dirt]
theorem Q3 (F : Fun K "is_whole" "is_whole" Xl fa fd) (hm : mg "is_whole" = some (.ref fa)) (b : YV K fd ["value"] []) (z_isinstance : mg "isinstance" = none) (z_int : mg "int" = none) (z_bool : mg "bool" = none) :
  Fx.Cle P w K mg base (k + 1) "is_whole" 1 YB := by
 exact Wn F hm b QT rfl rfl fun cdv A outer s H E hr =>
  (Zm (ZW (Fx.ev_and (XV Fx.kit_int (show bootBuiltins "int" = some (.type "int") by decide +kernel) rfl z_isinstance rfl z_int (Za 0)) (Fx.ev_one (Fx.ev_not (XV Fx.kit_bool (show bootBuiltins "bool" = some (.type "bool") by decide +kernel) rfl z_isinstance rfl z_bool (Za 0)))))))
theorem Qr (F : Fun K "is_number" "is_number" YR fa fd) (hm : mg "is_number" = some (.ref fa)) (b : YV K fd ["value"] []) (z_abs : mg "abs" = none) (g_GREATEST_NUMBER : ∃ t, mg "GREATEST_NUMBER" = some (.int 999999999999 t)) (C_is_whole : Fx.Cle P w K mg base k "is_whole" 1 YB) :
  Fx.Cle P w K mg base (k + 1) "is_number" 1 Zv := by
 obtain ⟨t_GREATEST_NUMBER, g_GREATEST_NUMBER⟩ := g_GREATEST_NUMBER; exact Wn F hm b Qk rfl rfl fun cdv A outer s H E hr =>
  (Zm (ZW (Fx.ev_and (Zw (Fx.Cle.cal C_is_whole) hr rfl (Zb (Za 0) Zj)) (Fx.ev_one (JG Fx.op_leF (za9 rfl z_abs (Za 0)) (VM rfl g_GREATEST_NUMBER) (ZE _))))))
theorem Q0 {cl : Str -> Value} {X_NoDesk : Addr} (F : Fun K "limit_of" "limit_of" Xi fa fd) (hm : mg "limit_of" = some (.ref fa)) (b : YV K fd ["kinds", "limit"] []) (z_isinstance : mg "isinstance" = none) (z_tuple : mg "tuple" = none) (z_len : mg "len" = none) (z_list : mg "list" = none) (z_all : mg "all" = none) (c_NoDesk : Fx.XCls K mg "NoDesk" X_NoDesk) (e_NoDesk : cl "NoDesk" = .ref X_NoDesk) (C_is_number : Fx.Cle P w K mg base k "is_number" 1 Zv) :
  Fx.Clx P w K mg base cl (k + 1) "limit_of" 2 Zl := by
 exact UB F hm b WH rfl rfl fun cdv A outer s H E W hr =>
  (Zd (YC (Fx.tv_w (VD (Vn (WU (XV zaU (show bootBuiltins "tuple" = some (.type "tuple") by decide +kernel) rfl z_isinstance rfl z_tuple (Za 1)) (fun _ => rfl))) (Vm (ZH (VT hr.units) (Vu rfl z_len (Za 1)) Zf (ZE _)))))
  (Zm (YF ZA.pin c_NoDesk e_NoDesk (Zb Zk Zj) rfl))
  ZU)
  (Zd (Zt (i := 2) WH.nd rfl (Or.inl rfl) (Wa (Za 1) Zf (fun _ _ => rfl)))
  (Zd (Zt (i := 3) WH.nd rfl (Or.inl rfl) (Wa (Za 1) Zf (fun _ _ => rfl)))
  (Zd (YC (Fx.tv_w (VD (Vn (WU (XV Jv (show bootBuiltins "list" = some (.type "list") by decide +kernel) rfl z_isinstance rfl z_list (Za 2)) (fun _ => rfl))) (Vm (ZH (VT hr.units) (Vu rfl z_len (Za 2)) (Za 0) (ZE _)))))
  (Zm (YF ZA.pin c_NoDesk e_NoDesk (Zb Zk Zj) rfl))
  ZU)
  (Zd (YC (Vn (WU (Fx.ev_all rfl z_all (Xy (UL (N := ["number"]) (nv := 1) (cap := []) (V8 rfl) rfl (Xo (by decide)) (Vs (Za 2)) (Va ZA) (fun _ _ _ _ => (Y9 (i := 0) (show List.Nodup (["number"] : List Str) from by decide +kernel) rfl (Or.inl rfl))) (fun _ _ _ _ hp1 => WP) (fun _ _ _ _ hp1 => (Zw (Fx.Cle.cal C_is_number) hr rfl (Zb (Za 0) Zj)))))) (fun _ => rfl)))
  (Zm (YF ZA.pin c_NoDesk e_NoDesk (Zb Zk Zj) rfl))
  ZU)
  (Zd (YC (Vn (WU (Zw (Fx.Cle.cal C_is_number) hr rfl (Zb (Za 3) Zj)) (fun _ => rfl)))
  (Zm (YF ZA.pin c_NoDesk e_NoDesk (Zb Zk Zj) rfl))
  ZU)
  (Zm (ZW (Vt (Zb (VL rfl z_tuple (Za 2)) (Zb (Za 3) Zj)))))))))))
theorem JX {cl : Str -> Value} {X_NoDesk : Addr} (F : Fun K "desk_of" "desk_of" XS fa fd) (hm : mg "desk_of" = some (.ref fa)) (b : YV K fd ["kinds", "limits"] []) (z_isinstance : mg "isinstance" = none) (z_list : mg "list" = none) (z_len : mg "len" = none) (z_tuple : mg "tuple" = none) (g_MOST_KINDS : ∃ t, mg "MOST_KINDS" = some (.int 4 t)) (g_MOST_LIMITS : ∃ t, mg "MOST_LIMITS" = some (.int 10 t)) (c_NoDesk : Fx.XCls K mg "NoDesk" X_NoDesk) (e_NoDesk : cl "NoDesk" = .ref X_NoDesk) (C_is_whole : Fx.Cle P w K mg base k "is_whole" 1 YB) (C_limit_of : Fx.Clx P w K mg base cl k "limit_of" 2 Zl) :
  Fx.Clx P w K mg base cl (k + 1) "desk_of" 2 Zn := by
 obtain ⟨t_MOST_KINDS, g_MOST_KINDS⟩ := g_MOST_KINDS; obtain ⟨t_MOST_LIMITS, g_MOST_LIMITS⟩ := g_MOST_LIMITS; exact UB F hm b JT rfl rfl fun cdv A outer s H E W hr =>
  (Zd (YC (Fx.tv_w (VD (Vn (WU (Zw (Fx.Cle.cal C_is_whole) hr rfl (Zb (Za 0) Zj)) (fun _ => rfl))) (VD (ZH Vq (Za 0) Zf (ZE _)) (Vm (ZH Vr (Za 0) (VM rfl g_MOST_KINDS) (ZE _))))))
  (Zm (YF ZA.pin c_NoDesk e_NoDesk (Zb Zk Zj) rfl))
  ZU)
  (Zd (YC (Fx.tv_w (VD (Vn (WU (XV Jv (show bootBuiltins "list" = some (.type "list") by decide +kernel) rfl z_isinstance rfl z_list (Za 1)) (fun _ => rfl))) (Vm (ZH Vr (Vu rfl z_len (Za 1)) (VM rfl g_MOST_LIMITS) (ZE _)))))
  (Zm (YF ZA.pin c_NoDesk e_NoDesk (Zb Zk Zj) rfl))
  ZU)
  (Zm (ZW (Vt (Zb (Za 0) (Zb (VL rfl z_tuple (Xy (UL (N := ["limit", "kinds"]) (nv := 1) (cap := [0]) (V8 rfl) rfl (Xo (by decide)) (Vs (Za 1)) (Va ZA) (fun _ _ _ _ => (Y9 (i := 0) (show List.Nodup (["limit", "kinds"] : List Str) from by decide +kernel) rfl (Or.inl rfl))) (fun _ _ _ _ hp1 => WP) (fun _ _ _ _ hp1 => (Zw (Fx.Clx.cal hp1 C_limit_of) hr rfl (Zb (Za 1) (Zb (Za 0) Zj))))))) Zj)))))))
theorem VV (F : Fun K "shown_number" "shown_number" Yd fa fd) (hm : mg "shown_number" = some (.ref fa)) (b : YV K fd ["number"] []) (z_abs : mg "abs" = none) (z_str : mg "str" = none) (z_reversed : mg "reversed" = none) :
  Fx.Cle P w K mg base (k + 1) "shown_number" 1 Zi := by
 exact Wn F hm b YG rfl rfl fun cdv A outer s H E hr =>
  (Zd (Zt (i := 1) YG.nd rfl (Or.inl rfl) (za9 rfl z_abs (Za 0)))
  (Zd (UE (i := 2) YG.nd rfl (Or.inl rfl) (zaJ Zj))
  (Zd (Fx.ss_wh0 PassesOwn.never (ZH Fx.op_geF (Za 1) (ZC zaK Zf Zf) (ZE _)))
  (Zd (Zt (i := 3) YG.nd rfl (Or.inl rfl) (JF (ZH Vq (Za 0) Zf (ZE _)) Zk Zk))
  (Zm (ZW (ZC Y8 (ZC Y8 (Za 3) (UV rfl z_str (Za 1))) (Fx.ev_joinR hr.hd rfl z_reversed (Za 2)))))))))
theorem UP {cl : Str -> Value} {X_NoText : Addr} (F : Fun K "check_text" "check_text" Yz fa fd) (hm : mg "check_text" = some (.ref fa)) (b : YV K fd ["line"] []) (z_isinstance : mg "isinstance" = none) (z_str : mg "str" = none) (c_NoText : Fx.XCls K mg "NoText" X_NoText) (e_NoText : cl "NoText" = .ref X_NoText) :
  Fx.Clx P w K mg base cl (k + 1) "check_text" 1 Zo := by
 exact UB F hm b UJ rfl rfl fun cdv A outer s H E W hr =>
  (Zm (YC (Vn (WU (XV Fx.kit_str (show bootBuiltins "str" = some (.type "str") by decide +kernel) rfl z_isinstance rfl z_str (Za 0)) (fun _ => rfl)))
  (Zm (YF ZA.pin c_NoText e_NoText (Zb Zk Zj) rfl))
  ZU))
theorem Ud {cl : Str -> Value} {X_NoText : Addr} (F : Fun K "read_number" "read_number" Yj fa fd) (hm : mg "read_number" = some (.ref fa)) (b : YV K fd ["written"] []) (z_len : mg "len" = none) (z_all : mg "all" = none) (z_int : mg "int" = none) (g_MOST_FIGURES : ∃ t, mg "MOST_FIGURES" = some (.int 30 t)) (g_FIGURES : ∃ t, mg "FIGURES" = some (.str (PySem.Str.ofString "0123456789") t)) (c_NoText : Fx.XCls K mg "NoText" X_NoText) (e_NoText : cl "NoText" = .ref X_NoText) (C_shown_number : Fx.Cle P w K mg base k "shown_number" 1 Zi) :
  Fx.Clx P w K mg base cl (k + 1) "read_number" 1 Zg := by
 obtain ⟨t_MOST_FIGURES, g_MOST_FIGURES⟩ := g_MOST_FIGURES; obtain ⟨t_FIGURES, g_FIGURES⟩ := g_FIGURES; exact UB F hm b XG rfl rfl fun cdv A outer s H E W hr =>
  (Zd (Zt (i := 1) XG.nd rfl (Or.inl rfl) (JF (WU (Fx.ev_sw (Za 0) Zk) (fun _ => rfl)) (Wc (Za 0) (Ve Zf) Vd) (Za 0)))
  (Zd (YC (Fx.tv_w (VD (ZH Vq (UW rfl z_len (Za 1)) Zf (ZE _)) (Vm (ZH Vr (UW rfl z_len (Za 1)) (VM rfl g_MOST_FIGURES) (ZE _)))))
  (Zm (YF ZA.pin c_NoText e_NoText (Zb Zk Zj) rfl))
  ZU)
  (Zd (YC (Vn (WU (Fx.ev_all rfl z_all (Xy (UL (N := ["figure"]) (nv := 1) (cap := []) (V8 rfl) rfl (Xo (by decide)) (Fx.iv_str (Za 1)) (Va ZA) (fun _ _ _ _ => (Y9 (i := 0) (show List.Nodup (["figure"] : List Str) from by decide +kernel) rfl (Or.inl rfl))) (fun _ _ _ _ hp1 => WP) (fun _ _ _ _ hp1 => (JG Fx.op_inS (Za 0) (Fx.ev_globS rfl g_FIGURES) rfl))))) (fun _ => rfl)))
  (Zm (YF ZA.pin c_NoText e_NoText (Zb Zk Zj) rfl))
  ZU)
  (Zd (Zt (i := 2) XG.nd rfl (Or.inl rfl) (Fx.ev_intS rfl z_int (Za 0)))
  (Zd (YC (ZH (VT hr.units) (Zw (Fx.Cle.cal C_shown_number) hr rfl (Zb (Za 2) Zj)) (Za 0) (ZE _))
  (Zm (YF ZA.pin c_NoText e_NoText (Zb Zk Zj) rfl))
  ZU)
  (Zm (ZW (Za 2))))))))
theorem UM {cl : Str -> Value} {X_NoText : Addr} (F : Fun K "read_limit" "read_limit" Yw fa fd) (hm : mg "read_limit" = some (.ref fa)) (b : YV K fd ["written"] []) (z_len : mg "len" = none) (c_NoText : Fx.XCls K mg "NoText" X_NoText) (e_NoText : cl "NoText" = .ref X_NoText) (C_read_number : Fx.Clx P w K mg base cl k "read_number" 1 Zg) :
  Fx.Clx P w K mg base cl (k + 1) "read_limit" 1 ZY := by
 exact UB F hm b WX rfl rfl fun cdv A outer s H E W hr =>
  (Zd (Zt (i := 1) WX.nd rfl (Or.inl rfl) (Xy (Ww (Za 0) Zk)))
  (Zd (YC (ZH (VT hr.units) (Vu rfl z_len (Za 1)) Zf (ZE _))
  (Zm (YF ZA.pin c_NoText e_NoText (Zb Zk Zj) rfl))
  ZU)
  (Zm (ZW (Vt (Zb (Xy (UL (N := ["number"]) (nv := 1) (cap := []) (V8 rfl) rfl (Xo (by decide)) (Vs (Xy (Ww (Wa (Za 1) Zf (fun _ _ => rfl)) Zk))) (Va ZA) (fun _ _ _ _ => (Y9 (i := 0) (show List.Nodup (["number"] : List Str) from by decide +kernel) rfl (Or.inl rfl))) (fun _ _ _ _ hp1 => WP) (fun _ _ _ _ hp1 => (Zw (Fx.Clx.cal hp1 C_read_number) hr rfl (Zb (Za 0) Zj))))) (Zb (Zw (Fx.Clx.cal ZA.pin C_read_number) hr rfl (Zb (Wa (Za 1) Zf (fun _ _ => rfl)) Zj)) Zj)))))))
theorem ok_read {cl : Str -> Value} {X_NoDesk : Addr} {X_NoText : Addr} (F : Fun K "read" "read" Ul fa fd) (hm : mg "read" = some (.ref fa)) (b : YV K fd ["line"] []) (c_NoDesk : Fx.XCls K mg "NoDesk" X_NoDesk) (c_NoText : Fx.XCls K mg "NoText" X_NoText) (e_NoDesk : cl "NoDesk" = .ref X_NoDesk) (e_NoText : cl "NoText" = .ref X_NoText) (u_NoDesk_NoDesk : PySem.W.subIn K (.ref X_NoDesk) (.ref X_NoDesk) = some true) (v_NoText_NoDesk : PySem.W.subIn K (.ref X_NoText) (.ref X_NoDesk) = some false) (dd_NoText : Fx.Dirt.d (.ref X_NoText)) (dn_NoDesk : ¬ Fx.Dirt.d (.ref X_NoDesk)) (C_check_text : Fx.Clx P w K mg base cl k "check_text" 1 Zo) (C_read_number : Fx.Clx P w K mg base cl k "read_number" 1 Zg) (C_read_limit : Fx.Clx P w K mg base cl k "read_limit" 1 ZY) (C_desk_of : Fx.Clx P w K mg base cl k "desk_of" 2 Zn) :
  Fx.Clx P w K mg base cl (k + 1) "read" 1 Xx := by
 exact UB F hm b VR rfl rfl fun cdv A outer s H E W hr =>
  (Zd (Fx.ss_drop (Zw (Fx.Clx.cal ZA.pin C_check_text) hr rfl (Zb (Za 0) Zj)))
  (Zd (Zt (i := 1) VR.nd rfl (Or.inl rfl) (Xy (Ww (Za 0) Zk)))
  (Zd (Zt (i := 2) VR.nd rfl (Or.inl rfl) (Zw (Fx.Clx.cal ZA.pin C_read_number) hr rfl (Zb (Wa (Za 1) Zf (fun _ _ => rfl)) Zj)))
  (Zd (QS (N := ["part"]) (nv := 1) (cap := []) (i := 3) (V8 rfl) rfl (Xo (by decide)) (Vs (Xy (Qq (Za 1) (Ve Zf) Vd))) (Va ZA) (fun _ _ _ _ => (Y9 (i := 0) (show List.Nodup (["part"] : List Str) from by decide +kernel) rfl (Or.inl rfl))) (fun _ _ _ _ hp1 => WP) (fun _ _ _ _ hp1 => (Zw (Fx.Clx.cal hp1 C_read_limit) hr rfl (Zb (Za 0) Zj))) VR.nd rfl (Or.inl rfl))
  (Zm (Fx.ss_tryF (i := 4) ZA C_desk_of hr rfl (Zb (Za 2) (Zb (Za 3) Zj)) c_NoDesk rfl (WQ e_NoDesk u_NoDesk_NoDesk Vk) (JU e_NoDesk c_NoDesk dn_NoDesk zaE) VR.nd rfl rfl c_NoText e_NoText dd_NoText rfl (fun _ => (Zb Zk Zj)) (fun _ => ⟨_, rfl, by decide⟩)))))))
theorem Ug (F : Fun K "_law_cell_at" "_law_cell_at" Ym fa fd) (hm : mg "_law_cell_at" = some (.ref fa)) (b : YV K fd ["_law_script", "_law_k"] []) (z_len : mg "len" = none) :
  Fx.Cle P w K mg base (k + 1) "_law_cell_at" 2 Zh := by
 exact Wn F hm b Uc rfl rfl fun cdv A outer s H E hr =>
  (Zd (YC (ZH Vq (Za 1) (Vu rfl z_len (Za 0)) (ZE _))
  (Zm (ZW (Wa (Za 0) (Za 1) (fun _ _ => rfl))))
  ZU)
  (Zd (YC (ZH (X6 hr.units) (Za 0) (Ux Zj) (ZE _))
  (Zm (ZW Zf))
  ZU)
  (Zm (ZW (ZC Yp (ZC VU (Wa (Za 0) (ZC Yu (Za 1) (Vu rfl z_len (Za 0))) (fun _ _ => rfl)) Zf) (Za 1))))))
theorem UO (F : Fun K "_law_number" "_law_number" Yy fa fd) (hm : mg "_law_number" = some (.ref fa)) (b : YV K fd ["_law_cell", "_law_wide"] []) :
  Fx.Cle P w K mg base (k + 1) "_law_number" 2 ZJ := by
 exact Wn F hm b WY rfl rfl fun cdv A outer s H E hr =>
  (Zd (Zt (i := 2) WY.nd rfl (Or.inl rfl) (ZC Yu (Za 0) (ZC Yp (ZC VU Zf (Za 1)) Zf)))
  (Zd (YC (ZH Vr (Za 2) (Za 1) (ZE _))
  (Zm (ZW (ZC QZ (ZC QZ (Za 2) (ZC VU Zf (Za 1))) Zf)))
  ZU)
  (Zm (ZW (Za 2)))))
theorem Q2 (F : Fun K "_law_desk" "_law_desk" Xk fa fd) (hm : mg "_law_desk" = some (.ref fa)) (b : YV K fd ["_law_script"] []) (z_range : mg "range" = none) (z_abs : mg "abs" = none) (C_law_cell_at : Fx.Cle P w K mg base k "_law_cell_at" 2 Zh) (C_law_number : Fx.Cle P w K mg base k "_law_number" 2 ZJ) :
  Fx.Cle P w K mg base (k + 1) "_law_desk" 1 Xn := by
 exact Wn F hm b Zu rfl rfl fun cdv A outer s H E hr =>
  (Zd (Zt (i := 1) Zu.nd rfl (Or.inl rfl) (ZC Yp Zf (ZC Yu (Zw (Fx.Cle.cal C_law_cell_at) hr rfl (Zb (Za 0) (Zb Zf Zj))) Zf)))
  (Zd (Zt (i := 2) Zu.nd rfl (Or.inl rfl) (ZC Yu (Zw (Fx.Cle.cal C_law_cell_at) hr rfl (Zb (Za 0) (Zb Zf Zj))) Zf))
  (Zd (Zt (i := 3) Zu.nd rfl (Or.inr rfl) (Wa (Ux (Zb Zf (Zb Zf (Zb Zf (Zb (ZC QZ (ZC zaK Zf Zf) Zf) Zj))))) (ZC Yu (Zw (Fx.Cle.cal C_law_cell_at) hr rfl (Zb (Za 0) (Zb Zf Zj))) Zf) (fun _ _ => rfl)))
  (Zd (YC (ZH (X6 hr.units) (ZC Yu (Zw (Fx.Cle.cal C_law_cell_at) hr rfl (Zb (Za 0) (Zb Zf Zj))) Zf) Zf (ZE _))
  (Zd (Zt (i := 1) Zu.nd rfl (Or.inl rfl) Zf)
  (Zd (Zt (i := 2) Zu.nd rfl (Or.inl rfl) Zf)
  (Zm (Zt (i := 3) Zu.nd rfl (Or.inr rfl) Zf))))
  ZU)
  (Zd (YC (ZH Vr (Za 3) Zf (ZE _))
  (Zd (Zt (i := 1) Zu.nd rfl (Or.inl rfl) (ZC Yp Zf (ZC Yu (Za 1) Zf)))
  (Zm (Zt (i := 2) Zu.nd rfl (Or.inl rfl) (ZC Yu (Za 2) Zf))))
  ZU)
  (Zd (UE (i := 4) Zu.nd rfl (Or.inl rfl) (zaJ Zj))
  (Zd (Qf PassesOwn.never rfl (Jy rfl z_range (Za 2)) (Y9 (i := 5) Zu.nd rfl (Or.inl rfl))
  (Zd (Zt (i := 6) Zu.nd rfl (Or.inr rfl) (ZC Yp Zf (ZC VU (Za 5) (ZC Yp (Za 1) Zf))))
  (Zd (QS (N := ["_law_j", "_law_script", "_law_at", "_law_wide"]) (nv := 1) (cap := [0, 6, 3]) (i := 7) (V8 rfl) rfl (Xo (by decide)) (Jy rfl z_range (Za 1)) JJ (fun _ _ _ _ => (Y9 (i := 0) (show List.Nodup (["_law_j", "_law_script", "_law_at", "_law_wide"] : List Str) from by decide +kernel) rfl (Or.inl rfl))) (fun _ _ _ _ _ => WP) (fun _ _ _ _ _ => (Zw (Fx.Cle.cal C_law_number) hr rfl (Zb (Zw (Fx.Cle.cal C_law_cell_at) hr rfl (Zb (Za 1) (Zb (ZC Yp (Za 2) (Za 0)) Zj))) (Zb (Za 3) Zj)))) Zu.nd rfl (Or.inl rfl))
  (Zd (Zt (i := 8) Zu.nd rfl (Or.inl rfl) (Zw (Fx.Cle.cal C_law_number) hr rfl (Zb (Zw (Fx.Cle.cal C_law_cell_at) hr rfl (Zb (Za 0) (Zb (ZC Yp (Za 6) (Za 1)) Zj))) (Zb (Za 3) Zj))))
  (Zd (YC (ZH (X6 hr.units) (ZC Yu (Zw (Fx.Cle.cal C_law_cell_at) hr rfl (Zb (Za 0) (Zb Zf Zj))) Zf) Zf (ZE _))
  (Zm (Zt (i := 8) Zu.nd rfl (Or.inl rfl) (za9 rfl z_abs (Za 8))))
  ZU)
  (Zm (Fx.ss_app (i := 4) rfl (Vt (Zb (Za 7) (Zb (Za 8) Zj))))))))))
  (Zm (ZW (Vt (Zb (Za 1) (Zb (Za 4) Zj))))))))))))
theorem VF (F : Fun K "_law_number_of" "_law_number_of" Z4 fa fd) (hm : mg "_law_number_of" = some (.ref fa)) (b : YV K fd ["_law_word"] []) (z_len : mg "len" = none) :
  Fx.Cle P w K mg base (k + 1) "_law_number_of" 1 ZB := by
 exact Wn F hm b ZK rfl rfl fun cdv A outer s H E hr =>
  (Zd (Zt (i := 1) ZK.nd rfl (Or.inl rfl) (Za 0))
  (Zd (YC (ZH (X6 hr.units) (Wc (Za 0) Vd (Ve Zf)) Zk (ZE _))
  (Zm (Zt (i := 1) ZK.nd rfl (Or.inl rfl) (Wc (Za 0) (Ve Zf) Vd)))
  ZU)
  (Zd (YC (Fx.tv_w (VD (ZH (X6 hr.units) (Za 1) Zk (ZE _)) (VD (ZH Vr (UW rfl z_len (Za 1)) Zf (ZE _)) (Vm (Fx.tv_w (Fx.tw_and (ZH (X6 hr.units) (Fx.ev_ixS (Za 1) Zf (fun _ _ => rfl)) Zk (ZE _)) (Fx.tw_and1 (ZH (VT hr.units) (Za 0) Zk (ZE _)))))))))
  (Zm (ZW V4))
  ZU)
  (Zd (Zt (i := 2) ZK.nd rfl (Or.inl rfl) Zf)
  (Zd (Qf PassesOwn.never rfl (Fx.iv_str (Za 1)) (Y9 (i := 3) ZK.nd rfl (Or.inl rfl))
  (Zd (Zt (i := 4) ZK.nd rfl (Or.inl rfl) (Fx.ev_find Zk (Za 3)))
  (Zd (YC (ZH Vq (Za 4) Zf (ZE _))
  (Zm (ZW V4))
  ZU)
  (Zm (Zt (i := 2) ZK.nd rfl (Or.inl rfl) (ZC Yp (ZC VU Zf (Za 2)) (Za 4)))))))
  (Zd (YC (ZH (X6 hr.units) (Wc (Za 0) Vd (Ve Zf)) Zk (ZE _))
  (Zm (ZW (Fx.ev_neg (Za 2))))
  ZU)
  (Zm (ZW (Za 2)))))))))
theorem Uf (F : Fun K "_law_desk_of" "_law_desk_of" Yl fa fd) (hm : mg "_law_desk_of" = some (.ref fa)) (b : YV K fd ["_law_line_here"] []) (z_len : mg "len" = none) (z_tuple : mg "tuple" = none) (C_law_number_of : Fx.Cle P w K mg base k "_law_number_of" 1 ZB) :
  Fx.Cle P w K mg base (k + 1) "_law_desk_of" 1 YH := by
 exact Wn F hm b Z0 rfl rfl fun cdv A outer s H E hr =>
  (Zd (Zt (i := 1) Z0.nd rfl (Or.inl rfl) (Xy (Ww (Za 0) Zk)))
  (Zd (Zt (i := 2) Z0.nd rfl (Or.inl rfl) (Zw (Fx.Cle.cal C_law_number_of) hr rfl (Zb (Wa (Za 1) Zf (fun _ _ => rfl)) Zj)))
  (Zd (YC (Fx.tv_w (VD (Fx.tv_isN (Za 2)) (VD (ZH Vq (Za 2) Zf (ZE _)) (VD (ZH Vr (Za 2) Zf (ZE _)) (Vm (ZH Vr (Vu rfl z_len (Za 1)) Zf (ZE _)))))))
  (Zm (ZW V4))
  ZU)
  (Zd (UE (i := 3) Z0.nd rfl (Or.inl rfl) (zaJ Zj))
  (Zd (Qf PassesOwn.never rfl (Vs (Xy (Qq (Za 1) (Ve Zf) Vd))) (Y9 (i := 4) Z0.nd rfl (Or.inl rfl))
  (Zd (Zt (i := 5) Z0.nd rfl (Or.inl rfl) (Xy (Ww (Za 4) Zk)))
  (Zd (YC (Fx.tv_w (VD (ZH (VT hr.units) (Vu rfl z_len (Za 5)) (ZC Yp (Za 2) Zf) (ZE _)) (Vm (ZH (VT hr.units) (Wa (Za 5) (Za 2) (fun _ _ => rfl)) Zk (ZE _)))))
  (Zm (ZW V4))
  ZU)
  (Zd (QS (N := ["_law_word"]) (nv := 1) (cap := []) (i := 6) (V8 rfl) rfl (Xo (by decide)) (Vs (ZC Yp (Xy (Qq (Za 5) Vd (Ve (Za 2)))) (Xy (Qq (Za 5) (Ve (ZC Yp (Za 2) Zf)) Vd)))) JJ (fun _ _ _ _ => (Y9 (i := 0) (show List.Nodup (["_law_word"] : List Str) from by decide +kernel) rfl (Or.inl rfl))) (fun _ _ _ _ _ => WP) (fun _ _ _ _ _ => (Zw (Fx.Cle.cal C_law_number_of) hr rfl (Zb (Za 0) Zj))) Z0.nd rfl (Or.inl rfl))
  (Zd (YC (ZH (Fx.op_inL hr.units) V4 (Za 6) rfl Fx.fInL_b)
  (Zm (ZW V4))
  ZU)
  (Zm (Fx.ss_app (i := 3) rfl (Vt (Zb (VL rfl z_tuple (Xy (Qq (Za 6) Vd (Ve (Za 2))))) (Zb (Wa (Za 6) (Za 2) (fun _ _ => rfl)) Zj))))))))))
  (Zm (ZW (Vt (Zb (Za 2) (Zb (VL rfl z_tuple (Za 3)) Zj))))))))))
theorem Q1 (F : Fun K "_law_line" "_law_line" Xj fa fd) (hm : mg "_law_line" = some (.ref fa)) (b : YV K fd ["_law_drawn"] []) (z_str : mg "str" = none) :
  Fx.Cle P w K mg base (k + 1) "_law_line" 1 XU := by
 exact Wn F hm b Ys rfl rfl fun cdv A outer s H E hr =>
  (Zd (Zt (i := 1) Ys.nd rfl (Or.inl rfl) (UV rfl z_str (Wa (Za 0) Zf (fun _ _ => rfl))))
  (Zd (Qf PassesOwn.never rfl (Vs (Wa (Za 0) Zf (fun _ _ => rfl))) (Y9 (i := 2) Ys.nd rfl (Or.inl rfl))
  (Zd (Zt (i := 1) Ys.nd rfl (Or.inl rfl) (ZC Y8 (Za 1) Zk))
  (Zd (Qf PassesOwn.never rfl (Vs (Wa (Za 2) Zf (fun _ _ => rfl))) (Y9 (i := 3) Ys.nd rfl (Or.inl rfl))
  (Zm (Zt (i := 1) Ys.nd rfl (Or.inl rfl) (ZC Y8 (ZC Y8 (Za 1) Zk) (UV rfl z_str (Za 3))))))
  (Zm (Zt (i := 1) Ys.nd rfl (Or.inl rfl) (ZC Y8 (ZC Y8 (Za 1) Zk) (UV rfl z_str (Wa (Za 2) Zf (fun _ _ => rfl)))))))))
  (Zm (ZW (Za 1)))))
theorem UN (F : Fun K "_law_spoilt" "_law_spoilt" Yx fa fd) (hm : mg "_law_spoilt" = some (.ref fa)) (b : YV K fd ["_law_line_here", "_law_way", "_law_cell"] []) (z_len : mg "len" = none) :
  Fx.Cle P w K mg base (k + 1) "_law_spoilt" 3 Y1 := by
 exact Wn F hm b Xf rfl rfl fun cdv A outer s H E hr =>
  (Zd (Zt (i := 3) Xf.nd rfl (Or.inl rfl) (ZC Yu (Za 2) (ZC Yp (UW rfl z_len (Za 0)) Zf)))
  (Zd (YC (ZH Vq (Za 1) Zf (ZE _))
  (Zm (ZW (ZC Y8 (ZC Y8 (Wc (Za 0) Vd (Ve (Za 3))) (Wa (Ux (Zb Zk (Zb Zk (Zb Zk (Zb Zk (Zb Zk (Zb Zk (Zb Zk (Zb Zk (Zb Zk (Zb Zk Zj))))))))))) (ZC Yu (ZC zaN (Za 2) Zf) Zf) (fun _ _ => rfl))) (Wc (Za 0) (Ve (Za 3)) Vd))))
  ZU)
  (Zd (YC (ZH Vq (Za 1) Zf (ZE _))
  (Zm (ZW (ZC Y8 (Wc (Za 0) Vd (Ve (Za 3))) (Wc (Za 0) (Ve (ZC Yp (Za 3) Zf)) Vd))))
  ZU)
  (Zd (UE (i := 4) Xf.nd rfl (Or.inl rfl) (Ww (Za 0) Zk))
  (Zd (Zt (i := 3) Xf.nd rfl (Or.inl rfl) (ZC Yu (ZC zaN (Za 2) Zf) (Fx.ev_lenN (i := 4) rfl z_len rfl)))
  (Zd (YC (ZH (X6 hr.units) (Za 1) Zf (ZE _))
  (Zm (Fx.ss_setIt (i := 4) rfl (Za 3) (Wa (Ux (Zb Zk (Zb Zk (Zb Zk (Zb Zk (Zb Zk (Zb Zk (Zb (ZC Y8 Zk (ZC zaL Zk Zf)) (Zb (ZC Y8 Zk (ZC zaL Zk Zf)) (Zb Zk (Zb Zk (Zb Zk (Zb Zk Zj))))))))))))) (ZC Yu (Za 2) Zf) (fun _ _ => rfl))))
  ZU)
  (Zd (YC (ZH (X6 hr.units) (Za 1) Zf (ZE _))
  (Zm (Fx.ss_ins (i := 4) rfl (Za 3) Zk))
  ZU)
  (Zm (ZW (Fx.ev_joinL Zk (Za 4)))))))))))
theorem Ue {cl : Str -> Value} {X_NoText : Addr} {X_LimitError : Addr} (F : Fun K "_law_refused" "_law_refused" Yk fa fd) (hm : mg "_law_refused" = some (.ref fa)) (b : YV K fd ["_law_line_here"] []) (z_int : mg "int" = none) (z_isinstance : mg "isinstance" = none) (z_ValueError : mg "ValueError" = none) (c_NoText : Fx.XCls K mg "NoText" X_NoText) (c_LimitError : Fx.XCls K mg "LimitError" X_LimitError) (e_NoText : cl "NoText" = .ref X_NoText) (e_LimitError : cl "LimitError" = .ref X_LimitError) (u_NoText_NoText : PySem.W.subIn K (.ref X_NoText) (.ref X_NoText) = some true) (u_NoText_LimitError : PySem.W.subIn K (.ref X_NoText) (.ref X_LimitError) = some true) (u_NoText_ValueError : PySem.W.subIn K (.ref X_NoText) (.type "ValueError") = some true) (C_read : Fx.Clx P w K mg base cl k "read" 1 Xx) :
  Fx.Cle P w K mg base (k + 1) "_law_refused" 1 ZZ := by
 exact Wn F hm b Yq rfl rfl fun cdv A outer s H E hr =>
  (Zd (Zt (i := 1) Yq.nd rfl (Or.inl rfl) Zf)
  (Zd (Fx.ss_try (Fx.InFrame.wish ZA) C_read hr rfl (Zb (Za 0) Zj) c_NoText rfl (WQ e_NoText u_NoText_NoText Vk) (fun _ =>
  (Zm (Zt (i := 1) Yq.nd rfl (Or.inl rfl) (ZC Yp (Za 1) Zf)))))
  (Zd (Fx.ss_tryA (i := 2) (Fx.InFrame.wish ZA) C_read hr rfl (Zb (Za 0) Zj) c_LimitError rfl (WQ e_NoText u_NoText_LimitError Vk) (Fx.ve_cons e_NoText u_NoText_ValueError Fx.ve_nil) Yq.nd rfl rfl (fun _ =>
  (Zm (Zt (i := 1) Yq.nd rfl (Or.inl rfl) (ZC Yp (Za 1) (Fx.ev_intc rfl z_int (Fx.ev_isx rfl z_isinstance rfl z_ValueError (Za 2))))))))
  (Zm (ZW (JG (X6 hr.units) (Za 1) Zf (ZE _)))))))
theorem law_fn {cl : Str -> Value} (F : Fun K "law" "law" UK fa fd) (C_law_cell_at : Fx.Cle P w K mg base k "_law_cell_at" 2 Zh) (C_law_refused : Fx.Cle P w K mg base k "_law_refused" 1 ZZ) (C_law_desk : Fx.Cle P w K mg base k "_law_desk" 1 Xn) (C_law_line : Fx.Cle P w K mg base k "_law_line" 1 XU) (C_law_spoilt : Fx.Cle P w K mg base k "_law_spoilt" 3 Y1) (C_law_desk_of : Fx.Cle P w K mg base k "_law_desk_of" 1 YH) (C_read : Fx.Clx P w K mg base cl k "read" 1 Xx) :
  FnOk P w K mg base CX0 (k + 1) fa fd ["_law_script"] (Fx.spF K none 1 Q5) := by
 exact Fx.fn_ok F Qj rfl fun cdv A outer s H E hr =>
  (Zd (Zt (i := 1) Qj.nd rfl (Or.inl rfl) (ZC Yu (Zw (Fx.Cle.cal C_law_cell_at) hr rfl (Zb (Za 0) (Zb Zf Zj))) Zf))
  (Zd (Zt (i := 2) Qj.nd rfl (Or.inl rfl) (Zw (Fx.Cle.cal C_law_cell_at) hr rfl (Zb (Za 0) (Zb Zf Zj))))
  (Zd (YC (ZH (X6 hr.units) (Za 1) Zf (ZE _))
  (Zm (ZW (Zw (Fx.Cle.cal C_law_refused) hr rfl (Zb (Wa (Ux (Zb V4 (Zb Zf (Zb (Ux (Zb Zk Zj)) (Zb (Vt (Zb Zk Zj)) (Zb Fx.ev_bl Zj)))))) (ZC Yu (Za 2) Zf) (fun _ _ => rfl)) Zj))))
  ZU)
  (Zd (Zt (i := 3) Qj.nd rfl (Or.inl rfl) (Zw (Fx.Cle.cal C_law_spoilt) hr rfl (Zb (Zw (Fx.Cle.cal C_law_line) hr rfl (Zb (Zw (Fx.Cle.cal C_law_desk) hr rfl (Zb (Za 0) Zj)) Zj)) (Zb (Za 1) (Zb (Za 2) Zj)))))
  (Zd (Zt (i := 4) Qj.nd rfl (Or.inl rfl) (Zw (Fx.Cle.cal C_law_desk_of) hr rfl (Zb (Za 3) Zj)))
  (Zd (YC (Fx.tv_isN (Za 4))
  (Zm (ZW (Zw (Fx.Cle.cal C_law_refused) hr rfl (Zb (Za 3) Zj))))
  ZU)
  (Zm (ZW (JG (X6 hr.units) (Zw (Fx.Clx.calN C_read) hr rfl (Zb (Za 3) Zj)) (Za 4) (ZE _))))))))))
end
theorem all_mk {l : PySem.W.OpenLaw} {w : World} {K : PySem.W.Frag} {h : Heap} {mg : Str -> Option Value} {fa : Addr} (X : K.In h) (G : h.Ns mainGlobals mg) (hfa : mg "law" = some (.ref fa))
  {f0 f1 f2 f3 f4 f5 f6 f7 f8 f9 f10 f11 f12 f13 f14 f15 f16 f17 : Addr} {od0 an0 od1 an1 od2 an2 od3 an3 od4 an4 od5 an5 od6 an6 od7 an7 od8 an8 od9 an9 od10 an10 od11 an11 od12 an12 od13 an13 od14 an14 od15 an15 od16 an16 od17 an17 : Option Addr} {sl0 sl1 sl2 sl3 sl4 sl5 sl6 sl7 sl8 sl9 sl10 sl11 sl12 sl13 sl14 sl15 sl16 sl17 : Array (Option Value)} {oc0 kV0 dc0 pm0 cd0 ct0 oc1 kV1 dc1 pm1 cd1 ct1 oc2 kV2 dc2 pm2 cd2 ct2 oc3 kV3 dc3 pm3 cd3 ct3 oc4 kV4 dc4 pm4 cd4 ct4 oc5 kV5 dc5 pm5 cd5 ct5 oc6 kV6 dc6 pm6 cd6 ct6 oc7 kV7 dc7 pm7 cd7 ct7 oc8 kV8 dc8 pm8 cd8 ct8 oc9 kV9 dc9 pm9 cd9 ct9 oc10 kV10 dc10 pm10 cd10 ct10 oc11 kV11 dc11 pm11 cd11 ct11 oc12 kV12 dc12 pm12 cd12 ct12 oc13 kV13 dc13 pm13 cd13 ct13 oc14 kV14 dc14 pm14 cd14 ct14 oc15 kV15 dc15 pm15 cd15 ct15 oc16 kV16 dc16 pm16 cd16 ct16 oc17 kV17 dc17 pm17 cd17 ct17 : Value}
  {tg_GREATEST_NUMBER : Tok}
  {tg_MOST_KINDS : Tok}
  {tg_MOST_LIMITS : Tok}
  {tg_MOST_FIGURES : Tok}
  {tg_FIGURES : Tok}
  {X_NoDesk : Addr}
  {X_NoText : Addr}
  {X_LimitError : Addr}
  (a0 : PySem.W.nsIn K mainGlobals "is_whole" = some (some (.ref f0))) (l0 : K.lookup f0 = some ⟨oc0, od0, .func (PySem.W.fnOf "is_whole" "is_whole" (ZR Xl) (ZD Xl) (Ze Xl) .none kV0 dc0 pm0 an0 cd0 ct0), sl0⟩) (c0 : PySem.W.codeIn K cd0 "is_whole" = true) (k0 : PySem.W.keepIn K (.ref f0) = true)
  (a1 : PySem.W.nsIn K mainGlobals "is_number" = some (some (.ref f1))) (l1 : K.lookup f1 = some ⟨oc1, od1, .func (PySem.W.fnOf "is_number" "is_number" (ZR YR) (ZD YR) (Ze YR) .none kV1 dc1 pm1 an1 cd1 ct1), sl1⟩) (c1 : PySem.W.codeIn K cd1 "is_number" = true) (k1 : PySem.W.keepIn K (.ref f1) = true)
  (a2 : PySem.W.nsIn K mainGlobals "limit_of" = some (some (.ref f2))) (l2 : K.lookup f2 = some ⟨oc2, od2, .func (PySem.W.fnOf "limit_of" "limit_of" (ZR Xi) (ZD Xi) (Ze Xi) .none kV2 dc2 pm2 an2 cd2 ct2), sl2⟩) (c2 : PySem.W.codeIn K cd2 "limit_of" = true) (k2 : PySem.W.keepIn K (.ref f2) = true)
  (a3 : PySem.W.nsIn K mainGlobals "desk_of" = some (some (.ref f3))) (l3 : K.lookup f3 = some ⟨oc3, od3, .func (PySem.W.fnOf "desk_of" "desk_of" (ZR XS) (ZD XS) (Ze XS) .none kV3 dc3 pm3 an3 cd3 ct3), sl3⟩) (c3 : PySem.W.codeIn K cd3 "desk_of" = true) (k3 : PySem.W.keepIn K (.ref f3) = true)
  (a4 : PySem.W.nsIn K mainGlobals "shown_number" = some (some (.ref f4))) (l4 : K.lookup f4 = some ⟨oc4, od4, .func (PySem.W.fnOf "shown_number" "shown_number" (ZR Yd) (ZD Yd) (Ze Yd) .none kV4 dc4 pm4 an4 cd4 ct4), sl4⟩) (c4 : PySem.W.codeIn K cd4 "shown_number" = true) (k4 : PySem.W.keepIn K (.ref f4) = true)
  (a5 : PySem.W.nsIn K mainGlobals "check_text" = some (some (.ref f5))) (l5 : K.lookup f5 = some ⟨oc5, od5, .func (PySem.W.fnOf "check_text" "check_text" (ZR Yz) (ZD Yz) (Ze Yz) .none kV5 dc5 pm5 an5 cd5 ct5), sl5⟩) (c5 : PySem.W.codeIn K cd5 "check_text" = true) (k5 : PySem.W.keepIn K (.ref f5) = true)
  (a6 : PySem.W.nsIn K mainGlobals "read_number" = some (some (.ref f6))) (l6 : K.lookup f6 = some ⟨oc6, od6, .func (PySem.W.fnOf "read_number" "read_number" (ZR Yj) (ZD Yj) (Ze Yj) .none kV6 dc6 pm6 an6 cd6 ct6), sl6⟩) (c6 : PySem.W.codeIn K cd6 "read_number" = true) (k6 : PySem.W.keepIn K (.ref f6) = true)
  (a7 : PySem.W.nsIn K mainGlobals "read_limit" = some (some (.ref f7))) (l7 : K.lookup f7 = some ⟨oc7, od7, .func (PySem.W.fnOf "read_limit" "read_limit" (ZR Yw) (ZD Yw) (Ze Yw) .none kV7 dc7 pm7 an7 cd7 ct7), sl7⟩) (c7 : PySem.W.codeIn K cd7 "read_limit" = true) (k7 : PySem.W.keepIn K (.ref f7) = true)
  (a8 : PySem.W.nsIn K mainGlobals "read" = some (some (.ref f8))) (l8 : K.lookup f8 = some ⟨oc8, od8, .func (PySem.W.fnOf "read" "read" (ZR Ul) (ZD Ul) (Ze Ul) .none kV8 dc8 pm8 an8 cd8 ct8), sl8⟩) (c8 : PySem.W.codeIn K cd8 "read" = true) (k8 : PySem.W.keepIn K (.ref f8) = true)
  (a9 : PySem.W.nsIn K mainGlobals "_law_cell_at" = some (some (.ref f9))) (l9 : K.lookup f9 = some ⟨oc9, od9, .func (PySem.W.fnOf "_law_cell_at" "_law_cell_at" (ZR Ym) (ZD Ym) (Ze Ym) .none kV9 dc9 pm9 an9 cd9 ct9), sl9⟩) (c9 : PySem.W.codeIn K cd9 "_law_cell_at" = true) (k9 : PySem.W.keepIn K (.ref f9) = true)
  (a10 : PySem.W.nsIn K mainGlobals "_law_number" = some (some (.ref f10))) (l10 : K.lookup f10 = some ⟨oc10, od10, .func (PySem.W.fnOf "_law_number" "_law_number" (ZR Yy) (ZD Yy) (Ze Yy) .none kV10 dc10 pm10 an10 cd10 ct10), sl10⟩) (c10 : PySem.W.codeIn K cd10 "_law_number" = true) (k10 : PySem.W.keepIn K (.ref f10) = true)
  (a11 : PySem.W.nsIn K mainGlobals "_law_desk" = some (some (.ref f11))) (l11 : K.lookup f11 = some ⟨oc11, od11, .func (PySem.W.fnOf "_law_desk" "_law_desk" (ZR Xk) (ZD Xk) (Ze Xk) .none kV11 dc11 pm11 an11 cd11 ct11), sl11⟩) (c11 : PySem.W.codeIn K cd11 "_law_desk" = true) (k11 : PySem.W.keepIn K (.ref f11) = true)
  (a12 : PySem.W.nsIn K mainGlobals "_law_number_of" = some (some (.ref f12))) (l12 : K.lookup f12 = some ⟨oc12, od12, .func (PySem.W.fnOf "_law_number_of" "_law_number_of" (ZR Z4) (ZD Z4) (Ze Z4) .none kV12 dc12 pm12 an12 cd12 ct12), sl12⟩) (c12 : PySem.W.codeIn K cd12 "_law_number_of" = true) (k12 : PySem.W.keepIn K (.ref f12) = true)
  (a13 : PySem.W.nsIn K mainGlobals "_law_desk_of" = some (some (.ref f13))) (l13 : K.lookup f13 = some ⟨oc13, od13, .func (PySem.W.fnOf "_law_desk_of" "_law_desk_of" (ZR Yl) (ZD Yl) (Ze Yl) .none kV13 dc13 pm13 an13 cd13 ct13), sl13⟩) (c13 : PySem.W.codeIn K cd13 "_law_desk_of" = true) (k13 : PySem.W.keepIn K (.ref f13) = true)
  (a14 : PySem.W.nsIn K mainGlobals "_law_line" = some (some (.ref f14))) (l14 : K.lookup f14 = some ⟨oc14, od14, .func (PySem.W.fnOf "_law_line" "_law_line" (ZR Xj) (ZD Xj) (Ze Xj) .none kV14 dc14 pm14 an14 cd14 ct14), sl14⟩) (c14 : PySem.W.codeIn K cd14 "_law_line" = true) (k14 : PySem.W.keepIn K (.ref f14) = true)
  (a15 : PySem.W.nsIn K mainGlobals "_law_spoilt" = some (some (.ref f15))) (l15 : K.lookup f15 = some ⟨oc15, od15, .func (PySem.W.fnOf "_law_spoilt" "_law_spoilt" (ZR Yx) (ZD Yx) (Ze Yx) .none kV15 dc15 pm15 an15 cd15 ct15), sl15⟩) (c15 : PySem.W.codeIn K cd15 "_law_spoilt" = true) (k15 : PySem.W.keepIn K (.ref f15) = true)
  (a16 : PySem.W.nsIn K mainGlobals "_law_refused" = some (some (.ref f16))) (l16 : K.lookup f16 = some ⟨oc16, od16, .func (PySem.W.fnOf "_law_refused" "_law_refused" (ZR Yk) (ZD Yk) (Ze Yk) .none kV16 dc16 pm16 an16 cd16 ct16), sl16⟩) (c16 : PySem.W.codeIn K cd16 "_law_refused" = true) (k16 : PySem.W.keepIn K (.ref f16) = true)
  (a17 : PySem.W.nsIn K mainGlobals "law" = some (some (.ref f17))) (l17 : K.lookup f17 = some ⟨oc17, od17, .func (PySem.W.fnOf "law" "law" (ZR UK) (ZD UK) (Ze UK) .none kV17 dc17 pm17 an17 cd17 ct17), sl17⟩) (c17 : PySem.W.codeIn K cd17 "law" = true) (k17 : PySem.W.keepIn K (.ref f17) = true)
  (z_isinstance : PySem.W.nsIn K mainGlobals "isinstance" = some none)
  (z_int : PySem.W.nsIn K mainGlobals "int" = some none)
  (z_bool : PySem.W.nsIn K mainGlobals "bool" = some none)
  (z_abs : PySem.W.nsIn K mainGlobals "abs" = some none)
  (z_tuple : PySem.W.nsIn K mainGlobals "tuple" = some none)
  (z_len : PySem.W.nsIn K mainGlobals "len" = some none)
  (z_list : PySem.W.nsIn K mainGlobals "list" = some none)
  (z_all : PySem.W.nsIn K mainGlobals "all" = some none)
  (z_str : PySem.W.nsIn K mainGlobals "str" = some none)
  (z_reversed : PySem.W.nsIn K mainGlobals "reversed" = some none)
  (z_range : PySem.W.nsIn K mainGlobals "range" = some none)
  (z_ValueError : PySem.W.nsIn K mainGlobals "ValueError" = some none)
  (g_GREATEST_NUMBER : PySem.W.nsIn K mainGlobals "GREATEST_NUMBER" = some (some (.int 999999999999 tg_GREATEST_NUMBER)))
  (g_MOST_KINDS : PySem.W.nsIn K mainGlobals "MOST_KINDS" = some (some (.int 4 tg_MOST_KINDS)))
  (g_MOST_LIMITS : PySem.W.nsIn K mainGlobals "MOST_LIMITS" = some (some (.int 10 tg_MOST_LIMITS)))
  (g_MOST_FIGURES : PySem.W.nsIn K mainGlobals "MOST_FIGURES" = some (some (.int 30 tg_MOST_FIGURES)))
  (g_FIGURES : PySem.W.nsIn K mainGlobals "FIGURES" = some (some (.str (PySem.Str.ofString "0123456789") tg_FIGURES)))
  (x_NoDesk : PySem.W.nsIn K mainGlobals "NoDesk" = some (some (.ref X_NoDesk))) (q_NoDesk : PySem.W.excIn K X_NoDesk [.type "ValueError", .type "Exception", .type "BaseException", .type "object"] "ValueError.__new__" = true)
  (x_NoText : PySem.W.nsIn K mainGlobals "NoText" = some (some (.ref X_NoText))) (q_NoText : PySem.W.excIn K X_NoText [.type "ValueError", .type "Exception", .type "BaseException", .type "object"] "ValueError.__new__" = true)
  (x_LimitError : PySem.W.nsIn K mainGlobals "LimitError" = some (some (.ref X_LimitError))) (q_LimitError : PySem.W.excIn K X_LimitError [.type "ValueError", .type "Exception", .type "BaseException", .type "object"] "ValueError.__new__" = true)
  (u_NoDesk_NoDesk : PySem.W.subIn K (.ref X_NoDesk) (.ref X_NoDesk) = some true)
  (u_NoText_NoText : PySem.W.subIn K (.ref X_NoText) (.ref X_NoText) = some true)
  (u_NoText_LimitError : PySem.W.subIn K (.ref X_NoText) (.ref X_LimitError) = some true)
  (u_NoText_ValueError : PySem.W.subIn K (.ref X_NoText) (.type "ValueError") = some true)
  (v_NoText_NoDesk : PySem.W.subIn K (.ref X_NoText) (.ref X_NoDesk) = some false) :
  ∃ fd : FuncData, (∀ (s : Shared) (v : Value), BindsTo s fd ⟨[v], []⟩ [("_law_script", v)]) /\ ∀ base : Heap, K.In base -> base.Ns mainGlobals mg -> FnOk l.prog w K mg base CX0 7 fa fd ["_law_script"] (Fx.spF K none 1 Q5) := by
 have e := hfa.symm.trans (PySem.W.mg_of X G a17)
 cases e
 have F0 := YQ (st := Xl) l0 c0 k0
 have b0 := F0.binds (ps := ["value"]) fun _ _ _ _ _ _ us hl => match us, hl with | [_], _ => rfl
 have F1 := YQ (st := YR) l1 c1 k1
 have b1 := F1.binds (ps := ["value"]) fun _ _ _ _ _ _ us hl => match us, hl with | [_], _ => rfl
 have F2 := YQ (st := Xi) l2 c2 k2
 have b2 := F2.binds (ps := ["kinds", "limit"]) fun _ _ _ _ _ _ us hl => match us, hl with | [_, _], _ => rfl
 have F3 := YQ (st := XS) l3 c3 k3
 have b3 := F3.binds (ps := ["kinds", "limits"]) fun _ _ _ _ _ _ us hl => match us, hl with | [_, _], _ => rfl
 have F4 := YQ (st := Yd) l4 c4 k4
 have b4 := F4.binds (ps := ["number"]) fun _ _ _ _ _ _ us hl => match us, hl with | [_], _ => rfl
 have F5 := YQ (st := Yz) l5 c5 k5
 have b5 := F5.binds (ps := ["line"]) fun _ _ _ _ _ _ us hl => match us, hl with | [_], _ => rfl
 have F6 := YQ (st := Yj) l6 c6 k6
 have b6 := F6.binds (ps := ["written"]) fun _ _ _ _ _ _ us hl => match us, hl with | [_], _ => rfl
 have F7 := YQ (st := Yw) l7 c7 k7
 have b7 := F7.binds (ps := ["written"]) fun _ _ _ _ _ _ us hl => match us, hl with | [_], _ => rfl
 have F8 := YQ (st := Ul) l8 c8 k8
 have b8 := F8.binds (ps := ["line"]) fun _ _ _ _ _ _ us hl => match us, hl with | [_], _ => rfl
 have F9 := YQ (st := Ym) l9 c9 k9
 have b9 := F9.binds (ps := ["_law_script", "_law_k"]) fun _ _ _ _ _ _ us hl => match us, hl with | [_, _], _ => rfl
 have F10 := YQ (st := Yy) l10 c10 k10
 have b10 := F10.binds (ps := ["_law_cell", "_law_wide"]) fun _ _ _ _ _ _ us hl => match us, hl with | [_, _], _ => rfl
 have F11 := YQ (st := Xk) l11 c11 k11
 have b11 := F11.binds (ps := ["_law_script"]) fun _ _ _ _ _ _ us hl => match us, hl with | [_], _ => rfl
 have F12 := YQ (st := Z4) l12 c12 k12
 have b12 := F12.binds (ps := ["_law_word"]) fun _ _ _ _ _ _ us hl => match us, hl with | [_], _ => rfl
 have F13 := YQ (st := Yl) l13 c13 k13
 have b13 := F13.binds (ps := ["_law_line_here"]) fun _ _ _ _ _ _ us hl => match us, hl with | [_], _ => rfl
 have F14 := YQ (st := Xj) l14 c14 k14
 have b14 := F14.binds (ps := ["_law_drawn"]) fun _ _ _ _ _ _ us hl => match us, hl with | [_], _ => rfl
 have F15 := YQ (st := Yx) l15 c15 k15
 have b15 := F15.binds (ps := ["_law_line_here", "_law_way", "_law_cell"]) fun _ _ _ _ _ _ us hl => match us, hl with | [_, _, _], _ => rfl
 have F16 := YQ (st := Yk) l16 c16 k16
 have b16 := F16.binds (ps := ["_law_line_here"]) fun _ _ _ _ _ _ us hl => match us, hl with | [_], _ => rfl
 have F17 := YQ (st := UK) l17 c17 k17
 have b17 := F17.binds (ps := ["_law_script"]) fun _ _ _ _ _ _ us hl => match us, hl with | [_], _ => rfl
 have m_isinstance := PySem.W.mg_none_of X G z_isinstance
 have m_int := PySem.W.mg_none_of X G z_int
 have m_bool := PySem.W.mg_none_of X G z_bool
 have m_abs := PySem.W.mg_none_of X G z_abs
 have m_tuple := PySem.W.mg_none_of X G z_tuple
 have m_len := PySem.W.mg_none_of X G z_len
 have m_list := PySem.W.mg_none_of X G z_list
 have m_all := PySem.W.mg_none_of X G z_all
 have m_str := PySem.W.mg_none_of X G z_str
 have m_reversed := PySem.W.mg_none_of X G z_reversed
 have m_range := PySem.W.mg_none_of X G z_range
 have m_ValueError := PySem.W.mg_none_of X G z_ValueError
 have n_GREATEST_NUMBER := PySem.W.mg_of X G g_GREATEST_NUMBER
 have n_MOST_KINDS := PySem.W.mg_of X G g_MOST_KINDS
 have n_MOST_LIMITS := PySem.W.mg_of X G g_MOST_LIMITS
 have n_MOST_FIGURES := PySem.W.mg_of X G g_MOST_FIGURES
 have n_FIGURES := PySem.W.mg_of X G g_FIGURES
 obtain ⟨cl, hcl⟩ : ∃ cl : Str -> Value, cl "NoDesk" = .ref X_NoDesk /\ cl "NoText" = .ref X_NoText /\ cl "LimitError" = .ref X_LimitError /\ True := ⟨fun c => if c = "NoDesk" then .ref X_NoDesk else if c = "NoText" then .ref X_NoText else if c = "LimitError" then .ref X_LimitError else .none, (if_pos rfl), ((if_neg (by decide)).trans (if_pos rfl)), ((if_neg (by decide)).trans ((if_neg (by decide)).trans (if_pos rfl))), trivial⟩
 obtain ⟨e_NoDesk, hcl⟩ := hcl
 obtain ⟨e_NoText, hcl⟩ := hcl
 obtain ⟨e_LimitError, hcl⟩ := hcl
 letI : Fx.Dirt := ⟨fun v => v = .ref X_NoText⟩
 have dd_NoText : Fx.Dirt.d (.ref X_NoText) := rfl
 have dn_NoDesk : ¬ Fx.Dirt.d (.ref X_NoDesk) := fun z => by
  have z' : Value.ref X_NoDesk = Value.ref X_NoText := z
  have e' : X_NoDesk = X_NoText := by injection z'
  rw [e'] at u_NoDesk_NoDesk v_NoText_NoDesk
  rw [u_NoDesk_NoDesk] at v_NoText_NoDesk
  cases v_NoText_NoDesk
 have c_NoDesk : Fx.XCls K mg "NoDesk" X_NoDesk := ⟨PySem.W.mg_of X G x_NoDesk, q_NoDesk⟩
 have c_NoText : Fx.XCls K mg "NoText" X_NoText := ⟨PySem.W.mg_of X G x_NoText, q_NoText⟩
 have c_LimitError : Fx.XCls K mg "LimitError" X_LimitError := ⟨PySem.W.mg_of X G x_LimitError, q_LimitError⟩
 refine ⟨PySem.W.fnOf "law" "law" (ZR UK) (ZD UK) (Ze UK) .none kV17 dc17 pm17 an17 cd17 ct17, fun s v => .of_eq rfl, fun base _ _ => ?_⟩
 have R_is_whole := Q3 (P := l.prog) (w := w) (base := base) (k := 0) F0 (PySem.W.mg_of X G a0) b0 m_isinstance m_int m_bool
 have R_is_number := Qr (P := l.prog) (w := w) (base := base) (k := 1) F1 (PySem.W.mg_of X G a1) b1 m_abs ⟨_, n_GREATEST_NUMBER⟩ (R_is_whole.mono (by decide))
 have R_limit_of := Q0 (P := l.prog) (w := w) (base := base) (k := 2) (cl := cl) F2 (PySem.W.mg_of X G a2) b2 m_isinstance m_tuple m_len m_list m_all c_NoDesk e_NoDesk (R_is_number.mono (by decide))
 have R_desk_of := JX (P := l.prog) (w := w) (base := base) (k := 3) (cl := cl) F3 (PySem.W.mg_of X G a3) b3 m_isinstance m_list m_len m_tuple ⟨_, n_MOST_KINDS⟩ ⟨_, n_MOST_LIMITS⟩ c_NoDesk e_NoDesk (R_is_whole.mono (by decide)) (R_limit_of.mono (by decide))
 have R_shown_number := VV (P := l.prog) (w := w) (base := base) (k := 0) F4 (PySem.W.mg_of X G a4) b4 m_abs m_str m_reversed
 have R_check_text := UP (P := l.prog) (w := w) (base := base) (k := 0) (cl := cl) F5 (PySem.W.mg_of X G a5) b5 m_isinstance m_str c_NoText e_NoText
 have R_read_number := Ud (P := l.prog) (w := w) (base := base) (k := 1) (cl := cl) F6 (PySem.W.mg_of X G a6) b6 m_len m_all m_int ⟨_, n_MOST_FIGURES⟩ ⟨_, n_FIGURES⟩ c_NoText e_NoText (R_shown_number.mono (by decide))
 have R_read_limit := UM (P := l.prog) (w := w) (base := base) (k := 2) (cl := cl) F7 (PySem.W.mg_of X G a7) b7 m_len c_NoText e_NoText (R_read_number.mono (by decide))
 have R_read := ok_read (P := l.prog) (w := w) (base := base) (k := 4) (cl := cl) F8 (PySem.W.mg_of X G a8) b8 c_NoDesk c_NoText e_NoDesk e_NoText u_NoDesk_NoDesk v_NoText_NoDesk dd_NoText dn_NoDesk (R_check_text.mono (by decide)) (R_read_number.mono (by decide)) (R_read_limit.mono (by decide)) (R_desk_of.mono (by decide))
 have R_law_cell_at := Ug (P := l.prog) (w := w) (base := base) (k := 0) F9 (PySem.W.mg_of X G a9) b9 m_len
 have R_law_number := UO (P := l.prog) (w := w) (base := base) (k := 0) F10 (PySem.W.mg_of X G a10) b10 
 have R_law_desk := Q2 (P := l.prog) (w := w) (base := base) (k := 1) F11 (PySem.W.mg_of X G a11) b11 m_range m_abs (R_law_cell_at.mono (by decide)) (R_law_number.mono (by decide))
 have R_law_number_of := VF (P := l.prog) (w := w) (base := base) (k := 0) F12 (PySem.W.mg_of X G a12) b12 m_len
 have R_law_desk_of := Uf (P := l.prog) (w := w) (base := base) (k := 1) F13 (PySem.W.mg_of X G a13) b13 m_len m_tuple (R_law_number_of.mono (by decide))
 have R_law_line := Q1 (P := l.prog) (w := w) (base := base) (k := 0) F14 (PySem.W.mg_of X G a14) b14 m_str
 have R_law_spoilt := UN (P := l.prog) (w := w) (base := base) (k := 0) F15 (PySem.W.mg_of X G a15) b15 m_len
 have R_law_refused := Ue (P := l.prog) (w := w) (base := base) (k := 5) (cl := cl) F16 (PySem.W.mg_of X G a16) b16 m_int m_isinstance m_ValueError c_NoText c_LimitError e_NoText e_LimitError u_NoText_NoText u_NoText_LimitError u_NoText_ValueError (R_read.mono (by decide))
 exact law_fn F17 (R_law_cell_at.mono (by decide)) (R_law_refused.mono (by decide)) (R_law_desk.mono (by decide)) (R_law_line.mono (by decide)) (R_law_spoilt.mono (by decide)) (R_law_desk_of.mono (by decide)) (R_read.mono (by decide))
end K19
namespace Tx
open PySem PySem.NumText Fx
abbrev L (x : Str) : List Nat := x.cps.toList
theorem Ya (x : Str) : x.length = (L x).length := by simp [Str.length, L]
theorem ext {x y : Str} (h : L x = L y) : x = y := Str.ext' (by rw [<- Array.toArray_toList (xs := x.cps), <- Array.toArray_toList (xs := y.cps)]; exact congrArg _ h)
theorem WG (x y : Str) : L (x ++ y) = L x ++ L y := by
 obtain ⟨a⟩ := x; obtain ⟨b⟩ := y
 show (a ++ b).toList = a.toList ++ b.toList
 simp
theorem L_mk (l : List Nat) : L ⟨l.toArray⟩ = l := by simp [L]
theorem L_of (s : String) : L (Str.ofString s) = s.toList.map Char.toNat := PyProof.Rows.signs_ofString s
def dg (m : Nat) : List Nat := (Nat.toDigits 10 m).map Char.toNat
theorem WN {m : Nat} (h : 10 <= m) : dg m = dg (m / 10) ++ dg (m % 10) := by
 have hm : m % 10 < 10 := Nat.mod_lt m (by decide)
 have t : Nat.toDigits 10 (m / 10) ++ Nat.toDigits 10 (m % 10) = Nat.toDigits 10 (10 * (m / 10) + m % 10) := Nat.toDigits_append_toDigits (by decide) (by omega) hm
 rw [Nat.div_add_mod] at t
 unfold dg
 rw [<- t, List.map_append]
theorem X8 : ∀ m : Nat, m < 10 -> dg m = [48 + m] := by decide
theorem W6 (m : Nat) : AllDigits (dg m) := by
 induction m using Nat.strongRecOn with
 | _ m ih =>
  by_cases h : m < 10
  ·rw [X8 m h]
   intro c hc
   rw [List.mem_singleton.mp hc]
   omega
  ·rw [WN (by omega)]
   intro c hc
   rcases List.mem_append.mp hc with q | q
   ·exact ih _ (by omega) c q
   ·exact ih _ (by omega) c q
theorem zan (a : List Nat) (c : Nat) : digitsVal (a ++ [c]) = digitsVal a * 10 + (c - 48) := by
 unfold digitsVal
 rw [List.foldl_append]; rfl
theorem dg_val (m : Nat) : digitsVal (dg m) = m := by
 induction m using Nat.strongRecOn with
 | _ m ih =>
  by_cases h : m < 10
  ·rw [X8 m h]
   show 0 * 10 + (48 + m - 48) = m
   omega
  ·rw [WN (by omega), X8 (m % 10) (by omega), zan, ih _ (by omega)]
   omega
theorem dg_ne (m : Nat) : dg m ≠ [] := by
 by_cases h : m < 10
 ·rw [X8 m h]; simp
 ·rw [WN (by omega), X8 (m % 10) (by omega)]; simp
theorem QE : ∀ (k m : Nat), (dg m).length <= k + 1 ↔ m < 10 ^ (k + 1)
 | 0, m => by
  by_cases h : m < 10
  ·rw [X8 m h]; simp [h]
  ·rw [WN (by omega), X8 (m % 10) (by omega), List.length_append]
   have := dg_ne (m / 10)
   have l1 : 0 < (dg (m / 10)).length := List.length_pos_iff.mpr this
   constructor
   ·intro z
    simp only [List.length_cons, List.length_nil] at z
    omega
   ·intro z
    simp only [Nat.zero_add, Nat.pow_one] at z
    omega
 | k + 1, m => by
  by_cases h : m < 10
  ·rw [X8 m h]
   have : 10 <= 10 ^ (k + 1 + 1) := by
    have := Nat.pow_le_pow_right (show 0 < 10 by decide) (show 1 <= k + 1 + 1 by omega)
    simpa using this
   simp
   omega
  ·rw [WN (by omega), X8 (m % 10) (by omega), List.length_append]
   have ih := QE k (m / 10)
   have e : (10 : Nat) ^ (k + 1 + 1) = 10 ^ (k + 1) * 10 := Nat.pow_succ ..
   rw [e]
   constructor
   ·intro z
    have := ih.mp (by simpa using z)
    omega
   ·intro z
    have := ih.mpr (by omega)
    simpa using this
def sI (n : Int) : Str := Str.ofString (toString n)
theorem zbq (m : Nat) : L (sI (m : Int)) = dg m := by
 unfold sI
 rw [L_of]
 show (Nat.repr m).toList.map Char.toNat = _
 rw [Nat.toList_repr]; rfl
theorem L_neg (m : Nat) : L (sI (Int.negSucc m)) = 45 :: dg (m + 1) := by
 unfold sI
 rw [L_of]
 show (("-" ++ Nat.repr (m + 1)) : String).toList.map Char.toNat = _
 rw [String.toList_append, List.map_append, Nat.toList_repr]
 rfl
theorem L_sI (n : Int) : L (sI n) = if n < 0 then 45 :: dg n.natAbs else dg n.natAbs := by
 cases n with
 | ofNat m => rw [if_neg (by simp)]; exact zbq m
 | negSucc m => rw [if_pos (by exact Int.negSucc_lt_zero m)]; exact L_neg m
theorem WZ (n : Int) : ∀ c ∈ L (sI n), c = 45 \/ (48 <= c /\ c <= 57) := fun c hc => by
 rw [L_sI] at hc
 split at hc
 ·rcases List.mem_cons.mp hc with h | h
  ·exact .inl h
  ·exact .inr (W6 _ c h)
 ·exact .inr (W6 _ c hc)
theorem sI_len (n : Int) : (L (sI n)).length <= (dg n.natAbs).length + 1 := by
 rw [L_sI]; split <;> simp
theorem UD {x : Str} (h : ∀ c ∈ L x, c < 1114112) : PyData.strOk x = true := by
 unfold PyData.strOk
 rw [<- Array.all_toList, List.all_eq_true]
 exact fun c hc => decide_eq_true (h c hc)
theorem sw_one (x : Str) (c : Nat) : Txt.startswith x ⟨#[c]⟩ = ((L x).head? == some c) := by
 have h := StrLaws.subAt_one x c 0
 unfold Txt.startswith
 rw [Bool.eq_iff_iff, Bool.and_eq_true, decide_eq_true_eq, h, beq_iff_eq, List.head?_eq_getElem?]
theorem Wu (x : Str) (k : Nat) : L (Txt.slice x (some (k : Int)) none) = (L x).drop k := by
 by_cases h : k <= x.length
 ·have := PyProof.Rows.slice_closes_fromL (x := x) (i := (k : Int)) (b := x.length) (by omega) (by omega) rfl
  rw [eq_of_beq this, L_mk, Int.toNat_natCast]
  refine List.take_of_length_le ?_
  rw [List.length_drop, <- Ya]; omega
 ·rw [PyProof.Rows.slice_from_beyond (x := x) (i := (k : Int)) (by omega)]
  rw [List.drop_eq_nil_of_le (by rw [<- Ya]; omega)]
theorem in_one (x : Str) (c : Nat) : (!(Builtin.Str.occurrences x ⟨#[c]⟩ 0 x.length 1).isEmpty) = decide (c ∈ L x) := StrLaws.found_one x c
theorem figs : L (Str.ofString "0123456789") = [48, 49, 50, 51, 52, 53, 54, 55, 56, 57] := by decide +kernel
theorem in_figs (c : Nat) : (!(Builtin.Str.occurrences (Str.ofString "0123456789") ⟨#[c]⟩ 0 (Str.ofString "0123456789").length 1).isEmpty) = decide (48 <= c /\ c <= 57) := by
 rw [in_one, figs]
 by_cases h : 48 <= c /\ c <= 57
 ·rw [decide_eq_true h]
  refine decide_eq_true ?_
  have : c = 48 \/ c = 49 \/ c = 50 \/ c = 51 \/ c = 52 \/ c = 53 \/ c = 54 \/ c = 55 \/ c = 56 \/ c = 57 := by omega
  simp; omega
 ·rw [decide_eq_false h]
  refine decide_eq_false ?_
  simp; omega
def V0 (c : Nat) : List (List Nat) -> List Nat
 | [] => []
 | [p] => p
 | p :: q :: r => p ++ c :: V0 c (q :: r)
theorem L_join (c : Nat) : ∀ ps : List Str, L (Str.join ⟨#[c]⟩ ps) = V0 c (ps.map L)
 | [] => rfl
 | [p] => rfl
 | p :: q :: r => by
  show L (p ++ ⟨#[c]⟩ ++ Str.join ⟨#[c]⟩ (q :: r)) = _
  rw [WG, WG, L_join c (q :: r), List.append_assoc]
  rfl
theorem zaa {c : Nat} : ∀ (ps qs : List (List Nat)), ps ≠ [] -> qs ≠ [] -> (∀ p ∈ ps, c ∉ p) -> (∀ p ∈ qs, c ∉ p) -> V0 c ps = V0 c qs -> ps = qs := by
 have key : ∀ (p q a b : List Nat), c ∉ p -> c ∉ q -> p ++ c :: a = q ++ c :: b -> p = q /\ a = b := by
  intro p
  induction p with
  | nil =>
   intro q a b _ hq h
   cases q with
   | nil => simp at h; exact ⟨rfl, h⟩
   | cons y q => simp at h; exact absurd (h.1 ▸ List.mem_cons_self) hq
  | cons x p ih =>
   intro q a b hp hq h
   cases q with
   | nil => simp at h; exact absurd (h.1 ▸ List.mem_cons_self) hp
   | cons y q =>
    simp at h
    obtain ⟨e1, e2⟩ := ih q a b (fun z => hp (List.mem_cons_of_mem _ z)) (fun z => hq (List.mem_cons_of_mem _ z)) h.2
    exact ⟨by rw [h.1, e1], e2⟩
 have noc : ∀ (p q a : List Nat), c ∉ p -> p ≠ q ++ c :: a := fun p q a hp e => hp (e ▸ List.mem_append_right _ List.mem_cons_self)
 intro ps
 induction ps with
 | nil => intro qs h; exact absurd rfl h
 | cons p ps ih =>
  intro qs _ hq hp hqs h
  cases qs with
  | nil => exact absurd rfl hq
  | cons q qs =>
   have hp0 := hp p List.mem_cons_self
   have hq0 := hqs q List.mem_cons_self
   cases ps with
   | nil =>
    cases qs with
    | nil => rw [show p = q from h]
    | cons q2 qs => exact absurd (show p = q ++ c :: V0 c (q2 :: qs) from h) (noc _ _ _ hp0)
   | cons p2 ps =>
    cases qs with
    | nil => exact absurd (show q = p ++ c :: V0 c (p2 :: ps) from h.symm) (noc _ _ _ hq0)
    | cons q2 qs =>
     obtain ⟨e1, e2⟩ := key _ _ _ _ hp0 hq0 (show p ++ c :: V0 c (p2 :: ps) = q ++ c :: V0 c (q2 :: qs) from h)
     rw [e1, ih (q2 :: qs) (by simp) (by simp) (fun z hz => hp z (List.mem_cons_of_mem _ hz)) (fun z hz => hqs z (List.mem_cons_of_mem _ hz)) e2]
theorem split_ne (x : Str) (c : Nat) : Txt.split x ⟨#[c]⟩ ≠ [] := by
 unfold Txt.split
 split
 ·simp
 ·split
  ·simp
  ·rw [StrLaws.partsBetween_eq]
   obtain ⟨p, r, e⟩ := StrLaws.partsFrom_ne x (⟨#[c]⟩ : Str).length 0 (Builtin.Str.occurrences x ⟨#[c]⟩ 0 x.length (x.length + 1))
   rw [e]; simp
theorem map_L {ps qs : List Str} (h : ps.map L = qs.map L) : ps = qs := by
 induction ps generalizing qs with
 | nil => cases qs with
  | nil => rfl
  | cons => simp at h
 | cons p ps ih =>
  cases qs with
  | nil => simp at h
  | cons q qs =>
   rw [List.map_cons, List.map_cons] at h
   injection h with h1 h2
   rw [ext h1, ih h2]
theorem Jb {x : Str} {c : Nat} {ps : List Str} (h : L x = V0 c (ps.map L)) (hn : ps ≠ []) (hf : ∀ p ∈ ps, c ∉ L p) : Txt.split x ⟨#[c]⟩ = ps := by
 refine map_L (zaa (c := c) _ _ ?_ ?_ ?_ ?_ ?_)
 ·have := split_ne x c; simpa using this
 ·simpa using hn
 ·intro p hp
  obtain ⟨q, hq, rfl⟩ := List.mem_map.mp hp
  exact StrLaws.split_free x c q hq
 ·intro p hp
  obtain ⟨q, hq, rfl⟩ := List.mem_map.mp hp
  exact hf q hq
 ·rw [<- L_join, StrLaws.join_split, h]
end Tx
namespace K20
open PySem PySem.NumText Fx Lw Tx
theorem sEq {a b : Str} (ha : PyData.strOk a = true) (hb : PyData.strOk b = true) : fEq (.str a) (.str b) = .ok (.bool (decide (a = b))) := by
 simp only [fEq, ZF, PyData.canLay0, PyData.depth, PyData.eqv, ha, hb]
 by_cases h : a = b <;> simp [h]
theorem sNe {a b : Str} (ha : PyData.strOk a = true) (hb : PyData.strOk b = true) : fNe (.str a) (.str b) = .ok (.bool (!decide (a = b))) := by
 simp only [fNe, ZF, PyData.canLay0, PyData.depth, PyData.eqv, ha, hb]
 by_cases h : a = b <;> simp [h]
theorem VW : Str.ofString "-" = ⟨#[45]⟩ := by decide +kernel
theorem pow64 : (10 : Nat) ^ 64 < 2 ^ 250 := by decide +kernel
set_option exponentiation.threshold 2000 in
theorem log_lt {m : Nat} (h : m < 10 ^ 64) : m.log2 < 1920 := by
 by_cases z : m = 0
 ·rw [z]; decide
 ·exact (Nat.log2_lt z).mpr (Nat.lt_trans (Nat.lt_trans h pow64) (Nat.pow_lt_pow_right (by decide) (by decide)))
theorem dg_bound {m : Nat} (h : m < 10 ^ 64) : (dg m).length <= 64 := (QE 63 m).mpr h
theorem za6 {m : Nat} (h : m < 10 ^ 64) : fStr (.int (m : Int)) = .ok (.str (sI (m : Int))) /\ (sI (m : Int)).length <= 64 := by
 refine ⟨?_, by rw [Ya, zbq]; exact dg_bound h⟩
 show (if ((m : Int)).natAbs.log2 < 1920 then Res.ok (PyData.str (Str.ofString (toString (m : Int)))) else .stuck) = _
 rw [Int.natAbs_natCast, if_pos (log_lt h)]; rfl
theorem L_em : L (Str.ofString "") = [] := by decide +kernel
theorem UI {n : Int} (h : n.natAbs < 10 ^ 64) : Zi [.int n] = .ok (.str (sI n)) := by
 have l0 : (Str.ofString "-").length = 1 := by rw [VW]; rfl
 have l00 : (Str.ofString "").length = 0 := by decide +kernel
 have hb : n.natAbs < 10000000000000000000000000000000000000000000000000000000000000000 := by simpa using h
 by_cases hn : n < 0
 ·obtain ⟨m, hm⟩ : ∃ m : Nat, -n = (m : Int) := ⟨n.natAbs, by omega⟩
  have em : n.natAbs = m := by omega
  rw [em] at h
  obtain ⟨e1, lA⟩ := za6 h
  have e2 : ¬ ((10000000000000000000000000000000000000000000000000000000000000000 : Int) <= (m : Int)) := by omega
  have fin : Str.ofString "-" ++ sI (m : Int) ++ Str.ofString "" = sI n := by
   refine ext ?_
   rw [WG, WG, VW, zbq, L_sI, if_pos hn, L_em, em]
   exact List.append_nil _
  have lB : (Str.ofString "-" ++ sI (m : Int)).length = 1 + (sI (m : Int)).length := by rw [Ya, WG, List.length_append, <- Ya, <- Ya, l0]
  have c1 : 1 + (sI (m : Int)).length <= 16777216 := by omega
  generalize sI (m : Int) = A at *
  simp [Zi, XL, Xd, Xc, Xb, Xa, runQ, runF, dWh0, e2, hn, hm, e1, YI, JE, l0, lB, l00, c1, fin, Uh]
 ·obtain ⟨m, hm⟩ : ∃ m : Nat, n = (m : Int) := ⟨n.natAbs, by omega⟩
  have em : n.natAbs = m := by omega
  rw [em] at h
  obtain ⟨e1, lA⟩ := za6 h
  have e2 : ¬ ((10000000000000000000000000000000000000000000000000000000000000000 : Int) <= (m : Int)) := by omega
  have fin : Str.ofString "" ++ sI (m : Int) ++ Str.ofString "" = sI n := by
   refine ext ?_
   rw [WG, WG, zbq, L_sI, if_neg hn, L_em, em]
   exact List.append_nil _
  have lB : (Str.ofString "" ++ sI (m : Int)).length = (sI (m : Int)).length := by rw [Ya, WG, List.length_append, <- Ya, <- Ya, l00, Nat.zero_add]
  have c1 : (sI (m : Int)).length <= 16777216 := by omega
  rw [hm] at fin ⊢
  have hn' : ¬ ((m : Int) < 0) := by omega
  generalize sI (m : Int) = A at *
  simp [Zi, XL, Xd, Xc, Xb, Xa, runQ, runF, dWh0, e2, hn', e1, YI, JE, l0, lB, l00, c1, fin, Uh]
def fig (l : List Nat) : List Nat := if l.head? = some 45 then l.drop 1 else l
def isD (c : Nat) : Bool := decide (48 <= c /\ c <= 57)
def val (l : List Nat) : Int := if l.head? = some 45 then -((digitsVal (fig l) : Nat) : Int) else ((digitsVal (fig l) : Nat) : Int)
def rd (l : List Nat) : Option Int :=
 if 1 <= (fig l).length /\ (fig l).length <= 30 /\ (fig l).all isD = true then (if L (sI (val l)) = l then some (val l) else none) else none
theorem ZN {l : List Nat} (h : l.all isD = true) : AllDigits l := fun c hc => of_decide_eq_true (List.all_eq_true.mp h c hc)
theorem YY {l : List Nat} {k : Nat} (h : AllDigits l) (hl : l.length <= k) : digitsVal l < 10 ^ k := by
 have key : ∀ (l : List Nat) (a : Nat), AllDigits l -> l.foldl (fun acc c => acc * 10 + (c - 48)) a < (a + 1) * 10 ^ l.length := by
  intro l
  induction l with
  | nil => intro a _; simp
  | cons c l ih =>
   intro a h
   have h0 := h.head
   have := ih (a * 10 + (c - 48)) h.tail
   rw [List.foldl_cons]
   refine Nat.lt_of_lt_of_le this ?_
   rw [List.length_cons, Nat.pow_succ, Nat.mul_comm (10 ^ l.length), <- Nat.mul_assoc]
   exact Nat.mul_le_mul_right _ (by omega)
 have := key l 0 h
 have e : (0 + 1) * 10 ^ l.length = 10 ^ l.length := by omega
 rw [e] at this
 exact Nat.lt_of_lt_of_le this (Nat.pow_le_pow_right (by decide) hl)
theorem WL {l : List Nat} : ∀ c ∈ fig l, c ∈ l := fun c hc => by
 unfold fig at hc
 split at hc
 ·exact List.mem_of_mem_drop hc
 ·exact hc
theorem int_of {x : Str} (h : (fig (L x)).all isD = true) (h1 : 1 <= (fig (L x)).length) (h2 : (fig (L x)).length <= 30) : intText? x = some (val (L x)) := by
 have hd := ZN h
 unfold val
 by_cases hm : (L x).head? = some 45
 ·rw [if_pos hm]
  have ef : fig (L x) = (L x).drop 1 := if_pos hm
  have ex : L x = 45 :: (L x).drop 1 := by
   cases hx : L x with
   | nil => rw [hx] at hm; simp at hm
   | cons a r => rw [hx] at hm; simp at hm; rw [hm]; rfl
  rw [ef] at hd h1 h2 ⊢
  refine intText_neg ex hd (fun z => by rw [z] at h1; simp at h1) ?_
  rw [Ya, ex, List.length_cons]; omega
 ·rw [if_neg hm]
  have ef : fig (L x) = L x := if_neg hm
  rw [ef] at hd h1 h2 ⊢
  have ne : L x ≠ [] := fun z => by rw [z] at h1; simp at h1
  exact intText_digits hd ne (by rw [Ya]; omega)
theorem WE (f : Nat -> Bool) : ∀ l : List Nat, allT (l.map fun c => PyData.bool (f c)) = .ok (l.all f)
 | [] => rfl
 | c :: l => by
  rw [List.map_cons]
  show (allT (l.map fun c => PyData.bool (f c))).bind _ = _
  rw [WE f l]; rfl
theorem Xv {x : Str} (ha : x.cps.all (· < 128) = true) (hl : x.length <= 16777216) : Zg [.str x] = match rd (L x) with
  | some n => .ok (.int n)
  | none => .exc "NoText" := by
 have ha' : ∀ c ∈ L x, c < 128 := by
  rw [<- Array.all_toList, List.all_eq_true] at ha
  exact fun c hc => of_decide_eq_true (ha c hc)
 obtain ⟨F, hF, e1⟩ : ∃ F : Str, L F = fig (L x) /\ (dIfE (tV (dM1 gSw (dVar 0) (dC (.str (PySem.Str.ofString "-"))))) (XY (dVar 0) (pAt (dC (.int 1))) pNo) (dVar 0)) [.val (.str x), .emp, .emp] = .ok (.str F) := by
  have sw : Txt.startswith x (Str.ofString "-") = ((L x).head? == some 45) := by rw [VW]; exact sw_one x 45
  by_cases hm : (L x).head? = some 45
  ·refine ⟨Txt.slice x (some ((1 : Nat) : Int)) none, ?_, ?_⟩
   ·rw [Wu, fig, if_pos hm]
   ·have sw' : Txt.startswith x (Str.ofString "-") = true := by rw [sw, hm]; rfl
    simp [dM1, gSw, sw', XY, hl]
  ·refine ⟨x, (if_neg hm).symm, ?_⟩
   have sw' : Txt.startswith x (Str.ofString "-") = false := by rw [sw]; exact beq_eq_false_iff_ne.mpr hm
   simp [dM1, gSw, sw', XY, hl]
 have lF : F.length = (fig (L x)).length := by rw [Ya, hF]
 have lF2 : F.length <= 16777216 := by
  have : (fig (L x)).length <= (L x).length := by unfold fig; split <;> simp
  rw [Ya] at hl
  omega
 have aF : F.cps.all (· < 128) = true := by
  rw [<- Array.all_toList, List.all_eq_true]
  intro c hc
  exact decide_eq_true (ha' c (WL c (hF ▸ hc)))
 have e2 : Yc (ZI 0) tT (d2 fInS (dVar 0) (dC (.str (PySem.Str.ofString "0123456789")))) [.emp] ((L F).map fun c => .str ⟨#[c]⟩) = .ok ((L F).map fun c => .bool (isD c)) :=
  Vb _ _ _ fun c _ => ⟨_, rfl, by
   have := in_figs c
   unfold isD
   rw [<- this]
   simp [fInS]⟩
 have e3 := WE isD (L F)
 have lF3 : (L F).length <= 16777216 := by rw [<- Ya]; exact lF2
 have eI : iStr (dVar 1) [.val (.str x), .val (.str F), .emp] = .ok ((L F).map fun c => .str ⟨#[c]⟩) := by
  show (if F.cps.all (· < 128) = true then Res.ok (F.cps.toList.map fun c => PyData.str ⟨#[c]⟩) else .stuck) = _
  rw [if_pos aF]
 have lM : ((L F).map fun c => PyData.str ⟨#[c]⟩).length <= 16777216 := by rw [List.length_map]; exact lF3
 unfold rd
 rw [<- hF]
 rw [<- hF] at lF
 simp only [Zg, W7]
 generalize (dIfE (tV (dM1 gSw (dVar 0) (dC (.str (PySem.Str.ofString "-"))))) (XY (dVar 0) (pAt (dC (.int 1))) pNo) (dVar 0)) = q1 at *
 have hd2 : Wf = dSeq (dIf (tNot (tV (d1 fAll (dL (WF 1 [] (ZI 0) (iStr (dVar 1)) tT (d2 fInS (dVar 0) (dC (.str (PySem.Str.ofString "0123456789")))))))))
  (XD "NoText" (Zc (dC (.str (PySem.Str.ofString "a number is written in figures"))) dNil))
  Z7) YJ := rfl
 generalize (d2 fInS (dVar 0) (dC (.str (PySem.Str.ofString "0123456789")))) = q2 at *
 generalize ((L F).map fun c => PyData.str ⟨#[c]⟩) = M at *
 by_cases c1 : 1 <= (L F).length
 ·by_cases c2 : (L F).length <= 30
  ·have g1 : ¬ ((F.length : Int) < 1) := by omega
   have g2 : ¬ ((30 : Int) < (F.length : Int)) := by omega
   cases hd : (L F).all isD with
   | false =>
    rw [hd] at e3
    rw [if_neg (by simp)]
    simp [runF, e1, Z5, X9, lF2, g1, g2, hd2, eI, lM, e2, fAll, e3]
   | true =>
    rw [hd] at e3
    rw [if_pos ⟨c1, c2, rfl⟩]
    have ei := int_of (x := x) (by rw [<- hF]; exact hd) (by rw [<- hF]; exact c1) (by rw [<- hF]; exact c2)
    have l6 : x.length <= 640 := by
     have : (L x).length <= (fig (L x)).length + 1 := by unfold fig; split <;> simp; omega
     rw [Ya]; rw [hF] at c2; omega
    have es := UI (n := val (L x)) (by
     have := YY (k := 30) (ZN (l := fig (L x)) (by rw [<- hF]; exact hd)) (by rw [<- hF]; exact c2)
     have p : (10 : Nat) ^ 30 <= 10 ^ 64 := Nat.pow_le_pow_right (by decide) (by decide)
     unfold val
     split <;> omega)
    have o1 : PyData.strOk (sI (val (L x))) = true := UD fun c hc => by rcases WZ _ c hc with h | h <;> omega
    have o2 : PyData.strOk x = true := UD fun c hc => by have := ha' c hc; omega
    have en := sNe o1 o2
    generalize val (L x) = n at *
    have eiS : za7 (.str x) = .ok (.int n) := by simp [za7, ei, l6]
    by_cases hq : L (sI n) = L x
    ·rw [if_pos hq]
     rw [decide_eq_true (ext hq)] at en
     simp [runF, e1, Z5, X9, lF2, g1, g2, hd2, eI, lM, e2, fAll, e3, YJ, eiS, Xq, es, en, We]
    ·rw [if_neg hq]
     rw [decide_eq_false (fun z => hq (by rw [z]))] at en
     simp [runF, e1, Z5, X9, lF2, g1, g2, hd2, eI, lM, e2, fAll, e3, YJ, eiS, Xq, es, en]
  ·have g1 : ¬ ((F.length : Int) < 1) := by omega
   have g2 : ((30 : Int) < (F.length : Int)) := by omega
   rw [if_neg (by omega)]
   simp [runF, e1, Z5, X9, lF2, g1, g2]
 ·have g1 : ((F.length : Int) < 1) := by omega
  rw [if_neg (by omega)]
  simp [runF, e1, Z5, X9, lF2, g1]
end K20
namespace K20
open PySem PySem.NumText Fx Lw Tx
theorem Wd (m : Nat) : ¬ (dg m).head? = some 45 := fun h => by
 have := W6 m
 cases e : dg m with
 | nil => rw [e] at h; simp at h
 | cons a r =>
  rw [e] at h this
  simp at h
  have := this.head
  omega
theorem W5 (n : Int) : fig (L (sI n)) = dg n.natAbs := by
 unfold fig
 rw [L_sI]
 by_cases h : n < 0
 ·rw [if_pos h]; rfl
 ·rw [if_neg h, if_neg (Wd _)]
theorem VO (n : Int) : val (L (sI n)) = n := by
 unfold val
 rw [W5, dg_val, L_sI]
 by_cases h : n < 0
 ·rw [if_pos h]; show -((n.natAbs : Nat) : Int) = n; omega
 ·rw [if_neg h, if_neg (Wd _)]; omega
theorem VC (m : Nat) : (dg m).all isD = true := List.all_eq_true.mpr fun c hc => decide_eq_true (W6 m c hc)
theorem Qo (n : Int) : rd (L (sI n)) = if n.natAbs < 10 ^ 30 then some n else none := by
 have h1 : 1 <= (dg n.natAbs).length := List.length_pos_iff.mpr (dg_ne _)
 have h2 := QE 29 n.natAbs
 unfold rd
 rw [W5, VO]
 by_cases h : n.natAbs < 10 ^ 30
 ·rw [if_pos h, if_pos ⟨h1, h2.mpr h, VC _⟩, if_pos rfl]
 ·rw [if_neg h, if_neg (fun z => h (h2.mp z.2.1))]
theorem VS (x : Str) (w : Nat) : ∀ (cuts : List Nat) (a : Nat), (StrLaws.partsFrom x w a cuts).length = cuts.length + 1
 | [], a => rfl
 | c :: r, a => by
  show (StrLaws.partsFrom x w _ r).length + 1 = _
  rw [VS x w r]; rfl
end K20
namespace K18
open PySem PySem.NumText Fx Lw Tx
open K20 (Zi UI fig isD val rd Wd W5 VO VC int_of WE sEq sNe VW L_em VS)
def Yb (s : List Nat) : List (List Nat) -> List Nat
 | [] => []
 | [p] => p
 | p :: q :: r => p ++ s ++ Yb s (q :: r)
theorem Wq (s : Str) : ∀ ps : List Str, L (Str.join s ps) = Yb (L s) (ps.map L)
 | [] => rfl
 | [p] => rfl
 | p :: q :: r => by
  show L (p ++ s ++ Str.join s (q :: r)) = _
  rw [WG, WG, Wq s (q :: r)]
  rfl
theorem zbl (x y : Str) (i : Nat) : StrLaws.At x y x.length i ↔ i + (L y).length <= (L x).length /\ ((L x).drop i).take (L y).length = L y := by
 unfold StrLaws.At
 rw [StrLaws.subAt_eq, beq_iff_eq, Ya, Ya]
theorem sub_L (x : Str) (a b : Nat) : L (Builtin.Str.strSub x a b) = ((L x).drop a).take (b - a) := StrLaws.strSub_toList x a b
theorem chain3 {x y : Str} {s0 m s2 : Nat} (hy : L y = [s0, m, s2]) (hne : s0 ≠ m) : ∀ (ps : List (List Nat)) (a : Nat) (cuts : List Nat) (f : Nat), ps ≠ [] -> a <= (L x).length -> (L x).drop a = Yb [s0, m, s2] ps -> (∀ p ∈ ps, m ∉ p) ->
  StrLaws.ChainG x y x.length a cuts f -> (∀ k, f <= k -> ¬ StrLaws.At x y x.length k) -> (StrLaws.partsFrom x y.length a cuts).map L = ps
 | [], _, _, _, h, _, _, _, _, _ => absurd rfl h
 | [p], a, cuts, f, _, ha, hd, hf, hc, hn => by
  have hp := hf p List.mem_cons_self
  have hd' : (L x).drop a = p := hd
  have no : ∀ k, a <= k -> ¬ StrLaws.At x y x.length k := fun k hk z => by
   have z2 := ((zbl x y k).mp z).2
   rw [hy] at z2
   have e : (L x).drop k = p.drop (k - a) := by rw [<- hd', List.drop_drop]; congr 1; omega
   rw [e] at z2
   have : m ∈ (p.drop (k - a)).take [s0, m, s2].length := by rw [z2]; simp
   exact hp (List.mem_of_mem_drop (List.mem_of_mem_take this))
  cases cuts with
  | nil =>
   show [L (Builtin.Str.strSub x a x.length)] = [p]
   rw [sub_L, hd', List.take_of_length_le]
   rw [<- hd', List.length_drop, Ya]; exact Nat.le_refl _
  | cons c r => exact absurd hc.2.1 (no c hc.1)
 | p :: q :: r, a, cuts, f, _, ha, hd, hf, hc, hn => by
  have hp := hf p List.mem_cons_self
  have hd' : (L x).drop a = p ++ [s0, m, s2] ++ Yb [s0, m, s2] (q :: r) := hd
  have hlen : (L x).length = a + p.length + 3 + (Yb [s0, m, s2] (q :: r)).length := by
   have := congrArg List.length hd'
   rw [List.length_drop, List.length_append, List.length_append] at this
   simp only [List.length_cons, List.length_nil] at this
   omega
  have dk : ∀ k, a <= k -> (L x).drop k = (p ++ [s0, m, s2] ++ Yb [s0, m, s2] (q :: r)).drop (k - a) := fun k hk => by rw [<- hd', List.drop_drop]; congr 1; omega
  have yes : StrLaws.At x y x.length (a + p.length) := by
   rw [zbl, hy]
   refine ⟨by show a + p.length + 3 <= (L x).length; omega, ?_⟩
   rw [dk _ (by omega)]
   have : a + p.length - a = p.length := by omega
   rw [this, List.append_assoc, List.drop_append_of_le_length (Nat.le_refl _), List.drop_length, List.nil_append]
   rfl
  have no : ∀ k, a <= k -> k < a + p.length -> ¬ StrLaws.At x y x.length k := fun k hk hk2 z => by
   have z2 := ((zbl x y k).mp z).2
   rw [hy, dk k hk] at z2
   have g : (((p ++ [s0, m, s2] ++ Yb [s0, m, s2] (q :: r)).drop (k - a)).take [s0, m, s2].length)[1]? = some m := by rw [z2]; rfl
   rw [List.getElem?_take_of_lt (by simp), List.getElem?_drop] at g
   by_cases hl : k - a + 1 < p.length
   ·rw [List.append_assoc, List.getElem?_append_left hl] at g
    exact hp (List.mem_of_getElem? g)
   ·have e : k - a + 1 = p.length := by omega
    rw [e, List.append_assoc, List.getElem?_append_right (Nat.le_refl _), Nat.sub_self] at g
    simp at g
    exact hne g
  cases cuts with
  | nil =>
   have e : f = a := hc
   exact absurd yes (hn _ (by omega))
  | cons c cs =>
   obtain ⟨h1, h2, h3, h4⟩ := hc
   have ec : c = a + p.length := by
    by_cases l1 : c < a + p.length
    ·exact absurd h2 (no c h1 l1)
    ·by_cases l2 : a + p.length < c
     ·exact absurd yes (h3 _ (by omega) l2)
     ·omega
   subst ec
   have yl : y.length = 3 := by rw [Ya, hy]; rfl
   have ih := chain3 hy hne (q :: r) (a + p.length + y.length) cs f (by simp) (by omega) (by
    rw [dk _ (by omega), yl]
    have : a + p.length + 3 - a = (p ++ [s0, m, s2]).length := by simp; omega
    rw [this, List.drop_append_of_le_length (Nat.le_refl _), List.drop_length, List.nil_append]) (fun z hz => hf z (List.mem_cons_of_mem _ hz)) h4 hn
   show L (Builtin.Str.strSub x a (a + p.length)) :: (StrLaws.partsFrom x y.length (a + p.length + y.length) cs).map L = _
   rw [ih, sub_L, hd']
   have : a + p.length - a = p.length := by omega
   rw [this, List.append_assoc, List.take_append_of_le_length (Nat.le_refl _), List.take_length]
theorem Jc {x y : Str} {s0 m s2 : Nat} (hy : L y = [s0, m, s2]) (hk : Builtin.Str.strKind y = 1) (hne : s0 ≠ m) {ps : List Str} (h : L x = Yb [s0, m, s2] (ps.map L)) (hn : ps ≠ []) (hf : ∀ p ∈ ps, m ∉ L p) : Txt.split x y = ps := by
 have yl : y.length = 3 := by rw [Ya, hy]; rfl
 obtain ⟨f, c1, c2⟩ := StrLaws.occ_tight x y (by omega)
 have key := chain3 hy hne (ps.map L) 0 _ f (by simpa using hn) (Nat.zero_le _) (by rw [List.drop_zero]; exact h) (fun p hp => by
  obtain ⟨q, hq, rfl⟩ := List.mem_map.mp hp
  exact hf q hq) c1 c2
 have kx : 1 <= Builtin.Str.strKind x := by unfold Builtin.Str.strKind; split <;> (try split) <;> omega
 unfold Txt.split
 split
 ·rename_i hs
  rw [Bool.or_eq_true, decide_eq_true_eq, decide_eq_true_eq] at hs
  have hl : x.length < 3 := by omega
  cases ps with
  | nil => exact absurd rfl hn
  | cons p r =>
   cases r with
   | nil => exact congrArg (fun z => [z]) (ext h)
   | cons q r =>
    have := congrArg List.length h
    rw [<- Ya] at this
    simp [Yb] at this
    omega
 ·split
  ·rename_i he
   have e0 : Builtin.Str.occurrences x y 0 x.length (x.length + 1) = [] := List.isEmpty_iff.mp he
   rw [e0] at key
   refine map_L ?_
   rw [<- key]
   show [L x] = [L (Builtin.Str.strSub x 0 x.length)]
   rw [sub_L, List.drop_zero, List.take_of_length_le (by rw [Ya]; exact Nat.le_refl _)]
  ·rw [StrLaws.partsBetween_eq]
   exact map_L key
theorem JB {x y : Str} {ps : List Str} (h : Txt.split x y = ps) (hy : 1 <= y.length) (hl : x.length <= 1000000) (hp : ps.length <= 1000000) : XT x (.str y) = .ok (ps.map .str) := by
 have c1 : (y.length == 0) = false := beq_eq_false_iff_ne.mpr (by omega)
 have c3 := PySem.StrLaws.occ_length_le x y 0 x.length (x.length + 1)
 have c2 : (Builtin.Str.partsBetween x (Builtin.Str.occurrences x y 0 x.length (x.length + 1)) y.length).length <= 16777216 := by
  rw [StrLaws.partsBetween_eq, VS]; omega
 unfold XT
 dsimp only
 rw [h, if_pos ⟨c1, by omega, c2, by omega⟩]
end K18
namespace K18
open PySem PySem.NumText Fx Lw Tx
open K20 (Zi UI sEq sNe VW L_em)
theorem Z9 (s : List Nat) : ∀ (p : List Nat) (ps : List (List Nat)), Yb s (p :: ps) = p ++ ps.flatMap fun q => s ++ q
 | p, [] => by simp [Yb]
 | p, q :: r => by
  show p ++ s ++ Yb s (q :: r) = _
  rw [Z9 s q r, List.flatMap_cons]
  simp
theorem Vg (c : Nat) : ∀ ps : List (List Nat), V0 c ps = Yb [c] ps
 | [] => rfl
 | [p] => rfl
 | p :: q :: r => by
  show p ++ c :: V0 c (q :: r) = p ++ [c] ++ Yb [c] (q :: r)
  rw [Vg c (q :: r)]
  simp
theorem Xm {s : List Nat} {c : Nat} : ∀ {ps : List (List Nat)}, c ∈ Yb s ps -> c ∈ s \/ ∃ p ∈ ps, c ∈ p
 | [], h => by cases h
 | p :: ps, h => by
  rw [Z9] at h
  rcases List.mem_append.mp h with z | z
  ·exact .inr ⟨p, List.mem_cons_self, z⟩
  ·obtain ⟨q, hq, z⟩ := List.mem_flatMap.mp z
   rcases List.mem_append.mp z with y | y
   ·exact .inl y
   ·exact .inr ⟨q, List.mem_cons_of_mem _ hq, y⟩
theorem Wy {s : Str} {B : Nat} : ∀ (ps : List Str), (∀ p ∈ ps, p.length <= B) -> (Str.join s ps).length <= ps.length * (B + s.length)
 | [], _ => by
  have : (Str.join s []).length = 0 := rfl
  omega
 | [p], h => by
  have := h p List.mem_cons_self
  show p.length <= 1 * (B + s.length)
  omega
 | p :: q :: r, h => by
  have ih := Wy (s := s) (q :: r) fun z hz => h z (List.mem_cons_of_mem _ hz)
  have h0 := h p List.mem_cons_self
  show (p ++ s ++ Str.join s (q :: r)).length <= (r.length + 1 + 1) * (B + s.length)
  rw [Ya, WG, WG, List.length_append, List.length_append, <- Ya, <- Ya, <- Ya, Nat.succ_mul (r.length + 1)]
  have : (q :: r).length = r.length + 1 := rfl
  rw [this] at ih
  omega
theorem zaV {sep : Str} {B : Nat} {ts : List Str} (h : ∀ t ∈ ts, t.length <= B) (hb : ts.length * (B + sep.length) <= 1000000) : JoinOk sep ts = true := by
 have key : ∀ (l : List Str) (a : Nat), (∀ t ∈ l, t.length <= B) -> l.foldl (fun (n : Nat) (p : Str) => n + p.length + sep.length) a <= a + l.length * (B + sep.length) := by
  intro l
  induction l with
  | nil => intro a _; simp
  | cons t l ih =>
   intro a hl
   have := ih (a + t.length + sep.length) fun z hz => hl z (List.mem_cons_of_mem _ hz)
   have h0 := hl t List.mem_cons_self
   rw [List.foldl_cons, List.length_cons, Nat.succ_mul]
   omega
 have := key ts 0 h
 unfold JoinOk
 rw [List.foldl_toArray]
 have e : Builtin.Str.tooLong (ts.foldl (fun (n : Nat) (p : Str) => n + p.length + sep.length) 0) = false := by
  have := sizeLine_eq
  simp [Builtin.Str.tooLong]
  omega
 rw [e]; rfl
theorem Qc : ∀ ts : List Str, Qd (ts.map .str) = some ts
 | [] => rfl
 | t :: ts => by
  show (Qd (ts.map .str)).map _ = _
  rw [Qc ts]; rfl
theorem za2 {sep : Str} {B : Nat} {ts : List Str} (h : ∀ t ∈ ts, t.length <= B) (hb : ts.length * (B + sep.length) <= 1000000) : za3 sep (.list (ts.map .str)) = .ok (.str (Str.join sep ts)) := by
 have j := zaV h hb
 have e : Txt.join sep ts = Str.join sep ts := StrLaws.glued_eq_join sep ts
 unfold za3
 dsimp only
 rw [Qc]
 dsimp only
 rw [if_pos j, e]
theorem sp : L (Str.ofString " ") = [32] /\ L (Str.ofString " : ") = [32, 58, 32] /\ L (Str.ofString " ; ") = [32, 59, 32] /\ L (Str.ofString " ;") = [32, 59] := by decide +kernel
theorem spc : Str.ofString " " = ⟨#[32]⟩ := by decide +kernel
theorem Jw : Builtin.Str.strKind (Str.ofString " : ") = 1 /\ Builtin.Str.strKind (Str.ofString " ; ") = 1 := by decide +kernel
def wS (l : Lim) : Str := Str.join (Str.ofString " ") (l.1.map sI)
def limS (l : Lim) : Str := wS l ++ Str.ofString " : " ++ sI l.2
theorem lt64 {n : Int} (h : n.natAbs <= 999999999999) : n.natAbs < 10 ^ 64 := by
 have : (10 : Nat) ^ 12 <= 10 ^ 64 := Nat.pow_le_pow_right (by decide) (by decide)
 omega
theorem len13 {n : Int} (h : n.natAbs <= 999999999999) : (sI n).length <= 13 := by
 have h1 : n.natAbs < 10 ^ 12 := by omega
 have := (QE 11 n.natAbs).mpr h1
 have := sI_len n
 rw [Ya]; omega
section
variable {k w : Nat} {l : Lim} {ls : List Lim}
theorem L_wS (l : Lim) : L (wS l) = Yb [32] (l.1.map fun x => L (sI x)) := by
 unfold wS
 rw [Wq, sp.1, List.map_map]; rfl
theorem UC (l : Lim) : L (limS l) = L (wS l) ++ [32, 58, 32] ++ L (sI l.2) := by
 unfold limS
 rw [WG, WG, sp.2.1]
theorem VI (l : Lim) : ∀ c ∈ L (wS l), c = 32 \/ c = 45 \/ (48 <= c /\ c <= 57) := fun c hc => by
 rw [L_wS] at hc
 rcases Xm hc with z | ⟨p, hp, z⟩
 ·exact .inl (by simpa using z)
 ·obtain ⟨x, _, rfl⟩ := List.mem_map.mp hp
  exact .inr (WZ x c z)
theorem addS {x y : Str} (h : x.length + y.length <= 1000000) : YI (.str x) (.str y) = .ok (.str (x ++ y)) /\ (x ++ y).length = x.length + y.length := by
 refine ⟨?_, by rw [Ya, WG, List.length_append, <- Ya, <- Ya]⟩
 show (if x.length + y.length <= 16777216 then Res.ok (PyData.str (x ++ y)) else .stuck) = _
 rw [if_pos (by omega)]
end
end K18
namespace K19
open PySem PySem.NumText Fx Tx
open Lw
open K20 (Zi Zo Zg fig isD val rd Wd W5 VO VC Qo ZN YY WL sEq sNe VW L_em Xv)
open K03 (Zl Zn)
abbrev Asc (x : Str) : Prop := ∀ c ∈ L x, c < 128
theorem Asc.all {x : Str} (h : Asc x) : x.cps.all (· < 128) = true := by
 rw [<- Array.all_toList, List.all_eq_true]
 exact fun c hc => decide_eq_true (h c hc)
theorem Asc.ok {x : Str} (h : Asc x) : PyData.strOk x = true := UD fun c hc => by have := h c hc; omega
theorem UF (x : Str) (k : Nat) (h : k <= x.length \/ x.length = 0) : L (Txt.slice x none (some (k : Int))) = (L x).take k := by
 by_cases h1 : k <= x.length
 ·have := PyProof.Rows.slice_closes_toL (x := x) (j := (k : Int)) (by omega) (by omega)
  rw [eq_of_beq this, L_mk]
  simp
 ·have h0 := h.resolve_left h1
  have := Txt.slice_le x none (some (k : Int))
  rw [Ya] at this h0
  have e : L x = [] := List.length_eq_zero_iff.mp h0
  have e2 : L (Txt.slice x none (some (k : Int))) = [] := List.length_eq_zero_iff.mp (by rw [Ya] at this; omega)
  rw [e, e2]; simp
theorem fig_find : ∀ c : Nat, c < 128 -> Txt.find (Str.ofString "0123456789") ⟨#[c]⟩ = if isD c = true then ((c - 48 : Nat) : Int) else -1 := by decide +kernel
theorem take1 (l : List Nat) : (l.take 1 = [45]) ↔ l.head? = some 45 := by
 cases l with
 | nil => simp
 | cons a r => simp
theorem VH : L (Str.ofString "0") = [48] := by decide +kernel
theorem Qv : L (Str.ofString "-") = [45] := by decide +kernel
theorem zba : ∀ (n : Nat) (f : List Nat), f.length = n -> AllDigits f -> f ≠ [] -> (f.head? ≠ some 48 \/ f = [48]) -> dg (digitsVal f) = f /\ (f.head? ≠ some 48 -> 0 < digitsVal f) := by
 intro n
 induction n with
 | zero => intro f hf _ hne _; exact absurd (List.length_eq_zero_iff.mp hf) hne
 | succ n ih =>
  intro f hf hd hne hz
  obtain ⟨g, c, rfl⟩ : ∃ g c, f = g ++ [c] := ⟨f.dropLast, f.getLast hne, (List.dropLast_concat_getLast hne).symm⟩
  have hc := hd c (List.mem_append_right _ List.mem_cons_self)
  rw [zan]
  cases g with
  | nil =>
   have e : digitsVal [] = 0 := rfl
   rw [e, Nat.zero_mul, Nat.zero_add, X8 (c - 48) (by omega)]
   refine ⟨by rw [List.nil_append]; congr 1; omega, fun z => ?_⟩
   have : c ≠ 48 := fun y => z (by rw [y]; rfl)
   omega
  | cons a r =>
   have hd' : AllDigits (a :: r) := fun d hd1 => hd d (List.mem_append_left _ hd1)
   have hz' : (a :: r).head? ≠ some 48 := by
    rcases hz with z | z
    ·exact z
    ·simp at z
   obtain ⟨i1, i2⟩ := ih (a :: r) (by simpa using hf) hd' (by simp) (.inl hz')
   have p := i2 hz'
   have e1 : (digitsVal (a :: r) * 10 + (c - 48)) / 10 = digitsVal (a :: r) := by omega
   have e2 : (digitsVal (a :: r) * 10 + (c - 48)) % 10 = c - 48 := by omega
   refine ⟨?_, fun _ => by omega⟩
   rw [WN (by omega), e1, e2, i1, X8 (c - 48) (by omega)]
   congr 2; omega
def YD (l : List Nat) : Option Int := match rd l with
 | some n => if n.natAbs < 10 ^ 12 then some n else none
 | none => none
theorem QU {l : List Nat} {n : Int} (h : rd l = some n) : L (sI n) = l /\ n.natAbs < 10 ^ 30 := by
 unfold rd at h
 split at h
 ·split at h
  ·rename_i hc e
   injection h with h
   subst h
   refine ⟨e, ?_⟩
   have := YY (k := 30) (ZN hc.2.2) hc.2.1
   unfold val
   split <;> omega
  ·cases h
 ·cases h
theorem UQ {l : List Nat} {n : Int} (h : YD l = some n) : L (sI n) = l /\ n.natAbs < 10 ^ 12 := by
 unfold YD at h
 cases e : rd l with
 | none => rw [e] at h; cases h
 | some m =>
  rw [e] at h
  dsimp only at h
  split at h
  ·injection h with h
   subst h
   exact ⟨(QU e).1, by assumption⟩
  ·cases h
theorem num_sI {n : Int} (h : n.natAbs < 10 ^ 12) : YD (L (sI n)) = some n := by
 have p : (10 : Nat) ^ 12 <= 10 ^ 30 := Nat.pow_le_pow_right (by decide) (by decide)
 unfold YD
 rw [Qo, if_pos (by omega)]
 show (if n.natAbs < 10 ^ 12 then some n else none) = some n
 rw [if_pos h]
theorem num_none {l : List Nat} (h : ∀ n : Int, n.natAbs < 10 ^ 12 -> L (sI n) ≠ l) : YD l = none := by
 cases e : YD l with
 | none => rfl
 | some n => exact absurd (UQ e).1 (h n (UQ e).2)
def okF (l : List Nat) : Bool := !(decide (fig l = []) || (decide (12 < (fig l).length) || (decide ((fig l).head? = some 48) && decide (l ≠ [48])))) && (fig l).all isD
theorem fig_zero : fig [48] = [48] := rfl
theorem num_ok (l : List Nat) : YD l = if okF l = true then some (val l) else none := by
 by_cases h : okF l = true
 ·rw [if_pos h]
  unfold okF at h
  simp only [Bool.and_eq_true, Bool.not_eq_true', Bool.or_eq_false_iff, decide_eq_false_iff_not, Bool.and_eq_false_iff, decide_eq_false_iff_not, Decidable.not_not] at h
  obtain ⟨⟨h1, h2, h3⟩, h4⟩ := h
  have hd := ZN h4
  have hb := YY (k := 12) hd (by omega)
  have hz : (fig l).head? ≠ some 48 \/ fig l = [48] := by
   rcases h3 with z | z
   ·exact .inl z
   ·exact .inr (by rw [z]; rfl)
  obtain ⟨v1, v2⟩ := zba _ (fig l) rfl hd h1 hz
  have hn : (val l).natAbs < 10 ^ 12 := by unfold val; split <;> omega
  have e : L (sI (val l)) = l := by
   unfold val
   by_cases hm : l.head? = some 45
   ·rw [if_pos hm]
    have ef : fig l = l.drop 1 := if_pos hm
    have el : l = 45 :: l.drop 1 := by
     cases l with
     | nil => simp at hm
     | cons a r => simp at hm; rw [hm]; rfl
    have hz2 : (fig l).head? ≠ some 48 := by
     rcases h3 with z | z
     ·exact z
     ·rw [z] at hm; simp at hm
    have p := v2 hz2
    rw [L_sI, if_pos (by omega)]
    have e2 : (-((digitsVal (fig l) : Nat) : Int)).natAbs = digitsVal (fig l) := by omega
    rw [e2, v1, ef]
    exact el.symm
   ·rw [if_neg hm]
    have ef : fig l = l := if_neg hm
    rw [zbq, v1, ef]
  rw [<- e, num_sI hn, e]
 ·rw [if_neg h]
  refine num_none fun n hn e => h ?_
  subst e
  have hl := (QE 11 n.natAbs).mpr hn
  unfold okF
  rw [W5, VC, Bool.and_true, Bool.not_eq_true', Bool.or_eq_false_iff, Bool.or_eq_false_iff, Bool.and_eq_false_iff]
  refine ⟨decide_eq_false (dg_ne _), decide_eq_false (by omega), ?_⟩
  by_cases hz : n.natAbs = 0
  ·right
   have : n = 0 := by omega
   subst this
   exact decide_eq_false (fun z => z (by decide +kernel))
  ·left
   refine decide_eq_false fun z => hz ?_
   have := dg_val n.natAbs
   have key : ∀ (m : Nat) (k : Nat), m <= k -> (dg m).head? = some 48 -> m = 0 := by
    intro m k
    induction k generalizing m with
    | zero => intro h _; omega
    | succ k ih =>
     intro hm hh
     by_cases h10 : m < 10
     ·rw [X8 m h10] at hh
      simp at hh
      omega
     ·rw [WN (by omega)] at hh
      have e : (dg (m / 10) ++ dg (m % 10)).head? = (dg (m / 10)).head? := by
       have := dg_ne (m / 10)
       cases q : dg (m / 10) with
       | nil => exact absurd q this
       | cons a r => rfl
      rw [e] at hh
      have := ih (m / 10) (by omega) hh
      omega
   exact key _ _ (Nat.le_refl _) z
end K19
namespace K19
open PySem PySem.NumText Fx Tx
open Lw
open K20 (Zi Zo Zg fig isD val rd Wd W5 VO VC Qo ZN YY WL sEq sNe VW L_em Xv)
open K03 (Zl Zn)
theorem Zy {a b : DS} {G G' : List Sl} (h : a G = .ok (.nx G')) : dSeq a b G = b G' := by simp [h]
theorem YZ {a b : DS} {G : List Sl} {t : PyData} (h : a G = .ok (.rt t)) : dSeq a b G = .ok (.rt t) := by simp [h]
def bNum : DS := (dSeq (dSet 4 [] (dM1 za4 (dC (.str (PySem.Str.ofString "0123456789"))) (dVar 3)))
  (dSeq (dIf (tV (d2 fLt (dVar 4) (dC (.int 0))))
  (dRet (dC .none))
  Z7)
  (dSet 2 [] (d2 fAdd (d2 fMul (dC (.int 10)) (dVar 2)) (dVar 4)))))
theorem num_step (a b : PyData) (m : Nat) (c : Nat) (hc : c < 128) (s4 : Sl) : bNum [.val a, .val b, .val (.int (m : Int)), .val (.str ⟨#[c]⟩), s4] =
  if isD c = true then .ok (.nx [.val a, .val b, .val (.int ((m * 10 + (c - 48) : Nat) : Int)), .val (.str ⟨#[c]⟩), .val (.int ((c - 48 : Nat) : Int))]) else .ok (.rt .none) := by
 have e := fig_find c hc
 by_cases h : isD c = true
 ·rw [if_pos h] at e ⊢
  have h0 : ¬ (((c - 48 : Nat) : Int) < 0) := by omega
  have h1 : Vf 10 (m : Int) = true := Q4 (by decide)
  have h2 : (10 * (m : Int) + ((c - 48 : Nat) : Int)) = ((m * 10 + (c - 48) : Nat) : Int) := by omega
  have ef : za4 (Str.ofString "0123456789") (.str ⟨#[c]⟩) = .ok (.int ((c - 48 : Nat) : Int)) := by show Res.ok (PyData.int (Txt.find _ _)) = _; rw [e]
  rw [<- h2]
  generalize c - 48 = d at *
  simp [bNum, dM1, ef, h1, h0]
 ·rw [if_neg h] at e ⊢
  have ef : za4 (Str.ofString "0123456789") (.str ⟨#[c]⟩) = .ok (.int (-1)) := by show Res.ok (PyData.int (Txt.find _ _)) = _; rw [e]
  simp [bNum, dM1, ef]
theorem Jp (a b : PyData) : ∀ (l : List Nat) (m : Nat) (s3 s4 : Sl), (∀ c ∈ l, c < 128) ->
  (l.all isD = true -> ∃ s3' s4', forL (ZI 3) bNum (l.map fun c => .str ⟨#[c]⟩) [.val a, .val b, .val (.int (m : Int)), s3, s4] = .ok (.nx [.val a, .val b, .val (.int ((l.foldl (fun acc c => acc * 10 + (c - 48)) m : Nat) : Int)), s3', s4'])) /\
  (l.all isD = false -> forL (ZI 3) bNum (l.map fun c => .str ⟨#[c]⟩) [.val a, .val b, .val (.int (m : Int)), s3, s4] = .ok (.rt .none))
 | [], m, s3, s4, _ => ⟨fun _ => ⟨s3, s4, rfl⟩, fun h => by simp at h⟩
 | c :: l, m, s3, s4, h => by
  have hc := h c List.mem_cons_self
  have st := num_step a b m c hc s4
  have ih := Jp a b l (m * 10 + (c - 48)) (.val (.str ⟨#[c]⟩)) (.val (.int ((c - 48 : Nat) : Int))) fun d hd => h d (List.mem_cons_of_mem _ hd)
  rw [List.map_cons, List.all_cons]
  have e0 : ZI 3 (.str ⟨#[c]⟩) [.val a, .val b, .val (.int (m : Int)), s3, s4] = .ok [.val a, .val b, .val (.int (m : Int)), .val (.str ⟨#[c]⟩), s4] := rfl
  by_cases hd : isD c = true
  ·rw [if_pos hd] at st
   have e1 : forL (ZI 3) bNum (PyData.str ⟨#[c]⟩ :: l.map fun c => PyData.str ⟨#[c]⟩) [.val a, .val b, .val (.int (m : Int)), s3, s4] = forL (ZI 3) bNum (l.map fun c => PyData.str ⟨#[c]⟩) [.val a, .val b, .val (.int ((m * 10 + (c - 48) : Nat) : Int)), .val (.str ⟨#[c]⟩), .val (.int ((c - 48 : Nat) : Int))] := by
    rw [forL, e0, Res.bind_ok, st, Res.bind_ok]
   rw [e1, hd, Bool.true_and, List.foldl_cons]
   exact ih
  ·rw [if_neg hd] at st
   have hd' : isD c = false := by simpa using hd
   rw [hd', Bool.false_and]
   refine ⟨fun z => absurd z (by simp), fun _ => ?_⟩
   rw [forL, e0, Res.bind_ok, st, Res.bind_ok]
def W2 : Option Int -> PyData
 | some n => .int n
 | none => .none
theorem zaR {x : Str} (ha : Asc x) (hl : x.length <= 1000000) : ZB [.str x] = .ok (W2 (YD (L x))) := by
 have e1 : L (Txt.slice x none (some 1)) = (L x).take 1 := UF x 1 (by omega)
 have a1 : Asc (Txt.slice x none (some 1)) := fun c hc => ha c (by rw [e1] at hc; exact List.mem_of_mem_take hc)
 have am : Asc (Str.ofString "-") := by decide +kernel
 have hm := sEq a1.ok am.ok
 have hm2 : decide (Txt.slice x none (some 1) = Str.ofString "-") = decide ((L x).head? = some 45) := by
  congr 1
  refine propext ⟨fun z => (take1 _).mp (by rw [<- e1, z, Qv]), fun z => ext (by rw [e1, Qv]; exact (take1 _).mpr z)⟩
 rw [hm2] at hm
 have hl2 : x.length <= 16777216 := by omega
 have eS : Txt.slice x (some 1) none = Txt.slice x (some ((1 : Nat) : Int)) none := rfl
 obtain ⟨F, hF, S1⟩ : ∃ F : Str, L F = fig (L x) /\ Z6 [.val (.str x), .val (.str x), .emp, .emp, .emp] = Yo [.val (.str x), .val (.str F), .emp, .emp, .emp] := by
  by_cases h : (L x).head? = some 45
  ·refine ⟨Txt.slice x (some ((1 : Nat) : Int)) none, by rw [Wu, fig, if_pos h], ?_⟩
   unfold Z6
   refine Zy ?_
   rw [decide_eq_true h] at hm
   simp [XY, hl2, hm]
  ·refine ⟨x, (if_neg h).symm, ?_⟩
   unfold Z6
   refine Zy ?_
   rw [decide_eq_false h] at hm
   simp [XY, hl2, hm]
 have aF : Asc F := fun c hc => ha c (WL c (hF ▸ hc))
 have lF : F.length <= 16777216 := by
  have : (fig (L x)).length <= (L x).length := by unfold fig; split <;> simp
  rw [Ya, hF]; rw [Ya] at hl; omega
 have ae : Asc (Str.ofString "") := by decide +kernel
 have az : Asc (Str.ofString "0") := by decide +kernel
 have q1 := sEq aF.ok ae.ok
 have q1' : decide (F = Str.ofString "") = decide (fig (L x) = []) := by
  congr 1
  exact propext ⟨fun z => by rw [<- hF, z, L_em], fun z => ext (by rw [hF, z, L_em])⟩
 rw [q1'] at q1
 have q2 : fNe (.str x) (.str (Str.ofString "0")) = .ok (.bool (!decide (x = Str.ofString "0"))) := sNe ha.ok az.ok
 have q2' : decide (x = Str.ofString "0") = decide (L x = [48]) := by
  congr 1
  exact propext ⟨fun z => by rw [z, VH], fun z => ext (by rw [z, VH])⟩
 rw [q2'] at q2
 have S0 : YK [.val (.str x), .emp, .emp, .emp, .emp] = Z6 [.val (.str x), .val (.str x), .emp, .emp, .emp] := by
  unfold YK
  exact Zy (by simp)
 have lFi : ((F.length : Int) > 12) ↔ 12 < (fig (L x)).length := by rw [Ya, hF]; omega
 have key : Yo [.val (.str x), .val (.str F), .emp, .emp, .emp] = .ok (.rt (W2 (YD (L x)))) := by
  rw [num_ok]
  have D2 : Yo = dSeq (dIf (tOr (tV (d2 fEq (dVar 1) (dC (.str (PySem.Str.ofString ""))))) (tOr (tV (d2 fGt (d1 X9 (dVar 1)) (dC (.int 12)))) (tAnd (tV (d2 fEq (d2 fIxS (dVar 1) (dC (.int 0))) (dC (.str (PySem.Str.ofString "0"))))) (tV (d2 fNe (dVar 0) (dC (.str (PySem.Str.ofString "0"))))))))
   (dRet (dC .none))
   Z7) ZP := rfl
  rw [D2]
  by_cases h1 : fig (L x) = []
  ·rw [decide_eq_true h1] at q1
   rw [if_neg (by simp [okF, h1])]
   exact YZ (by simp [q1, W2])
  ·rw [decide_eq_false h1] at q1
   have p1 : (F.length : Int) > 12 ↔ _ := lFi
   by_cases h2 : 12 < (fig (L x)).length
   ·rw [if_neg (by simp [okF, h2])]
    have p2 : (12 : Int) < (F.length : Int) := by omega
    exact YZ (by simp [q1, X9, lF, p2, W2])
   ·have p2 : ¬ (12 : Int) < (F.length : Int) := by omega
    obtain ⟨c0, r0, e0⟩ : ∃ c r, fig (L x) = c :: r := by
     cases q : fig (L x) with
     | nil => exact absurd q h1
     | cons c r => exact ⟨c, r, rfl⟩
    have hF0 : L F = c0 :: r0 := hF.trans e0
    have pL : (0 : Int) < (F.length : Int) := by rw [Ya, hF0]; simp <;> omega
    have g0 : F.cps.getD 0 0 = c0 := by
     have : F.cps.toList[0]? = some c0 := by
      have : F.cps.toList = c0 :: r0 := hF0
      rw [this]; rfl
     rw [Array.getElem?_toList] at this
     simp [Array.getD_eq_getD_getElem?, this]
    have a0 : Asc (⟨#[c0]⟩ : Str) := fun c hc => by
     have : c = c0 := by simpa [L] using hc
     exact aF c (by rw [hF0, this]; exact List.mem_cons_self)
    have i0 : fIxS (.str F) (.int 0) = .ok (.str ⟨#[c0]⟩) := by
     show (if (0 : Int) <= 0 /\ (0 : Int) < (F.length : Int) /\ F.length <= 16777216 then Res.ok (PyData.str ⟨#[F.cps.getD (0 : Int).toNat 0]⟩) else .stuck) = _
     rw [if_pos ⟨Int.le_refl _, pL, lF⟩]
     have : (0 : Int).toNat = 0 := rfl
     rw [this, g0]
    have q3 := sEq a0.ok az.ok
    have q3' : decide ((⟨#[c0]⟩ : Str) = Str.ofString "0") = decide ((fig (L x)).head? = some 48) := by
     congr 1
     rw [e0]
     refine propext ⟨fun z => ?_, fun z => ext ?_⟩
     ·have := congrArg L z
      rw [VH] at this
      have : c0 = 48 := by simpa [L] using this
      rw [this]; rfl
     ·have : c0 = 48 := by simpa using z
      rw [this, VH]
    rw [q3'] at q3
    by_cases h3 : (fig (L x)).head? = some 48 /\ L x ≠ [48]
    ·rw [if_neg (by simp [okF, h3.1, h3.2])]
     rw [decide_eq_true h3.1] at q3
     rw [decide_eq_false h3.2] at q2
     exact YZ (by simp [q1, X9, lF, p2, i0, q3, q2, W2])
    ·have S2 : ∀ r, ZP [.val (.str x), .val (.str F), .emp, .emp, .emp] = r -> (dSeq (dIf (tOr (tV (d2 fEq (dVar 1) (dC (.str (PySem.Str.ofString ""))))) (tOr (tV (d2 fGt (d1 X9 (dVar 1)) (dC (.int 12)))) (tAnd (tV (d2 fEq (d2 fIxS (dVar 1) (dC (.int 0))) (dC (.str (PySem.Str.ofString "0"))))) (tV (d2 fNe (dVar 0) (dC (.str (PySem.Str.ofString "0"))))))))
   (dRet (dC .none))
   Z7) ZP) [.val (.str x), .val (.str F), .emp, .emp, .emp] = r := fun r hr => by
      refine (Zy ?_).trans hr
      by_cases h4 : (fig (L x)).head? = some 48
      ·have h5 : L x = [48] := Classical.byContradiction fun z => h3 ⟨h4, z⟩
       rw [decide_eq_true h4] at q3
       rw [decide_eq_true h5] at q2
       simp [q1, X9, lF, p2, i0, q3, q2]
      ·rw [decide_eq_false h4] at q3
       simp [q1, X9, lF, p2, i0, q3]
     refine S2 _ ?_
     have ho : okF (L x) = (fig (L x)).all isD := by
      unfold okF
      have : (decide ((fig (L x)).head? = some 48) && decide (L x ≠ [48])) = false := by
       rw [Bool.and_eq_false_iff]
       by_cases h4 : (fig (L x)).head? = some 48
       ·exact .inr (decide_eq_false fun z => h3 ⟨h4, z⟩)
       ·exact .inl (decide_eq_false h4)
      rw [decide_eq_false h1, decide_eq_false h2, this]; rfl
     rw [ho]
     have S3 : ZP [.val (.str x), .val (.str F), .emp, .emp, .emp] = YT [.val (.str x), .val (.str F), .val (.int 0), .emp, .emp] := by
      unfold ZP
      exact Zy (by simp)
     rw [S3]
     have D4 : YT = dSeq (dFor (ZI 3) [] (iStr (dVar 1)) bNum) YS := rfl
     rw [D4]
     have eI : iStr (dVar 1) [.val (.str x), .val (.str F), .val (.int 0), .emp, .emp] = .ok ((L F).map fun c => .str ⟨#[c]⟩) := by
      show (if F.cps.all (· < 128) = true then Res.ok (F.cps.toList.map fun c => PyData.str ⟨#[c]⟩) else .stuck) = _
      rw [if_pos aF.all]
     obtain ⟨l1, l2⟩ := Jp (.str x) (.str F) (L F) 0 .emp .emp aF
     generalize iStr (dVar 1) = it at *
     by_cases h5 : (fig (L x)).all isD = true
     ·rw [if_pos h5]
      obtain ⟨s3, s4, e⟩ := l1 (by rw [hF]; exact h5)
      have S4 : (dFor (ZI 3) [] it bNum) [.val (.str x), .val (.str F), .val (.int 0), .emp, .emp] = .ok (.nx [.val (.str x), .val (.str F), .val (.int ((digitsVal (fig (L x)) : Nat) : Int)), s3, s4]) := by
       rw [<- hF]
       generalize bNum = b at *
       simp [eI]
       exact e
      rw [Zy S4]
      unfold YS
      by_cases h6 : (L x).head? = some 45
      ·rw [decide_eq_true h6] at hm
       refine YZ ?_
       have : val (L x) = -((digitsVal (fig (L x)) : Nat) : Int) := if_pos h6
       rw [this]
       generalize digitsVal (fig (L x)) = dv at *
       cases s3 <;> cases s4 <;> simp [XY, hl2, hm, W2]
      ·rw [decide_eq_false h6] at hm
       have : val (L x) = ((digitsVal (fig (L x)) : Nat) : Int) := if_neg h6
       rw [this]
       generalize digitsVal (fig (L x)) = dv at *
       cases s3 <;> cases s4 <;> simp [XY, hl2, hm, W2, XX]
     ·have h5' : (fig (L x)).all isD = false := by simpa using h5
      rw [if_neg h5]
      refine YZ ?_
      have e := l2 (by rw [hF]; exact h5')
      generalize bNum = b at *
      simp [eI]
      exact e
 have all := S0.trans (S1.trans key)
 unfold ZB
 generalize YK = d at *
 simp [runQ, runF, all]
end K19
namespace K19
open PySem PySem.NumText Fx Tx
open Lw
open K20 (Zi Zo Zg fig isD val rd Wd W5 VO VC Qo ZN YY WL sEq sNe VW L_em Xv VS)
open K18 (Yb Wq Jc JB Z9 Vg Xm Wy za2 sp spc Jw wS limS L_wS UC VI)
open K03 (Zl Zn)
theorem JR {s : List Nat} : ∀ {ps : List (List Nat)} {p : List Nat}, p ∈ ps -> (∀ c ∈ p, c ∈ Yb s ps) /\ p.length <= (Yb s ps).length
 | q :: qs, p, h => by
  rw [Z9]
  rcases List.mem_cons.mp h with rfl | h
  ·exact ⟨fun c hc => List.mem_append_left _ hc, by rw [List.length_append]; omega⟩
  ·refine ⟨fun c hc => List.mem_append_right _ (List.mem_flatMap.mpr ⟨p, h, List.mem_append_right _ hc⟩), ?_⟩
   rw [List.length_append]
   have : ∀ (qs : List (List Nat)), p ∈ qs -> p.length <= (qs.flatMap fun q => s ++ q).length := by
    intro qs
    induction qs with
    | nil => intro z; cases z
    | cons a r ih =>
     intro z
     rw [List.flatMap_cons, List.length_append, List.length_append]
     rcases List.mem_cons.mp z with rfl | z
     ·omega
     ·have := ih z; omega
   have := this qs h
   omega
theorem Ja (x y : Str) : L x = Yb (L y) ((Txt.split x y).map L) := by rw [<- Wq, StrLaws.join_split]
theorem WI {x y p : Str} (h : p ∈ Txt.split x y) : (∀ c ∈ L p, c ∈ L x) /\ p.length <= x.length := by
 have := JR (s := L y) (ps := (Txt.split x y).map L) (p := L p) (List.mem_map_of_mem h)
 rw [<- Ja] at this
 rw [Ya, Ya]
 exact this
theorem Wv {x y p : Str} (ha : Asc x) (h : p ∈ Txt.split x y) : Asc p := fun c hc => ha c ((WI h).1 c hc)
theorem XR (x y : Str) : (Txt.split x y).length <= x.length + 2 := by
 have c3 := PySem.StrLaws.occ_length_le x y 0 x.length (x.length + 1)
 unfold Txt.split
 split
 ·simp
 ·split
  ·simp
  ·rw [StrLaws.partsBetween_eq, VS]; omega
theorem Wt (x y : Str) : ∃ p r, Txt.split x y = p :: r := by
 unfold Txt.split
 split
 ·exact ⟨_, _, rfl⟩
 ·split
  ·exact ⟨_, _, rfl⟩
  ·rw [StrLaws.partsBetween_eq]
   obtain ⟨p, r, e⟩ := StrLaws.partsFrom_ne x y.length 0 (Builtin.Str.occurrences x y 0 x.length (x.length + 1))
   exact ⟨p, r, e⟩
theorem gsp {x y : Str} (hy : 1 <= y.length) (hl : x.length <= 900000) : XT x (.str y) = .ok ((Txt.split x y).map .str) := JB rfl hy (by omega) (by have := XR x y; omega)
def W0 : List Str -> Option (List Int)
 | [] => some []
 | w :: r => match rd (L w) with
  | none => none
  | some n => (W0 r).map fun ns => n :: ns
theorem Uq : ∀ (ws : List Str), (∀ w ∈ ws, Asc w /\ w.length <= 1000000) -> Yc (ZI 0) tT (ZG Zg (Zc (dVar 0) dNil)) [.emp] (ws.map .str) = match W0 ws with
  | some ns => .ok (ns.map .int)
  | none => .exc "NoText"
 | [], _ => rfl
 | w :: r, h => by
  have hw := h w List.mem_cons_self
  have e := Xv (x := w) hw.1.all (by have := hw.2; omega)
  have ih := Uq r fun v hv => h v (List.mem_cons_of_mem _ hv)
  rw [List.map_cons]
  unfold Yc
  unfold W0
  cases hr : rd (L w) with
  | none => rw [hr] at e; simp [e]
  | some n =>
   rw [hr] at e
   have e' : Zg [.str w] = .ok (.int n) := e
   cases h2 : W0 r with
   | none => rw [h2] at ih; simp [e', ih]
   | some ns => rw [h2] at ih; simp [e', ih]
theorem Up : ∀ {ws : List Str} {ns : List Int}, W0 ws = some ns -> ws = ns.map sI
 | [], ns, h => by
  have : ns = [] := by simpa [W0] using h.symm
  rw [this]; rfl
 | w :: r, ns, h => by
  unfold W0 at h
  cases hr : rd (L w) with
  | none => rw [hr] at h; cases h
  | some n =>
   rw [hr] at h
   obtain ⟨m, e1, rfl⟩ := Option.map_eq_some_iff.mp h
   rw [List.map_cons, Up e1, ext (QU hr).1]
theorem Jl : ∀ {ns : List Int}, (∀ n ∈ ns, n.natAbs < 10 ^ 30) -> W0 (ns.map sI) = some ns
 | [], _ => rfl
 | n :: ns, h => by
  rw [List.map_cons]
  unfold W0
  rw [Qo, if_pos (h n List.mem_cons_self)]
  show (W0 (ns.map sI)).map _ = _
  rw [Jl fun m hm => h m (List.mem_cons_of_mem _ hm)]; rfl
def rlim (p : Str) : Option Lim := match Txt.split p (Str.ofString " : ") with
 | [a, b] => match W0 (Txt.split a (Str.ofString " ")), rd (L b) with
  | some ws, some n => some (ws, n)
  | _, _ => none
 | _ => none
theorem read_lim {p : Str} (ha : Asc p) (hl : p.length <= 800000) : ZY [.str p] = match rlim p with
  | some l => .ok (limL l)
  | none => .exc "NoText" := by
 have g := gsp (x := p) (y := Str.ofString " : ") (by decide +kernel) (by omega)
 have hp : ∀ q ∈ Txt.split p (Str.ofString " : "), Asc q /\ q.length <= 800000 := fun q hq => ⟨Wv ha hq, by have := (WI hq).2; omega⟩
 unfold rlim
 have S0 : ∀ ps : List Str, Txt.split p (Str.ofString " : ") = ps -> Y2 [.val (.str p), .emp] = Ye [.val (.str p), .val (.list (ps.map .str))] := fun ps e => by
  rw [e] at g
  unfold Y2
  refine Zy ?_
  generalize ps.map PyData.str = r at *
  simp [oM1, g]
 have fin : ∀ {r : Res PyData} {o : Res Out}, Y2 [.val (.str p), .emp] = o -> (o.bind fun o => match o with
  | .rt t => .ok t
  | .nx _ => .ok .none
  | _ => .stuck) = r -> ZY [.str p] = r := fun {r o} h1 h2 => by
  unfold ZY
  generalize Y2 = d at *
  simp [runF, h1]
  exact h2
 have bad : ∀ ps : List Str, ps.length ≠ 2 -> Ye [.val (.str p), .val (.list (ps.map .str))] = .exc "NoText" := fun ps h => by
  have h' : ¬ ((ps.length : Int) = 2) := by omega
  unfold Ye
  simp [fNe, h']
 generalize Txt.split p (Str.ofString " : ") = ps at *
 match ps, hp with
 | [], _ => exact fin ((S0 _ rfl).trans (bad _ (by simp))) rfl
 | [a], _ => exact fin ((S0 _ rfl).trans (bad _ (by simp))) rfl
 | a :: b :: c :: r, _ => exact fin ((S0 _ rfl).trans (bad _ (by simp))) rfl
 | [a, b], hp =>
  have hA := hp a List.mem_cons_self
  have hB := hp b (List.mem_cons_of_mem _ List.mem_cons_self)
  have ga := gsp (x := a) (y := Str.ofString " ") (by decide +kernel) (by have := hA.2; omega)
  have lA := XR a (Str.ofString " ")
  have cA := Uq (Txt.split a (Str.ofString " ")) fun w hw => ⟨Wv hA.1 hw, by have := (WI hw).2; have := hA.2; omega⟩
  have eB := Xv (x := b) hB.1.all (by have := hB.2; omega)
  have lM : ((Txt.split a (Str.ofString " ")).map PyData.str).length <= 16777216 := by rw [List.length_map]; have := hA.2; omega
  have S1 : Ye [.val (.str p), .val (.list [.str a, .str b])] = XM [.val (.str p), .val (.list [.str a, .str b])] := by
   unfold Ye
   exact Zy (by simp [fNe])
  show _ = match (match W0 (Txt.split a (Str.ofString " ")), rd (L b) with
   | some ws, some n => some (ws, n)
   | _, _ => (none : Option Lim)) with
   | some l => Res.ok (limL l)
   | none => .exc "NoText"
  refine fin (((S0 _ rfl).trans S1).trans rfl) ?_
  unfold XM
  generalize (Txt.split a (Str.ofString " ")).map PyData.str = M at *
  cases h1 : W0 (Txt.split a (Str.ofString " ")) with
  | none =>
   rw [h1] at cA
   simp [at0, oM1, ga, lM, cA]
  | some ws =>
   rw [h1] at cA
   cases h2 : rd (L b) with
   | none =>
    rw [h2] at eB
    simp [at0, at1, oM1, ga, lM, cA, eB]
   | some n =>
    rw [h2] at eB
    have eB' : Zg [.str b] = .ok (.int n) := eB
    simp [at0, at1, oM1, ga, lM, cA, eB', limL]
theorem VX {l : Lim} (h : l.1 ≠ []) : Txt.split (limS l) (Str.ofString " : ") = [wS l, sI l.2] /\ Txt.split (wS l) (Str.ofString " ") = l.1.map sI /\ Txt.split (limS l) (Str.ofString " ") = l.1.map sI ++ [Str.ofString ":", sI l.2] := by
 have n58w : 58 ∉ L (wS l) := fun z => by rcases VI l 58 z with y | y | y <;> omega
 have n58b : 58 ∉ L (sI l.2) := fun z => by rcases WZ _ 58 z with y | y <;> omega
 have n32 : ∀ n : Int, 32 ∉ L (sI n) := fun n z => by rcases WZ _ 32 z with y | y <;> omega
 refine ⟨Jc sp.2.1 Jw.1 (by decide) (by rw [UC]; rfl) (by simp) fun p hp => ?_, ?_, ?_⟩
 ·rcases List.mem_cons.mp hp with rfl | hp
  ·exact n58w
  ·rw [List.mem_singleton.mp hp]; exact n58b
 ·rw [spc]
  refine Jb (by rw [Vg, L_wS, List.map_map]; rfl) (by simpa using h) fun p hp => ?_
  obtain ⟨x, _, rfl⟩ := List.mem_map.mp hp
  exact n32 x
 ·rw [spc]
  have lc : L (Str.ofString ":") = [58] := by decide +kernel
  refine Jb ?_ (by simp) fun p hp => ?_
  ·rw [Vg, UC, L_wS, List.map_append, List.map_map]
   show Yb [32] (l.1.map fun x => L (sI x)) ++ [32, 58, 32] ++ L (sI l.2) = Yb [32] ((l.1.map fun x => L (sI x)) ++ [L (Str.ofString ":"), L (sI l.2)])
   rw [lc]
   cases e : l.1 with
   | nil => exact absurd e h
   | cons a r =>
    rw [List.map_cons, List.cons_append, Z9, Z9, List.flatMap_append]
    simp
  ·rcases List.mem_append.mp hp with hp | hp
   ·obtain ⟨x, _, rfl⟩ := List.mem_map.mp hp
    exact n32 x
   ·rcases List.mem_cons.mp hp with rfl | hp
    ·rw [lc]; decide
    ·rw [List.mem_singleton.mp hp]; exact n32 _
theorem zay {p : Str} {l : Lim} (h : rlim p = some l) : p = limS l /\ l.1 ≠ [] := by
 unfold rlim at h
 split at h
 ·rename_i a b e
  split at h
  ·rename_i ws n e1 e2
   injection h with h
   subst h
   have hp := Ja p (Str.ofString " : ")
   rw [e, sp.2.1] at hp
   have ha := Ja a (Str.ofString " ")
   have hw := Up e1
   rw [hw, sp.1, List.map_map] at ha
   have hb := (QU e2).1
   refine ⟨ext ?_, fun z => ?_⟩
   ·rw [hp, UC, L_wS]
    show L a ++ [32, 58, 32] ++ L b = _
    rw [ha, <- hb]; rfl
   ·obtain ⟨q, r, eq⟩ := Wt a (Str.ofString " ")
    have z' : ws = [] := z
    rw [eq, z'] at hw
    cases hw
  ·cases h
 ·cases h
theorem lim_rlim {k : Nat} {l : Lim} (hk : 1 <= k) (h : LimOk k 999999999999 l) : rlim (limS l) = some l := by
 have hne : l.1 ≠ [] := fun z => by have := h.1; rw [z] at this; simp at this; omega
 obtain ⟨s1, s2, _⟩ := VX hne
 have p : (10 : Nat) ^ 12 <= 10 ^ 30 := Nat.pow_le_pow_right (by decide) (by decide)
 unfold rlim
 rw [s1]
 show (match W0 (Txt.split (wS l) (Str.ofString " ")), rd (L (sI l.2)) with
  | some ws, some n => some (ws, n)
  | _, _ => none) = some l
 rw [s2, Jl fun n hn => by have := h.2 n hn; omega, Qo, if_pos (by have := h.3; omega)]
end K19
namespace K19
open PySem PySem.NumText Fx Tx
open Lw
open K20 (Zi Zo Zg fig isD val rd Wd W5 VO VC Qo ZN YY WL sEq sNe VW L_em Xv VS)
open K18 (Yb Wq Jc JB Z9 Vg Xm Wy za2 sp spc Jw wS limS L_wS UC VI)
open K03 (Zl Zn)
def Xw : List Str -> Option (List Int)
 | [] => some []
 | w :: r => match YD (L w) with
  | none => none
  | some n => (Xw r).map fun ns => n :: ns
def rowT (ws : List Str) : List PyData := ws.map fun w => W2 (YD (L w))
theorem WJ : ∀ {ws : List Str} {ns : List Int}, Xw ws = some ns -> ws = ns.map sI /\ rowT ws = ns.map .int /\ (∀ n ∈ ns, n.natAbs < 10 ^ 12)
 | [], ns, h => by
  have : ns = [] := by simpa [Xw] using h.symm
  rw [this]; exact ⟨rfl, rfl, fun n hn => by cases hn⟩
 | w :: r, ns, h => by
  unfold Xw at h
  cases hr : YD (L w) with
  | none => rw [hr] at h; cases h
  | some n =>
   rw [hr] at h
   obtain ⟨m, e1, rfl⟩ := Option.map_eq_some_iff.mp h
   obtain ⟨i1, i2, i3⟩ := WJ e1
   obtain ⟨j1, j2⟩ := UQ hr
   refine ⟨by rw [List.map_cons, <- i1, ext j1], ?_, fun a ha => ?_⟩
   ·show W2 (YD (L w)) :: rowT r = _
    rw [hr, i2]; rfl
   ·rcases List.mem_cons.mp ha with rfl | ha
    ·exact j2
    ·exact i3 a ha
theorem Qt : ∀ {ns : List Int}, (∀ n ∈ ns, n.natAbs < 10 ^ 12) -> Xw (ns.map sI) = some ns
 | [], _ => rfl
 | n :: ns, h => by
  rw [List.map_cons]
  unfold Xw
  rw [num_sI (h n List.mem_cons_self)]
  show (Xw (ns.map sI)).map _ = _
  rw [Qt fun m hm => h m (List.mem_cons_of_mem _ hm)]; rfl
theorem QD (n : Int) : (PyData.int n).eqv .none = false := by simp [PyData.eqv]
theorem UX : PyData.none.eqv .none = true := by simp [PyData.eqv]
theorem zaw : ∀ ws : List Str, ((rowT ws).any fun y => y.eqv .none) = (Xw ws).isNone
 | [] => rfl
 | w :: r => by
  show (PyData.eqv (W2 (YD (L w))) .none || (rowT r).any fun y => y.eqv .none) = _
  rw [zaw r]
  have e : Xw (w :: r) = match YD (L w) with
   | none => none
   | some n => (Xw r).map fun ns => n :: ns := rfl
  rw [e]
  cases hr : YD (L w) with
  | none => show (PyData.none.eqv .none || _) = true; rw [UX]; rfl
  | some n =>
   show ((PyData.int n).eqv .none || _) = _
   rw [QD, Bool.false_or]
   cases Xw r <;> rfl
theorem Je : Shp 0 .none := ⟨by simp [PyData.canLay0], by simp [PyData.depth]⟩
theorem shp_row (ws : List Str) : ZF (.list (rowT ws)) = true := Shp.ok (n := 1) (shp_list (n := 0) fun w _ => by
 cases YD (L w) with
 | none => exact Je
 | some n => exact UH n) (by decide)
theorem in_row (ws : List Str) : fInL .none (.list (rowT ws)) = .ok (.bool (Xw ws).isNone) := by
 have h1 : ZF .none = true := Je.ok (by decide)
 show (if (ZF .none && ZF (.list (rowT ws))) = true then Res.ok (PyData.bool ((rowT ws).any fun y => y.eqv .none)) else .stuck) = _
 rw [h1, shp_row, zaw]; rfl
def llim (k : Nat) (p : Str) : Option Lim :=
 if (Txt.split p (Str.ofString " ")).length = k + 2 /\ (Txt.split p (Str.ofString " "))[k]? = some (Str.ofString ":") then
  (Xw ((Txt.split p (Str.ofString " ")).take k ++ (Txt.split p (Str.ofString " ")).drop (k + 1))).map fun ns => (ns.take k, ns.getD k 0)
 else none
theorem zaS {k : Nat} {p : Str} {l : Lim} (hk : 1 <= k) (h : llim k p = some l) : p = limS l /\ LimOk k 999999999999 l := by
 unfold llim at h
 split at h
 ·rename_i hc
  have hj := StrLaws.join_split p (Str.ofString " ")
  generalize Txt.split p (Str.ofString " ") = ws at *
  obtain ⟨h1, h2⟩ := hc
  obtain ⟨ns, e, rfl⟩ := Option.map_eq_some_iff.mp h
  obtain ⟨e1, e2, e3⟩ := WJ e
  have hn : ns.length = k + 1 := by
   have := congrArg List.length e1
   rw [List.length_append, List.length_take, List.length_drop, List.length_map] at this
   omega
  have hw : ws = ws.take k ++ Str.ofString ":" :: ws.drop (k + 1) := by
   have hkl : k < ws.length := by omega
   have e4 : ws[k] = Str.ofString ":" := by
    rw [List.getElem?_eq_getElem hkl] at h2
    injection h2
   have := List.take_append_drop k ws
   rw [<- e4, List.getElem_cons_drop]
   exact this.symm
  have t1 : ws.take k = (ns.take k).map sI := by
   have := congrArg (List.take k) e1
   rw [List.take_append_of_le_length (by rw [List.length_take]; omega), List.take_take, Nat.min_self, <- List.map_take] at this
   exact this
  have t2 : ws.drop (k + 1) = [sI (ns.getD k 0)] := by
   have := congrArg (List.drop k) e1
   rw [List.drop_append_of_le_length (by rw [List.length_take]; omega), List.drop_take, Nat.sub_self, <- List.map_drop] at this
   have e5 : (ws.drop (k + 1)) = (ns.drop k).map sI := by simpa using this
   rw [e5, List.drop_eq_getElem_cons (show k < ns.length by omega), List.drop_of_length_le (by omega)]
   rw [List.getD_eq_getElem?_getD, List.getElem?_eq_getElem (show k < ns.length by omega)]
   rfl
  have ok : LimOk k 999999999999 (ns.take k, ns.getD k 0) := by
   refine ⟨by rw [List.length_take]; omega, fun x hx => ?_, ?_⟩
   ·have := e3 x (List.mem_of_mem_take hx)
    omega
   ·have : ns.getD k 0 ∈ ns := by
     rw [List.getD_eq_getElem?_getD, List.getElem?_eq_getElem (show k < ns.length by omega)]
     exact List.getElem_mem _
    have := e3 _ this
    show (ns.getD k 0).natAbs <= 999999999999
    omega
  refine ⟨?_, ok⟩
  have hne : (ns.take k) ≠ [] := fun z => by
   have := congrArg List.length z
   rw [List.length_take, List.length_nil] at this
   omega
  have s3 := (VX (l := (ns.take k, ns.getD k 0)) hne).2.2
  have j3 := StrLaws.join_split (limS (ns.take k, ns.getD k 0)) (Str.ofString " ")
  rw [s3] at j3
  rw [<- hj, <- j3, hw, t1, t2]
 ·cases h
theorem lim_llim {k : Nat} {l : Lim} (hk : 1 <= k) (h : LimOk k 999999999999 l) : llim k (limS l) = some l := by
 have hne : l.1 ≠ [] := fun z => by have := h.1; rw [z] at this; simp at this; omega
 obtain ⟨_, _, s3⟩ := VX hne
 have hl : (l.1.map sI).length = k := by rw [List.length_map]; exact h.1
 unfold llim
 rw [s3]
 rw [if_pos ⟨by rw [List.length_append, hl]; rfl, by rw [List.getElem?_append_right (by omega), hl, Nat.sub_self]; rfl⟩]
 have d1 : (l.1.map sI ++ [Str.ofString ":", sI l.2]).take k = l.1.map sI := by rw [List.take_append_of_le_length (by omega), List.take_of_length_le (by omega)]
 have d2 : (l.1.map sI ++ [Str.ofString ":", sI l.2]).drop (k + 1) = [sI l.2] := by
  rw [List.drop_append, List.drop_of_length_le (by omega), hl]
  have : k + 1 - k = 1 := by omega
  rw [this]; rfl
 have e : l.1.map sI ++ [sI l.2] = (l.1 ++ [l.2]).map sI := by rw [List.map_append]; rfl
 rw [d1, d2, e, Qt]
 ·show some ((l.1 ++ [l.2]).take k, (l.1 ++ [l.2]).getD k 0) = some l
  have h1 := h.1
  rw [List.take_append_of_le_length (by omega), List.take_of_length_le (by omega), List.getD_eq_getElem?_getD, List.getElem?_append_right (by omega), h1, Nat.sub_self]
  rfl
 ·intro n hn
  rcases List.mem_append.mp hn with z | z
  ·have := h.2 n z; omega
  ·rw [List.mem_singleton.mp z]; have := h.3; omega
def VE : List Str -> Option (List Lim)
 | [] => some []
 | p :: r => match rlim p with
  | none => none
  | some l => (VE r).map fun ls => l :: ls
def Xu (k : Nat) : List Str -> Option (List Lim)
 | [] => some []
 | p :: r => match llim k p with
  | none => none
  | some l => (Xu k r).map fun ls => l :: ls
theorem both {k : Nat} (hk : 1 <= k) : ∀ (ps : List Str), (∀ ls, Xu k ps = some ls -> VE ps = some ls /\ ∀ l ∈ ls, LimOk k 999999999999 l) /\ (Xu k ps = none -> ∀ ls, VE ps = some ls -> ¬ ∀ l ∈ ls, LimOk k 999999999999 l)
 | [] => ⟨fun ls h => by
   have : ls = [] := by simpa [Xu] using h.symm
   rw [this]; exact ⟨rfl, fun l hl => by cases hl⟩, fun h => by cases h⟩
 | p :: r => by
  obtain ⟨i1, i2⟩ := both hk r
  unfold Xu VE
  refine ⟨fun ls h => ?_, fun h ls h2 => ?_⟩
  ·cases e : llim k p with
   | none => rw [e] at h; cases h
   | some l =>
    rw [e] at h
    obtain ⟨m, e1, rfl⟩ := Option.map_eq_some_iff.mp h
    obtain ⟨j1, j2⟩ := zaS hk e
    obtain ⟨j3, j4⟩ := i1 m e1
    rw [j1, lim_rlim hk j2]
    refine ⟨?_, fun a ha => ?_⟩
    ·show (VE r).map _ = _
     rw [j3]; rfl
    ·rcases List.mem_cons.mp ha with rfl | ha
     ·exact j2
     ·exact j4 a ha
  ·intro hz
   cases e : rlim p with
   | none => rw [e] at h2; cases h2
   | some l =>
    rw [e] at h2
    obtain ⟨m, e1, rfl⟩ := Option.map_eq_some_iff.mp h2
    have hl := hz l List.mem_cons_self
    have ep := (zay e).1
    rw [ep, lim_llim hk hl] at h
    have h' : (Xu k r).map (fun ls => l :: ls) = none := h
    rw [Option.map_eq_none_iff] at h'
    exact i2 h' m e1 fun a ha => hz a (List.mem_cons_of_mem _ ha)
theorem Um : ∀ (ps : List Str), (∀ p ∈ ps, Asc p /\ p.length <= 800000) -> Yc (ZI 0) tT (ZG ZY (Zc (dVar 0) dNil)) [.emp] (ps.map .str) = match VE ps with
  | some ls => .ok (ls.map limL)
  | none => .exc "NoText"
 | [], _ => rfl
 | p :: r, h => by
  have hp := h p List.mem_cons_self
  have e := read_lim hp.1 hp.2
  have ih := Um r fun v hv => h v (List.mem_cons_of_mem _ hv)
  rw [List.map_cons]
  unfold Yc
  unfold VE
  cases hr : rlim p with
  | none => rw [hr] at e; simp [e]
  | some l =>
   rw [hr] at e
   have e' : ZY [.str p] = .ok (limL l) := e
   cases h2 : VE r with
   | none => rw [h2] at ih; simp [e', ih]
   | some ls => rw [h2] at ih; simp [e', ih]
theorem Qn : ∀ {ps : List Str} {ls : List Lim}, VE ps = some ls -> ls.length = ps.length
 | [], ls, h => by
  have : ls = [] := by simpa [VE] using h.symm
  rw [this]; rfl
 | p :: r, ls, h => by
  unfold VE at h
  cases e : rlim p with
  | none => rw [e] at h; cases h
  | some l =>
   rw [e] at h
   obtain ⟨m, e1, rfl⟩ := Option.map_eq_some_iff.mp h
   rw [List.length_cons, List.length_cons, Qn e1]
theorem zaT {k : Nat} {l : Lim} (hk : k <= 4) (h : ¬ LimOk k 999999999999 l) : Zl [.int k, limL l] = .exc "NoDesk" := by
 by_cases h1 : l.1.length = k
 ·refine K03.lim_d (by rw [List.length_map]; exact h1) (by omega) (K03.ints_noD _) rfl ?_
  by_cases h2 : l.2.natAbs <= 999999999999
  ·left
   cases ha : (l.1.map PyData.int).all K03.numOk with
   | false => rfl
   | true =>
    refine absurd ⟨h1, fun x hx => ?_, h2⟩ h
    have := List.all_eq_true.mp ha (.int x) (List.mem_map_of_mem hx)
    exact of_decide_eq_true this
  ·right
   exact decide_eq_false h2
 ·exact K03.lim_c (by rw [List.length_map]; exact h1)
theorem QB {k : Nat} : ∀ {ls : List Lim}, (¬ ∀ l ∈ ls, LimOk k 999999999999 l) -> ∃ pre l post, ls = pre ++ l :: post /\ (∀ m ∈ pre, LimOk k 999999999999 m) /\ ¬ LimOk k 999999999999 l
 | [], h => absurd (fun l hl => by cases hl) h
 | l :: ls, h => by
  by_cases h1 : LimOk k 999999999999 l
  ·obtain ⟨pre, m, post, e, i1, i2⟩ := QB (ls := ls) fun z => h fun a ha => by
    rcases List.mem_cons.mp ha with rfl | ha
    ·exact h1
    ·exact z a ha
   exact ⟨l :: pre, m, post, by rw [e]; rfl, fun a ha => by
    rcases List.mem_cons.mp ha with rfl | ha
    ·exact h1
    ·exact i1 a ha, i2⟩
  ·exact ⟨[], l, ls, rfl, (fun a ha => by cases ha), h1⟩
theorem desk_no {k : Int} {ls : List Lim} (h : ¬ (1 <= k /\ k <= 4 /\ ls.length <= 10 /\ ∀ l ∈ ls, LimOk k.toNat 999999999999 l)) : Zn [.int k, .list (ls.map limL)] = .exc "NoDesk" := by
 by_cases h1 : 1 <= k /\ k <= 4
 ·obtain ⟨n, rfl⟩ := Int.eq_ofNat_of_zero_le (show 0 <= k by omega)
  by_cases h2 : ls.length <= 10
  ·obtain ⟨pre, l, post, e, i1, i2⟩ := QB (k := n) (ls := ls) fun z => h ⟨h1.1, h1.2, h2, z⟩
   rw [e, List.length_append, List.length_cons] at h2
   rw [e, List.map_append, List.map_cons]
   exact K03.desk_bad i1 (Nat.le_refl _) ⟨by omega, by omega⟩ (by rw [List.length_map]; omega) (zaT (by omega) i2)
  ·exact (K03.limits_bad (k := n) ⟨by omega, by omega⟩).2.2 _ (by rw [List.length_map]; omega)
 ·by_cases h2 : k < 1
  ·simp [Zn, runF, K03.d_desk_of, YE, h2]
  ·have h3 : 4 < k := by omega
   simp [Zn, runF, K03.d_desk_of, YE, h2, h3]
end K19
namespace K19
open PySem PySem.NumText Fx Tx
open Lw
open K20 (Zi Zo Zg fig isD val rd Wd W5 VO VC Qo ZN YY WL sEq sNe VW L_em Xv VS)
open K18 (Yb Wq Jc JB Z9 Vg Xm Wy za2 sp spc Jw wS limS L_wS UC VI)
open K03 (Zl Zn)
def bLim : DS := (dSeq (dSet 5 [] (dL (oM1 XT (dVar 4) (dC (.str (PySem.Str.ofString " "))))))
  (dSeq (dIf (tOr (tV (d2 fNe (d1 fLen (dVar 5)) (d2 fAdd (dVar 2) (dC (.int 2))))) (tV (d2 fNe (d2 fIx (dVar 5) (dVar 2)) (dC (.str (PySem.Str.ofString ":"))))))
  (dRet (dC .none))
  Z7)
  (dSeq (dSet 6 [] (dL (WF 1 [] (ZI 0) (iSeq (d2 fAdd (dL (oCut (dVar 5) pNo (pAt (dVar 2)))) (dL (oCut (dVar 5) (pAt (d2 fAdd (dVar 2) (dC (.int 1)))) pNo)))) tT (ZG ZB (Zc (dVar 0) dNil)))))
  (dSeq (dIf (tV (d2 fInL (dC .none) (dVar 6)))
  (dRet (dC .none))
  Z7)
  (dApp 3 [] (dTup (Zc (d1 Uw (dL (oCut (dVar 6) pNo (pAt (dVar 2))))) (Zc (d2 fIx (dVar 6) (dVar 2)) dNil))))))))
theorem cut_to (xs : List PyData) (k : Nat) (h : k <= xs.length) : cutT xs none (some (k : Int)) = xs.take k := by
 have h1 : ¬ ((k : Int) < 0) := by omega
 have h2 : min k xs.length = k := by omega
 simp [cutT, sIxT, h1, h2]
theorem U3 (xs : List PyData) (k : Nat) (h : k <= xs.length) : cutT xs (some (k : Int)) none = xs.drop k := by
 have h1 : ¬ ((k : Int) < 0) := by omega
 have h2 : min k xs.length = k := by omega
 simp [cutT, sIxT, h1, h2]
 rw [List.take_of_length_le (by rw [List.length_drop]; omega)]
section
variable {line pcs : PyData} {k : Nat} {xs : List PyData} {s5 s6 : Sl}
theorem lim_step {p : Str} (hk : 1 <= k /\ k <= 4) (ha : Asc p) (hl : p.length <= 800000) (hx : xs.length < 1000) : match llim k p with
  | some l => ∃ s5' s6', bLim [.val line, .val pcs, .val (.int (k : Int)), .own xs, .val (.str p), s5, s6] = .ok (.nx [.val line, .val pcs, .val (.int (k : Int)), .own (xs ++ [limT l]), .val (.str p), s5', s6'])
  | none => bLim [.val line, .val pcs, .val (.int (k : Int)), .own xs, .val (.str p), s5, s6] = .ok (.rt .none) := by
 have g := gsp (x := p) (y := Str.ofString " ") (by decide +kernel) (by omega)
 have sl := XR p (Str.ofString " ")
 have hp : ∀ q ∈ Txt.split p (Str.ofString " "), Asc q /\ q.length <= 800000 := fun q hq => ⟨Wv ha hq, by have := (WI hq).2; omega⟩
 have S0 : (dSet 5 [] (dL (oM1 XT (dVar 4) (dC (.str (PySem.Str.ofString " ")))))) [.val line, .val pcs, .val (.int (k : Int)), .own xs, .val (.str p), s5, s6] = .ok (.nx [.val line, .val pcs, .val (.int (k : Int)), .own xs, .val (.str p), .val (.list ((Txt.split p (Str.ofString " ")).map .str)), s6]) := by
  generalize (Txt.split p (Str.ofString " ")).map PyData.str = r at *
  simp [oM1, g]
 unfold llim
 unfold bLim
 rw [Zy S0]
 generalize Txt.split p (Str.ofString " ") = ws at *
 clear g S0
 by_cases h1 : ws.length = k + 2
 ·have e1 : fNe (.int (ws.length : Int)) (.int ((k : Int) + 2)) = .ok (.bool false) := by
   have : (ws.length : Int) = (k : Int) + 2 := by omega
   simp [fNe, this]
  have ek : atP (ws.map PyData.str) (k : Int) = some (.str (ws[k]'(by omega))) := V9 (f := PyData.str) (i := k) (by omega)
  have hwk := hp (ws[k]'(by omega)) (List.getElem_mem _)
  have ac : Asc (Str.ofString ":") := by decide +kernel
  have e2 := sNe hwk.1.ok ac.ok
  by_cases h2 : ws[k]'(by omega) = Str.ofString ":"
  ·have hc : ws.length = k + 2 /\ ws[k]? = some (Str.ofString ":") := ⟨h1, by rw [List.getElem?_eq_getElem (by omega), h2]⟩
   rw [if_pos hc]
   rw [decide_eq_true h2] at e2
   have S1 : (dIf (tOr (tV (d2 fNe (d1 fLen (dVar 5)) (d2 fAdd (dVar 2) (dC (.int 2))))) (tV (d2 fNe (d2 fIx (dVar 5) (dVar 2)) (dC (.str (PySem.Str.ofString ":"))))))
     (dRet (dC .none)) Z7) [.val line, .val pcs, .val (.int (k : Int)), .own xs, .val (.str p), .val (.list (ws.map .str)), s6] = .ok (.nx [.val line, .val pcs, .val (.int (k : Int)), .own xs, .val (.str p), .val (.list (ws.map .str)), s6]) := by
    have lw : (ws.map PyData.str).length = ws.length := List.length_map _
    generalize ws.map PyData.str = r at *
    rw [<- lw] at e1
    cases s6 <;> simp [e1, ek, e2]
   rw [Zy S1]
   have c1 : cutT (ws.map PyData.str) none (some (k : Int)) = (ws.take k).map .str := by rw [cut_to _ _ (by rw [List.length_map]; omega), List.map_take]
   have c2 : cutT (ws.map PyData.str) (some ((k : Int) + 1)) none = (ws.drop (k + 1)).map .str := by
    have := U3 (ws.map PyData.str) (k + 1) (by rw [List.length_map]; omega)
    rw [List.map_drop]
    exact this
   have cc : Yc (ZI 0) tT (ZG ZB (Zc (dVar 0) dNil)) [.emp] ((ws.take k ++ ws.drop (k + 1)).map .str) = .ok (rowT (ws.take k ++ ws.drop (k + 1))) :=
    Vb (fun w : Str => PyData.str w) (fun w : Str => W2 (YD (L w))) _ fun w hw => ⟨[.val (.str w)], rfl, by
     have : w ∈ ws := by
      rcases List.mem_append.mp hw with z | z
      ·exact List.mem_of_mem_take z
      ·exact List.mem_of_mem_drop z
     have := hp w this
     have e := zaR this.1 (by have := this.2; omega)
     simp [e]⟩
   have hlen : ((ws.take k).map PyData.str).length + ((ws.drop (k + 1)).map PyData.str).length <= 16777216 := by
    rw [List.length_map, List.length_map, List.length_take, List.length_drop]; omega
   have S2 : (dSet 6 [] (dL (WF 1 [] (ZI 0) (iSeq (d2 fAdd (dL (oCut (dVar 5) pNo (pAt (dVar 2)))) (dL (oCut (dVar 5) (pAt (d2 fAdd (dVar 2) (dC (.int 1)))) pNo)))) tT (ZG ZB (Zc (dVar 0) dNil)))))
     [.val line, .val pcs, .val (.int (k : Int)), .own xs, .val (.str p), .val (.list (ws.map .str)), s6] = .ok (.nx [.val line, .val pcs, .val (.int (k : Int)), .own xs, .val (.str p), .val (.list (ws.map .str)), .val (.list (rowT (ws.take k ++ ws.drop (k + 1))))]) := by
    rw [List.map_append] at cc
    generalize rowT (ws.take k ++ ws.drop (k + 1)) = R at *
    generalize ws.map PyData.str = r at *
    generalize (ws.take k).map PyData.str = r1 at *
    generalize (ws.drop (k + 1)).map PyData.str = r2 at *
    have hlen' : (r1 ++ r2).length <= 16777216 := by rw [List.length_append]; exact hlen
    simp [c1, c2, hlen, cc]
   rw [Zy S2]
   have ir := in_row (ws.take k ++ ws.drop (k + 1))
   have lr : (rowT (ws.take k ++ ws.drop (k + 1))).length = k + 1 := by
    unfold rowT
    rw [List.length_map, List.length_append, List.length_take, List.length_drop]; omega
   cases hn : Xw (ws.take k ++ ws.drop (k + 1)) with
   | none =>
    rw [hn] at ir
    show _ = Res.ok (Out.rt PyData.none)
    generalize rowT (ws.take k ++ ws.drop (k + 1)) = R at *
    generalize ws.map PyData.str = r at *
    have ir' : fInL .none (.list R) = .ok (.bool true) := ir
    refine YZ ?_
    simp [ir']
   | some ns =>
    rw [hn] at ir
    obtain ⟨_, er, _⟩ := WJ hn
    rw [er] at ir lr ⊢
    rw [List.length_map] at lr
    show ∃ s5' s6', _ = Res.ok (Out.nx [.val line, .val pcs, .val (.int (k : Int)), .own (xs ++ [limT (ns.take k, ns.getD k 0)]), .val (.str p), s5', s6'])
    refine ⟨.val (.list (ws.map .str)), .val (.list (ns.map .int)), ?_⟩
    have ir' : fInL .none (.list (ns.map .int)) = .ok (.bool false) := ir
    have c3 : cutT (ns.map PyData.int) none (some (k : Int)) = (ns.take k).map .int := by rw [cut_to _ _ (by rw [List.length_map]; omega), List.map_take]
    have a3 : atP (ns.map PyData.int) (k : Int) = some (.int (ns.getD k 0)) := by
     have := V9 (f := PyData.int) (xs := ns) (i := k) (by omega)
     rw [this, List.getD_eq_getElem?_getD, List.getElem?_eq_getElem (by omega)]
     rfl
    unfold limT
    dsimp only
    generalize ws.map PyData.str = r at *
    generalize ns.getD k 0 = nb at *
    generalize (ns.take k).map PyData.int = r1 at *
    generalize ns.map PyData.int = r2 at *
    have hx' : xs.length < 16777216 := by omega
    simp [ir', c3, a3, hx']
  ·have hc : ¬ (ws.length = k + 2 /\ ws[k]? = some (Str.ofString ":")) := fun z => h2 (by
    have := z.2
    rw [List.getElem?_eq_getElem (by omega)] at this
    injection this)
   rw [if_neg hc]
   rw [decide_eq_false h2] at e2
   refine YZ ?_
   have lw : (ws.map PyData.str).length = ws.length := List.length_map _
   generalize ws.map PyData.str = r at *
   rw [<- lw] at e1
   cases s6 <;> simp [e1, ek, e2]
 ·have hc : ¬ (ws.length = k + 2 /\ ws[k]? = some (Str.ofString ":")) := fun z => h1 z.1
  rw [if_neg hc]
  refine YZ ?_
  have e1 : fNe (.int (ws.length : Int)) (.int ((k : Int) + 2)) = .ok (.bool true) := by
   have : ¬ (ws.length : Int) = (k : Int) + 2 := by omega
   simp [fNe, this]
  have lw : (ws.map PyData.str).length = ws.length := List.length_map _
  generalize ws.map PyData.str = r at *
  rw [<- lw] at e1
  cases s6 <;> simp [e1]
theorem Jt (hk : 1 <= k /\ k <= 4) : ∀ (ps : List Str) (xs : List PyData) (s4 s5 s6 : Sl), (∀ p ∈ ps, Asc p /\ p.length <= 800000) -> xs.length + ps.length < 1000 -> match Xu k ps with
  | some ls => ∃ s4' s5' s6', forL (ZI 4) bLim (ps.map .str) [.val line, .val pcs, .val (.int (k : Int)), .own xs, s4, s5, s6] = .ok (.nx [.val line, .val pcs, .val (.int (k : Int)), .own (xs ++ ls.map limT), s4', s5', s6'])
  | none => forL (ZI 4) bLim (ps.map .str) [.val line, .val pcs, .val (.int (k : Int)), .own xs, s4, s5, s6] = .ok (.rt .none)
 | [], xs, s4, s5, s6, _, _ => ⟨s4, s5, s6, by simp [forL]⟩
 | p :: ps, xs, s4, s5, s6, h, hl => by
  have hl' : xs.length + (ps.length + 1) < 1000 := hl
  have hp := h p List.mem_cons_self
  have st := lim_step (line := line) (pcs := pcs) (s5 := s5) (s6 := s6) (xs := xs) hk hp.1 hp.2 (by omega)
  have e0 : ZI 4 (.str p) [.val line, .val pcs, .val (.int (k : Int)), .own xs, s4, s5, s6] = .ok [.val line, .val pcs, .val (.int (k : Int)), .own xs, .val (.str p), s5, s6] := rfl
  rw [List.map_cons]
  have e : Xu k (p :: ps) = match llim k p with
   | none => none
   | some l => (Xu k ps).map fun ls => l :: ls := rfl
  rw [e]
  cases hq : llim k p with
  | none =>
   rw [hq] at st
   show forL _ _ _ _ = _
   rw [forL, e0, Res.bind_ok, st, Res.bind_ok]
  | some l =>
   rw [hq] at st
   obtain ⟨t5, t6, st⟩ := st
   have ih := Jt hk ps (xs ++ [limT l]) (.val (.str p)) t5 t6 (fun q hq => h q (List.mem_cons_of_mem _ hq)) (by rw [List.length_append]; simp; omega)
   have e1 : forL (ZI 4) bLim (PyData.str p :: ps.map PyData.str) [.val line, .val pcs, .val (.int (k : Int)), .own xs, s4, s5, s6] = forL (ZI 4) bLim (ps.map PyData.str) [.val line, .val pcs, .val (.int (k : Int)), .own (xs ++ [limT l]), .val (.str p), t5, t6] := by
    rw [forL, e0, Res.bind_ok, st, Res.bind_ok]
   rw [e1]
   cases hr : Xu k ps with
   | none => rw [hr] at ih; exact ih
   | some ls =>
    rw [hr] at ih
    obtain ⟨u4, u5, u6, ih⟩ := ih
    refine ⟨u4, u5, u6, ?_⟩
    rw [ih]
    simp
end
def due (x : Str) : Option (Nat × List Lim) := match Txt.split x (Str.ofString " ; ") with
 | p :: r => match YD (L p) with
  | some k => if 1 <= k /\ k <= 4 /\ r.length <= 10 then (Xu k.toNat r).map fun ls => (k.toNat, ls) else none
  | none => none
 | [] => none
def dueT : Option (Nat × List Lim) -> PyData
 | some d => .tuple [.int (d.1 : Int), .tuple (d.2.map limT)]
 | none => .none
section
variable {x : Str}
theorem ldesk_ok (ha : Asc x) (hl : x.length <= 700000) : YH [.str x] = .ok (dueT (due x)) := by
 have g := gsp (x := x) (y := Str.ofString " ; ") (by decide +kernel) (by omega)
 have sl := XR x (Str.ofString " ; ")
 have hp : ∀ q ∈ Txt.split x (Str.ofString " ; "), Asc q /\ q.length <= 800000 := fun q hq => ⟨Wv ha hq, by have := (WI hq).2; omega⟩
 obtain ⟨p, r, hs⟩ := Wt x (Str.ofString " ; ")
 have S0 : Xg [.val (.str x), .emp, .emp, .emp, .emp, .emp, .emp] = YM [.val (.str x), .val (.list ((p :: r).map .str)), .emp, .emp, .emp, .emp, .emp] := by
  unfold Xg
  refine Zy ?_
  rw [hs] at g
  generalize (p :: r).map PyData.str = q at *
  simp [oM1, g]
 unfold due
 rw [hs] at sl hp ⊢
 have hp0 := hp p List.mem_cons_self
 have e0 := zaR hp0.1 (by have := hp0.2; omega)
 have a0 : atP ((p :: r).map PyData.str) 0 = some (.str p) := V9 (f := PyData.str) (xs := p :: r) (i := 0) (by simp)
 have S1 : YM [.val (.str x), .val (.list ((p :: r).map .str)), .emp, .emp, .emp, .emp, .emp] = Zs [.val (.str x), .val (.list ((p :: r).map .str)), .val (W2 (YD (L p))), .emp, .emp, .emp, .emp] := by
  unfold YM
  refine Zy ?_
  generalize (p :: r).map PyData.str = q at *
  simp [a0, e0]
 have lr : ((p :: r).map PyData.str).length = r.length + 1 := by simp
 have key : Zs [.val (.str x), .val (.list ((p :: r).map .str)), .val (W2 (YD (L p))), .emp, .emp, .emp, .emp] = .ok (.rt (dueT (match YD (L p) with
   | some k => if 1 <= k /\ k <= 4 /\ r.length <= 10 then (Xu k.toNat r).map fun ls => (k.toNat, ls) else none
   | none => none))) := by
  cases hn : YD (L p) with
  | none =>
   unfold Zs
   refine YZ ?_
   simp [W2, dueT]
  | some k =>
   show Zs [.val (.str x), .val (.list ((p :: r).map .str)), .val (.int k), .emp, .emp, .emp, .emp] = .ok (.rt (dueT (if 1 <= k /\ k <= 4 /\ r.length <= 10 then (Xu k.toNat r).map fun ls => (k.toNat, ls) else none)))
   by_cases h1 : k < 1
   ·rw [if_neg (by omega)]
    unfold Zs
    refine YZ ?_
    generalize (p :: r).map PyData.str = q at *
    simp [h1, dueT]
   ·by_cases h2 : 4 < k
    ·rw [if_neg (by omega)]
     unfold Zs
     refine YZ ?_
     generalize (p :: r).map PyData.str = q at *
     simp [h1, h2, dueT]
    ·by_cases h3 : r.length <= 10
     ·rw [if_pos ⟨by omega, by omega, h3⟩]
      obtain ⟨n, rfl⟩ := Int.eq_ofNat_of_zero_le (show 0 <= k by omega)
      have hk : 1 <= n /\ n <= 4 := ⟨by omega, by omega⟩
      have ll : ¬ (11 : Int) < (((p :: r).map PyData.str).length : Int) := by rw [lr]; omega
      have S2 : Zs [.val (.str x), .val (.list ((p :: r).map .str)), .val (.int (n : Int)), .emp, .emp, .emp, .emp] = YL [.val (.str x), .val (.list ((p :: r).map .str)), .val (.int (n : Int)), .emp, .emp, .emp, .emp] := by
       unfold Zs
       refine Zy ?_
       generalize (p :: r).map PyData.str = q at *
       simp [h1, h2, ll]
      have S3 : YL [.val (.str x), .val (.list ((p :: r).map .str)), .val (.int (n : Int)), .emp, .emp, .emp, .emp] = Xs [.val (.str x), .val (.list ((p :: r).map .str)), .val (.int (n : Int)), .own [], .emp, .emp, .emp] := by
       unfold YL
       exact Zy (by simp [Uh])
      rw [S2, S3]
      have D4 : Xs = dSeq (dFor (ZI 4) [] (iSeq (dL (oCut (dVar 1) (pAt (dC (.int 1))) pNo))) bLim) Xr := rfl
      rw [D4]
      have ct : cutT ((p :: r).map PyData.str) (some 1) none = r.map .str := by
       have := U3 ((p :: r).map PyData.str) 1 (by rw [lr]; omega)
       exact this
      have lp := Jt (line := .str x) (pcs := .list ((p :: r).map .str)) hk r [] .emp .emp .emp (fun q hq => hp q (List.mem_cons_of_mem _ hq)) (by show 0 + r.length < 1000; omega)
      have tn : ((n : Int)).toNat = n := Int.toNat_natCast n
      rw [tn]
      cases hq : Xu n r with
      | none =>
       rw [hq] at lp
       refine YZ ?_
       show _ = Res.ok (Out.rt PyData.none)
       generalize bLim = b at *
       generalize (p :: r).map PyData.str = q at *
       generalize r.map PyData.str = q2 at *
       simp [ct]
       exact lp
      | some ls =>
       rw [hq] at lp
       obtain ⟨t4, t5, t6, lp⟩ := lp
       have S4 : (dFor (ZI 4) [] (iSeq (dL (oCut (dVar 1) (pAt (dC (.int 1))) pNo))) bLim) [.val (.str x), .val (.list ((p :: r).map .str)), .val (.int (n : Int)), .own [], .emp, .emp, .emp] = .ok (.nx [.val (.str x), .val (.list ((p :: r).map .str)), .val (.int (n : Int)), .own (ls.map limT), t4, t5, t6]) := by
        generalize bLim = b at *
        generalize (p :: r).map PyData.str = q at *
        generalize r.map PyData.str = q2 at *
        simp [ct]
        exact lp
       rw [Zy S4]
       show _ = Res.ok (Out.rt (PyData.tuple [.int (n : Int), .tuple (ls.map limT)]))
       unfold Xr
       generalize ls.map limT = z at *
       generalize (p :: r).map PyData.str = q at *
       simp
     ·rw [if_neg (by omega)]
      have ll : (11 : Int) < (((p :: r).map PyData.str).length : Int) := by rw [lr]; omega
      unfold Zs
      refine YZ ?_
      generalize (p :: r).map PyData.str = q at *
      simp [h1, h2, ll, dueT]
 have all := S0.trans (S1.trans key)
 unfold YH
 generalize Xg = d at *
 simp [runQ, runF]
 rw [all]
 rfl
theorem read_any (ha : Asc x) (hl : x.length <= 700000) : Xx [.str x] = match due x with
  | some d => .ok (.tuple [.int (d.1 : Int), .tuple (d.2.map limT)])
  | none => .exc "NoText" := by
 have g := gsp (x := x) (y := Str.ofString " ; ") (by decide +kernel) (by omega)
 have sl := XR x (Str.ofString " ; ")
 have hp : ∀ q ∈ Txt.split x (Str.ofString " ; "), Asc q /\ q.length <= 800000 := fun q hq => ⟨Wv ha hq, by have := (WI hq).2; omega⟩
 obtain ⟨p, r, hs⟩ := Wt x (Str.ofString " ; ")
 have ec : Zo [.str x] = .ok .none := by simp [Zo, K20.Wm, runF, J2]
 have S0 : QF [.val (.str x), .emp, .emp, .emp, .emp] = VN [.val (.str x), .emp, .emp, .emp, .emp] := by
  unfold QF
  exact Zy (by simp [ec])
 have S1 : VN [.val (.str x), .emp, .emp, .emp, .emp] = WC [.val (.str x), .val (.list ((p :: r).map .str)), .emp, .emp, .emp] := by
  unfold VN
  refine Zy ?_
  rw [hs] at g
  generalize (p :: r).map PyData.str = q at *
  simp [oM1, g]
 unfold due
 rw [hs] at sl hp ⊢
 have hp0 := hp p List.mem_cons_self
 have a0 : atP ((p :: r).map PyData.str) 0 = some (.str p) := V9 (f := PyData.str) (xs := p :: r) (i := 0) (by simp)
 have e0 := Xv (x := p) hp0.1.all (by have := hp0.2; omega)
 have lr : ((p :: r).map PyData.str).length = r.length + 1 := by simp
 have fin : ∀ {q : Res PyData} {o : Res Out}, WC [.val (.str x), .val (.list ((p :: r).map .str)), .emp, .emp, .emp] = o -> (match o with
  | .ok (.rt t) => .ok t
  | .exc c => .exc c
  | _ => .stuck) = q -> q ≠ .stuck -> Xx [.str x] = q := fun {q o} h1 h2 h3 => by
  have all := S0.trans (S1.trans h1)
  unfold Xx
  generalize QF = d at *
  simp [runF]
  rw [all]
  match o, h2, h3 with
  | .ok (.rt t), h2, _ => exact h2
  | .exc c, h2, _ => exact h2
  | .ok (.nx _), h2, h3 => exact absurd h2.symm h3
  | .ok (.bk _), h2, h3 => exact absurd h2.symm h3
  | .ok (.ct _), h2, h3 => exact absurd h2.symm h3
  | .stuck, h2, h3 => exact absurd h2.symm h3
 have ct : cutT ((p :: r).map PyData.str) (some 1) none = r.map .str := U3 ((p :: r).map PyData.str) 1 (by rw [lr]; omega)
 have cR := Um r fun q hq => hp q (List.mem_cons_of_mem _ hq)
 have lR : (r.map PyData.str).length <= 16777216 := by rw [List.length_map]; rw [List.length_cons] at sl; omega
 have N0 : YD (L p) = match rd (L p) with
  | some n => if n.natAbs < 10 ^ 12 then some n else none
  | none => none := rfl
 show _ = match (match YD (L p) with
   | some k => if 1 <= k /\ k <= 4 /\ r.length <= 10 then (Xu k.toNat r).map fun ls => (k.toNat, ls) else none
   | none => none) with
  | some d => Res.ok (PyData.tuple [.int (d.1 : Int), .tuple (d.2.map limT)])
  | none => .exc "NoText"
 cases hr : rd (L p) with
 | none =>
  rw [hr] at e0 N0
  rw [N0]
  refine fin (o := .exc "NoText") ?_ rfl (by simp)
  unfold WC
  generalize (p :: r).map PyData.str = q at *
  simp [a0, e0]
 | some k =>
  rw [hr] at e0 N0
  have e0' : Zg [.str p] = .ok (.int k) := e0
  have S2 : WC [.val (.str x), .val (.list ((p :: r).map .str)), .emp, .emp, .emp] = WB [.val (.str x), .val (.list ((p :: r).map .str)), .val (.int k), .emp, .emp] := by
   unfold WC
   refine Zy ?_
   generalize (p :: r).map PyData.str = q at *
   simp [a0, e0']
  cases hR : VE r with
  | none =>
   rw [hR] at cR
   have S3 : WB [.val (.str x), .val (.list ((p :: r).map .str)), .val (.int k), .emp, .emp] = .exc "NoText" := by
    unfold WB
    generalize (p :: r).map PyData.str = q at *
    generalize r.map PyData.str = q2 at *
    simp [ct, lR, cR]
   refine fin (S2.trans S3) ?_ ?_
   ·show Res.exc _ = _
    by_cases hk : k.natAbs < 10 ^ 12
    ·have N1 : YD (L p) = some k := by rw [N0]; exact if_pos hk
     rw [N1]
     show Res.exc _ = match (if 1 <= k /\ k <= 4 /\ r.length <= 10 then (Xu k.toNat r).map fun ls => (k.toNat, ls) else none) with
      | some d => Res.ok (PyData.tuple [.int (d.1 : Int), .tuple (d.2.map limT)])
      | none => .exc "NoText"
     by_cases hc : 1 <= k /\ k <= 4 /\ r.length <= 10
     ·rw [if_pos hc]
      cases hL : Xu k.toNat r with
      | none => rfl
      | some ls =>
       have := ((both (k := k.toNat) (by omega) r).1 ls hL).1
       rw [hR] at this
       cases this
     ·rw [if_neg hc]
    ·have N1 : YD (L p) = none := by rw [N0]; exact if_neg hk
     rw [N1]
   ·split <;> simp
  | some ls =>
   rw [hR] at cR
   have hlen := Qn hR
   have cR' : Yc (ZI 0) tT (ZG ZY (Zc (dVar 0) dNil)) [.emp] (r.map .str) = .ok (ls.map limL) := cR
   have S3 : WB [.val (.str x), .val (.list ((p :: r).map .str)), .val (.int k), .emp, .emp] = WA [.val (.str x), .val (.list ((p :: r).map .str)), .val (.int k), .val (.list (ls.map limL)), .emp] := by
    unfold WB
    refine Zy ?_
    generalize (p :: r).map PyData.str = q at *
    generalize r.map PyData.str = q2 at *
    generalize ls.map limL = q3 at *
    simp [ct, lR, cR']
   by_cases hc : 1 <= k /\ k <= 4 /\ ls.length <= 10 /\ ∀ l ∈ ls, LimOk k.toNat 999999999999 l
   ·obtain ⟨c1, c2, c3, c4⟩ := hc
    obtain ⟨n, rfl⟩ := Int.eq_ofNat_of_zero_le (show 0 <= k by omega)
    have tn : ((n : Int)).toNat = n := Int.toNat_natCast n
    rw [tn] at c4
    have ed := K03.desk_good c4 (Nat.le_refl _) ⟨by omega, by omega⟩ c3
    have S4 : WA [.val (.str x), .val (.list ((p :: r).map .str)), .val (.int (n : Int)), .val (.list (ls.map limL)), .emp] = .ok (.rt (.tuple [.int (n : Int), .tuple (ls.map limT)])) := by
     unfold WA
     generalize (p :: r).map PyData.str = q at *
     generalize ls.map limL = q3 at *
     generalize ls.map limT = q4 at *
     simp [zbd, ed]
    have N1 : YD (L p) = some (n : Int) := by rw [N0]; exact if_pos (by omega)
    have hL : Xu n r = some ls := by
     cases hL : Xu n r with
     | none => exact absurd c4 ((both (k := n) (by omega) r).2 hL ls hR)
     | some ls' =>
      have := ((both (k := n) (by omega) r).1 ls' hL).1
      rw [hR] at this
      rw [<- this]
    refine fin (S2.trans (S3.trans S4)) ?_ ?_
    ·rw [N1]
     show Res.ok _ = match (if 1 <= (n : Int) /\ (n : Int) <= 4 /\ r.length <= 10 then (Xu (n : Int).toNat r).map fun ls => ((n : Int).toNat, ls) else none) with
      | some d => Res.ok (PyData.tuple [.int (d.1 : Int), .tuple (d.2.map limT)])
      | none => .exc "NoText"
     rw [if_pos ⟨c1, c2, by omega⟩, tn, hL]
     rfl
    ·split <;> simp
   ·have ed := desk_no hc
    have S4 : WA [.val (.str x), .val (.list ((p :: r).map .str)), .val (.int k), .val (.list (ls.map limL)), .emp] = .exc "NoText" := by
     unfold WA
     generalize (p :: r).map PyData.str = q at *
     generalize ls.map limL = q3 at *
     simp [zbd, ed]
    refine fin (S2.trans (S3.trans S4)) ?_ ?_
    ·show Res.exc _ = _
     by_cases hk : k.natAbs < 10 ^ 12
     ·have N1 : YD (L p) = some k := by rw [N0]; exact if_pos hk
      rw [N1]
      show Res.exc _ = match (if 1 <= k /\ k <= 4 /\ r.length <= 10 then (Xu k.toNat r).map fun ls => (k.toNat, ls) else none) with
       | some d => Res.ok (PyData.tuple [.int (d.1 : Int), .tuple (d.2.map limT)])
       | none => .exc "NoText"
      by_cases hc2 : 1 <= k /\ k <= 4 /\ r.length <= 10
      ·rw [if_pos hc2]
       cases hL : Xu k.toNat r with
       | none => rfl
       | some ls' =>
        obtain ⟨b1, b2⟩ := (both (k := k.toNat) (by omega) r).1 ls' hL
        rw [hR] at b1
        injection b1 with b1
        subst b1
        exact absurd ⟨hc2.1, hc2.2.1, by omega, b2⟩ hc
      ·rw [if_neg hc2]
     ·have N1 : YD (L p) = none := by rw [N0]; exact if_neg hk
      rw [N1]
    ·split <;> simp
end
end K19
namespace K20
open PySem PySem.NumText Fx Lw Tx
theorem VJ {n : Int} (h : n.natAbs < 10 ^ 64) : fStr (.int n) = .ok (.str (sI n)) := by
 show (if n.natAbs.log2 < 1920 then Res.ok (PyData.str (Str.ofString (toString n))) else .stuck) = _
 rw [if_pos (log_lt h)]; rfl
end K20
namespace K19
open PySem PySem.NumText Fx Tx
open Lw
open K20 (Zi Zo Zg sEq sNe VW L_em VJ)
open K18 (Yb Wq Z9 Xm Wy za2 sp spc lt64 len13 addS)
open K03 (Zl Zn)
def bIn : DS := (dSet 1 [] (d2 YI (d2 YI (dVar 1) (dC (.str (PySem.Str.ofString " ")))) (d1 fStr (dVar 3))))
def bOut : DS := (dSeq (dSet 1 [] (d2 YI (dVar 1) (dC (.str (PySem.Str.ofString " ;")))))
  (dSeq (dFor (ZI 3) [] (iSeq (d2 fIx (dVar 2) (dC (.int 0)))) bIn)
  (dSet 1 [] (d2 YI (d2 YI (dVar 1) (dC (.str (PySem.Str.ofString " : ")))) (d1 fStr (d2 fIx (dVar 2) (dC (.int 1))))))))
theorem Wp {x y : Str} (hx : Asc x) (hy : Asc y) : Asc (x ++ y) := fun c hc => by
 rw [WG] at hc
 rcases List.mem_append.mp hc with z | z
 ·exact hx c z
 ·exact hy c z
theorem zbn (n : Int) : Asc (sI n) := fun c hc => by rcases WZ n c hc with z | z <;> omega
section
variable {d : PyData}
theorem za0 {t : PyData} : ∀ (xs : List Int) (x : Str) (s3 : Sl), (∀ y ∈ xs, y.natAbs <= 999999999999) -> Asc x -> x.length + 14 * xs.length <= 100000 ->
  ∃ x' s3', Asc x' /\ x'.length <= x.length + 14 * xs.length /\ forL (ZI 3) bIn (xs.map .int) [.val d, .val (.str x), .val t, s3] = .ok (.nx [.val d, .val (.str x'), .val t, s3'])
 | [], x, s3, _, ha, _ => ⟨x, s3, ha, by simp, rfl⟩
 | y :: xs, x, s3, h, ha, hl => by
  have hy := h y List.mem_cons_self
  have hl' : x.length + 14 * (xs.length + 1) <= 100000 := hl
  have l1 : (Str.ofString " ").length = 1 := by decide +kernel
  have l2 := len13 hy
  obtain ⟨a1, a2⟩ := addS (x := x) (y := Str.ofString " ") (by omega)
  obtain ⟨a3, a4⟩ := addS (x := x ++ Str.ofString " ") (y := sI y) (by omega)
  have ef := VJ (n := y) (lt64 hy)
  obtain ⟨x', s3', e1, e2, e3⟩ := za0 (t := t) xs (x ++ Str.ofString " " ++ sI y) (.val (.int y)) (fun z hz => h z (List.mem_cons_of_mem _ hz)) (Wp (Wp ha (by decide +kernel)) (zbn y)) (by omega)
  refine ⟨x', s3', e1, by rw [List.length_cons]; omega, ?_⟩
  have b1 : bIn [.val d, .val (.str x), .val t, .val (.int y)] = .ok (.nx [.val d, .val (.str (x ++ Str.ofString " " ++ sI y)), .val t, .val (.int y)]) := by
   generalize x ++ Str.ofString " " ++ sI y = r1 at *
   generalize x ++ Str.ofString " " = r2 at *
   generalize sI y = r3 at *
   simp [bIn, a1, a3, ef]
  rw [List.map_cons]
  unfold forL
  simp [b1, e3]
theorem out_step {k w : Nat} {l : Lim} (h : LimOk k w l) (hw : w <= 999999999999) (hk : k <= 4) (x : Str) (s3 : Sl) (ha : Asc x) (hl : x.length <= 50000) : ∃ x' s3', Asc x' /\ x'.length <= x.length + 74 /\
  bOut [.val d, .val (.str x), .val (limL l), s3] = .ok (.nx [.val d, .val (.str x'), .val (limL l), s3']) := by
 have l1 : (Str.ofString " ;").length = 2 := by decide +kernel
 have l3 : (Str.ofString " : ").length = 3 := by decide +kernel
 have hb : l.2.natAbs <= 999999999999 := by have := h.3; omega
 have l4 := len13 hb
 obtain ⟨a1, a2⟩ := addS (x := x) (y := Str.ofString " ;") (by omega)
 obtain ⟨x1, s3', e1, e2, e3⟩ := za0 (d := d) (t := limL l) l.1 (x ++ Str.ofString " ;") s3 (fun y hy => by have := h.2 y hy; omega) (Wp ha (by decide +kernel)) (by rw [h.1]; omega)
 rw [h.1] at e2
 obtain ⟨a3, a4⟩ := addS (x := x1) (y := Str.ofString " : ") (by omega)
 obtain ⟨a5, a6⟩ := addS (x := x1 ++ Str.ofString " : ") (y := sI l.2) (by omega)
 have ef := VJ (n := l.2) (lt64 hb)
 refine ⟨x1 ++ Str.ofString " : " ++ sI l.2, s3', Wp (Wp e1 (by decide +kernel)) (zbn _), by omega, ?_⟩
 have S1 : (dSet 1 [] (d2 YI (dVar 1) (dC (.str (PySem.Str.ofString " ;"))))) [.val d, .val (.str x), .val (limL l), s3] = .ok (.nx [.val d, .val (.str (x ++ Str.ofString " ;")), .val (limL l), s3]) := by
  simp [a1]
 have S2 : (dFor (ZI 3) [] (iSeq (d2 fIx (dVar 2) (dC (.int 0)))) bIn) [.val d, .val (.str (x ++ Str.ofString " ;")), .val (limL l), s3] = .ok (.nx [.val d, .val (.str x1), .val (limL l), s3']) := by
  have e3' : forL (ZI 3) bIn (l.1.map .int) [.val d, .val (.str (x ++ Str.ofString " ;")), .val (.tuple [.list (l.1.map .int), .int l.2]), s3] = .ok (.nx [.val d, .val (.str x1), .val (.tuple [.list (l.1.map .int), .int l.2]), s3']) := e3
  show (dFor (ZI 3) [] (iSeq (d2 fIx (dVar 2) (dC (.int 0)))) bIn) [.val d, .val (.str (x ++ Str.ofString " ;")), .val (.tuple [.list (l.1.map .int), .int l.2]), s3] = Res.ok (Out.nx [.val d, .val (.str x1), .val (.tuple [.list (l.1.map .int), .int l.2]), s3'])
  generalize bIn = bi at *
  generalize l.1.map PyData.int = ws at *
  generalize x ++ Str.ofString " ;" = r1 at *
  simp [at0, e3']
 unfold bOut
 rw [Zy S1, Zy S2]
 show (dSet 1 [] (d2 YI (d2 YI (dVar 1) (dC (.str (PySem.Str.ofString " : ")))) (d1 fStr (d2 fIx (dVar 2) (dC (.int 1)))))) [.val d, .val (.str x1), .val (.tuple [.list (l.1.map .int), .int l.2]), s3'] = Res.ok (Out.nx [.val d, .val (.str (x1 ++ Str.ofString " : " ++ sI l.2)), .val (.tuple [.list (l.1.map .int), .int l.2]), s3'])
 generalize x1 ++ Str.ofString " : " ++ sI l.2 = r1 at *
 generalize x1 ++ Str.ofString " : " = r2 at *
 generalize sI l.2 = r3 at *
 generalize l.1.map PyData.int = ws at *
 simp [a3, at1, ef, a5]
theorem Jo {k w : Nat} (hw : w <= 999999999999) (hk : k <= 4) : ∀ (ls : List Lim) (x : Str) (s2 s3 : Sl), (∀ l ∈ ls, LimOk k w l) -> Asc x -> x.length + 74 * ls.length <= 800 ->
  ∃ x' s2' s3', Asc x' /\ x'.length <= 800 /\ forL (ZI 2) bOut (ls.map limL) [.val d, .val (.str x), s2, s3] = .ok (.nx [.val d, .val (.str x'), s2', s3'])
 | [], x, s2, s3, _, ha, hl => ⟨x, s2, s3, ha, by simp at hl; omega, rfl⟩
 | l :: ls, x, s2, s3, h, ha, hl => by
  have hl' : x.length + 74 * (ls.length + 1) <= 800 := hl
  obtain ⟨x1, s3a, e1, e2, e3⟩ := out_step (d := d) (h l List.mem_cons_self) hw hk x s3 ha (by omega)
  obtain ⟨x2, s2', s3', e4, e5, e6⟩ := Jo hw hk ls x1 (.val (limL l)) s3a (fun m hm => h m (List.mem_cons_of_mem _ hm)) e1 (by omega)
  refine ⟨x2, s2', s3', e4, e5, ?_⟩
  rw [List.map_cons]
  unfold forL
  simp [e3, e6]
end
theorem line_ok {k w : Nat} {ls : List Lim} (h : ∀ l ∈ ls, LimOk k w l) (hw : w <= 999999999999) (hk : k <= 4) (hl : ls.length <= 10) : ∃ x, Asc x /\ x.length <= 800 /\ XU [.tuple [.int (k : Int), .list (ls.map limL)]] = .ok (.str x) := by
 have e0 := VJ (n := (k : Int)) (lt64 (by simp; omega))
 have l0 := len13 (n := (k : Int)) (by simp; omega)
 obtain ⟨x, s2, s3, e1, e2, e3⟩ := Jo (d := .tuple [.int (k : Int), .list (ls.map limL)]) hw hk ls (sI k) .emp .emp h (zbn _) (by omega)
 refine ⟨x, e1, e2, ?_⟩
 have S0 : WD [.val (.tuple [.int (k : Int), .list (ls.map limL)]), .emp, .emp, .emp] = XB [.val (.tuple [.int (k : Int), .list (ls.map limL)]), .val (.str (sI k)), .emp, .emp] := by
  unfold WD
  exact Zy (by simp [at0, e0])
 have D1 : XB = dSeq (dFor (ZI 2) [] (iSeq (d2 fIx (dVar 0) (dC (.int 1)))) bOut) Y6 := rfl
 have S1 : XB [.val (.tuple [.int (k : Int), .list (ls.map limL)]), .val (.str (sI k)), .emp, .emp] = Y6 [.val (.tuple [.int (k : Int), .list (ls.map limL)]), .val (.str x), s2, s3] := by
  rw [D1]
  refine Zy ?_
  generalize bOut = bo at *
  generalize ls.map limL = ll at *
  generalize sI (k : Int) = sk at *
  simp [at1, e3]
 have S2 : Y6 [.val (.tuple [.int (k : Int), .list (ls.map limL)]), .val (.str x), s2, s3] = .ok (.rt (.str x)) := by
  unfold Y6
  cases s2 <;> cases s3 <;> simp
 have all := S0.trans (S1.trans S2)
 unfold XU
 generalize WD = d at *
 simp [runQ, runF, all]
def W12 : Str := Str.ofString "1" ++ Txt.mul (Str.ofString "0") 12
def W30 : Str := Str.ofString "1" ++ Txt.mul (Str.ofString "0") 30
theorem w12 : (d2 YI (dC (.str (PySem.Str.ofString "1"))) (d2 QC (dC (.str (PySem.Str.ofString "0"))) (dC (.int 12)))) = dC (.str W12) := by
 funext G
 have e : QC (.str (Str.ofString "0")) (.int 12) = .ok (.str (Txt.mul (Str.ofString "0") 12)) := by
  show (if (1 : Int) <= 12 /\ (12 : Int) <= 1000 /\ (Str.ofString "0").length <= 1000 then Res.ok (PyData.str (Txt.mul (Str.ofString "0") 12)) else .stuck) = _
  rw [if_pos ⟨by decide, by decide, by decide +kernel⟩]
 have e2 : YI (.str (Str.ofString "1")) (.str (Txt.mul (Str.ofString "0") 12)) = .ok (.str W12) := (addS (by decide +kernel)).1
 simp [e, e2]
theorem w30 : (d2 YI (dC (.str (PySem.Str.ofString "1"))) (d2 QC (dC (.str (PySem.Str.ofString "0"))) (dC (.int 30)))) = dC (.str W30) := by
 funext G
 have e : QC (.str (Str.ofString "0")) (.int 30) = .ok (.str (Txt.mul (Str.ofString "0") 30)) := by
  show (if (1 : Int) <= 30 /\ (30 : Int) <= 1000 /\ (Str.ofString "0").length <= 1000 then Res.ok (PyData.str (Txt.mul (Str.ofString "0") 30)) else .stuck) = _
  rw [if_pos ⟨by decide, by decide, by decide +kernel⟩]
 have e2 : YI (.str (Str.ofString "1")) (.str (Txt.mul (Str.ofString "0") 30)) = .ok (.str W30) := (addS (by decide +kernel)).1
 simp [e, e2]
def zar : List Str := [" ", ";", ":", "-", "0", "a", "+", "_", "\n", "\t"]
def zam : List Str := ["00", "-0", "01", "", "-", "x", W12, W30, "0", "5", ":", ";"]
theorem signs_ok : ∀ w ∈ zar, (∀ c ∈ L w, c < 128) /\ w.length <= 1 := by decide +kernel
theorem words_ok : ∀ w ∈ zam, (∀ c ∈ L w, c < 128) /\ w.length <= 31 := by decide +kernel
theorem zbk {ws : List Str} {r : Nat} (h : r < ws.length) : ∃ w ∈ ws, atP (ws.map PyData.str) (r : Int) = some (.str w) := ⟨ws[r], List.getElem_mem _, V9 (f := PyData.str) h⟩
section
variable {x : Str} {c : Int} {way : Nat}
theorem spoilt_a {r : Nat} (ha : Asc x) (hl : x.length <= 800) (hr : r <= x.length) (hw : way < 3) : ∃ y, Asc y /\ y.length <= 700000 /\ Zr [.val (.str x), .val (.int (way : Int)), .val (.int c), .val (.int (r : Int)), .emp] = .ok (.rt (.str y)) := by
 obtain ⟨m, e10, h10⟩ : ∃ m : Nat, Int.fmod (Int.fdiv c 7) 10 = (m : Int) /\ m < 10 := X7 (n := 10) (by decide)
 obtain ⟨w, hw1, ew⟩ := zbk (ws := zar) (r := m) h10
 obtain ⟨k1, k2⟩ := signs_ok w hw1
 have s1 := UF x r (.inl hr)
 have s2 := Wu x r
 have A1 : Asc (Txt.slice x none (some (r : Int))) := fun d hd => ha d (by rw [s1] at hd; exact List.mem_of_mem_take hd)
 have A2 : Asc (Txt.slice x (some (r : Int)) none) := fun d hd => ha d (by rw [s2] at hd; exact List.mem_of_mem_drop hd)
 have l1 := Txt.slice_le x none (some (r : Int))
 have l2 := Txt.slice_le x (some (r : Int)) none
 obtain ⟨a1, a2⟩ := addS (x := Txt.slice x none (some (r : Int))) (y := w) (by omega)
 obtain ⟨a3, a4⟩ := addS (x := Txt.slice x none (some (r : Int)) ++ w) (y := Txt.slice x (some (r : Int)) none) (by omega)
 refine ⟨_, Wp (Wp A1 k1) A2, by omega, ?_⟩
 have hw' : ((way : Int) < 3) := by omega
 have d7 : Q6 7 = true := by decide
 have hl' : x.length <= 16777216 := by omega
 have ew' : atP [PyData.str (Str.ofString " "), .str (Str.ofString ";"), .str (Str.ofString ":"), .str (Str.ofString "-"), .str (Str.ofString "0"), .str (Str.ofString "a"), .str (Str.ofString "+"), .str (Str.ofString "_"), .str (Str.ofString "\n"), .str (Str.ofString "\t")] (m : Int) = some (.str w) := ew
 unfold Zr
 refine YZ ?_
 generalize Txt.slice x none (some (r : Int)) ++ w ++ Txt.slice x (some (r : Int)) none = y at *
 generalize Txt.slice x none (some (r : Int)) ++ w = y1 at *
 simp [hw', XY, hl', d7, e10, Uh, ew', a1, a3]
theorem spoilt_b {r : Nat} (ha : Asc x) (hl : x.length <= 800) (hr : r <= x.length) (hw : 3 <= way /\ way < 5) : ∃ y, Asc y /\ y.length <= 700000 /\ Zr [.val (.str x), .val (.int (way : Int)), .val (.int c), .val (.int (r : Int)), .emp] = .ok (.rt (.str y)) := by
 have s1 := UF x r (.inl hr)
 have s2 := Wu x (r + 1)
 have A1 : Asc (Txt.slice x none (some (r : Int))) := fun d hd => ha d (by rw [s1] at hd; exact List.mem_of_mem_take hd)
 have A2 : Asc (Txt.slice x (some ((r : Int) + 1)) none) := fun d hd => ha d (List.mem_of_mem_drop (s2 ▸ hd))
 have l1 := Txt.slice_le x none (some (r : Int))
 have l2 := Txt.slice_le x (some ((r : Int) + 1)) none
 obtain ⟨a1, a2⟩ := addS (x := Txt.slice x none (some (r : Int))) (y := Txt.slice x (some ((r : Int) + 1)) none) (by omega)
 refine ⟨_, Wp A1 A2, by omega, ?_⟩
 have hw' : ¬ ((way : Int) < 3) := by omega
 have hw2 : ((way : Int) < 5) := by omega
 have hl' : x.length <= 16777216 := by omega
 have S1 : Zr [.val (.str x), .val (.int (way : Int)), .val (.int c), .val (.int (r : Int)), .emp] = Yg [.val (.str x), .val (.int (way : Int)), .val (.int c), .val (.int (r : Int)), .emp] := by
  unfold Zr
  exact Zy (by simp [hw'])
 rw [S1]
 unfold Yg
 refine YZ ?_
 generalize Txt.slice x none (some (r : Int)) ++ Txt.slice x (some ((r : Int) + 1)) none = y at *
 simp [hw2, XY, hl', a1]
theorem fq (i j : Int) : fEq (.int i) (.int j) = .ok (.bool (decide (i = j))) := by simp [fEq]
theorem set_map (ws : List Str) (m : Nat) (w : Str) : (ws.map PyData.str).set m (.str w) = (ws.set m w).map .str := by rw [List.map_set]
theorem ins_map (ws : List Str) (m : Nat) (w : Str) : (ws.map PyData.str).take m ++ .str w :: (ws.map PyData.str).drop m = (ws.take m ++ w :: ws.drop m).map .str := by simp
theorem Jx {ws : List Str} {at_ : Sl} (hc : ∀ w ∈ ws, Asc w /\ w.length <= 800) (hn : ws.length <= 803) : ∃ y, Asc y /\ y.length <= 700000 /\ Yr [.val (.str x), .val (.int (way : Int)), .val (.int c), at_, .own (ws.map .str)] = .ok (.rt (.str y)) := by
 have l1 : (Str.ofString " ").length = 1 := by decide +kernel
 have b : ws.length * (800 + 1) <= 803 * (800 + 1) := Nat.mul_le_mul_right _ hn
 have j := za2 (sep := Str.ofString " ") (B := 800) (ts := ws) (fun w hw => (hc w hw).2) (by rw [l1]; omega)
 have lj := Wy (s := Str.ofString " ") (B := 800) ws fun w hw => (hc w hw).2
 rw [l1] at lj
 refine ⟨Str.join (Str.ofString " ") ws, fun d hd => ?_, by omega, ?_⟩
 ·rw [Wq] at hd
  rcases Xm hd with z | ⟨p, hp, z⟩
  ·rw [sp.1] at z; simp at z; omega
  ·obtain ⟨w, hw, rfl⟩ := List.mem_map.mp hp
   exact (hc w hw).1 d z
 ·unfold Yr
  generalize Str.join (Str.ofString " ") ws = y at *
  generalize ws.map PyData.str = q at *
  cases at_ <;> simp [dM1, j]
theorem spoilt_c {r : Nat} (ha : Asc x) (hl : x.length <= 800) (hw : 5 <= way /\ way < 7) : ∃ y, Asc y /\ y.length <= 700000 /\ Zr [.val (.str x), .val (.int (way : Int)), .val (.int c), .val (.int (r : Int)), .emp] = .ok (.rt (.str y)) := by
 have g := gsp (x := x) (y := Str.ofString " ") (by decide +kernel) (by omega)
 have sl := XR x (Str.ofString " ")
 have hp : ∀ q ∈ Txt.split x (Str.ofString " "), Asc q /\ q.length <= 800 := fun q hq => ⟨Wv ha hq, by have := (WI hq).2; omega⟩
 obtain ⟨p0, r0, hs⟩ := Wt x (Str.ofString " ")
 have hpos : 0 < (Txt.split x (Str.ofString " ")).length := by rw [hs]; simp
 clear hs
 generalize Txt.split x (Str.ofString " ") = ws at *
 obtain ⟨m, em, hm⟩ : ∃ m : Nat, Int.fmod (Int.fdiv c 13) (ws.length : Int) = (m : Int) /\ m < ws.length := X7 (n := ws.length) hpos
 have h3 : ¬ ((way : Int) < 3) := by omega
 have h5 : ¬ ((way : Int) < 5) := by omega
 have S1 : Zr [.val (.str x), .val (.int (way : Int)), .val (.int c), .val (.int (r : Int)), .emp] = Yg [.val (.str x), .val (.int (way : Int)), .val (.int c), .val (.int (r : Int)), .emp] := by
  unfold Zr
  exact Zy (by simp [h3])
 have S2 : Yg [.val (.str x), .val (.int (way : Int)), .val (.int c), .val (.int (r : Int)), .emp] = YX [.val (.str x), .val (.int (way : Int)), .val (.int c), .val (.int (r : Int)), .emp] := by
  unfold Yg
  exact Zy (by simp [h5])
 have S3 : YX [.val (.str x), .val (.int (way : Int)), .val (.int c), .val (.int (r : Int)), .emp] = YW [.val (.str x), .val (.int (way : Int)), .val (.int c), .val (.int (r : Int)), .own (ws.map .str)] := by
  unfold YX
  refine Zy ?_
  generalize ws.map PyData.str = q at *
  simp [oM1, g]
 have d13 : Q6 13 = true := by decide
 have S4 : YW [.val (.str x), .val (.int (way : Int)), .val (.int c), .val (.int (r : Int)), .own (ws.map .str)] = Yf [.val (.str x), .val (.int (way : Int)), .val (.int c), .val (.int (m : Int)), .own (ws.map .str)] := by
  unfold YW
  refine Zy ?_
  have lq : (ws.map PyData.str).length = ws.length := List.length_map _
  have nz : ¬ ((ws.length : Int) = 0) := by omega
  have nz2 : ws ≠ [] := fun z => by rw [z] at hpos; simp at hpos
  simp [d13, nz, em, nz2]
 rw [S1, S2, S3, S4]
 by_cases h : way = 5
 ·subst h
  obtain ⟨m2, e12, h12⟩ : ∃ m : Nat, Int.fmod c 12 = (m : Int) /\ m < 12 := X7 (n := 12) (by decide)
  obtain ⟨w, hw1, ew⟩ := zbk (ws := zam) (r := m2) h12
  obtain ⟨k1, k2⟩ := words_ok w hw1
  have ew' : atP [PyData.str (Str.ofString "00"), .str (Str.ofString "-0"), .str (Str.ofString "01"), .str (Str.ofString ""), .str (Str.ofString "-"), .str (Str.ofString "x"), .str W12, .str W30, .str (Str.ofString "0"), .str (Str.ofString "5"), .str (Str.ofString ":"), .str (Str.ofString ";")] (m2 : Int) = some (.str w) := ew
  have ix : ixP (ws.map PyData.str).length (m : Int) = some m := by
   rw [List.length_map]
   unfold ixP
   rw [if_pos (by omega), if_pos (by omega), Int.toNat_natCast]
  have S5 : Yf [.val (.str x), .val (.int ((5 : Nat) : Int)), .val (.int c), .val (.int (m : Int)), .own (ws.map .str)] = Z2 [.val (.str x), .val (.int ((5 : Nat) : Int)), .val (.int c), .val (.int (m : Int)), .own ((ws.set m w).map .str)] := by
   rw [<- set_map]
   unfold Yf
   rw [w12, w30]
   refine Zy ?_
   generalize ws.map PyData.str = q at *
   simp [fq, Uh, e12, ew', ix]
  have S6 : Z2 [.val (.str x), .val (.int ((5 : Nat) : Int)), .val (.int c), .val (.int (m : Int)), .own ((ws.set m w).map .str)] = Yr [.val (.str x), .val (.int ((5 : Nat) : Int)), .val (.int c), .val (.int (m : Int)), .own ((ws.set m w).map .str)] := by
   unfold Z2
   refine Zy ?_
   generalize (ws.set m w).map PyData.str = q at *
   simp [fq]
  rw [S5, S6]
  refine Jx (fun v hv => ?_) (by rw [List.length_set]; omega)
  rcases List.mem_or_eq_of_mem_set hv with z | z
  ·exact hp v z
  ·rw [z]; exact ⟨k1, by omega⟩
 ·have h6 : way = 6 := by omega
  subst h6
  have one : Asc (Str.ofString "1") /\ (Str.ofString "1").length <= 800 := ⟨by decide +kernel, by decide +kernel⟩
  have S5 : Yf [.val (.str x), .val (.int ((6 : Nat) : Int)), .val (.int c), .val (.int (m : Int)), .own (ws.map .str)] = Z2 [.val (.str x), .val (.int ((6 : Nat) : Int)), .val (.int c), .val (.int (m : Int)), .own (ws.map .str)] := by
   unfold Yf
   rw [w12, w30]
   refine Zy ?_
   generalize ws.map PyData.str = q at *
   simp [fq]
  have S6 : Z2 [.val (.str x), .val (.int ((6 : Nat) : Int)), .val (.int c), .val (.int (m : Int)), .own (ws.map .str)] = Yr [.val (.str x), .val (.int ((6 : Nat) : Int)), .val (.int c), .val (.int (m : Int)), .own ((ws.take m ++ Str.ofString "1" :: ws.drop m).map .str)] := by
   rw [<- ins_map]
   unfold Z2
   refine Zy ?_
   have lq : (ws.map PyData.str).length = ws.length := List.length_map _
   have cc : (m : Int) <= ((ws.map PyData.str).length : Int) /\ (ws.map PyData.str).length < 16777216 := by rw [lq]; omega
   generalize ws.map PyData.str = q at *
   have c0 : (0 : Int) <= (m : Int) := by omega
   have I : zaZ 4 [.val (.str x), .val (.int ((6 : Nat) : Int)), .val (.int c), .val (.int (m : Int)), .own q] (.int (m : Int)) (.str (Str.ofString "1")) = .ok (.nx [.val (.str x), .val (.int ((6 : Nat) : Int)), .val (.int c), .val (.int (m : Int)), .own (q.take m ++ .str (Str.ofString "1") :: q.drop m)]) := by
    show (if (0 : Int) <= (m : Int) /\ (m : Int) <= (q.length : Int) /\ q.length < 16777216 then _ else _) = _
    rw [if_pos ⟨c0, cc⟩, Int.toNat_natCast]
    rfl
   simp [fq, dIns]
   exact I
  rw [S5, S6]
  refine Jx (fun v hv => ?_) (by rw [List.length_append, List.length_cons, List.length_take, List.length_drop]; omega)
  rcases List.mem_append.mp hv with z | z
  ·exact hp v (List.mem_of_mem_take z)
  ·rcases List.mem_cons.mp z with z | z
   ·rw [z]; exact one
   ·exact hp v (List.mem_of_mem_drop z)
theorem zaq (ha : Asc x) (hl : x.length <= 800) (hw : way < 7) : ∃ y, Asc y /\ y.length <= 700000 /\ Y1 [.str x, .int (way : Int), .int c] = .ok (.str y) := by
 obtain ⟨r, er, hr⟩ : ∃ r : Nat, Int.fmod c ((x.length + 1 : Nat) : Int) = (r : Int) /\ r < x.length + 1 := X7 (n := x.length + 1) (by omega)
 have hl' : x.length <= 16777216 := by omega
 have S0 : XA [.val (.str x), .val (.int (way : Int)), .val (.int c), .emp, .emp] = Zr [.val (.str x), .val (.int (way : Int)), .val (.int c), .val (.int (r : Int)), .emp] := by
  unfold XA
  refine Zy ?_
  have er' : Int.fmod c ((x.length : Int) + 1) = (r : Int) := er
  have nz : ¬ ((x.length : Int) + 1 = 0) := by omega
  simp [X9, hl', nz, er']
 obtain ⟨y, y1, y2, y3⟩ : ∃ y, Asc y /\ y.length <= 700000 /\ Zr [.val (.str x), .val (.int (way : Int)), .val (.int c), .val (.int (r : Int)), .emp] = .ok (.rt (.str y)) := by
  by_cases h1 : way < 3
  ·exact spoilt_a ha hl (by omega) h1
  ·by_cases h2 : way < 5
   ·exact spoilt_b ha hl (by omega) ⟨by omega, h2⟩
   ·exact spoilt_c ha hl ⟨by omega, hw⟩
 refine ⟨y, y1, y2, ?_⟩
 have all := S0.trans y3
 unfold Y1
 generalize XA = d at *
 simp [runQ, runF, all]
end
end K19
namespace K19
open PySem PySem.NumText Fx Tx
open Lw
open K20 (Zi Zo Zg)
open K03 (Zl Zn)
theorem Uo {t : PyData} (h : Xx [t] = .exc "NoText") : ZZ [t] = .ok (.bool true) := by
 simp only [ZZ, W8, Wj, Wi, Wh]
 simp [runQ, runF, h, fEq]
theorem nostr {t : PyData} (h : J2 t = false) (h2 : ∀ xs, t ≠ .dict xs) : Xx [t] = .exc "NoText" := by
 have e : Zo [t] = .exc "NoText" := by
  cases t <;> first | (simp [Zo, K20.Wm, runF, J2]; done) | (cases h; done) | exact absurd rfl (h2 _)
 simp [Xx, QF, runF, e]
theorem shp_limT (l : Lim) : Shp 2 (limT l) := Jd (n := 1) (VP (n := 0) fun x _ => UH x) ((UH _).mono (by decide))
theorem eq_desk (k : Nat) (ls : List Lim) : fEq (.tuple [.int k, .tuple (ls.map limT)]) (.tuple [.int k, .tuple (ls.map limT)]) = .ok (.bool true) :=
 fEq_refl (n := 4) (Jd (n := 3) ((UH _).mono (by decide)) (VP (n := 2) fun l _ => shp_limT l)) (by decide)
theorem law_ok (ns : List Int) (_hl : ns.length <= 63) : Q5 [.list (ns.map .int)] = .ok (.bool true) := by
 obtain ⟨k, w, ls, h, ed⟩ := desk_ok ns
 obtain ⟨c5, e5⟩ := X5 ns 5 (by omega)
 obtain ⟨c6, e6⟩ := X5 ns 6 (by omega)
 obtain ⟨way, f8, h8⟩ : ∃ r : Nat, Int.fmod c5 8 = (r : Int) /\ r < 8 := X7 (n := 8) (by decide)
 have S0 : d_law [.val (.list (ns.map .int)), .emp, .emp, .emp, .emp] = U1 [.val (.list (ns.map .int)), .val (.int (way : Int)), .emp, .emp, .emp] := by
  unfold d_law
  exact Zy (by simp [e5, f8])
 have S1 : U1 [.val (.list (ns.map .int)), .val (.int (way : Int)), .emp, .emp, .emp] = Vh [.val (.list (ns.map .int)), .val (.int (way : Int)), .val (.int c6), .emp, .emp] := by
  unfold U1
  exact Zy (by simp [e6])
 have fin : ∀ o, Vh [.val (.list (ns.map .int)), .val (.int (way : Int)), .val (.int c6), .emp, .emp] = o -> o = .ok (.rt (.bool true)) -> Q5 [.list (ns.map .int)] = .ok (.bool true) := fun o h1 h2 => by
  have all := S0.trans (S1.trans (h1.trans h2))
  unfold Q5
  generalize d_law = d at *
  simp [runQ, runF, all]
 refine fin _ rfl ?_
 by_cases h7 : way = 7
 ·subst h7
  obtain ⟨m, f5, h5⟩ : ∃ r : Nat, Int.fmod c6 5 = (r : Int) /\ r < 5 := X7 (n := 5) (by decide)
  have q : ∃ t, atP [PyData.none, .int 2, .list [.str (Str.ofString "2")], .tuple [.str (Str.ofString "2")], .bool true] (m : Int) = some t /\ J2 t = false /\ ∀ xs, t ≠ .dict xs := by
   match m, h5 with
   | 0, _ => exact ⟨_, rfl, rfl, fun xs z => nomatch z⟩
   | 1, _ => exact ⟨_, rfl, rfl, fun xs z => nomatch z⟩
   | 2, _ => exact ⟨_, rfl, rfl, fun xs z => nomatch z⟩
   | 3, _ => exact ⟨_, rfl, rfl, fun xs z => nomatch z⟩
   | 4, _ => exact ⟨_, rfl, rfl, fun xs z => nomatch z⟩
  obtain ⟨t, et, ht, ht2⟩ := q
  have er := Uo (nostr ht ht2)
  unfold Vh
  refine YZ ?_
  generalize ZZ = fr at *
  simp [fq, Uh, f5, et, er]
 ·have nw : ¬ ((way : Int) = 7) := by omega
  have hw := h.wb
  obtain ⟨x, x1, x2, ex⟩ := line_ok h.lim hw h.k4 h.len
  obtain ⟨y, y1, y2, ey⟩ := zaq (x := x) (c := c6) (way := way) x1 x2 (by omega)
  have S2 : Vh [.val (.list (ns.map .int)), .val (.int (way : Int)), .val (.int c6), .emp, .emp] = U0 [.val (.list (ns.map .int)), .val (.int (way : Int)), .val (.int c6), .emp, .emp] := by
   unfold Vh
   exact Zy (by simp [fq, nw])
  have S3 : U0 [.val (.list (ns.map .int)), .val (.int (way : Int)), .val (.int c6), .emp, .emp] = UZ [.val (.list (ns.map .int)), .val (.int (way : Int)), .val (.int c6), .val (.str y), .emp] := by
   unfold U0
   exact Zy (by simp [ed, ex, ey])
  have S4 : UZ [.val (.list (ns.map .int)), .val (.int (way : Int)), .val (.int c6), .val (.str y), .emp] = V7 [.val (.list (ns.map .int)), .val (.int (way : Int)), .val (.int c6), .val (.str y), .val (dueT (due y))] := by
   have el := ldesk_ok y1 y2
   unfold UZ
   exact Zy (by simp [el])
  rw [S2, S3, S4]
  have er := read_any y1 y2
  cases hd : due y with
  | none =>
   rw [hd] at er
   have er' := Uo er
   unfold V7
   refine YZ ?_
   generalize ZZ = fr at *
   simp [dueT, er']
  | some d =>
   rw [hd] at er
   have er' : Xx [.str y] = .ok (.tuple [.int (d.1 : Int), .tuple (d.2.map limT)]) := er
   have eq := eq_desk d.1 d.2
   have S5 : V7 [.val (.list (ns.map .int)), .val (.int (way : Int)), .val (.int c6), .val (.str y), .val (dueT (some d))] = Q7 [.val (.list (ns.map .int)), .val (.int (way : Int)), .val (.int c6), .val (.str y), .val (dueT (some d))] := by
    unfold V7
    exact Zy (by simp [dueT])
   rw [S5]
   unfold Q7
   show _ = Res.ok (Out.rt (PyData.bool true))
   unfold dueT
   dsimp only
   generalize Xx = fr at *
   generalize d.2.map limT = q at *
   simp [er', eq]
end K19
namespace K19
open PySem PySem.Spec PyProof.Rows L2 Fx
open Lw
open K20 (Zi Zo Zg)
open K03 (Zl Zn)
theorem walk {l : PySem.W.OpenLaw} {q : Program} {loose : List Str} {XP : (Str -> Option Value) -> Heap -> Prop} {YP : World -> Heap -> Prop} {d : DefRec} {K : Params -> PySem.W.Frag} (hn : l.most = some 63) (hdf : d.params.defaults = [])
  (hT : ∀ P : Params, PySem.W.tabIn (K P) "raising_column" = none) (hY : ∀ (w : World) (h : Heap), YP w h -> (K w.params).In h)
  (F : ∀ (w : World) (mg : Str -> Option Value) (fa : Addr) (h : Heap), (K w.params).In h -> h.Ns mainGlobals mg -> mg d.name = some (.ref fa) ->
   ∃ fd : FuncData, (∀ (s : Shared) (u : Value), BindsTo s fd ⟨[u], []⟩ [("_law_script", u)]) /\ ∀ base : Heap, (K w.params).In base -> base.Ns mainGlobals mg -> FnOk l.prog w (K w.params) mg base CX0 7 fa fd ["_law_script"] (Fx.spF (K w.params) none 1 Q5)) :
  PySem.W.WalkO q loose XP YP l.row.toRowW d [] (fun f vs => PySem.call f vs) :=
 L2.walk_of (n := 63) (k := 7) (x := "_law_script") (CX := fun _ => CX0) (sp := fun w => Fx.spF (K w.params) none 1 Q5) hn (by decide) hdf ⟨rfl, by decide, by decide⟩ hY F (fun w H a ns hl hO hS => Fx.law_sp (law_ok ns hl) (fun x c T hx ht => by rw [List.mem_singleton.mp hx, hT] at ht; cases ht) hS) fun _ _ _ _ _ z => z
end K19
open PySem PySem.W PyProof.Rows
set_option maxRecDepth 100000 in
set_option maxHeartbeats 0 in
theorem PySem.Challenge.cw_limitdesk_k19_texts_refused_holds : PySem.Challenge.rw_limitdesk_k19_texts_refused.Holds := by
 w_on; o_law; k_head; (case hw => w_witness2)
 k_fill
 refine K19.walk (l := PySem.Challenge.rw_limitdesk_k19_texts_refused) rfl rfl (fun P => by kernel_rfl) (fun w h Y => PySem.W.kIn_of Y) ?F
 case F =>
  intro w mg fa h KX G hmg
  refine' K19.all_mk KX G hmg ?a0 ?l0 ?c0 ?k0 ?a1 ?l1 ?c1 ?k1 ?a2 ?l2 ?c2 ?k2 ?a3 ?l3 ?c3 ?k3 ?a4 ?l4 ?c4 ?k4 ?a5 ?l5 ?c5 ?k5 ?a6 ?l6 ?c6 ?k6 ?a7 ?l7 ?c7 ?k7 ?a8 ?l8 ?c8 ?k8 ?a9 ?l9 ?c9 ?k9 ?a10 ?l10 ?c10 ?k10 ?a11 ?l11 ?c11 ?k11 ?a12 ?l12 ?c12 ?k12 ?a13 ?l13 ?c13 ?k13 ?a14 ?l14 ?c14 ?k14 ?a15 ?l15 ?c15 ?k15 ?a16 ?l16 ?c16 ?k16 ?a17 ?l17 ?c17 ?k17 ?z_isinstance ?z_int ?z_bool ?z_abs ?z_tuple ?z_len ?z_list ?z_all ?z_str ?z_reversed ?z_range ?z_ValueError ?g_GREATEST_NUMBER ?g_MOST_KINDS ?g_MOST_LIMITS ?g_MOST_FIGURES ?g_FIGURES ?x_NoDesk ?q_NoDesk ?x_NoText ?q_NoText ?x_LimitError ?q_LimitError ?u_NoDesk_NoDesk ?u_NoText_NoText ?u_NoText_LimitError ?u_NoText_ValueError ?v_NoText_NoDesk
  (case a0 => k_is)
  (case l0 => k_is)
  (case c0 => k_is)
  (case k0 => k_is)
  (case a1 => k_is)
  (case l1 => k_is)
  (case c1 => k_is)
  (case k1 => k_is)
  (case a2 => k_is)
  (case l2 => k_is)
  (case c2 => k_is)
  (case k2 => k_is)
  (case a3 => k_is)
  (case l3 => k_is)
  (case c3 => k_is)
  (case k3 => k_is)
  (case a4 => k_is)
  (case l4 => k_is)
  (case c4 => k_is)
  (case k4 => k_is)
  (case a5 => k_is)
  (case l5 => k_is)
  (case c5 => k_is)
  (case k5 => k_is)
  (case a6 => k_is)
  (case l6 => k_is)
  (case c6 => k_is)
  (case k6 => k_is)
  (case a7 => k_is)
  (case l7 => k_is)
  (case c7 => k_is)
  (case k7 => k_is)
  (case a8 => k_is)
  (case l8 => k_is)
  (case c8 => k_is)
  (case k8 => k_is)
  (case a9 => k_is)
  (case l9 => k_is)
  (case c9 => k_is)
  (case k9 => k_is)
  (case a10 => k_is)
  (case l10 => k_is)
  (case c10 => k_is)
  (case k10 => k_is)
  (case a11 => k_is)
  (case l11 => k_is)
  (case c11 => k_is)
  (case k11 => k_is)
  (case a12 => k_is)
  (case l12 => k_is)
  (case c12 => k_is)
  (case k12 => k_is)
  (case a13 => k_is)
  (case l13 => k_is)
  (case c13 => k_is)
  (case k13 => k_is)
  (case a14 => k_is)
  (case l14 => k_is)
  (case c14 => k_is)
  (case k14 => k_is)
  (case a15 => k_is)
  (case l15 => k_is)
  (case c15 => k_is)
  (case k15 => k_is)
  (case a16 => k_is)
  (case l16 => k_is)
  (case c16 => k_is)
  (case k16 => k_is)
  (case a17 => k_is)
  (case l17 => k_is)
  (case c17 => k_is)
  (case k17 => k_is)
  (case z_isinstance => k_is)
  (case z_int => k_is)
  (case z_bool => k_is)
  (case z_abs => k_is)
  (case z_tuple => k_is)
  (case z_len => k_is)
  (case z_list => k_is)
  (case z_all => k_is)
  (case z_str => k_is)
  (case z_reversed => k_is)
  (case z_range => k_is)
  (case z_ValueError => k_is)
  (case g_GREATEST_NUMBER => k_is)
  (case g_MOST_KINDS => k_is)
  (case g_MOST_LIMITS => k_is)
  (case g_MOST_FIGURES => k_is)
  (case g_FIGURES => k_is)
  (case x_NoDesk => k_is)
  (case q_NoDesk => k_exc)
  (case x_NoText => k_is)
  (case q_NoText => k_exc)
  (case x_LimitError => k_is)
  (case q_LimitError => k_exc)
  (case u_NoDesk_NoDesk => k_is)
  (case u_NoText_NoText => k_is)
  (case u_NoText_LimitError => k_is)
  (case u_NoText_ValueError => k_is)
  (case v_NoText_NoDesk => k_is)
#print axioms PySem.Challenge.cw_limitdesk_k19_texts_refused_holds
