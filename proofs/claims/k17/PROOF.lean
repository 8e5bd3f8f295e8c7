import PyProof.Rows.All
import Wide.All
import OpenK.AllK
import Wide.FinOn
import Lean
import PyProof.EqAt
import PyProof.EqKinds
import PyProof.EqLayable
import PyProof.TupleCall
import PyProof.P3Statements
import PySem.Challenge.RW_limitdesk_k17_tables_refused
set_option Elab.async false
set_option linter.all false
set_option maxRecDepth 100000
namespace L2
open PySem PySem.Spec PyProof.Rows
abbrev Key := Sum Int Str
def keyIs : Key -> Value -> Bool
 | .inl k, v => Value.isInt k v
 | .inr x, v => Value.isStrOf x v
def keyH (w : World) : Key -> Int
 | .inl k => hashInt k
 | .inr x => hashStr w x
theorem Zz : ∀ {k : Key} {v : Value}, keyIs k v = true -> (∃ i t, k = Sum.inl i /\ v = Value.int i t) \/ (∃ x t, k = Sum.inr x /\ v = Value.str x t)
 | .inl i, v, h => by
  obtain ⟨t, e⟩ := Value.isInt_shape (k := i) (v := v) h
  exact .inl ⟨i, t, rfl, e⟩
 | .inr x, v, h => by
  obtain ⟨t, e⟩ := Value.isStrOf_shape (x := x) (v := v) h
  exact .inr ⟨x, t, rfl, e⟩
theorem key_ll (a b : Int) : decide ((Sum.inl a : Key) = Sum.inl b) = (a == b) := by
 by_cases e : a = b
 ·subst e; simp
 ·have h : ¬ (Sum.inl a : Key) = Sum.inl b := fun q => e (Sum.inl.inj q)
  rw [decide_eq_false h]
  exact (beq_eq_false_iff_ne.mpr e).symm
theorem key_rr (a b : Str) : decide ((Sum.inr a : Key) = Sum.inr b) = decide (a = b) := by
 by_cases e : a = b
 ·subst e; simp
 ·have h : ¬ (Sum.inr a : Key) = Sum.inr b := fun q => e (Sum.inr.inj q)
  rw [decide_eq_false h, decide_eq_false e]
theorem key_lr (a : Int) (b : Str) : decide ((Sum.inl a : Key) = Sum.inr b) = false := decide_eq_false (fun q => nomatch q)
theorem key_rl (a : Str) (b : Int) : decide ((Sum.inr a : Key) = Sum.inl b) = false := decide_eq_false (fun q => nomatch q)
def XU (prog : Program) (w : World) : PySem.KeyKind prog w Key where
 is := keyIs
 hash := keyH w
 inj := fun v a b ha hb => by
  rcases Zz ha with ⟨i, t, rfl, rfl⟩ | ⟨x, t, rfl, rfl⟩
  ·rcases Zz hb with ⟨j, u, rfl, e⟩ | ⟨y, u, rfl, e⟩
   ·injection e with e1 _; rw [e1]
   ·exact nomatch e
  ·rcases Zz hb with ⟨j, u, rfl, e⟩ | ⟨y, u, rfl, e⟩
   ·exact nomatch e
   ·injection e with e1 _; rw [e1]
 byValue := fun k v h => by
  rcases Zz h with ⟨i, t, rfl, rfl⟩ | ⟨x, t, rfl, rfl⟩ <;> rfl
 pyHash := fun hv h => by
  rcases Zz hv with ⟨i, t, rfl, rfl⟩ | ⟨x, t, rfl, rfl⟩
  ·exact wpAny_pyHash_int h
  ·exact wpAny_pyHash_str h
 eqBool := fun hu hv h => by
  rcases Zz hu with ⟨i, t, rfl, rfl⟩ | ⟨x, t, rfl, rfl⟩
  ·rcases Zz hv with ⟨j, u, rfl, rfl⟩ | ⟨y, u, rfl, rfl⟩
   ·rw [key_ll] at h; exact wpAny_eqBool_int h
   ·rw [key_lr] at h; exact SeqAt.EqAt.int_str i t y u _ _ _ _ h
  ·rcases Zz hv with ⟨j, u, rfl, rfl⟩ | ⟨y, u, rfl, rfl⟩
   ·rw [key_rl] at h; exact SeqAt.EqAt.str_int x t j u _ _ _ _ h
   ·rw [key_rr] at h; exact wpAny_eqBool_str h
 «strs» := fun k x t v h => by
  rcases Zz h with ⟨i, u, rfl, e⟩ | ⟨y, u, rfl, e⟩
  ·exact nomatch e
  ·injection e with e1 _
   subst e1
   cases v <;> rfl
theorem mixKind_is (prog : Program) (w : World) (k : Key) (v : Value) : (XU prog w).is k v = keyIs k v := rfl
end L2
namespace L2
open PySem PySem.Spec PyProof.Rows
inductive V where
 | non | bl (b : Bool) | int (i : Int) | str (x : Str) | byt (b : Array UInt8) | flt (b : UInt64) | ref (a : Addr) | ty (n : String)
 deriving DecidableEq
def RelV : V -> Value -> Prop
 | .non, u => u = Value.none
 | .bl b, u => u = Value.bool b
 | .int i, u => ∃ t, u = Value.int i t
 | .str x, u => ∃ t, u = Value.str x t
 | .byt b, u => ∃ t, u = Value.bytes b t
 | .flt b, u => ∃ t, u = Value.float b t
 | .ref a, u => u = Value.ref a
 | .ty n, u => u = Value.type n
abbrev Vals : List V -> List Value -> Prop := Paired RelV
theorem Vals.length {xs : List V} {us : List Value} (r : Vals xs us) : xs.length = us.length := Paired.length r
theorem Vals.get : ∀ {xs : List V} {us : List Value} {i : Nat} {x : V}, Vals xs us -> xs[i]? = some x -> ∃ u, us[i]? = some u /\ RelV x u
 | _, _, _, _, .nil, e => by simp at e
 | _, _, 0, _, .cons r _, e => by simp at e; subst e; exact ⟨_, rfl, r⟩
 | _, _, i + 1, x, .cons _ t, e => by
  obtain ⟨u, h1, h2⟩ := Vals.get (i := i) (x := x) t (by simpa using e)
  exact ⟨u, by simpa using h1, h2⟩
theorem Vals.set {x : V} {u : Value} (r : RelV x u) : ∀ {xs : List V} {us : List Value} (i : Nat), Vals xs us -> Vals (xs.set i x) (us.set i u)
 | _, _, _, .nil => .nil
 | _, _, 0, .cons _ t => .cons r t
 | _, _, i + 1, .cons q t => .cons q (Vals.set r i t)
theorem Vals.append : ∀ {xs ys : List V} {us ws : List Value}, Vals xs us -> Vals ys ws -> Vals (xs ++ ys) (us ++ ws)
 | _, _, _, _, .nil, s => s
 | _, _, _, _, .cons r t, s => .cons r (Vals.append t s)
theorem Vals.take : ∀ {xs : List V} {us : List Value} (n : Nat), Vals xs us -> Vals (xs.take n) (us.take n)
 | _, _, 0, _ => .nil
 | _, _, _ + 1, .nil => .nil
 | _, _, n + 1, .cons r t => .cons r (Vals.take n t)
theorem Vals.drop : ∀ {xs : List V} {us : List Value} (n : Nat), Vals xs us -> Vals (xs.drop n) (us.drop n)
 | _, _, 0, r => r
 | _, _, _ + 1, .nil => .nil
 | _, _, n + 1, .cons _ t => Vals.drop n t
def RelO : Option V -> Option Value -> Prop
 | some v, some u => RelV v u
 | none, none => True
 | _, _ => False
def KV {κ : Type} : List (κ × V) -> List (κ × Value) -> Prop := Paired fun (p : κ × V) (q : κ × Value) => p.1 = q.1 /\ RelV p.2 q.2
def kV : Key -> V
 | .inl i => .int i
 | .inr x => .str x
inductive HO where
 /-- a list -/
 | lst (xs : List V)
 /-- a tuple (never changes) -/
 | tup (xs : List V)
 /-- a dict whose keys are ints and texts; one whose keys are tuples of ints and texts (the empty one is both) -/
 | dK (kvs : List (Key × V)) | dT (kvs : List (List Key × V))
 /-- a set of ints: its members, its size -/
 | set (S : Int -> Bool) (n : Nat)
 /-- an instance of the class at C, its dict at dx, its attributes -/
 | ins (C dx : Addr) (fs : List (Str × V))
 /-- the dict of the instance at x -/
 | own (x : Addr)
 /-- the dict of an exception -/
 | xd (fs : List (Str × V))
 /-- a bound method, f of x -/
 | met (f x : Addr)
 /-- a range object lo, lo + 1, .. below hi -/
 | rng (lo hi : Int)
 /-- a thing that is known to the object (the script; a dict while a loop walks it): read, never written while it is so -/
 | frz (o : Obj) (u : HO)
 /-- a code object's table -/
 | tbl (ps : Array Value)
 /-- any other thing, by what is true of its one object (a def of one's own: SetO a S n := HO.ext fun h => ..) -/
 | ext (φ : Heap -> Prop)
abbrev Hp := Addr -> Option HO
def upd (H : Hp) (a : Addr) (o : HO) : Hp := fun b => if b = a then some o else H b
theorem Zi {H : Hp} {a : Addr} {o : HO} : upd H a o a = some o := by unfold upd; rw [if_pos rfl]
theorem Zf {H : Hp} {a b : Addr} {o : HO} (h : b ≠ a) : upd H a o b = H b := by unfold upd; rw [if_neg h]
theorem Zt {H : Hp} {a b : Addr} {o : HO} (h : H a = some o) (h' : H b = none) : a ≠ b := by
 intro e; subst e; rw [h] at h'; cases h'
section
variable (P : Program) (w : World)
def YC (H : Hp) (h : Heap) (a : Addr) : HO -> Prop
 | .lst xs => xs.length <= sizeLine /\ ∃ (its : List Value) (n : Nat), Vals xs its /\ h.get? a = some { cls := .type "list", data := .seq its.toArray n }
 | .tup xs => xs.length <= sizeLine /\ ∃ its : List Value, Vals xs its /\ IsTup h a its.toArray
 | .dK kvs => kvs.length <= sizeLine /\ (a == sysModules) = false /\ ∃ vs, KV kvs vs /\ h.DictOf (XU P w) a vs
 | .dT kvs => kvs.length <= sizeLine /\ (a == sysModules) = false /\ ∃ xs : List (List Key × Addr × Value),
   Paired (fun (p : List Key × V) (q : List Key × Addr × Value) => p.1 = q.1 /\ H q.2.1 = some (.tup (p.1.map kV)) /\ RelV p.2 q.2.2) kvs xs /\
   ∃ o es ep, h.get? a = some o /\ o.ExactDict /\ o.data = .dict es ep /\ es.toList = xs.map (entryOfKey (tupleKind (XU P w))) /\ (xs.map (·.1)).Nodup
 | .set S n => h.SetOf (intKind P w) a S n
 | .ins C dx fs => H dx = some (.own a) /\ fs.length <= 1000 /\ dx ≠ a /\ h.get? a = some (PySem.W.instObj C dx) /\
   ∃ mA, h.Ns1 dx mA /\ (∀ f, RelO (fs.lookup f) (mA f)) /\ PySem.Within mA (fs.map (·.1))
 | .own _ => ∃ o, h.get? a = some o
 | .xd fs => ∃ mA, h.Ns1 a mA /\ ∀ f, RelO (fs.lookup f) (mA f)
 | .rng lo hi => ∃ t u v, h.get? a = some { cls := .type "range", data := .fields #[.int lo t, .int hi u, .int 1 v] }
 | .frz o u => h.get? a = some o /\ YC H h a u
 | .tbl ps => h.get? a = some { cls := .none, data := .fields ps }
 | .met f x => h.get? a = some (PySem.W.methodObj (.ref f) (.ref x))
 | .ext φ => φ h /\ (∃ o, h.get? a = some o) /\ ∀ h1 h2 : Heap, φ h1 -> (∀ o, h1.get? a = some o -> h2.get? a = some o) -> φ h2
def HOk (H : Hp) (h : Heap) : Prop := ∀ a o, H a = some o -> YC P w H h a o
end
section
variable {P : Program} {w : World} {H H' : Hp} {h h' : Heap} {a : Addr} {o : HO}
theorem YC.lt (x : YC P w H h a o) : a < h.objs.size := by
 cases o with
 | lst xs => obtain ⟨_, _, _, _, e⟩ := x; exact Heap.lt_size e
 | tup xs => obtain ⟨_, _, _, p⟩ := x; exact p.lt
 | dK kvs => obtain ⟨_, _, _, _, o, _, _, e, _⟩ := x; exact Heap.lt_size e
 | dT kvs => obtain ⟨_, _, _, _, o, _, _, e, _⟩ := x; exact Heap.lt_size e
 | set S n => obtain ⟨o, _, _, _, e, _⟩ := x; exact Heap.lt_size e
 | ins C dx fs => obtain ⟨_, _, _, e, _⟩ := x; exact Heap.lt_size e
 | own y => obtain ⟨_, e⟩ := x; exact Heap.lt_size e
 | xd fs => obtain ⟨_, ⟨_, _, _, e, _⟩, _⟩ := x; exact Heap.lt_size e
 | rng lo hi => obtain ⟨_, _, _, e⟩ := x; exact Heap.lt_size e
 | frz ob u => obtain ⟨e, _⟩ := x; exact Heap.lt_size e
 | tbl ps => exact Heap.lt_size (show h.get? a = some _ from x)
 | met f y => exact Heap.lt_size (show h.get? a = some _ from x)
 | ext φ => obtain ⟨_, ⟨_, e⟩, _⟩ := x; exact Heap.lt_size e
theorem Paired.mapP {α β : Type} {F G : α -> β -> Prop} : ∀ {l₁ : List α} {l₂ : List β}, Paired F l₁ l₂ -> (∀ a b, F a b -> G a b) -> Paired G l₁ l₂
 | _, _, .nil, _ => .nil
 | _, _, .cons r t, f => .cons (f _ _ r) (Paired.mapP t f)
theorem YC.stay (x : YC P w H h a o) (k : ∀ b u, (b = a \/ H b = some (.own a)) -> h.get? b = some u -> h'.get? b = some u)
  (ho : ∀ b, H b = some (.own a) -> H' b = some (.own a)) (ht : ∀ b xs, H b = some (.tup xs) -> H' b = some (.tup xs)) : YC P w H' h' a o := by
 induction o with
 | lst xs => obtain ⟨z, its, n, r, e⟩ := x; exact ⟨z, its, n, r, k _ _ (.inl rfl) e⟩
 | tup xs => obtain ⟨z, its, r, ob, e, c⟩ := x; exact ⟨z, its, r, ob, k _ _ (.inl rfl) e, c⟩
 | dK kvs => obtain ⟨z, y, vs, r, ob, es, ep, e, c⟩ := x; exact ⟨z, y, vs, r, ob, es, ep, k _ _ (.inl rfl) e, c⟩
 | dT kvs =>
  obtain ⟨z, y, xs, r, ob, es, ep, e, c⟩ := x
  exact ⟨z, y, xs, Paired.mapP r fun p q z => ⟨z.1, ht _ _ z.2.1, z.2.2⟩, ob, es, ep, k _ _ (.inl rfl) e, c⟩
 | set S n => obtain ⟨ob, es, ep, t, e, c⟩ := x; exact ⟨ob, es, ep, t, k _ _ (.inl rfl) e, c⟩
 | ins C dx fs =>
  obtain ⟨d, z, ne, e, mA, ⟨od, es, ep, e2, c⟩, r⟩ := x
  exact ⟨ho _ d, z, ne, k _ _ (.inl rfl) e, mA, ⟨od, es, ep, k _ _ (.inr d) e2, c⟩, r⟩
 | own y => obtain ⟨ob, e⟩ := x; exact ⟨ob, k _ _ (.inl rfl) e⟩
 | xd fs => obtain ⟨mA, ⟨od, es, ep, e, c⟩, r⟩ := x; exact ⟨mA, ⟨od, es, ep, k _ _ (.inl rfl) e, c⟩, r⟩
 | rng lo hi => obtain ⟨t, u, v, e⟩ := x; exact ⟨t, u, v, k _ _ (.inl rfl) e⟩
 | frz ob u ih => obtain ⟨e, q⟩ := x; exact ⟨k _ _ (.inl rfl) e, ih q⟩
 | tbl ps =>
  have e : h.get? a = some { cls := .none, data := .fields ps } := x
  show h'.get? a = some { cls := .none, data := .fields ps }
  exact k a _ (.inl rfl) e
 | met f y =>
  have e : h.get? a = some (PySem.W.methodObj (.ref f) (.ref y)) := x
  show h'.get? a = some (PySem.W.methodObj (.ref f) (.ref y))
  exact k a _ (.inl rfl) e
 | ext φ => obtain ⟨p, ⟨o, e⟩, st⟩ := x; exact ⟨st _ _ p fun o q => k _ _ (.inl rfl) q, ⟨o, k _ _ (.inl rfl) e⟩, st⟩
theorem HOk.lt (x : HOk P w H h) (e : H a = some o) : a < h.objs.size := (x a o e).lt
theorem HOk.fresh (x : HOk P w H h) (e : h.objs.size <= a) : H a = none := by
 cases q : H a with
 | none => rfl
 | some u => exact absurd (Nat.lt_of_lt_of_le (x.lt q) e) (Nat.lt_irrefl _)
theorem HOk.kept (x : HOk P w H h) (k : ∀ b u, h.get? b = some u -> h'.get? b = some u) : HOk P w H h' := fun a o e =>
 (x a o e).stay (fun b u _ q => k b u q) (fun _ q => q) fun _ _ q => q
theorem HOk.laid (x : HOk P w H h) (k : ∀ b u, h.get? b = some u -> h'.get? b = some u) (hp : h.objs.size <= a) (new : YC P w (upd H a o) h' a o) : HOk P w (upd H a o) h' := fun b u e => by
 have hn := x.fresh hp
 by_cases hb : b = a
 ·subst hb; rw [Zi] at e; cases e; exact new
 ·rw [Zf hb] at e
  exact (x b u e).stay (fun c v _ q => k c v q) (fun c q => by rw [Zf (Zt q hn)]; exact q) fun c xs q => by rw [Zf (Zt q hn)]; exact q
end
def Rd (H : Hp) (a : Addr) (u : HO) : Prop := H a = some u \/ ∃ o, H a = some (.frz o u)
theorem Rd.ok {P : Program} {w : World} {H : Hp} {h : Heap} {a : Addr} {u : HO} (r : Rd H a u) (x : HOk P w H h) : YC P w H h a u := by
 rcases r with r | ⟨o, r⟩
 ·exact x a u r
 ·obtain ⟨_, q⟩ := x a _ r
  exact q
def Mut : Option HO -> Prop
 | some (.lst _) => True
 | some (.dK _) => True
 | some (.dT _) => True
 | some (.set _ _) => True
 | some (.ins _ _ _) => True
 | some (.ext _) => True
 | _ => False
section
variable {P : Program} {w : World} {H : Hp} {h h' : Heap} {x e : Addr} {o' : HO}
theorem HOk.write (ok : HOk P w H h) (mu : Mut (H x)) (he : e = x \/ H e = some (.own x)) (k : ∀ b u, b ≠ e -> h.get? b = some u -> h'.get? b = some u) (heo : ∃ u, h'.get? e = some u)
  (new : YC P w (upd H x o') h' x o') : HOk P w (upd H x o') h' := fun b u q => by
 have nown : ∀ c y, H c = some (.own y) -> c ≠ x := fun c y r z => by subst z; rw [r] at mu; exact mu
 have ntup : ∀ c xs, H c = some (.tup xs) -> c ≠ x := fun c xs r z => by subst z; rw [r] at mu; exact mu
 by_cases hb : b = x
 ·subst hb; rw [Zi] at q; cases q; exact new
 ·rw [Zf hb] at q
  by_cases hbe : b = e
  ·have q' : H b = some (.own x) := by
    rcases he with z | z
    ·exact absurd (hbe.trans z) hb
    ·rw [hbe]; exact z
   rw [q] at q'; cases q'
   obtain ⟨v, hv⟩ := heo
   exact ⟨v, by rw [hbe]; exact hv⟩
  ·refine (ok b u q).stay (fun c v hc r => k c v ?_ r) (fun c r => by rw [Zf (nown c b r)]; exact r) fun c xs r => by rw [Zf (ntup c xs r)]; exact r
   rcases hc with rfl | hc
   ·exact hbe
   ·rintro rfl
    rcases he with z | z
    ·exact nown c b hc z
    ·rw [hc] at z; cases z; exact hb rfl
end
structure Un (fs ex : List Addr) (H H' : Hp) (h h' : Heap) : Prop where
 keep : ∀ b o, h.get? b = some o -> H b = none -> b ∉ fs -> b ∉ ex -> h'.get? b = some o
 slot : ∀ b o, h.get? b = some o -> H b = none -> b ∈ fs -> b ∉ ex -> ∃ sl, h'.get? b = some { o with slots := sl }
 free : ∀ b o, h.get? b = some o -> H b = none -> b ∉ ex -> H' b = none
 there : ∀ b o, h.get? b = some o -> b ∉ ex -> ∃ o', h'.get? b = some o'
 tups : ∀ b xs, H b = some (.tup xs) -> H' b = some (.tup xs)
 frzs : ∀ b o u, H b = some (.frz o u) -> H' b = some (.frz o u)
 tbls : ∀ b ps, H b = some (.tbl ps) -> ∃ more, H' b = some (.tbl (ps ++ more))
section
variable {fs fs' ex ex' : List Addr} {H H1 H2 : Hp} {h h1 h2 h' : Heap} {a x e : Addr} {o : HO}
theorem Un.any (u : Un fs ex H H1 h h1) {b : Addr} {ob : Obj} (q : h.get? b = some ob) (n : H b = none) (hx : b ∉ ex) : ∃ sl, h1.get? b = some { ob with slots := sl } := by
 by_cases hb : b ∈ fs
 ·exact u.slot b ob q n hb hx
 ·exact ⟨ob.slots, u.keep b ob q n hb hx⟩
theorem Un.kept (k : ∀ b u, h.get? b = some u -> h'.get? b = some u) : Un fs ex H H h h' :=
 ⟨fun b ob q _ _ _ => k b ob q, fun b ob q _ _ _ => ⟨ob.slots, k b ob q⟩, fun _ _ _ n _ => n, fun b ob q _ => ⟨ob, k b ob q⟩, fun _ _ q => q, fun _ _ _ q => q, fun _ ps q => ⟨#[], by rw [q]; simp⟩⟩
theorem Un.refl : Un fs ex H H h h := Un.kept fun _ _ q => q
theorem Un.laid (k : ∀ b u, h.get? b = some u -> h'.get? b = some u) (hp : h.objs.size <= a) (hn : H a = none) : Un fs ex H (upd H a o) h h' where
 keep := fun b u q _ _ _ => k b u q
 slot := fun b u q _ _ _ => ⟨u.slots, k b u q⟩
 free := fun b u q n _ => by rw [Zf (Nat.ne_of_lt (Nat.lt_of_lt_of_le (Heap.lt_size q) hp))]; exact n
 there := fun b u q _ => ⟨u, k b u q⟩
 tups := fun b xs q => by rw [Zf (Zt q hn)]; exact q
 frzs := fun b u xs q => by rw [Zf (Zt q hn)]; exact q
 tbls := fun b ps q => ⟨#[], by rw [Zf (Zt q hn), q]; simp⟩
theorem Un.write (mu : Mut (H x)) (he : e = x \/ H e = some (.own x)) (k : ∀ b u, b ≠ e -> h.get? b = some u -> h'.get? b = some u) (heo : ∃ u, h'.get? e = some u) : Un fs ex H (upd H x o) h h' := by
 have hx : ∀ b, H b = none -> b ≠ x := fun b n z => by subst z; rw [n] at mu; exact mu
 have hb : ∀ b, H b = none -> b ≠ e := fun b n z => by
  subst z
  rcases he with r | r
  ·exact hx b n r
  ·rw [n] at r; cases r
 have hm : ∀ b u, H b = some u -> ¬ Mut (some u) -> b ≠ x := fun b u q nm z => by subst z; rw [q] at mu; exact nm mu
 refine ⟨fun b u q n _ _ => k b u (hb b n) q, fun b u q n _ _ => ⟨u.slots, k b u (hb b n) q⟩, fun b u q n _ => by rw [Zf (hx b n)]; exact n, fun b u q _ => ?_,
  fun b xs q => by rw [Zf (hm b _ q fun z => z)]; exact q, fun b u xs q => by rw [Zf (hm b _ q fun z => z)]; exact q, fun b ps q => ⟨#[], by rw [Zf (hm b _ q fun z => z), q]; simp⟩⟩
 by_cases hbe : b = e
 ·subst hbe; exact heo
 ·exact ⟨u, k b u hbe q⟩
end
def trk (h : Heap) (H : Hp) : List Addr := (List.range h.objs.size).filter fun a => (H a).isSome
def hidT (h : Heap) (H : Hp) : Heap := PySem.W.hideAll h (trk h H)
theorem Ua (h : Heap) (H : Hp) : (hidT h H).objs.size = h.objs.size := PySem.W.hideAll_size _ _
theorem hidT_get {h : Heap} {H : Hp} {b : Addr} {o : Obj} (e : h.get? b = some o) (n : H b = none) : (hidT h H).get? b = some o :=
 PySem.W.hideAll_get _ e fun hm => by
  have q : (H b).isSome = true := (List.mem_filter.mp hm).2
  rw [n] at q; simp at q
theorem of_hidT {h : Heap} {H : Hp} {b : Addr} {o : Obj} (e : (hidT h H).get? b = some o) : h.get? b = some o /\ H b = none := by
 have e' : h.get? b = some o := PySem.W.of_hideAll (trk h H) e
 refine ⟨e', ?_⟩
 cases q : H b with
 | none => rfl
 | some x =>
  have hm : b ∈ trk h H := List.mem_filter.mpr ⟨List.mem_range.mpr (Heap.lt_size e'), by simp [q]⟩
  have z : (hidT h H).get? b = none := PySem.W.hideAll_none (trk h H) hm
  rw [z] at e; cases e
end L2
namespace L2
open PySem PySem.Spec PyProof.Rows
structure Mod (K : PySem.W.Frag) (mg : Str -> Option Value) (base : Heap) : Prop where
 kin : K.In base
 glob : base.Ns mainGlobals mg
 blt : ∃ mb, base.Ns builtinsNs mb /\ ∀ x : Str, x ≠ "__name__" -> mb x = bootBuiltins x
 nolimit : base.NoLimit
structure Cx where
 prog : Program
 w : World
 K : PySem.W.Frag
 mg : Str -> Option Value
 base : Heap
 A : Around
 N : List Str
 s₀ : Shared
 H₀ : Hp
 env : Env
 outer : List Env
 stack : List Env
 ex : List Addr
 fn : Str -> Bool
 calm : Bool
 pn : List (Addr × Obj)
 xe : Value -> Shared -> Prop
def frs (l : List Env) : List Addr := l.filterMap (·.frame)
abbrev Cx.fs (X : Cx) : List Addr := frs X.outer
def Vis (sc : Scope) (x : Str) : Prop := sc.names.lookup x = some .local \/ sc.names.lookup x = some .cell \/ sc.names.lookup x = some .free
def Loc (sc : Scope) (x : Str) : Prop := sc.names.lookup x = some .local \/ sc.names.lookup x = some .cell
def Look (env : Env) (h : Heap) (m : Str -> Option Value) (x : Str) (u : Value) : Prop :=
 (env.kindOf x = some .local /\ m x = some u) \/ ((env.kindOf x = some .cell \/ env.kindOf x = some .free) /\ ∃ c, env.cells.lookup x = some c /\ h.IsCell c (some u))
structure Cx.Ok (X : Cx) : Prop where
 mod : Mod X.K X.mg X.base
 kind : X.env.scope.kind = .function
 glob : X.env.globals = mainGlobals
 blt : X.env.builtins = builtinsNs
 above : X.s₀.heap.objs.size <= X.env.locals
 inj : ∀ x y c, X.env.cells.lookup x = some c -> X.env.cells.lookup y = some c -> x = y
 has : ∀ x, (X.env.kindOf x = some .cell \/ X.env.kindOf x = some .free) -> ∃ c, X.env.cells.lookup x = some c
 cab : ∀ x c, X.fn x = true -> X.env.cells.lookup x = some c -> X.s₀.heap.objs.size <= c
 hd : X.calm = true -> X.A.handled = none
 frames : X.A.frames = some X.stack
 stk : X.stack = X.outer \/ (X.stack = X.env :: X.outer /\ X.env.frame = some X.env.locals)
 exf : ∀ b ∈ X.ex, b ≠ X.env.locals /\ ∀ x c, X.env.cells.lookup x = some c -> c ≠ b
 bs : ∀ b o, X.base.get? b = some o -> X.s₀.heap.get? b = some o /\ X.H₀ b = none
 bsz : X.base.objs.size <= X.s₀.heap.objs.size
 noex : ∀ b o, X.base.get? b = some o -> b ∉ X.ex
 exfs : ∀ b ∈ X.ex, b ∉ X.fs
 funs : X.s₀.heap.FunFrames X.base X.outer
 frf : ∀ b ∈ X.fs, X.H₀ b = none
structure Inv (X : Cx) (pins : List (Addr × Obj)) (σ : List (Option V)) (H : Hp) (s : Shared) : Prop where
 ok : X.Ok
 os : s.os = X.s₀.os
 bare : AllBare s.gens
 base : Un X.fs X.ex X.H₀ H X.s₀.heap s.heap
 loc : ∃ m, s.heap.Ns X.env.locals m /\ ∀ (i : Nat) (x : Str) (v : V), X.N[i]? = some x -> σ[i]? = some (some v) -> Vis X.env.scope x -> ∃ u, RelV v u /\ Look X.env s.heap m x u
 cell : ∀ x c, X.env.cells.lookup x = some c -> ∃ v, s.heap.IsCell c v
 free : H X.env.locals = none
 freeC : ∀ x c, X.env.cells.lookup x = some c -> H c = none
 pin : ∀ p ∈ X.pn ++ pins, s.heap.get? p.1 = some p.2 /\ H p.1 = none /\ p.1 ≠ X.env.locals /\ p.1 ∉ X.fs /\ ∀ v, p.2.data ≠ .cell v
 hok : HOk X.prog X.w H s.heap
 len : σ.length = X.N.length
section
variable {X : Cx} {pins : List (Addr × Obj)} {σ : List (Option V)} {H H' : Hp} {s : Shared} {h' : Heap}
theorem Cx.Ok.nofr (ok : X.Ok) {b : Addr} {o : Obj} (e : X.base.get? b = some o) : b ∉ X.fs := fun hb => by
 have := (ok.funs.mem hb).1
 rw [e] at this; cases this
theorem Inv.bs (I : Inv X pins σ H s) : ∀ b o, X.base.get? b = some o -> s.heap.get? b = some o /\ H b = none := fun b o e =>
 ⟨I.base.keep b o (I.ok.bs b o e).1 (I.ok.bs b o e).2 (I.ok.nofr e) (I.ok.noex b o e), I.base.free b o (I.ok.bs b o e).1 (I.ok.bs b o e).2 (I.ok.noex b o e)⟩
theorem Inv.bk (I : Inv X pins σ H s) : ∀ b o, X.base.get? b = some o -> s.heap.get? b = some o := fun b o e => (I.bs b o e).1
theorem Inv.mod (I : Inv X pins σ H s) : Mod X.K X.mg X.base := I.ok.mod
theorem Inv.kIn (I : Inv X pins σ H s) : X.K.In s.heap := I.ok.mod.kin.keeps I.bk
theorem Inv.lt (I : Inv X pins σ H s) : X.env.locals < s.heap.objs.size := let ⟨_, hn, _⟩ := I.loc; hn.lt
theorem Inv.sz (I : Inv X pins σ H s) : X.s₀.heap.objs.size <= s.heap.objs.size := Nat.le_trans I.ok.above (Nat.le_of_lt I.lt)
theorem Inv.nofs (I : Inv X pins σ H s) {a : Addr} (h : s.heap.objs.size <= a) : a ∉ X.fs := fun hb => by
 obtain ⟨_, o, ho, _⟩ := I.ok.funs.mem hb
 exact absurd (Nat.lt_of_lt_of_le (Heap.lt_size ho) (Nat.le_trans I.sz h)) (Nat.lt_irrefl _)
theorem Inv.cne (I : Inv X pins σ H s) : ∀ x c, X.env.cells.lookup x = some c -> c ≠ X.env.locals := fun x c e z => by
 obtain ⟨v, o, ho, hd⟩ := I.cell x c e
 obtain ⟨m, ⟨o', es, ep, ho', hd', _⟩, _⟩ := I.loc
 rw [z, ho'] at ho; cases ho; rw [hd'] at hd; cases hd
theorem Inv.funs (I : Inv X pins σ H s) : s.heap.FunFrames X.base X.outer := by
 have all : ∀ (l : List Env), (∀ b ∈ frs l, b ∈ X.fs) -> X.s₀.heap.FunFrames X.base l -> s.heap.FunFrames X.base l := by
  intro l
  induction l with
  | nil => intro _ _; trivial
  | cons env r ih =>
   intro hs hl
   obtain ⟨hk, ⟨L, o, hf, hn, ho, hd⟩, hr⟩ := hl
   have hL : L ∈ X.fs := hs L (by unfold frs; rw [List.filterMap_cons, hf]; exact List.mem_cons_self)
   obtain ⟨sl, e⟩ := I.base.slot L o ho (I.ok.frf L hL) hL fun z => I.ok.exfs L z hL
   exact ⟨hk, ⟨L, _, hf, hn, e, hd⟩, ih (fun b hb => hs b (by unfold frs; rw [List.filterMap_cons, hf]; exact List.mem_cons_of_mem _ hb)) hr⟩
 exact all X.outer (fun _ hb => hb) I.ok.funs
theorem Inv.stack (I : Inv X pins σ H s) : s.heap.FunFrames X.base X.stack := by
 rcases I.ok.stk with e | ⟨e, hf⟩
 ·rw [e]; exact I.funs
 ·rw [e]
  obtain ⟨m, hn, _⟩ := I.loc
  refine .cons (by rw [I.ok.kind]; decide) hf hn ?_ I.funs
  exact Heap.get?_none_of_le (Nat.le_trans I.ok.bsz I.ok.above)
theorem Inv.stkSub (I : Inv X pins σ H s) : ∀ b ∈ frs X.stack, b ∈ X.env.locals :: X.fs := fun b hb => by
 rcases I.ok.stk with e | ⟨e, hf⟩
 ·rw [e] at hb; exact List.mem_cons_of_mem _ hb
 ·rw [e] at hb
  unfold frs at hb
  rw [List.filterMap_cons, hf] at hb
  exact hb
theorem Inv.stkFree (I : Inv X pins σ H s) : ∀ b ∈ frs X.stack, H b = none := fun b hb => by
 rcases List.mem_cons.mp (I.stkSub b hb) with e | hb
 ·rw [e]; exact I.free
 ·obtain ⟨_, o, ho, _⟩ := I.ok.funs.mem hb
  exact I.base.free b o ho (I.ok.frf b hb) fun z => I.ok.exfs b z hb
theorem Inv.step {g' : Array GenState} {t' : Nat} {d' : Drawn} {ch : List Addr} (I : Inv X pins σ H s)
  (hch : ∀ b ∈ ch, (b ∈ X.ex \/ X.s₀.heap.objs.size <= b) /\ b ≠ X.env.locals /\ (∀ x c, X.env.cells.lookup x = some c -> c ≠ b) /\ ∀ p ∈ X.pn ++ pins, p.1 ≠ b)
  (keep : ∀ b o, b ≠ X.env.locals -> b ∉ X.fs -> b ∉ ch -> s.heap.get? b = some o -> H b = none -> h'.get? b = some o)
  (slot : ∀ b o, b ≠ X.env.locals -> b ∈ X.fs -> b ∉ ch -> s.heap.get? b = some o -> H b = none -> ∃ sl, h'.get? b = some { o with slots := sl }) (free : ∀ b o, b ∉ ch -> s.heap.get? b = some o -> H b = none -> H' b = none)
  (there : ∀ b o, b ∉ ch -> s.heap.get? b = some o -> ∃ o', h'.get? b = some o')
  (tups : ∀ b xs, H b = some (.tup xs) -> H' b = some (.tup xs)) (frzs : ∀ b o u, H b = some (.frz o u) -> H' b = some (.frz o u)) (tbls : ∀ b ps, H b = some (.tbl ps) -> ∃ more, H' b = some (.tbl (ps ++ more)))
  (ns : ∀ m, s.heap.Ns X.env.locals m -> h'.Ns X.env.locals m) (hok : HOk X.prog X.w H' h') (hg : AllBare g') :
  Inv X pins σ H' { s with heap := h', gens := g', drawn := d', toks := t' } := by
 have neL : ∀ b o, X.s₀.heap.get? b = some o -> b ≠ X.env.locals := fun b o e => Nat.ne_of_lt (Nat.lt_of_lt_of_le (Heap.lt_size e) I.ok.above)
 have neC : ∀ b o, X.s₀.heap.get? b = some o -> b ∉ X.ex -> b ∉ ch := fun b o e hx hb => by
  rcases (hch b hb).1 with z | z
  ·exact hx z
  ·exact absurd (Nat.lt_of_lt_of_le (Heap.lt_size e) z) (Nat.lt_irrefl _)
 have cellK : ∀ x c, X.env.cells.lookup x = some c -> ∀ v, s.heap.IsCell c v -> h'.IsCell c v := fun x c e v ⟨o, ho, hd⟩ => by
  have nch : c ∉ ch := fun z => (hch c z).2.2.1 x c e rfl
  by_cases hc : c ∈ X.fs
  ·obtain ⟨sl, q⟩ := slot c o (I.cne x c e) hc nch ho (I.freeC x c e)
   exact ⟨_, q, hd⟩
  ·exact ⟨o, keep c o (I.cne x c e) hc nch ho (I.freeC x c e), hd⟩
 refine ⟨I.ok, I.os, hg, ⟨fun b o e n hb hx => ?_, fun b o e n hb hx => ?_, fun b o e n hx => ?_, fun b o e hx => ?_, fun b xs e => tups b xs (I.base.tups b xs e), fun b o xs e => frzs b o xs (I.base.frzs b o xs e), fun b ps e => ?_⟩, ?_, fun x c e => ?_, ?_, fun x c e => ?_, fun p hp => ?_, hok, I.len⟩
 ·exact keep b o (neL b o e) hb (neC b o e hx) (I.base.keep b o e n hb hx) (I.base.free b o e n hx)
 ·obtain ⟨sl, e1⟩ := I.base.slot b o e n hb hx
  obtain ⟨sl', e2⟩ := slot b _ (neL b o e) hb (neC b o e hx) e1 (I.base.free b o e n hx)
  exact ⟨sl', e2⟩
 ·obtain ⟨o', e1⟩ := I.base.there b o e hx
  exact free b o' (neC b o e hx) e1 (I.base.free b o e n hx)
 ·obtain ⟨o', e1⟩ := I.base.there b o e hx
  exact there b o' (neC b o e hx) e1
 ·obtain ⟨m1, e1⟩ := I.base.tbls b ps e
  obtain ⟨m2, e2⟩ := tbls b _ e1
  exact ⟨m1 ++ m2, by rw [e2, Array.append_assoc]⟩
 ·obtain ⟨m, hn, hl⟩ := I.loc
  refine ⟨m, ns m hn, fun i x v e1 e2 e3 => ?_⟩
  obtain ⟨u, r, l⟩ := hl i x v e1 e2 e3
  refine ⟨u, r, ?_⟩
  rcases l with l | ⟨k, c, e, z⟩
  ·exact .inl l
  ·exact .inr ⟨k, c, e, cellK x c e _ z⟩
 ·obtain ⟨v, z⟩ := I.cell x c e
  exact ⟨v, cellK x c e v z⟩
 ·obtain ⟨m, ⟨o, _, _, ho, _⟩, _⟩ := I.loc
  exact free _ o (fun z => (hch _ z).2.1 rfl) ho I.free
 ·obtain ⟨v, o, ho, hd⟩ := I.cell x c e
  exact free c o (fun z => (hch c z).2.2.1 x c e rfl) ho (I.freeC x c e)
 ·obtain ⟨e, n, ne, nf, d⟩ := I.pin p hp
  have nch : p.1 ∉ ch := fun z => (hch p.1 z).2.2.2 p hp rfl
  exact ⟨keep p.1 p.2 ne nf nch e n, free p.1 p.2 nch e n, ne, nf, d⟩
theorem Inv.un {t' : Nat} (I : Inv X pins σ H s) (u : Un X.fs [] H H' s.heap h') (hok : HOk X.prog X.w H' h') : Inv X pins σ H' { s with heap := h', toks := t' } := by
 obtain ⟨m, ⟨o, es, ep, ho, r⟩, _⟩ := id I.loc
 obtain ⟨sl, hL⟩ := u.any ho I.free (by simp)
 exact I.step (g' := s.gens) (d' := s.drawn) (ch := []) (fun _ z => nomatch z) (fun b o _ hb _ e n => u.keep b o e n hb (by simp)) (fun b o _ hb _ e n => u.slot b o e n hb (by simp)) (fun b o _ e n => u.free b o e n (by simp)) (fun b o _ e => u.there b o e (by simp)) u.tups u.frzs u.tbls (fun m' hm => by
  obtain ⟨o', es', ep', ho', r'⟩ := hm
  rw [ho] at ho'; cases ho'
  exact ⟨_, es', ep', hL, r'⟩) hok I.bare
theorem Inv.call {g' : Array GenState} {t' : Nat} {d' : Drawn} {ch : List Addr} (I : Inv X pins σ H s) (u : Un (frs X.stack) ch H H' s.heap h') (hok : HOk X.prog X.w H' h') (hg : AllBare g')
  (hch : ∀ b ∈ ch, (b ∈ X.ex \/ X.s₀.heap.objs.size <= b) /\ b ≠ X.env.locals /\ (∀ x c, X.env.cells.lookup x = some c -> c ≠ b) /\ ∀ p ∈ X.pn ++ pins, p.1 ≠ b) :
  Inv X pins σ H' { s with heap := h', gens := g', drawn := d', toks := t' } := by
 obtain ⟨m, ⟨o, es, ep, ho, r⟩, _⟩ := id I.loc
 obtain ⟨sl, hL⟩ := u.any ho I.free fun z => (hch _ z).2.1 rfl
 exact I.step (ch := ch) hch (fun b o hL hb hc e n => u.keep b o e n (fun z => (List.mem_cons.mp (I.stkSub b z)).elim hL hb) hc) (fun b o _ _ hc e n => u.any e n hc) (fun b o hc e n => u.free b o e n hc) (fun b o hc e => u.there b o e hc) u.tups u.frzs u.tbls (fun m' hm => by
  obtain ⟨o', es', ep', ho', r'⟩ := hm
  rw [ho] at ho'; cases ho'
  exact ⟨_, es', ep', hL, r'⟩) hok hg
theorem Inv.turned {t' : Nat} {it : Addr} (I : Inv X pins σ H s) (k : ∀ b o, b ≠ it -> s.heap.get? b = some o -> h'.get? b = some o) (hn : H it = none) (hL : it ≠ X.env.locals)
  (h1 : it ∈ X.ex \/ X.s₀.heap.objs.size <= it) (h2 : ∀ x c, X.env.cells.lookup x = some c -> c ≠ it) (h3 : ∀ p ∈ X.pn ++ pins, p.1 ≠ it) : Inv X pins σ H { s with heap := h', toks := t' } := by
 have nit : ∀ b u, H b = some u -> b ≠ it := fun b u e z => by rw [z, hn] at e; cases e
 refine I.step (g' := s.gens) (d' := s.drawn) (ch := [it]) (fun b hb => ?_) (fun b o _ _ hc e _ => k b o (fun z => hc (by simp [z])) e) (fun b o _ _ hc e _ => ⟨o.slots, k b o (fun z => hc (by simp [z])) e⟩) (fun _ _ _ _ n => n)
  (fun b o hc e => ⟨o, k b o (fun z => hc (by simp [z])) e⟩) (fun _ _ e => e) (fun _ _ _ e => e) (fun b ps e => ⟨#[], by rw [e]; simp⟩) (fun m hm => ?_) (fun b u e => ?_) I.bare
 ·have e : b = it := by simpa using hb
  subst e
  exact ⟨h1, hL, h2, h3⟩
 ·obtain ⟨o, es, ep, ho, r⟩ := hm
  exact ⟨o, es, ep, k _ o (Ne.symm hL) ho, r⟩
 ·refine (I.hok b u e).stay (fun c v hc q => k c v ?_ q) (fun _ q => q) fun _ _ q => q
  rcases hc with z | z
  ·rw [z]; exact nit b u e
  ·exact nit c _ z
theorem Inv.tok (I : Inv X pins σ H s) (t : Nat) : Inv X pins σ H { s with toks := t } := I.un (h' := s.heap) (t' := t) Un.refl I.hok
theorem Inv.kept {t' : Nat} (I : Inv X pins σ H s) (k : ∀ b u, s.heap.get? b = some u -> h'.get? b = some u) : Inv X pins σ H { s with heap := h', toks := t' } := I.un (Un.kept k) (I.hok.kept k)
theorem Inv.laid {a : Addr} {o : HO} {t' : Nat} (I : Inv X pins σ H s) (k : ∀ b u, s.heap.get? b = some u -> h'.get? b = some u) (hp : s.heap.objs.size <= a) (new : YC X.prog X.w (upd H a o) h' a o) :
  Inv X pins σ (upd H a o) { s with heap := h', toks := t' } := I.un (Un.laid k hp (I.hok.fresh hp)) (I.hok.laid k hp new)
theorem Inv.write {x e : Addr} {o : HO} {t' : Nat} (I : Inv X pins σ H s) (mu : Mut (H x)) (he : e = x \/ H e = some (.own x)) (k : ∀ b u, b ≠ e -> s.heap.get? b = some u -> h'.get? b = some u) (heo : ∃ u, h'.get? e = some u)
  (new : YC X.prog X.w (upd H x o) h' x o) : Inv X pins σ (upd H x o) { s with heap := h', toks := t' } := I.un (Un.write mu he k heo) (I.hok.write mu he k heo new)
theorem Inv.pins_of {pins' : List (Addr × Obj)} (I : Inv X pins σ H s) (h : ∀ p ∈ pins', s.heap.get? p.1 = some p.2 /\ H p.1 = none /\ p.1 ≠ X.env.locals /\ p.1 ∉ X.fs /\ ∀ v, p.2.data ≠ .cell v) : Inv X pins' σ H s :=
 ⟨I.ok, I.os, I.bare, I.base, I.loc, I.cell, I.free, I.freeC, fun p hp => (List.mem_append.mp hp).elim (fun z => I.pin p (List.mem_append_left _ z)) (h p), I.hok, I.len⟩
theorem XT {N : List Str} (hN : N.Nodup) {i j : Nat} {x : Str} (a : N[i]? = some x) (b : N[j]? = some x) : i = j := by
 obtain ⟨h1, e1⟩ := List.getElem?_eq_some_iff.mp a
 obtain ⟨h2, e2⟩ := List.getElem?_eq_some_iff.mp b
 exact (List.getElem_inj hN).mp (e1.trans e2.symm)
theorem Xe {M : Model} {A : Around} {E : Value -> Shared -> Prop} {i : Nat} {x : Str} {v : V} {u : Value} {Q : Unit -> Shared -> Prop} (I : Inv X pins σ H s) (hN : X.N.Nodup) (hi : X.N[i]? = some x) (hx : Loc X.env.scope x) (r : RelV v u)
  (h : ∀ s', Inv X pins (σ.set i (some v)) H s' -> (∃ a, Heap.SameBut a s.heap s'.heap /\ (a = X.env.locals \/ X.env.cells.lookup x = some a)) -> Q () s') (hf : X.fn x = true \/ X.env.scope.names.lookup x = some .local := by first | exact .inl rfl | exact .inr rfl | assumption) : wpAny M A (storeName X.env x u) Q E s := by
 obtain ⟨m, hn, hl⟩ := id I.loc
 have hcls : (X.env.scope.kind == .class || (X.env.scope.kind == .module && X.env.locals != X.env.globals)) = false := by rw [I.ok.kind]; rfl
 have hiσ : i < σ.length := by rw [I.len]; exact (List.getElem?_eq_some_iff.mp hi).1
 have cne := I.cne
 have tracked : ∀ {a : Addr} {h' : Heap}, (∃ o, s.heap.get? a = some o /\ H a = none) -> Heap.SameBut a s.heap h' -> HOk X.prog X.w H h' := fun {a h'} ha hs b ob e => by
  obtain ⟨_, _, hfree⟩ := ha
  refine (I.hok b ob e).stay (fun c w' hc q => (hs.2 c ?_).trans q) (fun _ q => q) fun _ _ q => q
  rintro rfl
  rcases hc with rfl | hc
  ·rw [hfree] at e; cases e
  ·rw [hfree] at hc; cases hc
 rcases hx with hk | hk
 ·refine wpAny_storeName_local hk hn (fun h' hn' hs => ?_) hcls
  obtain ⟨oL, _, _, hoL, _⟩ := id hn
  refine h _ ⟨I.ok, I.os, I.bare, ⟨fun b o e n hb hx => ?_, fun b o e n hb hx => ?_, I.base.free, fun b o e hx => ?_, I.base.tups, I.base.frzs, I.base.tbls⟩, ⟨_, hn', fun j y v' e1 e2 e3 => ?_⟩, fun y c e => ?_, I.free, I.freeC, fun p hp => ?_, tracked ⟨oL, hoL, I.free⟩ hs, by simpa using I.len⟩ ⟨_, hs, .inl rfl⟩
  ·exact (hs.2 b (Nat.ne_of_lt (Nat.lt_of_lt_of_le (Heap.lt_size e) I.ok.above))).trans (I.base.keep b o e n hb hx)
  ·obtain ⟨sl, e1⟩ := I.base.slot b o e n hb hx
   exact ⟨sl, (hs.2 b (Nat.ne_of_lt (Nat.lt_of_lt_of_le (Heap.lt_size e) I.ok.above))).trans e1⟩
  ·obtain ⟨o', e1⟩ := I.base.there b o e hx
   exact ⟨o', (hs.2 b (Nat.ne_of_lt (Nat.lt_of_lt_of_le (Heap.lt_size e) I.ok.above))).trans e1⟩
  ·by_cases hj : j = i
   ·subst hj
    rw [hi] at e1; cases e1
    rw [List.getElem?_set_self hiσ] at e2
    cases e2
    exact ⟨u, r, .inl ⟨hk, by simp⟩⟩
   ·rw [List.getElem?_set_ne (Ne.symm hj)] at e2
    obtain ⟨u', r', q⟩ := hl j y v' e1 e2 e3
    refine ⟨u', r', ?_⟩
    rcases q with ⟨k, e⟩ | ⟨k, c, e, z⟩
    ·refine .inl ⟨k, ?_⟩
     have : y ≠ x := fun e => hj (XT hN e1 (e ▸ hi))
     simp [this, e]
    ·exact .inr ⟨k, c, e, z.sameBut hs (cne y c e)⟩
  ·obtain ⟨w', z⟩ := I.cell y c e
   exact ⟨w', z.sameBut hs (cne y c e)⟩
  ·obtain ⟨e, n, ne, nf, d⟩ := I.pin p hp
   exact ⟨(hs.2 p.1 ne).trans e, n, ne, nf, d⟩
 ·have hfn : X.fn x = true := by
   rcases hf with z | z
   ·exact z
   ·rw [z] at hk; cases hk
  obtain ⟨c, hc⟩ := I.ok.has x (.inl hk)
  obtain ⟨w', z⟩ := I.cell x c hc
  refine wpAny_storeName_cell I.ok.kind hk hc z (fun h' hc' hs => ?_)
  obtain ⟨oc, hoc, hocd⟩ := id z
  refine h { s with heap := h' } ⟨I.ok, I.os, I.bare, ⟨fun b o e n hb hx => ?_, fun b o e n hb hx => ?_, I.base.free, fun b o e hx => ?_, I.base.tups, I.base.frzs, I.base.tbls⟩, ⟨m, hn.sameBut hs (Ne.symm (cne x c hc)), fun j y v' e1 e2 e3 => ?_⟩, fun y c' e => ?_, I.free, I.freeC, fun p hp => ?_, tracked ⟨oc, hoc, I.freeC x c hc⟩ hs, by simpa using I.len⟩ ⟨c, hs, .inr hc⟩
  ·exact (hs.2 b (Nat.ne_of_lt (Nat.lt_of_lt_of_le (Heap.lt_size e) (I.ok.cab x c hfn hc)))).trans (I.base.keep b o e n hb hx)
  ·obtain ⟨sl, e1⟩ := I.base.slot b o e n hb hx
   exact ⟨sl, (hs.2 b (Nat.ne_of_lt (Nat.lt_of_lt_of_le (Heap.lt_size e) (I.ok.cab x c hfn hc)))).trans e1⟩
  ·obtain ⟨o', e1⟩ := I.base.there b o e hx
   exact ⟨o', (hs.2 b (Nat.ne_of_lt (Nat.lt_of_lt_of_le (Heap.lt_size e) (I.ok.cab x c hfn hc)))).trans e1⟩
  ·by_cases hj : j = i
   ·subst hj
    rw [hi] at e1; cases e1
    rw [List.getElem?_set_self hiσ] at e2
    cases e2
    exact ⟨u, r, .inr ⟨.inl hk, c, hc, hc'⟩⟩
   ·rw [List.getElem?_set_ne (Ne.symm hj)] at e2
    obtain ⟨u', r', q⟩ := hl j y v' e1 e2 e3
    refine ⟨u', r', ?_⟩
    rcases q with q | ⟨k, c', e, z'⟩
    ·exact .inl q
    ·refine .inr ⟨k, c', e, z'.sameBut hs ?_⟩
     rintro rfl
     exact hj (XT hN e1 (I.ok.inj _ _ _ e hc ▸ hi))
  ·by_cases hcc : c' = c
   ·subst hcc; exact ⟨_, hc'⟩
   ·obtain ⟨w2, z2⟩ := I.cell y c' e
    exact ⟨w2, z2.sameBut hs hcc⟩
  ·obtain ⟨e, n, ne, nf, d⟩ := I.pin p hp
   refine ⟨(hs.2 p.1 ?_).trans e, n, ne, nf, d⟩
   intro q
   rw [q, hoc] at e
   have q' : oc = p.2 := Option.some.inj e
   exact d w' (by rw [<- q']; exact hocd)
theorem Xc {M : Model} {A : Around} {E : Value -> Shared -> Prop} {i : Nat} {x : Str} {v : V} {u : Value} {Q : Unit -> Shared -> Prop} (I : Inv X pins σ H s) (hN : X.N.Nodup) (hi : X.N[i]? = some x) (hx : Loc X.env.scope x) (r : RelV v u)
  (h : ∀ s', Inv X pins (σ.set i (some v)) H s' -> Q () s') (hf : X.fn x = true \/ X.env.scope.names.lookup x = some .local := by first | exact .inl rfl | exact .inr rfl | assumption) : wpAny M A (storeName X.env x u) Q E s :=
 Xe I hN hi hx r (fun s' I' _ => h s' I') hf
theorem Inv.call' {s' : Shared} {ch : List Addr} (I : Inv X pins σ H s) (ho : s'.os = s.os) (u : Un (frs X.stack) ch H H' s.heap s'.heap) (hok : HOk X.prog X.w H' s'.heap) (hg : AllBare s'.gens)
  (hch : ∀ b ∈ ch, (b ∈ X.ex \/ X.s₀.heap.objs.size <= b) /\ b ≠ X.env.locals /\ (∀ x c, X.env.cells.lookup x = some c -> c ≠ b) /\ ∀ p ∈ X.pn ++ pins, p.1 ≠ b) : Inv X pins σ H' s' := by
 obtain ⟨h', g', d', t', o'⟩ := s'
 have e : o' = s.os := ho
 subst e
 exact I.call (g' := g') (t' := t') (d' := d') u hok hg hch
end
abbrev XK := Value -> Option Addr -> Hp -> Prop
abbrev St := List (Option V)
abbrev VK := V -> Hp -> Prop
abbrev TE := St -> Hp -> VK -> Prop
abbrev TT := St -> Hp -> (Bool -> Hp -> Prop) -> Prop
abbrev TA := St -> Hp -> (List V -> Hp -> Prop) -> Prop
structure Ends where
 nx : St -> Hp -> Prop
 rt : VK
 bk : St -> Hp -> Prop := fun _ _ => False
 ct : St -> Hp -> Prop := fun _ _ => False
abbrev TS := Ends -> St -> Hp -> Prop
def EP (X : Cx) (pins : List (Addr × Obj)) (σ : St) (Q : VK) (u : Value) (s' : Shared) : Prop := ∃ v H', Inv X pins σ H' s' /\ RelV v u /\ Q v H'
def TP (X : Cx) (pins : List (Addr × Obj)) (σ : St) (Q : Bool -> Hp -> Prop) (b : Bool) (s' : Shared) : Prop := ∃ H', Inv X pins σ H' s' /\ Q b H'
def AP (X : Cx) (pins : List (Addr × Obj)) (σ : St) (Q : List V -> Hp -> Prop) (us : List Value) (s' : Shared) : Prop := ∃ vs H', Inv X pins σ H' s' /\ Vals vs us /\ Q vs H'
def SP (X : Cx) (pins : List (Addr × Obj)) (D : Ends) (f : Flow) (s' : Shared) : Prop :=
 match f with
 | .next => ∃ σ' H', Inv X pins σ' H' s' /\ D.nx σ' H'
 | .brk => ∃ σ' H', Inv X pins σ' H' s' /\ D.bk σ' H'
 | .cont => ∃ σ' H', Inv X pins σ' H' s' /\ D.ct σ' H'
 | .ret u => ∃ v σ' H', Inv X pins σ' H' s' /\ RelV v u /\ D.rt v H'
def PE (X : Cx) (e : Expr) (t : TE) : Prop :=
 ∀ (pins : List (Addr × Obj)) (s : Shared) (σ : St) (H : Hp) (Q : VK), Inv X pins σ H s -> t σ H Q -> wpAny (model X.prog X.w) X.A (eval e X.env) (EP X pins σ Q) X.xe s
def PT (X : Cx) (e : Expr) (t : TT) : Prop :=
 ∀ (pins : List (Addr × Obj)) (s : Shared) (σ : St) (H : Hp) (Q : Bool -> Hp -> Prop), Inv X pins σ H s -> t σ H Q -> wpAny (model X.prog X.w) X.A (isTrue e X.env (eval e X.env)) (TP X pins σ Q) X.xe s
def PW (X : Cx) (e : Expr) (t : TT) : Prop :=
 ∀ (whole : Sem Value) (pins : List (Addr × Obj)) (s : Shared) (σ : St) (H : Hp) (Q : Bool -> Hp -> Prop), Inv X pins σ H s -> t σ H Q -> wpAny (model X.prog X.w) X.A (isTrue e X.env whole) (TP X pins σ Q) X.xe s
theorem PW.pt {X : Cx} {e : Expr} {t : TT} (h : PW X e t) : PT X e t := h _
def PA (X : Cx) (es : List Expr) (t : TA) : Prop :=
 ∀ (pos : Pos) (pins : List (Addr × Obj)) (s : Shared) (σ : St) (H : Hp) (Q : List V -> Hp -> Prop), Inv X pins σ H s -> t σ H Q -> wpAny (model X.prog X.w) X.A (spliced (backTo pos (starEach es X.env))) (AP X pins σ Q) X.xe s
def PS (X : Cx) (st : Stmt) (t : TS) : Prop :=
 ∀ (pins : List (Addr × Obj)) (s : Shared) (σ : St) (H : Hp) (D : Ends), Inv X pins σ H s -> t D σ H -> wpAny (model X.prog X.w) X.A (exec st X.env) (SP X pins D) X.xe s
def PSs (X : Cx) (st : List Stmt) (t : TS) : Prop :=
 ∀ (pins : List (Addr × Obj)) (s : Shared) (σ : St) (H : Hp) (D : Ends), Inv X pins σ H s -> t D σ H -> wpAny (model X.prog X.w) X.A (execs st X.env) (SP X pins D) X.xe s
theorem thn {α : Type} {t : Sem α} {Q Q' : α -> Shared -> Prop} {M : Model} {A : Around} {E : Value -> Shared -> Prop} {s : Shared} (h : wpAny M A t Q E s) (hQ : ∀ a s, Q a s -> Q' a s) : wpAny M A t Q' E s := wpAny_mono h hQ fun _ _ x => x
end L2
namespace L2
open PySem PySem.Spec PyProof.Rows
section
variable {X : Cx}
def tVar (i : Nat) : TE := fun σ H Q => ∃ v, σ[i]? = some (some v) /\ Q v H
def tC (v : V) : TE := fun _ H Q => Q v H
theorem W2 {i : Nat} {x : Str} {pos : Pos} (hN : X.N[i]? = some x) (hv : Vis X.env.scope x) (hd : (x == ("__debug__" : Str)) = false := by decide) (hcd : (x == ("__classdict__" : Str)) = false := by decide) : PE X (.Name x pos) (tVar i) := by
 intro pins s σ H Q I h
 obtain ⟨v, e, h⟩ := h
 obtain ⟨m, hn, hl⟩ := I.loc
 obtain ⟨u, r, l⟩ := hl i x v hN e hv
 have fin : EP X pins σ Q u s := ⟨v, H, I, r, h⟩
 rcases l with ⟨hk, hm⟩ | ⟨hk, c, hc, hcell⟩
 ·exact wpAny_Name (wpAny_loadName_local I.ok.kind hk hn hm fin) hd
 ·rcases hk with hk | hk
  ·exact wpAny_Name (wpAny_loadName_cell I.ok.kind hk hc hcell fin) hd
  ·exact wpAny_Name (wpAny_loadName_free I.ok.kind hk hc hcell fin hcd) hd
theorem pe_int {i j pos} : PE X (.Constant (.int i) j pos) (tC (.int i)) := fun _ _ _ H _ I h => wpAny_Constant_int ⟨.int i, H, I.tok _, ⟨_, rfl⟩, h⟩
theorem pe_bl {b j pos} : PE X (.Constant (.bool b) j pos) (tC (.bl b)) := fun _ _ _ H _ I h => Constant_bool ⟨.bl b, H, I, rfl, h⟩
theorem pe_non {j pos} : PE X (.Constant .none j pos) (tC .non) := fun _ _ _ H _ I h => Constant_none ⟨.non, H, I, rfl, h⟩
theorem pe_str {x j pos} : PE X (.Constant (.str x) j pos) (tC (.str x)) := fun _ _ _ H _ I h => Calls.Constant_str ⟨.str x, H, I.tok _, ⟨_, rfl⟩, h⟩
def Gl (X : Cx) (x : Str) : Prop := X.env.kindOf x = some .globalImplicit
theorem YZ {E : Value -> Shared -> Prop} {pins : List (Addr × Obj)} {s : Shared} {σ : St} {H : Hp} {x : Str} {u : Value} {pos : Pos} {Q : Value -> Shared -> Prop} (I : Inv X pins σ H s) (hg : Gl X x) (hm : X.mg x = some u) (h : Q u s)
  (hd : (x == ("__debug__" : Str)) = false := by decide) : wpAny (model X.prog X.w) X.A (eval (.Name x pos) X.env) Q E s :=
 Calls.Name_function_global I.ok.kind hg (Calls.loadGlobal_global (by rw [I.ok.glob]; exact I.mod.glob.keeps I.bk) hm h) hd
theorem W5 {E : Value -> Shared -> Prop} {pins : List (Addr × Obj)} {s : Shared} {σ : St} {H : Hp} {x : Str} {u : Value} {pos : Pos} {Q : Value -> Shared -> Prop} (I : Inv X pins σ H s) (hg : Gl X x) (hm : X.mg x = none) (hv : bootBuiltins x = some u) (h : Q u s)
  (hn : x ≠ "__name__" := by decide) (hd : (x == ("__debug__" : Str)) = false := by decide) : wpAny (model X.prog X.w) X.A (eval (.Name x pos) X.env) Q E s := by
 obtain ⟨mb, h1, h2⟩ := I.mod.blt
 exact Calls.Name_function_global I.ok.kind hg (Calls.loadGlobal_builtin (by rw [I.ok.glob]; exact I.mod.glob.keeps I.bk) hm (by rw [I.ok.blt]; exact h1.keeps I.bk) ((h2 x hn).trans hv) h) hd
theorem pe_glob {x : Str} {v : V} {u : Value} {pos : Pos} (hg : Gl X x) (hm : X.mg x = some u) (r : RelV v u) (hd : (x == ("__debug__" : Str)) = false := by decide) : PE X (.Name x pos) (tC v) :=
 fun _ _ _ H _ I h => YZ I hg hm ⟨v, H, I, r, h⟩ hd
theorem VU {x : Str} {v : V} {u : Value} {pos : Pos} (hg : Gl X x) (hm : X.mg x = none) (hv : bootBuiltins x = some u) (r : RelV v u) (hn : x ≠ "__name__" := by decide) (hd : (x == ("__debug__" : Str)) = false := by decide) : PE X (.Name x pos) (tC v) :=
 fun _ _ _ H _ I h => W5 I hg hm hv ⟨v, H, I, r, h⟩ hn hd
variable {a b : Expr} {ta tb : TE} {pos : Pos}
variable {tA tB' : TT} {rest : List Expr}
def tOr (t u : TT) : TT := fun σ H Q => t σ H fun c H1 => if c = true then Q true H1 else u σ H1 Q
def tNot (t : TT) : TT := fun σ H Q => t σ H fun c H1 => Q (!c) H1
theorem pw_or1 (ha : PT X a tA) : PW X (.BoolOp .Or [a] pos) tA := by
 intro wh pins s σ H Q I h
 refine isTrue_or (thn (ha pins s σ H Q I h) fun c s1 e => ?_)
 cases c with
 | false => exact isTrue_or_nil e
 | true => exact e
theorem pw_or (ha : PT X a tA) (hb : PW X (.BoolOp .Or (b :: rest) pos) tB') : PW X (.BoolOp .Or (a :: b :: rest) pos) (tOr tA tB') := by
 intro wh pins s σ H Q I h
 refine isTrue_or (thn (ha pins s σ H _ I h) fun c s1 ⟨H1, I1, q1⟩ => ?_)
 cases c with
 | true => exact ⟨H1, I1, q1⟩
 | false => exact hb wh pins s1 σ H1 Q I1 q1
theorem pt_not (ha : PT X a tA) : PT X (.UnaryOp .Not a pos) (tNot tA) := by
 intro pins s σ H Q I h
 exact isTrue_not (ha pins s σ H (fun c H1 => Q (!c) H1) I h)
def tAndV (ta tb : TE) : TE := fun σ H Q => ta σ H fun x H1 => ∃ c, x = .bl c /\ if c = true then tb σ H1 Q else Q (.bl false) H1
def tNotV (ta : TE) : TE := fun σ H Q => ta σ H fun x H1 => ∃ c, x = .bl c /\ Q (.bl (!c)) H1
theorem pe_one {op} {t : TE} (h : PE X a t) : PE X (.BoolOp op [a] pos) t := fun pins s σ H Q I hw => BoolOp_one (h pins s σ H Q I hw)
theorem pe_and (ha : PE X a ta) (hb : PE X (.BoolOp .And (b :: rest) pos) tb) : PE X (.BoolOp .And (a :: b :: rest) pos) (tAndV ta tb) := by
 intro pins s σ H Q I h
 refine BoolOp_and (thn (ha pins s σ H _ I h) fun v s1 ⟨x, H1, I1, r1, q1⟩ => ?_)
 obtain ⟨c, rfl, q1⟩ := q1
 cases r1
 refine wpAny_truthy_bool ?_
 cases c with
 | true => exact hb pins s1 σ H1 Q I1 q1
 | false => exact ⟨.bl false, H1, I1, rfl, q1⟩
theorem pe_not (ha : PE X a ta) : PE X (.UnaryOp .Not a pos) (tNotV ta) := by
 intro pins s σ H Q I h
 refine UnaryOp_ (thn (ha pins s σ H _ I h) fun v s1 ⟨x, H1, I1, r1, q1⟩ => ?_)
 obtain ⟨c, rfl, q1⟩ := q1
 cases r1
 exact not_of (wpAny_truthy_bool ⟨.bl (!c), H1, I1, rfl, q1⟩)
end
end L2
namespace L2
open PySem PySem.Spec PyProof.Rows
def SqL (K : PySem.W.Frag) (H : Hp) (a : Addr) (xs : List V) : Prop :=
 Rd H a (.lst xs) \/
  ∃ (o : Obj) (its : Array Value) (n : Nat), K.lookup a = some o /\ o.cls = .type "list" /\ o.dict = none /\ o.data = .seq its n /\ its.size <= sizeLine /\ Vals xs its.toList
def SqT (K : PySem.W.Frag) (H : Hp) (a : Addr) (xs : List V) : Prop :=
 Rd H a (.tup xs) \/
  ∃ (o : Obj) (its : Array Value) (n : Nat), K.lookup a = some o /\ o.cls = .type "tuple" /\ o.data = .seq its n /\ its.size <= sizeLine /\ Vals xs its.toList
def absV : Value -> Option V
 | .none => some .non
 | .bool b => some (.bl b)
 | .int i _ => some (.int i)
 | .str x _ => some (.str x)
 | .bytes b _ => some (.byt b)
 | .float b _ => some (.flt b)
 | .ref a => some (.ref a)
 | .type n => some (.ty n)
 | _ => none
theorem RelV.abs {x : V} {u : Value} (r : RelV x u) : absV u = some x := by
 cases x with
 | non => cases r; rfl
 | bl _ => cases r; rfl
 | int _ => obtain ⟨t, rfl⟩ := r; rfl
 | str _ => obtain ⟨t, rfl⟩ := r; rfl
 | byt _ => obtain ⟨t, rfl⟩ := r; rfl
 | flt _ => obtain ⟨t, rfl⟩ := r; rfl
 | ref _ => cases r; rfl
 | ty _ => cases r; rfl
theorem RelV.inj {x y : V} {u : Value} (r : RelV x u) (q : RelV y u) : x = y := Option.some.inj (r.abs.symm.trans q.abs)
theorem Vals.inj : ∀ {xs ys : List V} {us : List Value}, Vals xs us -> Vals ys us -> xs = ys
 | _, _, _, .nil, .nil => rfl
 | _, _, _, .cons r t, .cons r' t' => by rw [r.inj r', Vals.inj t t']
section
variable {X : Cx} {pins : List (Addr × Obj)} {σ : St} {H : Hp} {s : Shared} {a : Addr} {xs ys : List V}
theorem SqL.of {K : PySem.W.Frag} (h : H a = some (.lst xs)) : SqL K H a xs := .inl (.inl h)
theorem Inv.list (I : Inv X pins σ H s) (h : SqL X.K H a xs) : ∃ its : List Value, Vals xs its /\ PlainL s.heap a its.toArray /\ xs.length <= sizeLine := by
 rcases h with h | ⟨o, its, n, hk, hc, hd, hs, hz, r⟩
 ·obtain ⟨z, its, n, r, e⟩ := h.ok I.hok
  exact ⟨its, r, ⟨_, n, e, rfl, rfl, rfl⟩, z⟩
 ·refine ⟨its.toList, r, ⟨o, n, I.kIn a o hk, hc, hd, by simpa using hs⟩, ?_⟩
  have e := r.length
  simp only [Array.length_toList] at e
  omega
theorem Inv.tuple (I : Inv X pins σ H s) (h : SqT X.K H a xs) : ∃ its : List Value, Vals xs its /\ IsTup s.heap a its.toArray /\ xs.length <= sizeLine := by
 rcases h with h | ⟨o, its, n, hk, hc, hs, hz, r⟩
 ·obtain ⟨z, its, r, p⟩ := h.ok I.hok
  exact ⟨its, r, p, z⟩
 ·refine ⟨its.toList, r, ⟨o, I.kIn a o hk, hc, n, by simpa using hs⟩, ?_⟩
  have e := r.length
  simp only [Array.length_toList] at e
  omega
theorem Inv.list_inj (I : Inv X pins σ H s) (h : SqL X.K H a xs) (h' : SqL X.K H a ys) : xs = ys := by
 obtain ⟨its, r, ⟨o, n, e, _, _, d⟩, _⟩ := I.list h
 obtain ⟨its', r', ⟨o', n', e', _, _, d'⟩, _⟩ := I.list h'
 rw [e] at e'; cases e'
 rw [d] at d'
 injection d' with d1 _
 have : its = its' := by simpa using congrArg Array.toList d1
 subst this
 exact r.inj r'
theorem Inv.tuple_inj (I : Inv X pins σ H s) (h : SqT X.K H a xs) (h' : SqT X.K H a ys) : xs = ys := by
 obtain ⟨its, r, ⟨o, e, _, n, d⟩, _⟩ := I.tuple h
 obtain ⟨its', r', ⟨o', e', _, n', d'⟩, _⟩ := I.tuple h'
 rw [e] at e'; cases e'
 rw [d] at d'
 injection d' with d1 _
 have : its = its' := by simpa using congrArg Array.toList d1
 subst this
 exact r.inj r'
end
abbrev Cx.wish (X : Cx) (E : Value -> Shared -> Prop) : Cx := { X with xe := E }
abbrev Cx.nox (X : Cx) : Cx := X.wish fun _ _ => False
theorem Cx.Ok.wish {X : Cx} (ok : X.Ok) (E : Value -> Shared -> Prop) : (X.wish E).Ok :=
 ⟨ok.mod, ok.kind, ok.glob, ok.blt, ok.above, ok.inj, ok.has, ok.cab, ok.hd, ok.frames, ok.stk, ok.exf, ok.bs, ok.bsz, ok.noex, ok.exfs, ok.funs, ok.frf⟩
theorem Cx.Ok.unwish {X : Cx} {E : Value -> Shared -> Prop} (ok : (X.wish E).Ok) : X.Ok :=
 ⟨ok.mod, ok.kind, ok.glob, ok.blt, ok.above, ok.inj, ok.has, ok.cab, ok.hd, ok.frames, ok.stk, ok.exf, ok.bs, ok.bsz, ok.noex, ok.exfs, ok.funs, ok.frf⟩
section
variable {X : Cx} {pins : List (Addr × Obj)} {σ : St} {H : Hp} {s : Shared} {E : Value -> Shared -> Prop}
theorem Inv.wish (I : Inv X pins σ H s) (E : Value -> Shared -> Prop) : Inv (X.wish E) pins σ H s := ⟨I.ok.wish E, I.os, I.bare, I.base, I.loc, I.cell, I.free, I.freeC, I.pin, I.hok, I.len⟩
theorem Inv.unwish (I : Inv (X.wish E) pins σ H s) : Inv X pins σ H s := ⟨I.ok.unwish, I.os, I.bare, I.base, I.loc, I.cell, I.free, I.freeC, I.pin, I.hok, I.len⟩
theorem SP.unwish {D : Ends} {f : Flow} {s' : Shared} (h : SP (X.wish E) pins D f s') : SP X pins D f s' := by
 cases f with
 | next => obtain ⟨σ', H', I, q⟩ := h; exact ⟨σ', H', I.unwish, q⟩
 | brk => obtain ⟨σ', H', I, q⟩ := h; exact ⟨σ', H', I.unwish, q⟩
 | cont => obtain ⟨σ', H', I, q⟩ := h; exact ⟨σ', H', I.unwish, q⟩
 | ret u => obtain ⟨v, σ', H', I, r, q⟩ := h; exact ⟨v, σ', H', I.unwish, r, q⟩
theorem PSs.nox {st : List Stmt} {t : TS} (h : PSs X.nox st t) : PSs X st t := fun pins s σ H D I hw =>
 wpAny_mono (h pins s σ H D (I.wish _) hw) (fun _ _ q => q.unwish) fun _ _ z => False.elim z
end
section
variable {X : Cx} {st : Stmt} {rest : List Stmt} {t u : TS} {e : Expr} {te : TE} {pos : Pos}
def tNext : TS := fun D σ H => D.nx σ H
def tSeq (t u : TS) : TS := fun D σ H => t { D with nx := u D } σ H
theorem XR : PSs X [] tNext := fun _ _ σ H _ I h => wpAny_execs_nil ⟨σ, H, I, h⟩
theorem Yz (h1 : PS X st t) (h2 : PSs X rest u) : PSs X (st :: rest) (tSeq t u) := by
 intro pins s σ H D I h
 refine wpAny_execs_cons (thn (h1 pins s σ H { D with nx := u D } I h) fun f s1 q => ?_)
 cases f with
 | next =>
  obtain ⟨σ', H', I', q⟩ := q
  exact h2 pins s1 σ' H' D I' q
 | ret v => exact q
 | brk => exact q
 | cont => exact q
theorem pss_one (h1 : PS X st t) : PSs X [st] t := by
 intro pins s σ H D I h
 refine wpAny_execs_cons (thn (h1 pins s σ H D I h) fun f s1 q => ?_)
 cases f with
 | next => exact wpAny_execs_nil q
 | ret v => exact q
 | brk => exact q
 | cont => exact q
theorem Inv.quiet {pins : List (Addr × Obj)} {σ : St} {H : Hp} {s : Shared} (I : Inv X pins σ H s) : interactive X.env = false := by simp [interactive, I.ok.kind]
def tDrop (te : TE) : TS := fun D σ H => te σ H fun _ H1 => D.nx σ H1
theorem ps_expr (he : PE X e te) (hs : swapsWith e none pos.line X.env = pure false := by rfl) : PS X (.Expr e pos) (tDrop te) := by
 intro pins s σ H D I h
 exact wpAny_Expr_any (thn (he pins s σ H _ I h) fun v s1 ⟨x, H1, I1, r1, q1⟩ => ⟨σ, H1, I1, q1⟩) I.quiet hs
def tRet (te : TE) : TS := fun D σ H => te σ H D.rt
theorem ps_ret (he : PE X e te) : PS X (.Return (some e) pos) (tRet te) := by
 intro pins s σ H D I h
 exact wpAny_Return_some (thn (he pins s σ H _ I h) fun v s1 ⟨x, H1, I1, r1, q1⟩ => ⟨x, σ, H1, I1, r1, q1⟩)
def tIfS (c : TT) (t u : TS) : TS := fun D σ H => c σ H fun b H1 => if b = true then t D σ H1 else u D σ H1
theorem ps_if {c : Expr} {a b : List Stmt} {tc : TT} (hc : PT X c tc) (ha : PSs X a t) (hb : PSs X b u) : PS X (.If c a b pos) (tIfS tc t u) := by
 intro pins s σ H D I h
 refine wpAny_If (thn (hc pins s σ H _ I h) fun d s1 ⟨H1, I1, q1⟩ => ?_)
 cases d with
 | true => exact ha pins s1 σ H1 D I1 q1
 | false => exact hb pins s1 σ H1 D I1 q1
def tNever : TS := fun _ _ _ => False
theorem ps_never : PS X st tNever := fun _ _ _ _ _ _ h => h.elim
end
abbrev TG := V -> St -> Hp -> (St -> Hp -> Prop) -> Prop
def PG (X : Cx) (target : Expr) (t : TG) : Prop :=
 ∀ (pins : List (Addr × Obj)) (s : Shared) (σ : St) (H : Hp) (v : V) (u : Value) (Q : St -> Hp -> Prop), Inv X pins σ H s -> RelV v u -> t v σ H Q ->
  wpAny (model X.prog X.w) X.A (assign target X.env u) (fun _ s' => ∃ σ' H', Inv X pins σ' H' s' /\ Q σ' H') X.xe s
abbrev TSet := V -> V -> V -> Hp -> (Hp -> Prop) -> Prop
def PSet (X : Cx) (t : TSet) : Prop :=
 ∀ (pins : List (Addr × Obj)) (s : Shared) (σ : St) (H : Hp) (o i v : V) (ov iv u : Value) (Q : Hp -> Prop), Inv X pins σ H s -> RelV o ov -> RelV i iv -> RelV v u -> t o i v H Q ->
  wpAny (model X.prog X.w) X.A (setItem ov iv u) (fun _ s' => ∃ H', Inv X pins σ H' s' /\ Q H') X.xe s
section
variable {X : Cx} {pos : Pos}
def gName (i : Nat) : TG := fun v σ H Q => Q (σ.set i (some v)) H
theorem pg_name {i : Nat} {x : Str} (hN : X.N.Nodup) (hi : X.N[i]? = some x) (hx : Loc X.env.scope x) (hf : X.fn x = true \/ X.env.scope.names.lookup x = some .local := by first | exact .inl rfl | exact .inr rfl | assumption) : PG X (.Name x pos) (gName i) := by
 intro pins s σ H v u Q I r h
 exact wpAny_assign_Name (Xc I hN hi hx r (fun s' I' => ⟨_, H, I', h⟩) hf)
def gSub (to ti : TE) (t : TSet) : TG := fun v σ H Q => to σ H fun o H1 => ti σ H1 fun i H2 => t o i v H2 fun H3 => Q σ H3
theorem pg_sub {o i : Expr} {to ti : TE} {t : TSet} (ho : PE X o to) (hi : PE X i ti) (hs : PSet X t)
  (ha : ∀ v, assign (.Subscript o i pos) X.env v = (do
   let ov <- holding [v] (eval o X.env)
   let iv <- holding [v, ov] (eval i X.env)
   standAt pos
   holding [v, ov, iv] (setItem ov iv v)
   release [v, ov, iv] []) := by intro _; rfl) : PG X (.Subscript o i pos) (gSub to ti t) := by
 intro pins s σ H v u Q I r h
 rw [ha]
 refine wpAny_bind (wpAny_holding (thn (ho pins s σ H _ I h) fun ov s1 ⟨x, H1, I1, r1, q1⟩ => ?_))
 refine wpAny_bind (wpAny_holding (thn (hi pins s1 σ H1 _ I1 q1) fun iv s2 ⟨y, H2, I2, r2, q2⟩ => ?_))
 refine wpAny_bind (wpAny_standAt (wpAny_bind (wpAny_holding (thn (hs pins s2 σ H2 x y v ov iv u _ I2 r1 r2 r q2) fun _ s3 ⟨H3, I3, q3⟩ => ?_))))
 exact wpAny_release ⟨σ, H3, I3, q3⟩
def tAsg (te : TE) (g : TG) : TS := fun D σ H => te σ H fun x H1 => g x σ H1 D.nx
theorem ps_asg {tg e : Expr} {te : TE} {g : TG} (he : PE X e te) (hg : PG X tg g) (hs : swapsWithSole [tg] e pos.line X.env = pure false := by rfl) (hw : swappedStores [tg] e X.env = pure none := by rfl)
  (h1 : (assignEach [tg] X.env).map (·.2) = [assign tg X.env] := by rfl) : PS X (.Assign [tg] e pos) (tAsg te g) := by
 intro pins s σ H D I h
 refine wpAny_Assign_stores (thn (he pins s σ H _ I h) fun v s1 ⟨x, H1, I1, r1, q1⟩ => ?_) hs hw
 rw [h1]
 exact thn (hg pins s1 σ H1 x v _ I1 r1 q1) fun _ s2 q => q
theorem ps_set {i : Nat} {x : Str} {e : Expr} {te : TE} {pos' : Pos} (hN : X.N.Nodup) (hi : X.N[i]? = some x) (hx : Loc X.env.scope x) (he : PE X e te) (hs : swapsWith e (some (.Name x pos')) pos.line X.env = pure false := by rfl) (hf : X.fn x = true \/ X.env.scope.names.lookup x = some .local := by first | exact .inl rfl | exact .inr rfl | assumption) :
  PS X (.Assign [.Name x pos'] e pos) (tAsg te (gName i)) := by
 intro pins s σ H D I h
 refine wpAny_Assign_Name (thn (he pins s σ H _ I h) fun v s1 ⟨y, H1, I1, r1, q1⟩ => ?_) hs
 exact Xc I1 hN hi hx r1 (fun s2 I2 => ⟨_, H1, I2, q1⟩) hf
end
structure It where
 go : Nat -> Hp -> Prop
 yld : Nat -> Hp -> V -> Hp -> Prop
 stop : Nat -> Hp -> Prop
def FpOk (X : Cx) (pins : List (Addr × Obj)) (H : Hp) (b : Addr) : Prop :=
 H b = none /\ b ≠ X.env.locals /\ b ∉ X.fs /\ (b ∈ X.ex \/ X.s₀.heap.objs.size <= b) /\ (∀ x c, X.env.cells.lookup x = some c -> c ≠ b) /\ ∀ p ∈ X.pn ++ pins, p.1 ≠ b
theorem Inv.fpOk {X : Cx} {pins : List (Addr × Obj)} {σ : St} {H H' : Hp} {s : Shared} {b : Addr} (I : Inv X pins σ H s) (hb : s.heap.objs.size <= b) (hn : H' b = none) : FpOk X pins H' b := by
 refine ⟨hn, Nat.ne_of_gt (Nat.lt_of_lt_of_le I.lt hb), I.nofs hb, .inr (Nat.le_trans I.sz hb), fun x c e z => ?_, fun p hp z => ?_⟩
 ·obtain ⟨v, q⟩ := I.cell x c e
  exact absurd (Nat.lt_of_lt_of_le q.lt (by rw [z]; exact hb)) (Nat.lt_irrefl _)
 ·exact absurd (Nat.lt_of_lt_of_le (Heap.lt_size (I.pin p hp).1) (by rw [z]; exact hb)) (Nat.lt_irrefl _)
structure Turn (P : Program) (w : World) (K : PySem.W.Frag) (tg : Expr) (J : It) (fp : List Addr) (it : Addr) (tn : Nat -> Heap -> Prop) : Prop where
 mem : it ∈ fp
 obj : ∀ i h, tn i h -> ∀ b ∈ fp, ∃ o, h.get? b = some o /\ ∀ v, o.data ≠ .cell v
 keep : ∀ i h h', tn i h -> (∀ b ∈ fp, ∀ o, h.get? b = some o -> h'.get? b = some o) -> tn i h'
 item : ∀ (X : Cx), X.prog = P -> X.w = w -> X.K = K -> X.calm = true -> ∀ (i : Nat) (pins : List (Addr × Obj)) (s : Shared) (σ : St) (H : Hp) (E : Value -> Shared -> Prop), Inv X pins σ H s -> (∀ b ∈ fp, FpOk X pins H b) -> tn i s.heap -> J.go i H ->
  wpAny (model P w) X.A (pyNext (.ref it)) (fun r s1 => ∃ u, r = some u /\
   wpAny (model P w) X.A (letOwnedTupleGo tg (.ref it) u) (fun _ s2 => ∃ x H', Inv X pins σ H' s2 /\ RelV x u /\ J.yld i H x H' /\ tn (i + 1) s2.heap /\ ∀ b ∈ fp, H' b = none) E s1) E s
 done : ∀ (X : Cx), X.prog = P -> X.w = w -> X.K = K -> X.calm = true -> ∀ (i : Nat) (pins : List (Addr × Obj)) (s : Shared) (σ : St) (H : Hp) (E : Value -> Shared -> Prop), Inv X pins σ H s -> (∀ b ∈ fp, FpOk X pins H b) -> tn i s.heap -> J.stop i H ->
  wpAny (model P w) X.A (pyNext (.ref it)) (fun r s1 => r = none /\ Inv X pins σ H s1) E s
 self : ∀ (A : Around) (i : Nat) (s : Shared) (Q : Value -> Shared -> Prop) (E : Value -> Shared -> Prop), tn i s.heap -> Q (.ref it) s -> wpAny (model P w) A (pyIter (.ref it)) Q E s
abbrev TI := St -> Hp -> (It -> Hp -> Prop) -> Prop
def PIE (X : Cx) (pins : List (Addr × Obj)) (σ : St) (tg : Expr) (R : It -> Hp -> Prop) (itv : Value) (s2 : Shared) : Prop :=
 ∃ (it : Addr) (fp : List Addr) (tn : Nat -> Heap -> Prop) (J : It) (H' : Hp), itv = .ref it /\ Inv X pins σ H' s2 /\ Turn X.prog X.w X.K tg J fp it tn /\ tn 0 s2.heap /\ (∀ b ∈ fp, FpOk X pins H' b) /\ R J H'
def PI (X : Cx) (tg iter : Expr) (wi : TI) : Prop :=
 ∀ (pins : List (Addr × Obj)) (s : Shared) (σ : St) (H : Hp) (R : It -> Hp -> Prop), Inv X pins σ H s -> wi σ H R ->
  wpAny (model X.prog X.w) X.A (eval iter X.env) (fun v s1 => wpAny (model X.prog X.w) X.A (pyIter v) (PIE X pins σ tg R) X.xe s1) X.xe s
theorem go_of {M : Model} {A : Around} {E : Value -> Shared -> Prop} {s : Shared} {tg : Expr} {it : Addr} {u : Value} {o : Obj} {n : String} {vs : Array Value} {Q : Unit -> Shared -> Prop} (ho : s.heap.get? it = some o) (hc : o.cls = .type n) (hd : o.data = .fields vs)
  (hn : ["enumerate", "zip", "dict_itemiterator", "dict_reverseitemiterator", "odict_iterator", "itertools.zip_longest", "itertools.pairwise"].contains n = false) (hQ : Q () s) : wpAny M A (letOwnedTupleGo tg (.ref it) u) Q E s := by
 unfold letOwnedTupleGo
 cases tg <;> first
  | exact wpAny_pure hQ
  | (cases u <;> first
    | exact wpAny_pure hQ
    | (refine wpAny_bind (wpAny_load ho ?_)
       rw [hc, hd]
       show wpAny M A (if (["enumerate", "zip", "dict_itemiterator", "dict_reverseitemiterator", "odict_iterator", "itertools.zip_longest", "itertools.pairwise"].contains n && vs[0]? == some (rawInt _)) = true then _ else _) Q E s
       rw [if_neg (by intro h; rw [hn, Bool.false_and] at h; cases h)]
       exact wpAny_pure hQ))
def Itl (K : PySem.W.Frag) (a : Addr) : It :=
 ⟨fun i H => ∃ xs x, SqL K H a xs /\ xs[i]? = some x, fun i H x H' => H' = H /\ ∀ xs, SqL K H a xs -> xs[i]? = some x, fun i H => ∃ xs, SqL K H a xs /\ xs.length <= i⟩
def Itt (K : PySem.W.Frag) (a : Addr) : It :=
 ⟨fun i H => ∃ xs x, SqT K H a xs /\ xs[i]? = some x, fun i H x H' => H' = H /\ ∀ xs, SqT K H a xs -> xs[i]? = some x, fun i H => ∃ xs, SqT K H a xs /\ xs.length <= i⟩
def Itr (lo : Int) (n : Nat) : It := ⟨fun i _ => i < n, fun i H x H' => H' = H /\ x = .int (lo + i), fun i _ => n <= i⟩
theorem VF {P : Program} {w : World} {K : PySem.W.Frag} {tg : Expr} (a it : Addr) : Turn P w K tg (Itl K a) [it] it (fun i h => h.IsListIter it a i) where
 mem := by simp
 obj := fun i h st b hb => by
  have e : b = it := by simpa using hb
  subst e
  obtain ⟨o, e, c, d⟩ := st
  exact ⟨o, e, fun v z => by rw [d] at z; cases z⟩
 keep := fun i h h' st k => st.at fun o e => k it (by simp) o e
 item := by
  intro X hP hw hK hc i pins s σ H E I hf st hg
  subst hP hw hK
  obtain ⟨xs, x, hq, hx⟩ := hg
  obtain ⟨its, rv, p, hz⟩ := I.list hq
  obtain ⟨u, hu, ru⟩ := rv.get hx
  obtain ⟨f0, f1, f2, f3, f4, f5⟩ := hf it (by simp)
  refine wpAny_pyNext_list_item st p.isList (x := u) (by simpa using hu) fun h' st' sb => ?_
  have I1 : Inv X pins σ H { s with heap := h' } := I.turned (t' := s.toks) (fun b o hb e => (sb.2 b hb).trans e) f0 f1 f3 f4 f5
  obtain ⟨o, e, c, d⟩ := id st'
  exact ⟨u, rfl, go_of (s := { s with heap := h' }) e c d (by decide) ⟨x, H, I1, ru, ⟨rfl, fun ys hy => by rw [I.list_inj hy hq]; exact hx⟩, st', fun b hb => (hf b hb).1⟩⟩
 done := by
  intro X hP hw hK hc i pins s σ H E I hf st hg
  subst hP hw hK
  obtain ⟨xs, hq, hx⟩ := hg
  obtain ⟨its, rv, p, hz⟩ := I.list hq
  obtain ⟨f0, f1, f2, f3, f4, f5⟩ := hf it (by simp)
  have hl := rv.length
  exact wpAny_pyNext_list_end (I.ok.hd hc) st p.isList (by simp; omega) fun h' eb => ⟨rfl, I.turned (t' := s.toks) (fun b o hb e => eb b o hb e) f0 f1 f3 f4 f5⟩
 self := fun _ _ _ _ _ st h => wpAny_pyIter_listiter st h
theorem Vk {P : Program} {w : World} {K : PySem.W.Frag} {tg : Expr} (a it : Addr) : Turn P w K tg (Itt K a) [it] it (fun i h => h.IsTupleIter it a i) where
 mem := by simp
 obj := fun i h st b hb => by
  have e : b = it := by simpa using hb
  subst e
  obtain ⟨o, e, c, d⟩ := st
  exact ⟨o, e, fun v z => by rw [d] at z; cases z⟩
 keep := fun i h h' st k => st.at fun o e => k it (by simp) o e
 item := by
  intro X hP hw hK hc i pins s σ H E I hf st hg
  subst hP hw hK
  obtain ⟨xs, x, hq, hx⟩ := hg
  obtain ⟨its, rv, p, hz⟩ := I.tuple hq
  obtain ⟨u, hu, ru⟩ := rv.get hx
  obtain ⟨f0, f1, f2, f3, f4, f5⟩ := hf it (by simp)
  refine wpAny_pyNext_tuple_item st (show s.heap.IsTuple a its.toArray from p) (x := u) (by simpa using hu) fun h' st' sb => ?_
  have I1 : Inv X pins σ H { s with heap := h' } := I.turned (t' := s.toks) (fun b o hb e => (sb.2 b hb).trans e) f0 f1 f3 f4 f5
  obtain ⟨o, e, c, d⟩ := id st'
  exact ⟨u, rfl, go_of (s := { s with heap := h' }) e c d (by decide) ⟨x, H, I1, ru, ⟨rfl, fun ys hy => by rw [I.tuple_inj hy hq]; exact hx⟩, st', fun b hb => (hf b hb).1⟩⟩
 done := by
  intro X hP hw hK hc i pins s σ H E I hf st hg
  subst hP hw hK
  obtain ⟨xs, hq, hx⟩ := hg
  obtain ⟨its, rv, p, hz⟩ := I.tuple hq
  obtain ⟨f0, f1, f2, f3, f4, f5⟩ := hf it (by simp)
  have hl := rv.length
  exact wpAny_pyNext_tuple_end (I.ok.hd hc) st (show s.heap.IsTuple a its.toArray from p) (by simp; omega) fun h' eb => ⟨rfl, I.turned (t' := s.toks) (fun b o hb e => eb b o hb e) f0 f1 f3 f4 f5⟩
 self := fun _ _ _ _ _ st h => wpAny_pyIter_tupleiter st h
theorem Vl {P : Program} {w : World} {K : PySem.W.Frag} {tg : Expr} (it : Addr) (lo : Int) (n : Nat) : Turn P w K tg (Itr lo n) [it] it (fun i h => IsRangeIter h it (lo + (i : Nat) * 1) ((n : Int) - (i : Nat)) 1) where
 mem := by simp
 obj := fun i h st b hb => by
  have e : b = it := by simpa using hb
  subst e
  exact ⟨_, st, fun v z => by
   have z' : Data.fields _ = Data.cell v := z
   cases z'⟩
 keep := fun i h h' st k => k it (by simp) _ st
 item := by
  intro X hP hw hK hc i pins s σ H E I hf st hg
  subst hP hw hK
  obtain ⟨f0, f1, f2, f3, f4, f5⟩ := hf it (by simp)
  have W := Walks.range (prog := X.prog) (w := X.w) (I.ok.hd hc) it lo 1 n
  refine W.item i s _ _ hg st fun v h' tk hv st' kk => ?_
  obtain ⟨t, rfl⟩ := hv
  have I1 : Inv X pins σ H { s with heap := h', toks := tk } := I.turned (fun b o hb e => kk b o (by simpa using hb) e) f0 f1 f3 f4 f5
  refine ⟨_, rfl, go_of (s := { s with heap := h', toks := tk }) (n := "range_iterator") st' rfl rfl (by decide) ⟨.int (lo + i), H, I1, ⟨t, ?_⟩, ⟨rfl, rfl⟩, st', fun b hb => (hf b hb).1⟩⟩
  rw [Int.mul_one]
 done := by
  intro X hP hw hK hc i pins s σ H E I hf st hg
  subst hP hw hK
  obtain ⟨f0, f1, f2, f3, f4, f5⟩ := hf it (by simp)
  exact wpAny_pyNext_range_end (I.ok.hd hc) st (by have : n <= i := hg; omega) fun h' eb => ⟨rfl, I.turned (t' := s.toks) (fun b o hb e => eb b o hb e) f0 f1 f3 f4 f5⟩
 self := fun _ _ _ _ _ st h => wpAny_pyIter_rangeiter st h
end L2
namespace L2
open PySem PySem.Spec PyProof.Rows
section
variable {X : Cx} {tg : Expr}
theorem range_it {pins : List (Addr × Obj)} {σ : St} {H : Hp} {s : Shared} {R : It -> Hp -> Prop} {E : Value -> Shared -> Prop} {lo hi : Int} {t u v : Tok} {tk : Nat} (I : Inv X pins σ H s) (h1 : -(2 ^ 62) <= lo) (h2 : lo < 2 ^ 62) (h3 : -(2 ^ 62) <= hi) (h4 : hi < 2 ^ 62)
  (q : R (Itr lo (hi - lo).toNat) H) : wpAny (model X.prog X.w) X.A (pyIter (.ref s.heap.objs.size)) (PIE X pins σ tg R) E { s with heap := s.heap.push { cls := .type "range", data := .fields #[.int lo t, .int hi u, .int 1 v] }, toks := tk } := by
 refine wpAny_pyIter_range (IsRange.new ..) (small_one h1 h2 h3 h4) ?_
 have I1 : Inv X pins σ H { s with heap := s.heap.push { cls := .type "range", data := .fields #[.int lo t, .int hi u, .int 1 v] }, toks := tk } := I.kept fun b o e => Heap.get?_push_of_some _ e
 refine ⟨(s.heap.push { cls := .type "range", data := .fields #[.int lo t, .int hi u, .int 1 v] }).objs.size, [(s.heap.push { cls := .type "range", data := .fields #[.int lo t, .int hi u, .int 1 v] }).objs.size], _, _, H, rfl,
  I1.kept (t' := tk) fun b o e => Heap.get?_push_of_some _ e, Vl _ lo (hi - lo).toNat, ?_, fun b hb => ?_, q⟩
 ·have e1 : lo + ((0 : Nat) : Int) * 1 = lo := by simp
  have e2 : (((hi - lo).toNat : Nat) : Int) - ((0 : Nat) : Int) = Builtin.Range.rangeSize lo hi 1 := by rw [rangeSize_one]; split <;> omega
  show IsRangeIter _ _ (lo + ((0 : Nat) : Int) * 1) ((((hi - lo).toNat : Nat) : Int) - ((0 : Nat) : Int)) 1
  rw [e1, e2]
  exact Heap.get?_push_size _ rfl
 ·have e : b = (s.heap.push { cls := .type "range", data := .fields #[.int lo t, .int hi u, .int 1 v] }).objs.size := by simpa using hb
  subst e
  exact I1.fpOk (Nat.le_refl _) (I1.hok.fresh (Nat.le_refl _))
def iRng1 (ta : TA) : TI := fun σ H R => ta σ H fun vs H1 => ∃ j : Int, vs = [.int j] /\ -(2 ^ 62) <= j /\ j < 2 ^ 62 /\ R (Itr 0 j.toNat) H1
theorem VT {a : Expr} {ta : TA} {p pos : Pos} (hg : Gl X "range") (hm : X.mg "range" = none) (ha : PA X [a] ta) (hs : starEach [a] X.env = [(false, eval a X.env)] := by rfl) : PI X tg (.Call (.Name "range" p) [a] [] pos) (iRng1 ta) := by
 intro pins s σ H R I h
 refine Call_ (W5 I hg hm boot_range (PyProof.Rows.callWith_type1 (thn (ha pos pins s σ H _ I h) fun us s1 ⟨vs, H1, I1, r1, q1⟩ => ?_) hs rfl))
 obtain ⟨j, e, q1, q2, q⟩ := q1
 subst e
 cases r1 with
 | cons r rr =>
  cases rr
  obtain ⟨t, rfl⟩ := r
  exact call_range_1 (range_it I1 (by omega) (by omega) q1 q2 (by simpa using q))
def Zl (fp : List Addr) (h : Heap) : List (Addr × Obj) := fp.filterMap fun b => (h.get? b).map fun o => (b, o)
theorem Z6 {fp : List Addr} {h : Heap} {b : Addr} {o : Obj} (hb : b ∈ fp) (e : h.get? b = some o) : (b, o) ∈ Zl fp h := List.mem_filterMap.mpr ⟨b, hb, by rw [e]; rfl⟩
theorem V0 {fp : List Addr} {h : Heap} {p : Addr × Obj} (hp : p ∈ Zl fp h) : p.1 ∈ fp /\ h.get? p.1 = some p.2 := by
 obtain ⟨b, hb, e⟩ := List.mem_filterMap.mp hp
 cases q : h.get? b with
 | none => rw [q] at e; cases e
 | some o =>
  rw [q] at e
  have e' : (b, o) = p := Option.some.inj e
  subst e'
  exact ⟨hb, q⟩
theorem Inv.pinned {pins : List (Addr × Obj)} {σ : St} {H : Hp} {s : Shared} {fp : List Addr} (I : Inv X pins σ H s) (hf : ∀ b ∈ fp, FpOk X pins H b) (ho : ∀ b ∈ fp, ∃ o, s.heap.get? b = some o /\ ∀ v, o.data ≠ .cell v) : Inv X (pins ++ Zl fp s.heap) σ H s :=
 I.pins_of fun p hp => (List.mem_append.mp hp).elim (fun z => I.pin p (List.mem_append_right _ z)) fun z => by
  obtain ⟨hb, e⟩ := V0 z
  obtain ⟨f0, f1, f2, _⟩ := hf p.1 hb
  obtain ⟨o, e', d⟩ := ho p.1 hb
  rw [e] at e'; cases e'
  exact ⟨e, f0, f1, f2, d⟩
theorem Inv.unpinned {pins pl : List (Addr × Obj)} {σ : St} {H : Hp} {s : Shared} (I : Inv X (pins ++ pl) σ H s) : Inv X pins σ H s := I.pins_of fun p hp => I.pin p (List.mem_append_right _ (List.mem_append_left _ hp))
end
end L2
namespace L2
open PySem PySem.Spec PyProof.Rows
abbrev R2 := V -> V -> Hp -> VK -> Prop
def OpR (X : Cx) (f : Value -> Value -> Sem Value) (r : R2) : Prop :=
 ∀ (pins : List (Addr × Obj)) (s : Shared) (σ : St) (H : Hp) (x y : V) (v u : Value) (Q : VK), Inv X pins σ H s -> RelV x v -> RelV y u -> r x y H Q ->
  wpAny (model X.prog X.w) X.A (f v u) (EP X pins σ Q) X.xe s
def UnR (X : Cx) (f : Value -> Sem Value) (r : V -> Hp -> VK -> Prop) : Prop :=
 ∀ (pins : List (Addr × Obj)) (s : Shared) (σ : St) (H : Hp) (x : V) (v : Value) (Q : VK), Inv X pins σ H s -> RelV x v -> r x H Q ->
  wpAny (model X.prog X.w) X.A (f v) (EP X pins σ Q) X.xe s
def Xv (X : Cx) (f : Value) (r : List V -> Hp -> VK -> Prop) : Prop :=
 ∀ (pins : List (Addr × Obj)) (s : Shared) (σ : St) (H : Hp) (xs : List V) (us : List Value) (Q : VK), Inv X pins σ H s -> Vals xs us -> r xs H Q ->
  wpAny (model X.prog X.w) X.A (call f us) (EP X pins σ Q) X.xe s
def TruR (X : Cx) (r : V -> Hp -> (Bool -> Hp -> Prop) -> Prop) : Prop :=
 ∀ (pins : List (Addr × Obj)) (s : Shared) (σ : St) (H : Hp) (x : V) (v : Value) (Q : Bool -> Hp -> Prop), Inv X pins σ H s -> RelV x v -> r x H Q ->
  wpAny (model X.prog X.w) X.A (truthy v) (TP X pins σ Q) X.xe s
def tOp (r : R2) (ta tb : TE) : TE := fun σ H Q => ta σ H fun x H1 => tb σ H1 fun y H2 => r x y H2 Q
def tUn (r : V -> Hp -> VK -> Prop) (ta : TE) : TE := fun σ H Q => ta σ H fun x H1 => r x H1 Q
def rI (C : Int -> Int -> Prop) (g : Int -> Int -> V) : R2 := fun x y H Q => ∃ i j, x = .int i /\ y = .int j /\ C i j /\ Q (g i j) H
def rI0 (g : Int -> Int -> V) : R2 := fun x y H Q => ∃ i j, x = .int i /\ y = .int j /\ Q (g i j) H
def rU (g : Int -> V) : V -> Hp -> VK -> Prop := fun x H Q => ∃ i, x = .int i /\ Q (g i) H
section
variable {X : Cx} {a b c : Expr} {ta tb tc : TE} {pos : Pos}
theorem binT (ha : PE X a ta) (hb : PE X b tb) {pins : List (Addr × Obj)} {s : Shared} {σ : St} {H : Hp} {R : V -> V -> Hp -> Prop} (I : Inv X pins σ H s)
  (h : ta σ H fun x H1 => tb σ H1 fun y H2 => R x y H2) {Q : Value -> Shared -> Prop} {f : Value -> Value -> Sem Value}
  (hf : ∀ v u s2 x y H2, Inv X pins σ H2 s2 -> RelV x v -> RelV y u -> R x y H2 -> wpAny (model X.prog X.w) X.A (f v u) Q X.xe s2) :
  wpAny (model X.prog X.w) X.A (eval a X.env) (fun v s₁ => wpAny (model X.prog X.w) X.A (eval b X.env) (fun u s₂ => wpAny (model X.prog X.w) X.A (f v u) Q X.xe s₂) X.xe s₁) X.xe s := by
 refine thn (ha pins s σ H _ I h) fun v s1 ⟨x, H1, I1, r1, q1⟩ => ?_
 refine thn (hb pins s1 σ H1 _ I1 q1) fun u s2 ⟨y, H2, I2, r2, q2⟩ => ?_
 exact hf v u s2 x y H2 I2 r1 r2 q2
theorem pe_op {op : Operator} {r : R2} (ho : OpR X (binaryOp op) r) (ha : PE X a ta) (hb : PE X b tb) : PE X (.BinOp a op b pos) (tOp r ta tb) := by
 intro pins s σ H Q I h
 exact wpAny_BinOp (binT ha hb I h fun v u s2 x y H2 I2 rx ry q => ho pins s2 σ H2 x y v u Q I2 rx ry q)
theorem pe_un {op : UnaryOp} {r : V -> Hp -> VK -> Prop} (ho : UnR X (unaryOp op) r) (ha : PE X a ta) : PE X (.UnaryOp op a pos) (tUn r ta) := by
 intro pins s σ H Q I h
 exact UnaryOp_ (thn (ha pins s σ H _ I h) fun v s1 ⟨x, H1, I1, r1, q1⟩ => ho pins s1 σ H1 x v Q I1 r1 q1)
theorem opI {f : Value -> Value -> Sem Value} {C : Int -> Int -> Prop} {g : Int -> Int -> Int}
  (rule : ∀ (i j : Int) (t u : Tok) (s : Shared) (Q : Value -> Shared -> Prop) (E : Value -> Shared -> Prop), C i j -> Q (.int (g i j) s.toks) { s with toks := s.toks + 1 } -> wpAny (model X.prog X.w) X.A (f (.int i t) (.int j u)) Q E s) :
  OpR X f (rI C fun i j => .int (g i j)) := by
 intro pins s σ H x y v u Q I rx ry h
 obtain ⟨i, j, rfl, rfl, hc, q⟩ := h
 obtain ⟨t, rfl⟩ := rx
 obtain ⟨t', rfl⟩ := ry
 exact rule i j t t' s _ _ hc ⟨.int (g i j), H, I.tok _, ⟨_, rfl⟩, q⟩
theorem opI0 {f : Value -> Value -> Sem Value} {g : Int -> Int -> Int}
  (rule : ∀ (i j : Int) (t u : Tok) (s : Shared) (Q : Value -> Shared -> Prop) (E : Value -> Shared -> Prop), Q (.int (g i j) s.toks) { s with toks := s.toks + 1 } -> wpAny (model X.prog X.w) X.A (f (.int i t) (.int j u)) Q E s) :
  OpR X f (rI0 fun i j => .int (g i j)) := by
 intro pins s σ H x y v u Q I rx ry h
 obtain ⟨i, j, rfl, rfl, q⟩ := h
 obtain ⟨t, rfl⟩ := rx
 obtain ⟨t', rfl⟩ := ry
 exact rule i j t t' s _ _ ⟨.int (g i j), H, I.tok _, ⟨_, rfl⟩, q⟩
theorem opB0 {f : Value -> Value -> Sem Value} {g : Int -> Int -> Bool}
  (rule : ∀ (i j : Int) (t u : Tok) (s : Shared) (Q : Value -> Shared -> Prop) (E : Value -> Shared -> Prop), Q (.bool (g i j)) s -> wpAny (model X.prog X.w) X.A (f (.int i t) (.int j u)) Q E s) :
  OpR X f (rI0 fun i j => .bl (g i j)) := by
 intro pins s σ H x y v u Q I rx ry h
 obtain ⟨i, j, rfl, rfl, q⟩ := h
 obtain ⟨t, rfl⟩ := rx
 obtain ⟨t', rfl⟩ := ry
 exact rule i j t t' s _ _ ⟨.bl (g i j), H, I, rfl, q⟩
def CPow (i j : Int) : Prop := 0 <= j /\ j <= 1000000 /\ i.natAbs < 2 ^ 64
theorem op_add : OpR X (binaryOp .Add) (rI0 fun i j => .int (i + j)) := opI0 fun _ _ _ _ _ _ _ q => add_int q
theorem op_sub : OpR X (binaryOp .Sub) (rI0 fun i j => .int (i - j)) := opI0 fun _ _ _ _ _ _ _ q => sub_int q
theorem op_modN : OpR X (binaryOp .Mod) (rI (fun _ j => j ≠ 0) fun i j => .int (i.fmod j)) := opI fun _ _ _ _ _ _ _ hc q => mod_int' hc q
theorem op_pow : OpR X (binaryOp .Pow) (rI CPow fun i j => .int (i ^ j.toNat)) := opI fun _ _ _ _ _ _ _ hc q => pow_int_small hc.1 hc.2.1 hc.2.2 q
theorem unI {f : Value -> Sem Value} {g : Int -> Int}
  (rule : ∀ (i : Int) (t : Tok) (s : Shared) (Q : Value -> Shared -> Prop) (E : Value -> Shared -> Prop), Q (.int (g i) s.toks) { s with toks := s.toks + 1 } -> wpAny (model X.prog X.w) X.A (f (.int i t)) Q E s) :
  UnR X f (rU fun i => .int (g i)) := by
 intro pins s σ H x v Q I rx h
 obtain ⟨i, rfl, q⟩ := h
 obtain ⟨t, rfl⟩ := rx
 exact rule i t s _ _ ⟨.int (g i), H, I.tok _, ⟨_, rfl⟩, q⟩
theorem un_neg : UnR X (unaryOp .USub) (rU fun i => .int (-i)) := unI fun _ _ _ _ _ q => neg_int q
end
section
variable {X : Cx} {a b c : Expr} {ta tb tc : TE} {pos : Pos}
theorem op_lt : OpR X (compareOp .Lt) (rI0 fun i j => .bl (decide (i < j))) := opB0 fun _ _ _ _ _ _ _ q => lt_int q
theorem op_le : OpR X (compareOp .LtE) (rI0 fun i j => .bl (decide (i <= j))) := opB0 fun _ _ _ _ _ _ _ q => le_int q
theorem op_gt : OpR X (compareOp .Gt) (rI0 fun i j => .bl (decide (j < i))) := opB0 fun _ _ _ _ _ _ _ q => gt_int q
theorem OpR.or {f : Value -> Value -> Sem Value} {r r' : R2} (h : OpR X f r) (h' : OpR X f r') : OpR X f (fun x y H Q => r x y H Q \/ r' x y H Q) := by
 intro pins s σ H x y v u Q I rx ry q
 rcases q with q | q
 ·exact h pins s σ H x y v u Q I rx ry q
 ·exact h' pins s σ H x y v u Q I rx ry q
theorem ZR (b : Expr) {op : CmpOp} (h : op ≠ .In := by decide) (h2 : op ≠ .NotIn := by decide) : behindInMarks op b = false := by
 have e1 : (op == CmpOp.In) = false := by cases op <;> first | rfl | exact absurd rfl h
 have e2 : (op == CmpOp.NotIn) = false := by cases op <;> first | rfl | exact absurd rfl h2
 cases b <;> simp [behindInMarks, e1, e2]
theorem pe_cmpR {op : CmpOp} {r : R2} (ho : OpR X (compareOp op) r) (ha : PE X a ta) (hb : PE X b tb) (hm : behindInMarks op b = false) : PE X (.Compare a [op] [b] pos) (tOp r ta tb) := by
 intro pins s σ H Q I h
 exact wpAny_Compare1 (binT ha hb I h fun v u s2 x y H2 I2 rx ry q => ho pins s2 σ H2 x y v u Q I2 rx ry q) hm
def tTest (t : TE) : TT := fun σ H Q => t σ H fun x H' => ∃ k, x = .bl k /\ Q k H'
theorem pt_cmpR {op : CmpOp} {r : R2} (ho : OpR X (compareOp op) r) (ha : PE X a ta) (hb : PE X b tb) (hm : behindInMarks op b = false) : PT X (.Compare a [op] [b] pos) (tTest (tOp r ta tb)) := by
 intro pins s σ H Q I h
 refine wpAny_isTrue_Compare1 (thn (ha pins s σ H _ I h) fun v s1 ⟨x, H1, I1, r1, q1⟩ => thn (hb pins s1 σ H1 _ I1 q1) fun u s2 ⟨y, H2, I2, r2, q2⟩ =>
  thn (ho pins s2 σ H2 x y v u _ I2 r1 r2 q2) fun c s3 ⟨z, H3, I3, r3, k, e, q3⟩ => ?_) hm
 subst e
 cases r3
 exact wpAny_truthy_bool ⟨H3, I3, q3⟩
def TruV (K : PySem.W.Frag) (x : V) (H : Hp) (k : Bool) : Prop :=
 match x with
 | .non => k = false
 | .bl b => k = b
 | .int i => k = (i != 0)
 | .str y => y.length <= sizeLine /\ k = ((y.length : Int) != 0)
 | .byt y => y.size <= sizeLine /\ k = ((y.size : Int) != 0)
 | .ref p => (∃ xs, SqL K H p xs /\ k = !xs.isEmpty) \/ (∃ xs, SqT K H p xs /\ k = !xs.isEmpty) \/ ∃ kvs, H p = some (.dK kvs) /\ k = !kvs.isEmpty
 | _ => False
theorem Vu {κ : Type} {kvs : List (κ × V)} {vs : List (κ × Value)} (r : KV kvs vs) : (!vs.isEmpty) = !kvs.isEmpty := by
 cases r <;> rfl
theorem Xz {xs : List V} {its : List Value} (r : Vals xs its) : (!its.toArray.isEmpty) = !xs.isEmpty := by
 cases r <;> simp
theorem Wi : (sizeLine : Nat) < 2 ^ 63 := by rw [sizeLine_eq]; decide
theorem tru_ok : TruR X (fun x H Q => ∃ k, TruV X.K x H k /\ Q k H) := by
 intro pins s σ H x v Q I rx h
 obtain ⟨k, e, q⟩ := h
 have hl := Wi
 have hs : sizeLine = 16777216 := sizeLine_eq
 cases x with
 | non =>
  cases rx
  have e' : k = false := e
  subst e'
  exact truthy_none ⟨H, I, q⟩
 | bl b =>
  cases rx
  have e' : k = b := e
  subst e'
  exact wpAny_truthy_bool ⟨H, I, q⟩
 | int i =>
  obtain ⟨t, rfl⟩ := rx
  have e' : k = (i != 0) := e
  subst e'
  exact PySem.P.truthy_int ⟨H, I, q⟩
 | str y =>
  obtain ⟨t, rfl⟩ := rx
  obtain ⟨hy, e'⟩ : y.length <= sizeLine /\ k = ((y.length : Int) != 0) := e
  subst e'
  exact PySem.P.truthy_str (by omega) ⟨H, I.tok _, q⟩
 | byt y =>
  obtain ⟨t, rfl⟩ := rx
  obtain ⟨hy, e'⟩ : y.size <= sizeLine /\ k = ((y.size : Int) != 0) := e
  subst e'
  exact PySem.W.truthy_bytes (by omega) ⟨H, I.tok _, q⟩
 | ref p =>
  cases rx
  have e' : (∃ xs, SqL X.K H p xs /\ k = !xs.isEmpty) \/ (∃ xs, SqT X.K H p xs /\ k = !xs.isEmpty) \/ ∃ kvs, H p = some (.dK kvs) /\ k = !kvs.isEmpty := e
  rcases e' with ⟨xs, hx, e'⟩ | ⟨xs, hx, e'⟩ | ⟨kvs, hx, e'⟩
  ·subst e'
   obtain ⟨its, r, pl, hz⟩ := I.list hx
   have hlen := r.length
   exact wpAny_truthy_list pl.isList (by simp only [List.size_toArray]; omega) ⟨H, I.tok _, by rw [Xz r]; exact q⟩
  ·subst e'
   obtain ⟨its, r, pl, hz⟩ := I.tuple hx
   have hlen := r.length
   exact truthy_tuple pl (by simp only [List.size_toArray]; omega) ⟨H, I.tok _, by rw [Xz r]; exact q⟩
  ·subst e'
   obtain ⟨hz, hS, vs, r, m⟩ : kvs.length <= sizeLine /\ (p == sysModules) = false /\ ∃ vs, KV kvs vs /\ s.heap.DictOf (XU X.prog X.w) p vs := I.hok p _ hx
   have hlen : kvs.length = vs.length := Paired.length r
   exact wpAny_truthy_dict hS m (by omega) ⟨H, I.tok _, by rw [Vu r]; exact q⟩
 | _ => exact (show False from e).elim
theorem pt_truth (ha : PE X a ta) (he : ∀ whole, isTrue a X.env whole = (do let v <- whole; standAt a.pos; holding [v] (truthy v))) :
  PT X a (fun σ H Q => ta σ H fun x H' => ∃ k, TruV X.K x H' k /\ Q k H') := by
 intro pins s σ H Q I h
 exact isTrue_plain (thn (ha pins s σ H _ I h) fun v s1 ⟨x, H1, I1, r1, q1⟩ => tru_ok pins s1 σ H1 x v Q I1 r1 q1) (he _)
theorem WA {x : V} {us : List Value} (r : Vals [x] us) : ∃ u, us = [u] /\ RelV x u := by
 cases r with
 | cons r1 r2 => cases r2; exact ⟨_, rfl, r1⟩
theorem vals2 {x y : V} {us : List Value} (r : Vals [x, y] us) : ∃ u w', us = [u, w'] /\ RelV x u /\ RelV y w' := by
 cases r with
 | cons r1 r2 =>
  cases r2 with
  | cons r3 r4 => cases r4; exact ⟨_, _, rfl, r1, r3⟩
theorem call_abs : Xv X (.builtin "abs") (fun xs H Q => ∃ i, xs = [.int i] /\ Q (.int (if i < 0 then -i else i)) H) := by
 intro pins s σ H xs us Q I r h
 obtain ⟨i, rfl, q⟩ := h
 obtain ⟨u, rfl, t, rfl⟩ := WA r
 exact call_abs_int fun u tk => ⟨.int (if i < 0 then -i else i), H, I.tok _, ⟨_, rfl⟩, q⟩
theorem Ux : Xv X (.type "int") (fun xs H Q => (∃ i, xs = [.int i] /\ Q (.int i) H) \/ ∃ k, xs = [.bl k] /\ Q (.int (if k then 1 else 0)) H) := by
 intro pins s σ H xs us Q I r h
 rcases h with ⟨i, rfl, q⟩ | ⟨k, rfl, q⟩
 ·obtain ⟨u, rfl, t, rfl⟩ := WA r
  exact call_int_int ⟨.int i, H, I, ⟨_, rfl⟩, q⟩
 ·obtain ⟨u, rfl, r1⟩ := WA r
  cases r1
  exact call_int_bool ⟨.int (if k then 1 else 0), H, I.tok _, ⟨_, rfl⟩, q⟩
end
end L2
namespace L2
open PySem PySem.Spec PyProof.Rows
structure Cls (K : PySem.W.Frag) (C : Addr) : Prop where
 pg : PySem.W.plainGet K C Str.empty = true
 hd : PySem.W.hasDictIn K C = true
 po : PySem.W.plainOver K C = true
 sa : PySem.W.findIn K (.ref C) "__setattr__" = some (some (.builtin "object.__setattr__"))
def NoAttr (K : PySem.W.Frag) (C : Addr) (f : Str) : Prop := PySem.W.findIn K (.ref C) f = some none
end L2
namespace L2
open PySem PySem.Spec PyProof.Rows
structure Room (k : Nat) (A : Around) : Prop where
 hd : A.handled = none
 dp : A.depth + 3 * k + 5 < recursionLimit
 un : A.units + 16 * k + 200 < cLine
theorem Room.mono {j k : Nat} {A : Around} (r : Room k A) (h : j <= k) : Room j A := ⟨r.hd, by have := r.dp; omega, by have := r.un; omega⟩
theorem Room.deeper {k : Nat} {A : Around} (r : Room (k + 1) A) (env : Env) : Room k (A.deeper env) :=
 ⟨r.hd, by have := r.dp; show A.depth + 1 + 3 * k + 5 < _; omega, by have := r.un; show A.units + 3 + 16 * k + 200 < _; omega⟩
theorem Room.depth {k : Nat} {A : Around} (r : Room k A) : A.depth < recursionLimit := by have := r.dp; omega
theorem Room.units {k : Nat} {A : Around} (r : Room k A) : A.units + 64 < cLine := by have := r.un; omega
def tNil : TA := fun _ H Q => Q [] H
def tCons (ta : TE) (tr : TA) : TA := fun σ H Q => ta σ H fun x H1 => tr σ H1 fun xs H2 => Q (x :: xs) H2
section
variable {X : Cx} {e : Expr} {es : List Expr} {te : TE} {t : TA} {pos : Pos}
theorem YE : PA X [] tNil := fun _ _ _ _ H Q I h => Calls.spliced_nil ⟨[], H, I, .nil, h⟩
theorem ZY (ha : PE X e te) (hr : PA X es t) (hs : starEach (e :: es) X.env = (false, eval e X.env) :: starEach es X.env := by rfl) : PA X (e :: es) (tCons te t) := by
 intro pos pins s σ H Q I h
 rw [hs]
 show wpAny _ _ (spliced ((false, eval e X.env) :: backTo pos (starEach es X.env))) _ _ s
 refine Calls.spliced_cons (thn (ha pins s σ H _ I h) fun u s1 ⟨x, H1, I1, r1, q1⟩ => ?_)
 exact thn (hr pos pins s1 σ H1 _ I1 q1) fun us s2 ⟨xs, H2, I2, r2, q2⟩ => ⟨x :: xs, H2, I2, .cons r1 r2, q2⟩
def tTup (t : TA) : TE := fun σ H Q => t σ H fun xs H1 => xs.length <= sizeLine /\ ∀ p, H1 p = none -> Q (.ref p) (upd H1 p (.tup xs))
def tLst (t : TA) : TE := fun σ H Q => t σ H fun xs H1 => xs.length <= sizeLine /\ ∀ p, H1 p = none -> Q (.ref p) (upd H1 p (.lst xs))
theorem pe_tup {x1} (h : PA X es t) : PE X (.Tuple es x1 pos) (tTup t) := by
 intro pins s σ H Q I hq
 refine wpAny_Tuple_spliced (thn (h pos pins s σ H _ I hq) fun us s1 ⟨xs, H1, I1, r, z, q⟩ => ⟨by rw [<- r.length]; exact z, ?_⟩)
 have hf : H1 s1.heap.objs.size = none := I1.hok.fresh (Nat.le_refl _)
 refine ⟨.ref s1.heap.objs.size, upd H1 s1.heap.objs.size (.tup xs), I1.laid (t' := s1.toks) (fun b u e => Heap.get?_push_of_some _ e) (Nat.le_refl _) ?_, rfl, q _ hf⟩
 exact ⟨z, us, r, ⟨_, Heap.get?_push_size _ rfl, rfl, _, rfl⟩⟩
theorem pe_lst (h : PA X es t) : PE X (.List es pos) (tLst t) := by
 intro pins s σ H Q I hq
 refine wpAny_List_spliced (thn (h pos pins s σ H _ I hq) fun us s1 ⟨xs, H1, I1, r, z, q⟩ => ⟨by rw [<- r.length]; exact z, ?_⟩)
 have hf : H1 s1.heap.objs.size = none := I1.hok.fresh (Nat.le_refl _)
 refine ⟨.ref s1.heap.objs.size, upd H1 s1.heap.objs.size (.lst xs), I1.laid (t' := s1.toks) (fun b u e => Heap.get?_push_of_some _ e) (Nat.le_refl _) ?_, rfl, q _ hf⟩
 exact ⟨z, us, 0, r, Heap.get?_push_size _ rfl⟩
end
abbrev Sp := List V -> Hp -> VK -> XK -> Prop
abbrev CXT := List Env -> Hp -> Shared -> XK -> Value -> Shared -> Prop
structure Env0 (P : Program) (w : World) (K : PySem.W.Frag) (mg : Str -> Option Value) (base : Heap) (A : Around) (outer : List Env) (s : Shared) (H : Hp) : Prop where
 frames : A.frames = some outer
 mod : Mod K mg base
 bs : ∀ b o, base.get? b = some o -> s.heap.get? b = some o /\ H b = none
 bsz : base.objs.size <= s.heap.objs.size
 funs : s.heap.FunFrames base outer
 frf : ∀ b ∈ frs outer, H b = none
 hok : HOk P w H s.heap
 bare : AllBare s.gens
def CE (outer : List Env) (P : Program) (w : World) (H : Hp) (s : Shared) (Q : VK) (u : Value) (s' : Shared) : Prop :=
 ∃ v H', s'.os = s.os /\ AllBare s'.gens /\ Un (frs outer) [] H H' s.heap s'.heap /\ HOk P w H' s'.heap /\ RelV v u /\ Q v H'
def CR (CX : CXT) (outer : List Env) (P : Program) (w : World) (H : Hp) (s : Shared) (Q : VK) (E : XK) (r : Result) (s' : Shared) : Prop :=
 match r with
 | .ok (.ret u) => CE outer P w H s Q u s'
 | .ok _ => False
 | .error e => CX outer H s E e s'
structure FnOk (P : Program) (w : World) (K : PySem.W.Frag) (mg : Str -> Option Value) (base : Heap) (CX : CXT) (k : Nat) (f : Addr) (fd : FuncData) (ps : List Str) (sp : Sp) : Prop where
 len : ∀ vs H Q E, sp vs H Q E -> vs.length = ps.length
 run : ∀ (A : Around) (outer : List Env) (s : Shared) (H : Hp) (args : Args) (us : List Value) (vs : List V) (Q : VK) (E : XK), Room k A -> Env0 P w K mg base A outer s H -> BindsTo s fd args (ps.zip us) -> Vals vs us -> sp vs H Q E ->
  codeAny (model P w) A (.call (.ref f) args) (CR CX outer P w H s Q E) s
theorem FnOk.mono {P : Program} {w : World} {K : PySem.W.Frag} {mg : Str -> Option Value} {base : Heap} {CX : CXT} {j k : Nat} {f : Addr} {fd : FuncData} {ps : List Str} {sp : Sp} (F : FnOk P w K mg base CX j f fd ps sp) (h : j <= k) :
  FnOk P w K mg base CX k f fd ps sp := ⟨F.len, fun A outer s H args us vs Q E hr => F.run A outer s H args us vs Q E (hr.mono h)⟩
section
variable {X : Cx} {pins : List (Addr × Obj)} {σ : St} {H : Hp} {s s' : Shared}
theorem Inv.env0 (I : Inv X pins σ H s) : Env0 X.prog X.w X.K X.mg X.base X.A X.stack s H :=
 ⟨I.ok.frames, I.ok.mod, I.bs, Nat.le_trans I.ok.bsz I.sz, I.stack, I.stkFree, I.hok, I.bare⟩
theorem Inv.after {Q : VK} {u : Value} (I : Inv X pins σ H s) (h : CE X.stack X.prog X.w H s Q u s') : EP X pins σ Q u s' := by
 obtain ⟨v, H', os, bare, un, hok, r, q⟩ := h
 obtain ⟨hh, g, d, t, os'⟩ := s'
 obtain rfl : os' = s.os := os
 exact ⟨v, H', I.call (h' := hh) (g' := g) (d' := d) (t' := t) (ch := []) un hok bare (fun b z => absurd z (by simp)), r, q⟩
end
def tCall (sp : Sp) (dvs : List V) (E : XK) (t : TA) : TE := fun σ H Q => t σ H fun vs H1 => sp (vs ++ dvs) H1 Q E
def Yx (K : PySem.W.Frag) (fd : FuncData) (ps : List Str) (ds : List Value) : Prop :=
 ∀ (s : Shared) (us : List Value), K.In s.heap -> (us ++ ds).length = ps.length -> BindsTo s fd ⟨us, []⟩ (ps.zip (us ++ ds))
theorem Yx.all {K : PySem.W.Frag} {fd : FuncData} {ps : List Str} (h : ∀ us : List Value, us.length = ps.length -> bindArgs fd ⟨us, []⟩ = pure (ps.zip us)) : Yx K fd ps [] := fun s us _ hl => by
 rw [List.append_nil] at hl ⊢
 exact .of_eq (h us hl)
def Vi (CX : CXT) (X : Cx) (E : XK) : Prop := ∀ (pins : List (Addr × Obj)) (σ : St) (H : Hp) (s : Shared) (e : Value) (s' : Shared), Inv X pins σ H s -> CX X.stack H s E e s' -> X.xe e s'
section
variable {X : Cx} {CX : CXT} {k : Nat} {f C : Addr} {fd : FuncData} {ps : List Str} {sp : Sp} {dvs : List V} {ds : List Value} {E : XK} {x m : Str} {p pos apos : Pos} {e o : Expr} {es : List Expr} {ta : TE} {t : TA}
theorem run_fn {pins : List (Addr × Obj)} {σ : St} {H : Hp} {s : Shared} {Q : VK} {us : List Value} {vs : List V} (F : FnOk X.prog X.w X.K X.mg X.base CX k f fd ps sp) (hr : Room k X.A) (hb : Yx X.K fd ps ds) (hd : Vals dvs ds) (hx : Vi CX X E)
  (I : Inv X pins σ H s) (r : Vals vs us) (h : sp (vs ++ dvs) H Q E) : wpAny (model X.prog X.w) X.A (call (.ref f) us) (EP X pins σ Q) X.xe s := by
 have r2 : Vals (vs ++ dvs) (us ++ ds) := r.append hd
 have hl : (us ++ ds).length = ps.length := by rw [<- r2.length]; exact F.len _ _ _ _ h
 refine wpAny_call (codeAny_mono (F.run X.A X.stack s H ⟨us, []⟩ (us ++ ds) (vs ++ dvs) Q E hr I.env0 (hb s us I.kIn hl) r2 h) fun r s' hq => ?_)
 cases r with
 | error e => exact hx pins σ H s e s' I hq
 | ok fl =>
  cases fl with
  | ret u => exact I.after hq
  | next => exact False.elim hq
  | brk => exact False.elim hq
  | cont => exact False.elim hq
theorem pe_call (F : FnOk X.prog X.w X.K X.mg X.base CX k f fd ps sp) (hr : Room k X.A) (hg : Gl X x) (hm : X.mg x = some (.ref f)) (hk : PySem.W.keepIn X.K (.ref f) = true) (hb : Yx X.K fd ps ds) (hd : Vals dvs ds) (hx : Vi CX X E)
  (ha : PA X (e :: es) t) (hdb : (x == ("__debug__" : Str)) = false := by decide) (he : starEach (e :: es) X.env = (false, eval e X.env) :: starEach es X.env := by rfl) (hpl : (backTo pos (starEach es X.env)).any (·.1) = false := by rfl) :
  PE X (.Call (.Name x p) (e :: es) [] pos) (tCall sp dvs E t) := by
 intro pins s σ H Q I h
 refine wpAny_Call_Name_kw (YZ I hg hm ?_ hdb)
 refine PySem.W.callWith_K (h₀ := X.base) I.ok.mod.kin hk (thn (ha pos pins s σ H _ I h) fun us s1 ⟨vs, H1, I1, r, q⟩ => ⟨I1.kIn, ?_⟩) he hpl
 exact run_fn F hr hb hd hx I1 r q
end
structure FnScope (N P : List Str) (sc : Scope) : Prop where
 kind : sc.kind = .function
 co : sc.isCoroutine = false
 gen : sc.isGenerator = false
 nd : N.Nodup
 pre : N.take P.length = P
 par : ∀ x ∈ P, sc.names.lookup x = some .local \/ sc.names.lookup x = some .cell
 nofree : ∀ y ∈ sc.names, y.2 ≠ .free
theorem Wv {kindOf : Str -> Option NameKind} {x : Str} : ∀ {binds : List (Str × Value)} {m : Str -> Option Value}, (∀ v, (x, v) ∉ binds) -> bindL kindOf binds m x = m x
 | [], _, _ => rfl
 | (n, v) :: r, m, h => by
  unfold bindL
  rw [Wv fun w hw => h w (List.mem_cons_of_mem _ hw)]
  split
  ·have : x ≠ n := by rintro rfl; exact h v List.mem_cons_self
   simp [this]
  ·rfl
theorem Wx {kindOf : Str -> Option NameKind} {x : Str} : ∀ {binds : List (Str × Value)} {m : Str -> Option Value}, (∀ v, (x, v) ∉ binds) -> bindC kindOf binds m x = m x
 | [], _, _ => rfl
 | (n, v) :: r, m, h => by
  unfold bindC
  rw [Wx fun w hw => h w (List.mem_cons_of_mem _ hw)]
  split
  ·rfl
  ·have : x ≠ n := by rintro rfl; exact h v List.mem_cons_self
   simp [this]
theorem Ww {kindOf : Str -> Option NameKind} {x : Str} {v : Value} : ∀ {P : List Str} {vs : List Value} {i : Nat} {m : Str -> Option Value}, P.Nodup -> P[i]? = some x -> vs[i]? = some v -> kindOf x = some .local ->
  bindL kindOf (P.zip vs) m x = some v
 | [], _, _, _, _, h, _, _ => by simp at h
 | _ :: _, [], _, _, _, _, h, _ => by simp at h
 | p :: P, w :: vs, 0, m, nd, h1, h2, hk => by
  simp at h1 h2; subst h1; subst h2
  show bindL kindOf ((p, w) :: P.zip vs) m p = _
  unfold bindL
  rw [Wv fun v hv => (List.nodup_cons.mp nd).1 (List.of_mem_zip hv).1, if_pos hk]
  simp
 | p :: P, w :: vs, i + 1, m, nd, h1, h2, hk => by
  show bindL kindOf ((p, w) :: P.zip vs) m x = _
  unfold bindL
  exact Ww (i := i) (List.nodup_cons.mp nd).2 (by simpa using h1) (by simpa using h2) hk
theorem Wy {kindOf : Str -> Option NameKind} {x : Str} {v : Value} : ∀ {P : List Str} {vs : List Value} {i : Nat} {m : Str -> Option Value}, P.Nodup -> P[i]? = some x -> vs[i]? = some v -> kindOf x ≠ some .local ->
  bindC kindOf (P.zip vs) m x = some v
 | [], _, _, _, _, h, _, _ => by simp at h
 | _ :: _, [], _, _, _, _, h, _ => by simp at h
 | p :: P, w :: vs, 0, m, nd, h1, h2, hk => by
  simp at h1 h2; subst h1; subst h2
  show bindC kindOf ((p, w) :: P.zip vs) m p = _
  unfold bindC
  rw [Wx fun v hv => (List.nodup_cons.mp nd).1 (List.of_mem_zip hv).1, if_neg hk]
  simp
 | p :: P, w :: vs, i + 1, m, nd, h1, h2, hk => by
  show bindC kindOf ((p, w) :: P.zip vs) m x = _
  unfold bindC
  exact Wy (i := i) (List.nodup_cons.mp nd).2 (by simpa using h1) (by simpa using h2) hk
def start (N : List Str) (vs : List V) : St := vs.map some ++ List.replicate (N.length - vs.length) none
def cxOf (CX : CXT) (P : Program) (w : World) (K : PySem.W.Frag) (mg : Str -> Option Value) (base : Heap) (N : List Str) (qual : Str) (scope : Scope) (f : Addr) (cd : Value) (A : Around) (outer : List Env) (s : Shared) (H : Hp) (E : XK) : Cx where
 prog := P
 w := w
 K := K
 mg := mg
 base := base
 A := A.deeper (envOfC qual scope s.heap.objs.size f cd)
 N := N
 s₀ := s
 H₀ := H
 env := envOfC qual scope s.heap.objs.size f cd
 outer := outer
 stack := envOfC qual scope s.heap.objs.size f cd :: outer
 ex := []
 calm := true
 fn := fun _ => true
 pn := []
 xe := fun e s' => wpAny (model P w) (A.deeper (envOfC qual scope s.heap.objs.size f cd)) (leaving (envOfC qual scope s.heap.objs.size f cd) e) (fun _ s'' => CX outer H s E e s'') (fun e' s'' => CX outer H s E e' s'') s'
theorem Vf {sc : Scope} {n : Nat} {x : Str} (h : sc.names.lookup x = some .cell) : ∃ c, (cellsFrom n sc.names []).lookup x = some c := by
 have q := PySem.W.cellsFrom_some sc.names n [] (.inl h)
 exact Option.isSome_iff_exists.mp q
theorem V8 {CX : CXT} {P : Program} {w : World} {K : PySem.W.Frag} {mg : Str -> Option Value} {base : Heap} {N ps : List Str} {qual : Str} {scope : Scope} {f : Addr} {cd : Value} {A : Around} {outer : List Env} {s s1 : Shared} {H : Hp} {E : XK} {us : List Value} {vs : List V}
  (S : FnScope N ps scope) (hd : A.handled = none) (e0 : Env0 P w K mg base A outer s H) (hl : vs.length = ps.length) (r : Vals vs us)
  (x : InCallC s s.heap.objs.size (bindL (envOfC qual scope s.heap.objs.size f cd).kindOf (ps.zip us) fun _ => none) (cellsFrom (s.heap.objs.size + 1) scope.names []) (bindC (envOfC qual scope s.heap.objs.size f cd).kindOf (ps.zip us) fun _ => none) s1) :
  Inv (cxOf CX P w K mg base N qual scope f cd A outer s H E) [] (start N vs) H s1 := by
 have hpl : ps.length <= N.length := by have := congrArg List.length S.pre; rw [List.length_take] at this; omega
 obtain ⟨h1, tk, rfl, hk⟩ := x.done
 have noA : ∀ b : Addr, b ∉ (cxOf CX P w K mg base N qual scope f cd A outer s H E).ex := fun b z => absurd (show b ∈ ([] : List Addr) from z) (by simp)
 refine ⟨⟨e0.mod, S.kind, rfl, rfl, Nat.le_refl _, fun y z c h1 h2 => ?_, fun y hy => ?_, fun y c _ h => ?_, fun _ => hd, Around.frames_deeper e0.frames, .inr ⟨rfl, rfl⟩, fun b z => absurd z (noA b), e0.bs, e0.bsz, fun b _ _ => noA b, fun b z => absurd z (noA b), e0.funs, e0.frf⟩,
  rfl, e0.bare, Un.kept hk, ⟨_, x.toInCall.ns, fun i y v h1 h2 h3 => ?_⟩, fun y c h => ⟨_, x.cell y c h⟩, e0.hok.fresh (Nat.le_refl _), fun y c h => ?_, fun p hp => absurd (show p ∈ ([] : List (Addr × Obj)) from hp) (by simp), e0.hok.kept hk, ?_⟩
 ·exact name_of_addr x.apart (PySem.mem_of_lookup h1) (PySem.mem_of_lookup h2)
 ·have hy : scope.names.lookup y = some .cell \/ scope.names.lookup y = some .free := hy
  rcases hy with hy | hy
  ·exact Vf hy
  ·exact absurd rfl (S.nofree _ (PySem.mem_of_lookup hy))
 ·exact Nat.le_of_lt (x.above y c (PySem.mem_of_lookup h))
 ·have hi : i < vs.length := by
   unfold start at h2
   by_cases hi : i < vs.length
   ·exact hi
   ·rw [List.getElem?_append_right (by simpa using hi)] at h2
    rw [List.getElem?_replicate] at h2
    split at h2 <;> cases h2
  have ha : vs[i]? = some v := by
   unfold start at h2
   rw [List.getElem?_append_left (by simpa using hi), List.getElem?_map] at h2
   cases e : vs[i]? with
   | none => rw [e] at h2; cases h2
   | some a => rw [e] at h2; cases h2; rfl
  obtain ⟨u, hu, rv⟩ := r.get ha
  have hp : ps[i]? = some y := by
   rw [<- S.pre, List.getElem?_take_of_lt (by omega)]; exact h1
  have ndP : ps.Nodup := by rw [<- S.pre]; exact S.nd.sublist (List.take_sublist _ _)
  refine ⟨u, rv, ?_⟩
  rcases S.par y (List.mem_of_getElem? hp) with k | k
  ·exact .inl ⟨k, Ww ndP hp hu k⟩
  ·obtain ⟨c, e⟩ := Vf (n := s.heap.objs.size + 1) k
   refine .inr ⟨.inl k, c, e, ?_⟩
   have q := x.cell y c e
   rw [Wy ndP hp hu (by show scope.names.lookup y ≠ _; rw [k]; decide)] at q
   exact q
 ·exact e0.hok.fresh (Nat.le_of_lt (x.above y c (PySem.mem_of_lookup h)))
 ·unfold start
  show _ = N.length
  rw [List.length_append, List.length_map, List.length_replicate]
  omega
theorem fn_of {CX : CXT} {P : Program} {w : World} {K : PySem.W.Frag} {mg : Str -> Option Value} {base : Heap} {k : Nat} {f : Addr} {name qual : Str} {params : Arguments} {body : List Stmt} {scope : Scope} {dV kV doc pm cdv ct oc : Value} {an od : Option Addr}
  {osl : Array (Option Value)} {N ps : List Str} {sp : Sp} (lk : K.lookup f = some ⟨oc, od, .func (PySem.W.fnOf name qual params body scope dV kV doc pm an cdv ct), osl⟩) (hcd : PySem.W.codeIn K cdv qual = true) (S : FnScope N ps scope)
  (len : ∀ vs H Q E, sp vs H Q E -> vs.length = ps.length)
  (hbody : ∀ (A : Around) (outer : List Env) (s : Shared) (H : Hp) (vs : List V) (Q : VK) (E : XK), Room k (A.deeper (envOfC qual scope s.heap.objs.size f cdv)) -> sp vs H Q E ->
   ∃ t, PSs (cxOf CX P w K mg base N qual scope f cdv A outer s H E) body t /\ t { nx := fun _ H' => Q .non H', rt := Q } (start N vs) H) :
  FnOk P w K mg base CX (k + 1) f (PySem.W.fnOf name qual params body scope dV kV doc pm an cdv ct) ps sp := by
 refine ⟨len, fun A outer s H args us vs Q E hr e0 hb r hsp => ?_⟩
 have hl := len _ _ _ _ hsp
 have KX : K.In s.heap := e0.mod.kin.keeps fun b o e => (e0.bs b o e).1
 have lim : s.heap.NoLimit := e0.mod.nolimit.keeps fun b o e => (e0.bs b o e).1
 have hkind : ∀ y ∈ ps.zip us, scope.names.lookup y.1 = some .local \/ (scope.names.lookup y.1 = some .cell /\ ((cellsFrom (s.heap.objs.size + 1) scope.names []).lookup y.1).isSome = true) := fun ⟨n, v⟩ hy => by
  rcases S.par n (List.of_mem_zip hy).1 with q | q
  ·exact .inl q
  ·exact .inr ⟨q, PySem.W.cellsFrom_some _ _ _ (.inl q)⟩
 refine codeAny_call_function hr.depth (KX _ _ lk) rfl S.co S.gen rfl (PySem.W.codeRec_of KX hcd) (hb _ _ _ _ ?_)
 refine wpAny_newFunctionEnv_cells S.kind hkind fun env he s1 x => ?_
 subst he
 refine ⟨lim.keeps x.toInCall.keep, codeAny_func ?_⟩
 obtain ⟨t, ht, hq⟩ := hbody A outer s H vs Q E (hr.deeper _) hsp
 have I : Inv (cxOf CX P w K mg base N qual scope f cdv A outer s H E) [] (start N vs) H s1 := V8 S hr.hd e0 hl r x
 refine wpAny_mono (ht [] s1 (start N vs) H _ I hq) (fun fl s' hs => ?_) fun e s' hs => hs
 have fin : ∀ {σ' : St} {H' : Hp} {v : V} {u : Value}, Inv (cxOf CX P w K mg base N qual scope f cdv A outer s H E) [] σ' H' s' -> RelV v u -> Q v H' -> CE outer P w H s Q u s' :=
  fun {σ' H' v u} J rv q => ⟨v, H', J.os, J.bare, J.base, J.hok, rv, q⟩
 cases fl with
 | ret u =>
  obtain ⟨v, σ', H', J, rv, q⟩ := hs
  exact fin J rv q
 | next =>
  obtain ⟨σ', H', J, q⟩ := hs
  exact fin (v := V.non) (u := Value.none) J rfl q
 | brk =>
  obtain ⟨_, _, _, q⟩ := hs
  exact False.elim q
 | cont =>
  obtain ⟨_, _, _, q⟩ := hs
  exact False.elim q
end L2
namespace L2
open PySem PySem.Spec PyProof.Rows
section
variable {X : Cx} {x : Str} {p pos : Pos} {e : Expr} {es : List Expr} {t : TA} {id T : String} {r : List V -> Hp -> VK -> Prop}
def tCB (r : List V -> Hp -> VK -> Prop) (t : TA) : TE := fun σ H Q => t σ H fun vs H1 => r vs H1 Q
theorem YQ (hc : Xv X (.builtin id) r) (hg : Gl X x) (hm : X.mg x = none) (hv : bootBuiltins x = some (.builtin id)) (ha : PA X (e :: es) t) (hn : x ≠ "__name__" := by decide) (hdb : (x == ("__debug__" : Str)) = false := by decide)
  (he : starEach (e :: es) X.env = (false, eval e X.env) :: starEach es X.env := by rfl) (hpl : (backTo pos (starEach es X.env)).any (·.1) = false := by rfl) : PE X (.Call (.Name x p) (e :: es) [] pos) (tCB r t) := by
 intro pins s σ H Q I h
 refine wpAny_Call_Name_kw (W5 I hg hm hv ?_ hn hdb)
 exact PyProof.Rows.callWith_builtin1 (thn (ha pos pins s σ H _ I h) fun us s1 ⟨vs, H1, I1, r1, q1⟩ => hc pins s1 σ H1 vs us Q I1 r1 q1) he hpl
theorem Xh (hc : Xv X (.type T) r) (hg : Gl X x) (hm : X.mg x = none) (hv : bootBuiltins x = some (.type T)) (ha : PA X (e :: es) t) (hn : x ≠ "__name__" := by decide) (hdb : (x == ("__debug__" : Str)) = false := by decide)
  (he : starEach (e :: es) X.env = (false, eval e X.env) :: starEach es X.env := by rfl) (hpl : (backTo pos (starEach es X.env)).any (·.1) = false := by rfl) : PE X (.Call (.Name x p) (e :: es) [] pos) (tCB r t) := by
 intro pins s σ H Q I h
 refine wpAny_Call_Name_kw (W5 I hg hm hv ?_ hn hdb)
 exact PyProof.Rows.callWith_type1 (thn (ha pos pins s σ H _ I h) fun us s1 ⟨vs, H1, I1, r1, q1⟩ => hc pins s1 σ H1 vs us Q I1 r1 q1) he hpl
end
end L2
namespace HT
open PySem PyProof.Rows
def Vt : List Int -> List Int -> Bool
 | [], [] => false
 | [], _ :: _ => true
 | _ :: _, [] => false
 | x :: xs, y :: ys => if x = y then Vt xs ys else decide (x < y)
theorem lexLt_cons (x y : Int) (xs ys : List Int) : Vt (x :: xs) (y :: ys) = if x = y then Vt xs ys else decide (x < y) := rfl
theorem lexLt_nil_nil : Vt [] [] = false := rfl
theorem lexLt_nil_cons (y : Int) (ys : List Int) : Vt [] (y :: ys) = true := rfl
theorem lexLt_cons_nil (x : Int) (xs : List Int) : Vt (x :: xs) [] = false := rfl
section
open PySem.SeqAt
open PySem.AutoSeq1 (wpAny_loadPart')
open PySem.MeetsSeq PySem.MeetsSeq2 PySem.MeetsSeq3
end
section
variable {prog : Program} {w : World} {A : Around} {E : Value -> Shared -> Prop} {s : Shared}
def sIx (n d : Nat) : Option Int -> Nat
 | none => d
 | some v => if v < 0 then (v + (n : Int)).toNat else min v.toNat n
theorem sIx_none (n d : Nat) : sIx n d none = d := rfl
end
end HT
namespace L2
open PySem PySem.Spec PyProof.Rows
abbrev TO := St -> Hp -> (Option Int -> Hp -> Prop) -> Prop
def PO (X : Cx) (e : Option Expr) (t : TO) : Prop :=
 ∀ (pins : List (Addr × Obj)) (s : Shared) (σ : St) (H : Hp) (Q : Option Int -> Hp -> Prop), Inv X pins σ H s -> t σ H Q ->
  wpAny (model X.prog X.w) X.A (evalPart e X.env) (fun u s' => ∃ o H', Inv X pins σ H' s' /\ IsPart u o /\ Q o H') X.xe s
def tNoPart : TO := fun _ H Q => Q none H
def tPart (t : TE) : TO := fun σ H Q => t σ H fun x H1 => ∃ i, x = .int i /\ Q (some i) H1
section
variable {X : Cx} {e : Expr} {te : TE} {lo hi : Option Expr} {tl th : TO} {pos p2 : Pos}
theorem po_none : PO X none tNoPart := by
 intro pins s σ H Q I h
 rw [evalPart_none]
 exact wpAny_pure ⟨none, H, I, .none, h⟩
theorem po_some (h : PE X e te) : PO X (some e) (tPart te) := by
 intro pins s σ H Q I hw
 rw [evalPart_some]
 refine thn (h pins s σ H _ I hw) fun u s1 ⟨x, H1, I1, r1, q1⟩ => ?_
 obtain ⟨i, rfl, q⟩ := q1
 obtain ⟨t, rfl⟩ := r1
 exact ⟨some i, H1, I1, .int i t, q⟩
def SlR (X : Cx) (r : V -> Option Int -> Option Int -> Hp -> VK -> Prop) : Prop :=
 ∀ (pins : List (Addr × Obj)) (s : Shared) (σ : St) (H : Hp) (x : V) (v vl vu : Value) (lo hi : Option Int) (sl : Addr) (Q : VK), Inv X pins σ H s -> RelV x v -> s.heap.IsSliceOf sl vl vu .none -> IsPart vl lo -> IsPart vu hi -> r x lo hi H Q ->
  ∃ T id, typeLookup (.type T) "__getitem__" = pure (some (.builtin id)) /\ s.TypeIs v T /\ wpAny (model X.prog X.w) X.A (getItem v (.ref sl)) (EP X pins σ Q) X.xe s
def tSl (r : V -> Option Int -> Option Int -> Hp -> VK -> Prop) (te : TE) (tl th : TO) : TE := fun σ H Q => te σ H fun x H1 => tl σ H1 fun l H2 => th σ H2 fun u H3 => r x l u H3 Q
theorem pe_slice {r : V -> Option Int -> Option Int -> Hp -> VK -> Prop} (hr : SlR X r) (he : PE X e te) (hl : PO X lo tl) (hu : PO X hi th) : PE X (.Subscript e (.Slice lo hi none p2) pos) (tSl r te tl th) := by
 intro pins s σ H Q I h
 refine Subscript_ (thn (he pins s σ H _ I h) fun v s1 ⟨x, H1, I1, r1, q1⟩ => ?_)
 refine wpAny_Slice (thn (hl pins s1 σ H1 _ I1 q1) fun vl s2 ⟨l, H2, I2, pl, q2⟩ => thn (hu pins s2 σ H2 _ I2 q2) fun vu s3 ⟨u, H3, I3, pu, q3⟩ => ?_)
 rw [evalPart_none]
 refine wpAny_pure ?_
 have I4 : Inv X pins σ H3 { s3 with heap := s3.heap.push { cls := .type "slice", data := .fields #[vl, vu, .none] } } := I3.kept (t' := s3.toks) fun b ob q => Heap.get?_push_of_some _ q
 obtain ⟨T, id, hT, ht, hg⟩ := hr pins { s3 with heap := s3.heap.push { cls := .type "slice", data := .fields #[vl, vu, .none] } } σ H3 x v vl vu l u s3.heap.objs.size Q I4 r1 (Heap.IsSliceOf.new ..) pl pu q3
 show wpAny (model X.prog X.w) X.A (subscriptTail e (.Slice lo hi none p2) v (.ref s3.heap.objs.size)) (EP X pins σ Q) X.xe { s3 with heap := s3.heap.push { cls := .type "slice", data := .fields #[vl, vu, .none] } }
 exact tail_any (ops := [.ref s3.heap.objs.size, v]) ht hT hg (by with_unfolding_all rfl)
def cutV (xs : List V) (lo hi : Option Int) : List V := (xs.drop (HT.sIx xs.length 0 lo)).take (HT.sIx xs.length xs.length hi - HT.sIx xs.length 0 lo)
theorem WN (xs : List V) (lo hi : Option Int) : (cutV xs lo hi).length <= xs.length := by
 unfold cutV
 rw [List.length_take, List.length_drop]
 omega
end
end L2
namespace L2
open PySem PySem.Spec PyProof.Rows
def ixN (n : Nat) (i : Int) : Option Nat := if 0 <= i then (if i < n then some i.toNat else none) else if -(n : Int) <= i then some (i + n).toNat else none
def atI {α : Type} (xs : List α) (i : Int) : Option α := (ixN xs.length i).bind fun j => xs[j]?
theorem WK {n : Nat} {i : Int} {j : Nat} (h : ixN n i = some j) : seqIndex? i n = some j /\ j < n /\ -(n : Int) <= i /\ i < n := by
 unfold ixN at h
 by_cases h0 : 0 <= i
 ·rw [if_pos h0] at h
  by_cases h1 : i < n
  ·rw [if_pos h1] at h
   have e : i.toNat = j := Option.some.inj h
   exact ⟨by rw [seqIndex_of h0 h1, e], by omega, by omega, h1⟩
  ·rw [if_neg h1] at h; cases h
 ·rw [if_neg h0] at h
  by_cases h1 : -(n : Int) <= i
  ·rw [if_pos h1] at h
   have e : (i + n).toNat = j := Option.some.inj h
   exact ⟨by rw [seqIndex_neg (by omega) h1, e], by omega, h1, by omega⟩
  ·rw [if_neg h1] at h; cases h
theorem UA {α : Type} {xs : List α} {i : Int} {v : α} (h : atI xs i = some v) : ∃ j, seqIndex? i xs.length = some j /\ xs[j]? = some v /\ j < xs.length /\ -(xs.length : Int) <= i /\ i < xs.length := by
 unfold atI at h
 cases e : ixN xs.length i with
 | none => rw [e] at h; cases h
 | some j =>
  rw [e] at h
  obtain ⟨h1, h2, h3, h4⟩ := WK e
  exact ⟨j, h1, h, h2, h3, h4⟩
def X5 (b : Expr) : Prop := ∀ o i, subscripted b false o i = operate [o, i] (getItem o i)
def IxR (X : Cx) (r : R2) : Prop :=
 ∀ (value slice : Expr) (pins : List (Addr × Obj)) (s : Shared) (σ : St) (H : Hp) (x y : V) (v u : Value) (Q : VK), Inv X pins σ H s -> RelV x v -> RelV y u -> r x y H Q ->
  subscripted slice false v u = operate [v, u] (getItem v u) -> wpAny (model X.prog X.w) X.A (subscriptTail value slice v u) (EP X pins σ Q) X.xe s
section
variable {X : Cx} {a b : Expr} {ta tb : TE} {pos : Pos}
theorem IxR.or {r r' : R2} (h : IxR X r) (h' : IxR X r') : IxR X (fun x y H Q => r x y H Q \/ r' x y H Q) := by
 intro value slice pins s σ H x y v u Q I rx ry q hs
 rcases q with q | q
 ·exact h value slice pins s σ H x y v u Q I rx ry q hs
 ·exact h' value slice pins s σ H x y v u Q I rx ry q hs
theorem pe_ix {r : R2} (hr : IxR X r) (ha : PE X a ta) (hb : PE X b tb) (hs : X5 b) : PE X (.Subscript a b pos) (tOp r ta tb) := by
 intro pins s σ H Q I h
 exact Subscript_ (binT ha hb I h fun v u s2 x y H2 I2 rx ry q => hr a b pins s2 σ H2 x y v u Q I2 rx ry q (hs _ _))
def rIxL (K : PySem.W.Frag) : R2 := fun x y H Q => ∃ p xs i v, x = .ref p /\ y = .int i /\ SqL K H p xs /\ atI xs i = some v /\ Q v H
def rIxT (K : PySem.W.Frag) : R2 := fun x y H Q => ∃ p xs i v, x = .ref p /\ y = .int i /\ SqT K H p xs /\ atI xs i = some v /\ Q v H
theorem WI : IxR X (rIxL X.K) := by
 intro value slice pins s σ H x y v u Q I rx ry h hs
 obtain ⟨p, xs, i, z, rfl, rfl, hq, he, q⟩ := h
 cases rx
 obtain ⟨t, rfl⟩ := ry
 obtain ⟨its, r, pl, hz⟩ := I.list hq
 obtain ⟨j, h1, h2, h3, h4, h5⟩ := UA he
 obtain ⟨w, ew, rw'⟩ := r.get h2
 have hl := r.length
 have hn := Wi
 have fin : EP X pins σ Q w s := ⟨z, H, I, rw', q⟩
 by_cases h0 : 0 <= i
 ·have hj : i.toNat = j := by
   rw [seqIndex_of h0 h5] at h1
   exact Option.some.inj h1
  exact item_listR pl.isList h0 (by omega) (by rw [hj]; simpa using ew) fin hs
 ·have hj : (i + (its.toArray.size : Int)).toNat = j := by
   rw [seqIndex_neg (by omega) h4] at h1
   rw [List.size_toArray, <- hl]
   exact Option.some.inj h1
  exact subscriptTail_builtinR (x := w) pl.isList.typeIs slot_list_getitem.lookup
   (wpAny_getItem_list_neg (Q := fun r s' => r = w /\ EP X pins σ Q r s') pl.isList (by omega) (by rw [List.size_toArray] <;> omega) (by omega) (by rw [hj]; simpa using ew) ⟨rfl, fin⟩) hs
theorem ix_tup : IxR X (rIxT X.K) := by
 intro value slice pins s σ H x y v u Q I rx ry h hs
 obtain ⟨p, xs, i, z, rfl, rfl, hq, he, q⟩ := h
 cases rx
 obtain ⟨t, rfl⟩ := ry
 obtain ⟨its, r, pl, hz⟩ := I.tuple hq
 obtain ⟨j, h1, h2, h3, h4, h5⟩ := UA he
 obtain ⟨w, ew, rw'⟩ := r.get h2
 have hl := r.length
 have hn := Wi
 have fin : EP X pins σ Q w s := ⟨z, H, I, rw', q⟩
 exact subscriptTail_builtinR (x := w) pl.typeIs slot_tuple_getitem.lookup
  (getItem_tuple (j := j) (Q := fun r s' => r = w /\ EP X pins σ Q r s') pl (by omega) (by omega) (by rw [List.size_toArray, <- hl]; exact h1) (by simpa using ew) ⟨rfl, fin⟩) hs
theorem Vs (its : List Value) (n j : Nat) (u : Value) : Obj.mapSeq (·.setIfInBounds j u) { cls := .type "list", data := .seq its.toArray n } = { cls := .type "list", data := .seq (its.set j u).toArray n } := by
 simp [Obj.mapSeq]
theorem Inv.lst {pins : List (Addr × Obj)} {σ : St} {H : Hp} {s : Shared} {p : Addr} {xs : List V} (I : Inv X pins σ H s) (h : H p = some (.lst xs)) :
  ∃ (its : List Value) (n : Nat), Vals xs its /\ s.heap.get? p = some { cls := .type "list", data := .seq its.toArray n } /\ xs.length <= sizeLine := by
 obtain ⟨z, its, n, r, e⟩ := I.hok p _ h
 exact ⟨its, n, r, e, z⟩
theorem Inv.lstUpd {pins : List (Addr × Obj)} {σ : St} {H : Hp} {s : Shared} {p : Addr} {xs ys : List V} {its its' : List Value} {n n' : Nat} {f : Obj -> Obj} (I : Inv X pins σ H s) (h : H p = some (.lst xs))
  (ho : s.heap.get? p = some { cls := .type "list", data := .seq its.toArray n }) (hf : f { cls := .type "list", data := .seq its.toArray n } = { cls := .type "list", data := .seq its'.toArray n' }) (r : Vals ys its') (hz : ys.length <= sizeLine) (t : Nat) :
  Inv X pins σ (upd H p (.lst ys)) { s with heap := s.heap.update p f, toks := t } := by
 have e : (s.heap.update p f).get? p = some { cls := .type "list", data := .seq its'.toArray n' } := by
  rw [Heap.get?_update_self f ho (by rw [hf] <;> rfl), hf]
 refine I.write (x := p) (e := p) (by rw [h]; trivial) (.inl rfl) (fun b u hb q => (Heap.get?_update_other _ _ (Ne.symm hb)).trans q) ⟨_, e⟩ ?_
 exact ⟨hz, its', n', r, e⟩
def rSetL : V -> V -> V -> Hp -> (Hp -> Prop) -> Prop := fun o i v H Q => ∃ p xs k j, o = .ref p /\ i = .int k /\ H p = some (.lst xs) /\ ixN xs.length k = some j /\ Q (upd H p (.lst (xs.set j v)))
theorem WX : PSet X rSetL := by
 intro pins s σ H o i v ov iv u Q I ro ri rv h
 obtain ⟨p, xs, k, j, rfl, rfl, hp, hj, q⟩ := h
 cases ro
 obtain ⟨t, rfl⟩ := ri
 obtain ⟨its, n, r, ho, hz⟩ := I.lst hp
 obtain ⟨h1, h2, h3, h4⟩ := WK hj
 have hl := r.length
 have hn := Wi
 have I' : Inv X pins σ (upd H p (.lst (xs.set j v))) { s with heap := s.heap.update p (Obj.mapSeq (·.setIfInBounds j u)) } :=
  I.lstUpd hp ho (Vs its n j u) (r.set rv j) (by rw [List.length_set]; exact hz) s.toks
 by_cases h0 : 0 <= k
 ·have hk : k.toNat = j := by
   rw [seqIndex_of h0 h4] at h1
   exact Option.some.inj h1
  exact PySem.W.ki_setAt ho h0 (by omega) (by rw [List.size_toArray, <- hl]; exact h4) (by rw [hk]; exact ⟨_, I', q⟩)
 ·have hk : (k + (its.toArray.size : Int)).toNat = j := by
   rw [seqIndex_neg (by omega) h3] at h1
   rw [List.size_toArray, <- hl]
   exact Option.some.inj h1
  exact PySem.W.ki_setBack ho (by omega) (by rw [List.size_toArray, <- hl]; exact h3) (by omega) (by rw [hk]; exact ⟨_, I', q⟩)
theorem X9 (lo hi : Option Int) (n : Nat) : (sliceBounds lo hi none n).1 = ((HT.sIx n 0 lo : Nat) : Int) /\ (sliceBounds lo hi none n).2.1 = ((HT.sIx n n hi : Nat) : Int) /\ (sliceBounds lo hi none n).2.2 = 1 := by
 refine ⟨?_, ?_, rfl⟩
 ·cases lo with
  | none => simp [sliceBounds, HT.sIx]
  | some i =>
   simp only [sliceBounds, HT.sIx, Option.getD_none, show (1 : Int) > 0 by decide, if_true]
   by_cases h : i < 0
   ·simp only [h, if_true] <;> omega
   ·simp only [h, if_false] <;> omega
 ·cases hi with
  | none => simp [sliceBounds, HT.sIx]
  | some i =>
   simp only [sliceBounds, HT.sIx, Option.getD_none, show (1 : Int) > 0 by decide, if_true]
   by_cases h : i < 0
   ·simp only [h, if_true] <;> omega
   ·simp only [h, if_false] <;> omega
theorem XM (its : List Value) (lo hi : Option Int) : slicePick its.toArray lo hi none = ((its.drop (HT.sIx its.length 0 lo)).take (HT.sIx its.length its.length hi - HT.sIx its.length 0 lo)).toArray := by
 obtain ⟨h1, h2, h3⟩ := X9 lo hi its.toArray.size
 unfold slicePick
 rw [h1, h2, h3]
 simp only [sliceRange_one, pick_run, List.size_toArray] <;> rfl
def rSlL (K : PySem.W.Frag) : V -> Option Int -> Option Int -> Hp -> VK -> Prop := fun x lo hi H Q => ∃ a xs, x = .ref a /\ SqL K H a xs /\ ∀ p, H p = none -> Q (.ref p) (upd H p (.lst (cutV xs lo hi)))
theorem sl_list : SlR X (rSlL X.K) := by
 intro pins s σ H x v vl vu lo hi sl Q I rx hs pl pu h
 obtain ⟨a, xs, rfl, hx, q⟩ := h
 cases rx
 obtain ⟨its, r, ht, hz⟩ := I.list hx
 have hlen := r.length
 refine ⟨"list", _, slot_list_getitem.lookup, ht.isList.typeIs, ?_⟩
 refine wpAny_getItem_list_slice ht.isList hs pl pu .none (by simp) ?_ (by rw [List.size_toArray] <;> omega)
 rw [XM, <- hlen]
 refine ⟨.ref s.heap.objs.size, _, I.laid (t' := s.toks) (o := .lst (cutV xs lo hi)) (fun b ob q => Heap.get?_push_of_some _ q) (Nat.le_refl _) ?_, rfl, q _ (I.hok.fresh (Nat.le_refl _))⟩
 exact ⟨Nat.le_trans (WN xs lo hi) hz, _, 0, (r.drop (HT.sIx xs.length 0 lo)).take (HT.sIx xs.length xs.length hi - HT.sIx xs.length 0 lo), Heap.get?_push_size _ rfl⟩
theorem Wu : Xv X (.builtin "len") (fun xs H Q => ∃ p ys, xs = [.ref p] /\ (SqL X.K H p ys \/ SqT X.K H p ys) /\ Q (.int ys.length) H) := by
 intro pins s σ H xs us Q I r h
 obtain ⟨p, ys, rfl, hq, q⟩ := h
 obtain ⟨u, rfl, rx⟩ := WA r
 cases rx
 have hn := Wi
 rcases hq with hq | hq
 ·obtain ⟨its, r', pl, hz⟩ := I.list hq
  have hlen := r'.length
  exact Calls.call_len_list pl.isList (by simp only [List.size_toArray] <;> omega) ⟨.int ys.length, H, I.tok _, ⟨s.toks + 1, by rw [List.size_toArray, hlen]⟩, q⟩
 ·obtain ⟨its, r', pl, hz⟩ := I.tuple hq
  have hlen := r'.length
  exact len_tuple pl (by simp only [List.size_toArray] <;> omega) ⟨.int ys.length, H, I.tok _, ⟨s.toks + 1, by rw [List.size_toArray, hlen]⟩, q⟩
theorem Wt : Xv X (.type "list") (fun xs H Q => ∃ p ys, xs = [.ref p] /\ (SqL X.K H p ys \/ SqT X.K H p ys) /\ ∀ l, H l = none -> Q (.ref l) (upd H l (.lst ys))) := by
 intro pins s σ H xs us Q I r h
 obtain ⟨p, ys, rfl, hq, q⟩ := h
 obtain ⟨u, rfl, rx⟩ := WA r
 cases rx
 have fin : ∀ (its : List Value), Vals ys its -> ys.length <= sizeLine -> ∀ (h' : Heap) (c' : Nat), (∀ b o', s.heap.get? b = some o' -> h'.get? b = some o') ->
   h'.get? s.heap.objs.size = some { cls := .type "list", dict := none, data := .seq its.toArray c', slots := #[] } -> EP X pins σ Q (.ref s.heap.objs.size) { s with heap := h' } := fun its r' hz h' c' kp e =>
  ⟨.ref s.heap.objs.size, _, I.laid (t' := s.toks) kp (Nat.le_refl _) (show YC X.prog X.w _ h' _ (.lst ys) from ⟨hz, its, c', r', e⟩), rfl, q _ (I.hok.fresh (Nat.le_refl _))⟩
 rcases hq with hq | hq
 ·obtain ⟨its, r', pl, hz⟩ := I.list hq
  have hlen := r'.length
  obtain ⟨o, ho, hc, n, hd⟩ := pl.isList
  exact call_list_seq p (.inl rfl) ho hc hd (fun h' c' kp e => fin its r' hz h' c' kp e) (by simp only [List.size_toArray] <;> omega)
 ·obtain ⟨its, r', pl, hz⟩ := I.tuple hq
  have hlen := r'.length
  obtain ⟨o, ho, hc, n, hd⟩ := pl
  exact call_list_seq p (.inr rfl) ho hc hd (fun h' c' kp e => fin its r' hz h' c' kp e) (by simp only [List.size_toArray] <;> omega)
theorem X4 : Xv X (.type "tuple") (fun xs H Q => ∃ p ys, xs = [.ref p] /\ ((SqL X.K H p ys /\ ∀ l, H l = none -> Q (.ref l) (upd H l (.tup ys))) \/ (SqT X.K H p ys /\ Q (.ref p) H))) := by
 intro pins s σ H xs us Q I r h
 obtain ⟨p, ys, rfl, h⟩ := h
 obtain ⟨u, rfl, rx⟩ := WA r
 cases rx
 rcases h with ⟨hq, q⟩ | ⟨hq, q⟩
 ·obtain ⟨its, r', pl, hz⟩ := I.list hq
  have hlen := r'.length
  refine call_tuple_list pl.isList (fun h' kp => ?_) (by simp only [List.size_toArray] <;> omega)
  have I1 : Inv X pins σ H { s with heap := h' } := I.kept (t' := s.toks) kp
  have I2 : Inv X pins σ (upd H h'.objs.size (.tup ys)) { s with heap := h'.push { cls := .type "tuple", data := .seq its.toArray } } :=
   I1.laid (t' := s.toks) (fun b o e => Heap.get?_push_of_some _ e) (Nat.le_refl _) (show YC X.prog X.w _ _ _ (.tup ys) from ⟨hz, its, r', IsTup.new _ _⟩)
  exact ⟨.ref h'.objs.size, _, I2, rfl, q _ (I1.hok.fresh (Nat.le_refl _))⟩
 ·obtain ⟨its, r', pl, hz⟩ := I.tuple hq
  exact call_tuple_same pl ⟨.ref p, H, I, rfl, q⟩
variable {o e : Expr} {es : List Expr} {to : TE} {t : TA} {name : Str} {apos cpos : Pos} {T id : String} {r : V -> List V -> Hp -> VK -> Prop}
end
end L2
namespace L2
open PySem PySem.Spec PyProof.Rows
def MtM (X : Cx) (id : String) (r : V -> List V -> Hp -> VK -> Prop) : Prop :=
 ∀ (pins : List (Addr × Obj)) (s : Shared) (σ : St) (H : Hp) (x : V) (xs : List V) (v : Value) (us : List Value) (Q : VK), Inv X pins σ H s -> RelV x v -> Vals xs us -> r x xs H Q ->
  wpAny (model X.prog X.w) X.A (call (.builtin id) (v :: us)) (EP X pins σ Q) X.xe s
theorem Vals.one : ∀ {x : V} {us : List Value}, Vals [x] us -> ∃ u, us = [u] /\ RelV x u
 | _, _, .cons r .nil => ⟨_, rfl, r⟩
section
variable {X : Cx} {pins : List (Addr × Obj)} {σ : St} {H : Hp} {s : Shared} {l b : Addr} {xs ys zs : List V}
theorem Inv.lset {its its' : List Value} {n : Nat} {f : Array Value -> Array Value} {t' : Nat} (I : Inv X pins σ H s) (hH : H l = some (.lst xs))
  (e : s.heap.get? l = some { cls := .type "list", data := .seq its.toArray n }) (hf : f its.toArray = its'.toArray) (hv : Vals ys its') (hz : ys.length <= sizeLine) :
  Inv X pins σ (upd H l (.lst ys)) { s with heap := s.heap.update l (Obj.mapSeq f), toks := t' } := by
 have q := PySem.IsL.update e f
 rw [hf] at q
 refine I.write (x := l) (e := l) (by rw [hH]; exact trivial) (.inl rfl) (fun b' u hb hu => (Heap.get?_update_other s.heap (Obj.mapSeq f) (Ne.symm hb)).trans hu) ⟨_, q⟩ ?_
 exact ⟨hz, its', _, hv, q⟩
theorem Inv.lnew {its : List Value} {t' : Nat} (I : Inv X pins σ H s) (hv : Vals ys its) (hz : ys.length <= sizeLine) :
  Inv X pins σ (upd H s.heap.objs.size (.lst ys)) { s with heap := s.heap.push { cls := .type "list", data := .seq its.toArray }, toks := t' } :=
 I.laid (fun _ _ q => Heap.get?_push_of_some _ q) (Nat.le_refl _) ⟨hz, its, 0, hv, Heap.get?_push_size _ rfl⟩
theorem Inv.fresh (I : Inv X pins σ H s) : H s.heap.objs.size = none := I.hok.fresh (Nat.le_refl _)
theorem Inv.lstM (I : Inv X pins σ H s) (hH : H l = some (.lst xs)) : xs.length <= sizeLine /\ ∃ (its : List Value) (n : Nat), Vals xs its /\ xs.length = its.length /\ s.heap.get? l = some { cls := .type "list", data := .seq its.toArray n } := by
 obtain ⟨z, its, n, r, e⟩ := I.hok l _ hH
 exact ⟨z, its, n, r, r.length, e⟩
end
section
variable {X : Cx}
def rAppend : V -> List V -> Hp -> VK -> Prop := fun x vs H Q => ∃ l xs y, x = .ref l /\ vs = [y] /\ H l = some (.lst xs) /\ xs.length < sizeLine /\ Q .non (upd H l (.lst (xs ++ [y])))
theorem Xi : MtM X "list.append" rAppend := by
 intro pins s σ H x vs v us Q I rx rv h
 obtain ⟨l, xs, y, rfl, rfl, hH, hz, q⟩ := h
 cases rx
 obtain ⟨u, rfl, ru⟩ := rv.one
 obtain ⟨z, its, n, r, hl, e⟩ := I.lstM hH
 refine call_meets F.slot_list_append ⟨_, e, rfl⟩ F.entry_list_append (F.args_list_append_2 _ _) (PySem.list_append l its.toArray n u (by rw [List.size_toArray]; omega)) ⟨e, ?_⟩
 refine ⟨.non, _, I.lset (its' := its ++ [u]) hH e (by simp) (r.append (.cons ru .nil)) ?_, rfl, q⟩
 rw [List.length_append, List.length_singleton]
 omega
end
end L2
namespace Att
open PySem PySem.W PySem.Calls PyProof.Rows
theorem Xj {P : Params} {h : Heap} : ∀ (ns : List Int) (vs : List Value), WellAll P h vs (ns.map WData.int) -> IntsAre vs ns := by
 intro ns
 induction ns with
 | nil =>
  intro vs w
  rw [List.map_nil] at w
  cases w
  exact .nil
 | cons n ns ih =>
  intro vs w
  rw [List.map_cons] at w
  cases w with
  | cons a b =>
   cases a
   exact .cons _ _ (ih _ b)
theorem VL {l : OpenLaw} {n : Nat} (hn : l.most = some n) {P : Params} {h : Heap} {args : List WData} {vals : List Value}
  (hpre : l.row.toRowW.claim.pre args = true) (hwl : WellAll P h vals args) :
  ∃ a vs ns, vals = [Value.ref a] /\ args = [WData.list (ns.map WData.int)] /\ h.get? a = some { cls := .type "list", data := .seq vs.toArray } /\ IntsAre vs ns /\ ns.length <= n := by
 have hsh : WShape.hasAll [] args [.list .int] = true := (pre_splitW hpre).1
 have hc : l.pre.holds [] { args := args } = true := (pre_splitW hpre).2
 obtain ⟨d, r, rfl, h1, h2⟩ := hasAllW_cons hsh
 obtain rfl := hasAllW_nil h2
 obtain ⟨xs, rfl, h3⟩ := hasW_list h1
 obtain ⟨ns, rfl⟩ := items_int h3
 have hlen : ns.length <= n := by
  unfold OpenLaw.pre at hc
  have h4 : (WTm.not (.lt (.lit (.int (n : Int))) (.len (.arg 0)))).holds [] { args := [.list (ns.map .int)] } = true := by
   have h4 := (holds_andW hc).1
   rw [hn] at h4
   exact h4
  have h5 := condW_of h4 (w_not (w_lt w_lit (w_len_list (w_arg rfl))))
  rw [List.length_map] at h5
  refine Nat.le_of_not_lt fun q => ?_
  have q' : (n : Int) < ((ns.length : Nat) : Int) := by omega
  first
   | (rw [decide_eq_true q'] at h5; exact absurd h5 (by decide))
   | (simp at h5; omega)
 cases hwl with
 | cons w1 w2 =>
  cases w2
  cases w1 with
  | list ho hall => exact ⟨_, _, ns, rfl, rfl, ho, Xj ns _ hall, hlen⟩
theorem VR (l : OpenLaw) (args : List WData) : l.row.toRowW.claim.post args (.bool true) args = true :=
 postW_of (r := l.row.toRowW) (X := (true == true))
  (show WShape.has [] (.bool true) .bool = true by first | rfl | decide | simp [WShape.has, WShape.arms, WShape.armsAll])
  (show (WTm.eq .res (.lit (.bool true))).value [] { args := args, res := some (.bool true), after := args } = some (.bool (true == true)) from w_eq_bool (w_res rfl) w_lit) rfl
theorem attach_call {l : OpenLaw} {n : Nat} {q : Program} {loose : List Str} {XP : (Str -> Option Value) -> Heap -> Prop} {YP : World -> Heap -> Prop} {d : DefRec}
  (hn : l.most = some n) (hdf : d.params.defaults = [])
  (call : ∀ (w : World) (s₀ s₁ : Shared) (mg mb : Str -> Option Value) (fa : Addr) (o : Obj) (pm cd doc : Value) (a : Addr) (vs : List Value) (ns : List Int),
   Ground q loose [] XP w s₀ mg mb s₁.heap -> YP w s₁.heap ->
   s₁.heap.get? fa = some o -> o.data = .func (docDef d.name d.params d.body d.scope pm cd doc) -> s₁.heap.CodeRec cd d.name -> mg d.name = some (.ref fa) ->
   s₁.heap.get? a = some { cls := .type "list", data := .seq vs.toArray } -> IntsAre vs ns -> ns.length <= n -> s₁.gens = #[] ->
   codeAny (model l.prog w) callerA (.call (.ref fa) ⟨[.ref a], []⟩) (fun r s' => r = .ok (.ret (.bool true)) /\ OldK s₁.heap s'.heap /\ s'.os = s₁.os /\ AllBare s'.gens) s₁) :
  WalkO q loose XP YP l.row.toRowW d [] (fun f vs => PySem.call f vs) := by
 intro w s₀ s₁ mg mb G Y fa o pm cd doc dV kV ho hd hcd hD hmg hg args vals as hpre hlay hrd hwl hlo
 obtain rfl : dV = .none := Dflts.none hD hdf
 obtain rfl : kV = .none := Dflts.noKw hD
 obtain ⟨a, vs, ns, rfl, rfl, hobj, hints, hlen⟩ := VL hn hpre hwl
 refine enter_call (codeAny_mono (call w s₀ s₁ mg mb fa o pm cd doc a vs ns G Y ho (fd_plain hd) hcd hmg hobj hints hlen hg) fun r s' hq => ?_)
 obtain ⟨rfl, h2, h3, h4⟩ := hq
 exact ⟨.inl ⟨.bool true, .bool true, [], rfl, fun _ => rfl, .bool true, VR l _, fun _ => ⟨List.Pairwise.nil, fun _ hm => (nomatch hm)⟩⟩, h2, h3, h4⟩
end Att
namespace L2
open PySem PySem.Spec PyProof.Rows
theorem X7 : ∀ {vs : List Value} {ns : List Int}, IntsAre vs ns -> Vals (ns.map V.int) vs
 | _, _, .nil => .nil
 | _, _, .cons n t h => .cons ⟨t, rfl⟩ (X7 h)
end L2
namespace L2
open PySem PySem.Spec PyProof.Rows
def ZW (s : Stmt) : Arguments := match s with
 | .FunctionDef _ a _ _ _ _ _ _ _ _ => a
 | _ => { posonlyargs := [], args := [], vararg := none, kwonlyargs := [], kw_defaults := [], kwarg := none, defaults := [] }
def ZC (s : Stmt) : List Stmt := match s with
 | .FunctionDef _ _ b _ _ _ _ _ _ _ => b
 | _ => []
def Zd (s : Stmt) : Scope := match s with
 | .FunctionDef _ _ _ _ _ _ sc _ _ _ => sc
 | _ => { kind := .function, names := [], isGenerator := false, isCoroutine := false }
abbrev CX0 : CXT := fun _ _ _ _ _ _ => False
structure Fun (K : PySem.W.Frag) (x qual : Str) (st : Stmt) (f : Addr) (fd : FuncData) : Prop where
 ex : ∃ (oc : Value) (od : Option Addr) (kV doc pm : Value) (an : Option Addr) (cdv ct : Value) (osl : Array (Option Value)),
  fd = PySem.W.fnOf x qual (ZW st) (ZC st) (Zd st) .none kV doc pm an cdv ct /\ K.lookup f = some ⟨oc, od, .func fd, osl⟩ /\ PySem.W.codeIn K cdv qual = true
 kp : PySem.W.keepIn K (.ref f) = true
section
variable {P : Program} {w : World} {K : PySem.W.Frag} {mg : Str -> Option Value} {base : Heap}
theorem Fun.ok {x qual : Str} {st : Stmt} {f : Addr} {fd : FuncData} {N ps : List Str} {k : Nat} {sp : Sp} (F : Fun K x qual st f fd) (S : FnScope N ps (Zd st)) (len : ∀ vs H Q E, sp vs H Q E -> vs.length = ps.length)
  (hbody : ∀ (cdv : Value) (A : Around) (outer : List Env) (s : Shared) (H : Hp) (vs : List V) (Q : VK) (E : XK), Room k (A.deeper (envOfC qual (Zd st) s.heap.objs.size f cdv)) -> sp vs H Q E ->
   ∃ t, PSs (cxOf CX0 P w K mg base N qual (Zd st) f cdv A outer s H E).nox (ZC st) t /\ t { nx := fun _ H' => Q .non H', rt := Q } (start N vs) H) : FnOk P w K mg base CX0 (k + 1) f fd ps sp := by
 obtain ⟨oc, od, kV, doc, pm, an, cdv, ct, osl, rfl, lk, hcd⟩ := F.ex
 refine fn_of lk hcd S len fun A outer s H vs Q E hr hsp => ?_
 obtain ⟨t, h, q⟩ := hbody cdv A outer s H vs Q E hr hsp
 exact ⟨t, h.nox, q⟩
theorem Fun.binds {x qual : Str} {st : Stmt} {f : Addr} {fd : FuncData} {ps : List Str} (F : Fun K x qual st f fd)
  (h : ∀ (kV doc pm : Value) (an : Option Addr) (cdv ct : Value) (us : List Value), us.length = ps.length -> bindArgs (PySem.W.fnOf x qual (ZW st) (ZC st) (Zd st) .none kV doc pm an cdv ct) ⟨us, []⟩ = pure (ps.zip us)) : Yx K fd ps [] := by
 obtain ⟨oc, od, kV, doc, pm, an, cdv, ct, osl, rfl, lk, hcd⟩ := F.ex
 exact .all (h kV doc pm an cdv ct)
theorem Y7 {x qual : Str} {st : Stmt} {f : Addr} {oc : Value} {od an : Option Addr} {osl : Array (Option Value)} {kV doc pm cdv ct : Value} (l : K.lookup f = some ⟨oc, od, .func (PySem.W.fnOf x qual (ZW st) (ZC st) (Zd st) .none kV doc pm an cdv ct), osl⟩)
  (c : PySem.W.codeIn K cdv qual = true) (k : PySem.W.keepIn K (.ref f) = true) : Fun K x qual st f (PySem.W.fnOf x qual (ZW st) (ZC st) (Zd st) .none kV doc pm an cdv ct) := ⟨⟨oc, od, kV, doc, pm, an, cdv, ct, osl, rfl, l, c⟩, k⟩
end
theorem iteF {A B : Prop} (h : B) : if false = true then A else B := by
 rw [if_neg Bool.false_ne_true]
 exact h
theorem iteT {A B : Prop} (h : A) : if true = true then A else B := by
 rw [if_pos rfl]
 exact h
end L2
namespace Fx
open PySem
inductive Sl where
 | emp | val (t : PyData) | own (xs : List PyData)
inductive Res (α : Type) where
 | ok (a : α) | exc (c : Str) | stuck
def Res.bind {α β : Type} (r : Res α) (f : α -> Res β) : Res β :=
 match r with
 | .ok a => f a
 | .exc c => .exc c
 | .stuck => .stuck
@[simp] theorem Res.bind_ok {α β : Type} (a : α) (f : α -> Res β) : Res.bind (.ok a) f = f a := rfl
@[simp] theorem Res.bind_exc {α β : Type} (c : Str) (f : α -> Res β) : Res.bind (.exc c) f = .exc c := rfl
@[simp] theorem Res.bind_stuck {α β : Type} (f : α -> Res β) : Res.bind .stuck f = .stuck := rfl
abbrev DE := List Sl -> Res PyData
abbrev DT := List Sl -> Res Bool
abbrev DA := List Sl -> Res (List PyData)
inductive Out where
 | nx (G : List Sl) | rt (t : PyData) | bk (G : List Sl) | ct (G : List Sl)
abbrev DS := List Sl -> Res Out
abbrev DF := List PyData -> Res PyData
@[simp] def frz1 (G : List Sl) (i : Nat) : List Sl :=
 match G[i]? with
 | some (.own xs) => G.set i (.val (.list xs))
 | _ => G
@[simp] def frz (is : List Nat) (G : List Sl) : List Sl := is.foldl frz1 G
@[simp] def frzA : List Sl -> List Sl
 | [] => []
 | .own xs :: r => .val (.list xs) :: frzA r
 | .emp :: r => .emp :: frzA r
 | .val t :: r => .val t :: frzA r
@[simp] def frzS : Sl -> Sl
 | .own xs => .val (.list xs)
 | .emp => .emp
 | .val t => .val t
@[simp] theorem frzA_cons (s : Sl) (G : List Sl) : frzA (s :: G) = frzS s :: frzA G := by cases s <;> simp
mutual
def Zy : PyData -> Bool
 | .none | .bool _ | .int _ | .str _ => true
 | .tuple xs => ZX xs
 | .list _ => false
 | .dict _ => false
def ZX : List PyData -> Bool
 | [] => true
 | x :: xs => Zy x && ZX xs
end
@[simp] theorem scalT_none : Zy .none = true := by simp [Zy]
@[simp] theorem scalT_bool (b : Bool) : Zy (.bool b) = true := by simp [Zy]
@[simp] theorem scalT_int (b : Int) : Zy (.int b) = true := by simp [Zy]
@[simp] theorem scalT_str (b : Str) : Zy (.str b) = true := by simp [Zy]
@[simp] theorem scalT_tuple (xs : List PyData) : Zy (.tuple xs) = ZX xs := by simp [Zy]
@[simp] theorem scalT_dict (xs : List (PyData × PyData)) : Zy (.dict xs) = false := by simp [Zy]
@[simp] theorem scalT_list (xs : List PyData) : Zy (.list xs) = false := by simp [Zy]
@[simp] theorem scalAll_nil : ZX [] = true := by simp [ZX]
@[simp] theorem Y5 (x : PyData) (xs : List PyData) : ZX (x :: xs) = (Zy x && ZX xs) := by simp [ZX]
@[simp] def dC (t : PyData) : DE := fun _ => .ok t
@[simp] def dVar (i : Nat) : DE := fun G => match G[i]? with
 | some (.val t) => .ok t
 | _ => .stuck
@[simp] def d1 (f : PyData -> Res PyData) (a : DE) : DE := fun G => (a G).bind f
@[simp] def d2 (f : PyData -> PyData -> Res PyData) (a b : DE) : DE := fun G => (a G).bind fun x => (b G).bind fun y => f x y
@[simp] def dNil : DA := fun _ => .ok []
@[simp] def Zh (a : DE) (r : DA) : DA := fun G => (a G).bind fun x => (r G).bind fun xs => .ok (x :: xs)
@[simp] def lenOk (xs : List PyData) : Bool := decide (xs.length <= 16777216)
@[simp] def dTup (a : DA) : DE := fun G => (a G).bind fun xs => if lenOk xs then .ok (.tuple xs) else .stuck
@[simp] def dLst (a : DA) : DE := fun G => (a G).bind fun xs => if lenOk xs then .ok (.list xs) else .stuck
@[simp] def Yr (f : DF) (a : DA) : DE := fun G => (a G).bind f
@[simp] def dAndV (a b : DE) : DE := fun G => (a G).bind fun x => match x with
 | .bool k => if k then b G else .ok (.bool false)
 | _ => .stuck
@[simp] def dNotV (a : DE) : DE := fun G => (a G).bind fun x => match x with
 | .bool k => .ok (.bool (!k))
 | _ => .stuck
def Wh (i j : Int) : Bool := decide (i.natAbs.log2 + j.natAbs.log2 + 2 <= 134217728) || decide (i.natAbs < 18446744073709551616) || decide (j.natAbs < 18446744073709551616)
def WM (j : Int) : Bool := decide (j ≠ 0) && decide (j.natAbs.log2 < 9000)
@[simp] def fAdd : PyData -> PyData -> Res PyData
 | .int i, .int j => .ok (.int (i + j))
 | .list xs, .list ys => if xs.length + ys.length <= 16777216 then .ok (.list (xs ++ ys)) else .stuck
 | _, _ => .stuck
@[simp] def fSub : PyData -> PyData -> Res PyData
 | .int i, .int j => .ok (.int (i - j))
 | _, _ => .stuck
@[simp] def fMul : PyData -> PyData -> Res PyData
 | .int i, .int j => if Wh i j then .ok (.int (i * j)) else .stuck
 | _, _ => .stuck
@[simp] def fDiv : PyData -> PyData -> Res PyData
 | .int i, .int j => if WM j then .ok (.int (i.fdiv j)) else .stuck
 | _, _ => .stuck
@[simp] def fMod : PyData -> PyData -> Res PyData
 | .int i, .int j => if j = 0 then .stuck else .ok (.int (i.fmod j))
 | _, _ => .stuck
@[simp] def fPow : PyData -> PyData -> Res PyData
 | .int i, .int j => if 0 <= j /\ j <= 1000000 /\ i.natAbs < 2 ^ 64 then .ok (.int (i ^ j.toNat)) else .stuck
 | _, _ => .stuck
@[simp] def fNeg : PyData -> Res PyData
 | .int i => .ok (.int (-i))
 | _ => .stuck
@[simp] def fLt : PyData -> PyData -> Res PyData
 | .int i, .int j => .ok (.bool (decide (i < j)))
 | _, _ => .stuck
@[simp] def fLe : PyData -> PyData -> Res PyData
 | .int i, .int j => .ok (.bool (decide (i <= j)))
 | _, _ => .stuck
@[simp] def fGt : PyData -> PyData -> Res PyData
 | .int i, .int j => .ok (.bool (decide (j < i)))
 | _, _ => .stuck
def Yh (d : PyData) : Bool := d.canLay0 && decide (d.depth <= 64)
def fEq : PyData -> PyData -> Res PyData
 | .int i, .int j => .ok (.bool (decide (i = j)))
 | x, y => if Yh x && Yh y then .ok (.bool (x.eqv y)) else .stuck
@[simp] def fLen : PyData -> Res PyData
 | .list xs => .ok (.int xs.length)
 | .tuple xs => .ok (.int xs.length)
 | _ => .stuck
@[simp] def fAbs : PyData -> Res PyData
 | .int i => .ok (.int (if i < 0 then -i else i))
 | _ => .stuck
def ixP (n : Nat) (i : Int) : Option Nat := if 0 <= i then (if i < n then some i.toNat else none) else if -(n : Int) <= i then some (i + n).toNat else none
def atP (xs : List PyData) (i : Int) : Option PyData := (ixP xs.length i).bind fun j => xs[j]?
@[simp] def ofO {α : Type} : Option α -> Res α
 | some a => .ok a
 | none => .stuck
@[simp] def fIx : PyData -> PyData -> Res PyData
 | .list xs, .int i => ofO (atP xs i)
 | .tuple xs, .int i => ofO (atP xs i)
 | _, _ => .stuck
@[simp] def isInt : PyData -> Bool
 | .int _ => true
 | .bool _ => true
 | _ => false
@[simp] def isBool : PyData -> Bool
 | .bool _ => true
 | _ => false
@[simp] def isList : PyData -> Bool
 | .list _ => true
 | _ => false
@[simp] def fIs (p : PyData -> Bool) : PyData -> Res PyData
 | .dict _ => .stuck
 | .none => .ok (.bool (p .none))
 | .bool b => .ok (.bool (p (.bool b)))
 | .int b => .ok (.bool (p (.int b)))
 | .str b => .ok (.bool (p (.str b)))
 | .list b => .ok (.bool (p (.list b)))
 | .tuple b => .ok (.bool (p (.tuple b)))
@[simp] def fIsX : PyData -> Res PyData
 | .dict [] => .ok (.bool true)
 | _ => .stuck
@[simp] def fList : PyData -> Res (List PyData)
 | .list xs => .ok xs
 | .tuple xs => .ok xs
 | _ => .stuck
@[simp] def Uc : PyData -> Res PyData
 | .list xs => .ok (.tuple xs)
 | .tuple xs => .ok (.tuple xs)
 | _ => .stuck
@[simp] def truth : PyData -> Res Bool
 | .none => .ok false
 | .bool b => .ok b
 | .int i => .ok (i != 0)
 | .list xs => .ok (!xs.isEmpty)
 | .tuple xs => .ok (!xs.isEmpty)
 | _ => .stuck
@[simp] def tV (a : DE) : DT := fun G => (a G).bind truth
@[simp] def tOr (a b : DT) : DT := fun G => (a G).bind fun k => if k then .ok true else b G
@[simp] def tNot (a : DT) : DT := fun G => (a G).bind fun k => .ok (!k)
@[simp] def dSeq (a b : DS) : DS := fun G => (a G).bind fun o => match o with
 | .nx G' => b G'
 | .rt t => .ok (.rt t)
 | .bk G' => .ok (.bk G')
 | .ct G' => .ok (.ct G')
@[simp] def XZ : DS := fun G => .ok (.nx G)
@[simp] def dNev : DS := fun _ => .stuck
@[simp] def Wp (c : Str) (a : DA) : DS := fun G => (a (frzA G)).bind fun _ => .exc c
def dSet (i : Nat) (is : List Nat) (e : DE) : DS := fun G => (e (frz is G)).bind fun t => .ok (.nx ((if Zy t then G else frz is G).set i (.val t)))
@[simp] theorem dSet_nil (i : Nat) (e : DE) (G : List Sl) : dSet i [] e G = (e G).bind fun t => .ok (.nx (G.set i (.val t))) := by
 unfold dSet
 show (e G).bind _ = _
 congr 1
 funext t
 show Res.ok (Out.nx ((if Zy t = true then G else G).set i (.val t))) = _
 rw [ite_self]
@[simp] theorem dSet_cons (i j : Nat) (is : List Nat) (e : DE) (G : List Sl) : dSet i (j :: is) e G = (e (frz (j :: is) G)).bind fun t => .ok (.nx ((if Zy t then G else frz (j :: is) G).set i (.val t))) := rfl
@[simp] def dRet (e : DE) : DS := fun G => (e (frzA G)).bind fun t => .ok (.rt t)
@[simp] def dIf (c : DT) (a b : DS) : DS := fun G => (c (frzA G)).bind fun k => if k then a G else b G
@[simp] def X0 (e : DE) : DS := fun G => (e (frzA G)).bind fun _ => .ok (.nx G)
@[simp] def appOwn (i : Nat) (G' : List Sl) (t : PyData) : Res Out :=
 match G'[i]? with
 | some (.own xs) => if xs.length < 16777216 then .ok (.nx (G'.set i (.own (xs ++ [t])))) else .stuck
 | _ => .stuck
@[simp] def Wk (G : List Sl) (i : Nat) : Bool := match G[i]? with
 | some (.own _) => true
 | _ => false
def dApp (i : Nat) (is : List Nat) (e : DE) : DS := fun G => if Wk G i then (e (frz is G)).bind fun t => appOwn i (if Zy t then G else frz is G) t else .stuck
@[simp] theorem dApp_cons (i j : Nat) (is : List Nat) (e : DE) (G : List Sl) : dApp i (j :: is) e G = if Wk G i then (e (frz (j :: is) G)).bind fun t => appOwn i (if Zy t then G else frz (j :: is) G) t else .stuck := rfl
@[simp] def Ya (i : Nat) : PyData -> List Sl -> Res (List Sl) := fun t G => .ok (G.set i (.val t))
@[simp] def noX {α : Type} : Res α -> Res α
 | .ok a => .ok a
 | _ => .stuck
@[simp] def dTry (b : DS) (sub : Str -> Bool) (h : DS) : DS := fun G => match b G with
 | .exc c => if sub c then noX (h G) else .stuck
 | .ok o => .ok o
 | .stuck => .stuck
@[simp] def XF (f : DF) (a : DA) : DE := fun G => (noX (a G)).bind f
@[simp] def dTryA (i : Nat) (b : DS) (sub : Str -> Bool) (h : DS) : DS := fun G => match b G with
 | .exc c => if sub c then (noX (h (G.set i (.val (.dict []))))).bind fun o => match o with
  | .nx G' => .ok (.nx (G'.set i .emp))
  | .rt t => .ok (.rt t)
  | _ => .stuck
  else .stuck
 | .ok o => .ok o
 | .stuck => .stuck
@[simp] def fInt : PyData -> Res PyData
 | .int i => .ok (.int i)
 | .bool b => .ok (.int (if b then 1 else 0))
 | _ => .stuck
def runF (n np : Nat) (b : DS) : DF := fun ts => if ts.length = np then (b (ts.map .val ++ List.replicate (n - np) .emp)).bind fun o => match o with
  | .rt t => .ok t
  | .nx _ => .ok .none
  | _ => .stuck
 else .stuck
theorem Yu {α : Type} (r : Res α) : (∃ a, noX r = .ok a) \/ noX r = .stuck := by
 cases r
 ·exact .inl ⟨_, rfl⟩
 ·exact .inr rfl
 ·exact .inr rfl
theorem Wg {α : Type} {r : Res α} {a : α} (h : noX r = .ok a) : r = .ok a := by
 cases r <;> simp at h
 rw [h]
def runQ (n np : Nat) (b : DS) : DF := fun ts => noX (runF n np b ts)
theorem runQ_nox (n np : Nat) (b : DS) (ts : List PyData) (c : Str) : runQ n np b ts ≠ .exc c := by
 unfold runQ
 cases runF n np b ts <;> simp
def rngT (lo : Int) (n : Nat) : List PyData := (List.range n).map fun (k : Nat) => .int (lo + (k : Int))
def WD (j : Int) : Bool := decide (j.natAbs <= 1000000000000)
theorem Wb {n : Nat} (h : n <= 1000000000) : WD (n : Int) = true := by
 unfold WD
 exact decide_eq_true (by omega)
theorem WZ {j : Int} (h : WD j = true) : -(2 ^ 62) <= j /\ j < 2 ^ 62 := by
 have h' : j.natAbs <= 1000000000000 := of_decide_eq_true h
 omega
@[simp] def iRng (a : DE) : DA := fun G => (a G).bind fun x => match x with
 | .int j => if WD j = true then .ok (rngT 0 j.toNat) else .stuck
 | _ => .stuck
theorem fLt_b : ∀ x y, (∃ k, fLt x y = .ok (.bool k)) \/ fLt x y = .stuck := by intro x y; cases x <;> cases y <;> simp
theorem fGt_b : ∀ x y, (∃ k, fGt x y = .ok (.bool k)) \/ fGt x y = .stuck := by intro x y; cases x <;> cases y <;> simp
theorem fEq_b : ∀ x y, (∃ k, fEq x y = .ok (.bool k)) \/ fEq x y = .stuck := by
 intro x y
 unfold fEq
 split
 ·exact .inl ⟨_, rfl⟩
 ·split
  ·exact .inl ⟨_, rfl⟩
  ·exact .inr rfl
@[simp] def iSeq (a : DE) : DA := fun G => (a G).bind fun x => match x with
 | .list xs => .ok xs
 | .tuple xs => .ok xs
 | _ => .stuck
@[simp] def capS (cap : List Nat) (G : List Sl) : List Sl := cap.map fun i => match (G[i]? : Option Sl) with
 | some (.val t) => .val t
 | _ => .emp
def Zk (st : PyData -> List Sl -> Res (List Sl)) (c : DT) (e : DE) (C : List Sl) : List PyData -> Res (List PyData)
 | [] => .ok []
 | t :: ts => (noX (st t C)).bind fun G1 => (c G1).bind fun k => if k then (e G1).bind fun y => (Zk st c e C ts).bind fun ys => .ok (y :: ys) else Zk st c e C ts
@[simp] def Y2 (nv : Nat) (cap : List Nat) (st : PyData -> List Sl -> Res (List Sl)) (it : DA) (c : DT) (e : DE) : DA := fun G => (it G).bind fun ts => if ts.length <= 16777216 then Zk st c e (List.replicate nv .emp ++ capS cap G) ts else .stuck
@[simp] def tT : DT := fun _ => .ok true
@[simp] def dIxN (i : Nat) (k : DE) : DE := fun G => match G[i]? with
 | some (.own xs) => (k G).bind fun y => fIx (.list xs) y
 | some (.val t) => (k G).bind fun y => fIx t y
 | _ => .stuck
def sIxT (n d : Nat) : Option Int -> Nat
 | none => d
 | some i => if i < 0 then (i + n).toNat else min i.toNat n
def cutT (xs : List PyData) (lo hi : Option Int) : List PyData := (xs.drop (sIxT xs.length 0 lo)).take (sIxT xs.length xs.length hi - sIxT xs.length 0 lo)
abbrev DP := List Sl -> Res (Option Int)
@[simp] def pNo : DP := fun _ => .ok none
@[simp] def pAt (a : DE) : DP := fun G => (a G).bind fun x => match x with
 | .int i => .ok (some i)
 | _ => .stuck
@[simp] def oCut (a : DE) (lo hi : DP) : DA := fun G => (a G).bind fun x => (lo G).bind fun l => (hi G).bind fun h => match x with
 | .list xs => .ok (cutT xs l h)
 | _ => .stuck
@[simp] def subs (l : List Str) (c : Str) : Bool := l.contains c
@[simp] def dL (a : DA) : DE := fun G => (a G).bind fun xs => .ok (.list xs)
@[simp] def Vq (a : DE) : DA := fun G => (a G).bind fList
def allT : List PyData -> Res Bool
 | [] => .ok true
 | .bool k :: r => (allT r).bind fun m => .ok (k && m)
 | _ => .stuck
theorem UC : ∀ {xs : List PyData} {k : Bool}, allT xs = .ok k -> ∃ bs : List Bool, xs = bs.map .bool /\ k = bs.all id
 | [], k, h => by simp [allT] at h; exact ⟨[], rfl, by simp [<- h]⟩
 | x :: r, k, h => by
  cases x with
  | bool b =>
   simp only [allT] at h
   cases e : allT r with
   | ok m =>
    rw [e] at h
    simp at h
    obtain ⟨bs, h1, h2⟩ := UC e
    exact ⟨b :: bs, by simp [h1], by simp [<- h, h2]⟩
   | exc c => rw [e] at h; cases h
   | stuck => rw [e] at h; cases h
  | none => simp [allT] at h
  | int _ => simp [allT] at h
  | str _ => simp [allT] at h
  | list _ => simp [allT] at h
  | tuple _ => simp [allT] at h
  | dict _ => simp [allT] at h
theorem Vh : ∀ (xs : List PyData) (c : Str), allT xs ≠ .exc c
 | [], c => by simp [allT]
 | x :: r, c => by
  cases x with
  | bool b =>
   simp only [allT]
   cases e : allT r with
   | ok m => simp
   | exc c' => exact absurd e (Vh r c')
   | stuck => simp
  | none => simp [allT]
  | int _ => simp [allT]
  | str _ => simp [allT]
  | list _ => simp [allT]
  | tuple _ => simp [allT]
  | dict _ => simp [allT]
@[simp] def fAll : PyData -> Res PyData
 | .list xs => (allT xs).bind fun k => .ok (.bool k)
 | _ => .stuck
@[simp] def YD (i : Nat) (G' : List Sl) (t kt : PyData) : Res Out :=
 match G'[i]?, kt with
 | some (.own xs), .int j => match ixP xs.length j with
  | some m => .ok (.nx (G'.set i (.own (xs.set m t))))
  | none => .stuck
 | _, _ => .stuck
def Xm (i : Nat) (is : List Nat) (k e : DE) : DS := fun G => (e (frz is G)).bind fun t => if Wk (if Zy t then G else frz is G) i then (k (frz is G)).bind fun kt => YD i (if Zy t then G else frz is G) t kt else .stuck
@[simp] theorem dSetIt_nil (i : Nat) (k e : DE) (G : List Sl) : Xm i [] k e G = (e G).bind fun t => if Wk G i then (k G).bind fun kt => YD i G t kt else .stuck := by
 unfold Xm
 show (e G).bind _ = _
 congr 1
 funext t
 show (if Wk (if Zy t = true then G else G) i = true then (k G).bind fun kt => YD i (if Zy t = true then G else G) t kt else .stuck) = _
 rw [ite_self]
@[simp] theorem dSetIt_cons (i j : Nat) (is : List Nat) (k e : DE) (G : List Sl) : Xm i (j :: is) k e G = (e (frz (j :: is) G)).bind fun t => if Wk (if Zy t then G else frz (j :: is) G) i then (k (frz (j :: is) G)).bind fun kt => YD i (if Zy t then G else frz (j :: is) G) t kt else .stuck := rfl
def Xa (nv : Nat) (st : PyData -> List Sl -> Res (List Sl)) : Prop := ∀ t G G1, st t G = .ok G1 -> G1.length = G.length /\ ∀ i, nv <= i -> G1[i]? = G[i]?
theorem ZO {nv i : Nat} (h : i < nv) : Xa nv (Ya i) := by
 intro t G G1 e
 simp at e
 subst e
 refine ⟨by simp, fun j hj => ?_⟩
 rw [List.getElem?_set_ne (by omega)]
end Fx
namespace Fx
open PySem
theorem mulOk_r {i j : Int} (hj : j.natAbs < 18446744073709551616) : Wh i j = true := by
 simp only [Wh, Bool.or_eq_true, decide_eq_true_eq]
 exact .inr hj
end Fx
namespace Fx
open PySem
theorem WY (lo : Int) (n : Nat) : (rngT lo n).length = n := by simp [rngT]
theorem Yo {α : Type} {st : PyData -> List Sl -> Res (List Sl)} {e : DE} {C : List Sl} (inj f : α -> PyData) : ∀ (xs : List α), (∀ x ∈ xs, ∃ G1, st (inj x) C = .ok G1 /\ e G1 = .ok (f x)) -> Zk st tT e C (xs.map inj) = .ok (xs.map f)
 | [], _ => rfl
 | t :: ts, h => by
  obtain ⟨G1, e1, e2⟩ := h t List.mem_cons_self
  have ih := Yo inj f ts fun t' ht => h t' (List.mem_cons_of_mem _ ht)
  rw [List.map_cons]
  unfold Zk
  simp [e1, e2, ih]
theorem XQ (n : Nat) : rngT 0 n = (List.range n).map fun (k : Nat) => PyData.int (k : Int) := by simp [rngT]
mutual
theorem eqv_refl : ∀ (t : PyData), t.canLay0 = true -> t.eqv t = true
 | .none, _ => by simp [PyData.eqv]
 | .bool b, _ => by simp [PyData.eqv]
 | .int i, _ => by simp [PyData.eqv]
 | .str x, _ => by simp [PyData.eqv]
 | .list xs, h => by simp only [PyData.eqv]; exact YJ xs (by simpa [PyData.canLay0] using h)
 | .tuple xs, h => by simp only [PyData.eqv]; exact YJ xs (by simpa [PyData.canLay0] using h)
 | .dict _, h => by simp [PyData.canLay0] at h
theorem YJ : ∀ (ts : List PyData), PyData.canLayAll0 ts = true -> PyData.eqvAll ts ts = true
 | [], _ => by simp [PyData.eqvAll]
 | t :: ts, h => by
  simp only [PyData.canLayAll0, Bool.and_eq_true] at h
  simp [PyData.eqvAll, eqv_refl t h.1, YJ ts h.2]
end
end Fx
namespace Lw
open PySem Fx
def XC : DS :=
  (dRet (dAndV (d1 (fIs isInt) (dVar 0)) (dNotV (d1 (fIs isBool) (dVar 0)))))
def ZV : DF := runQ 1 1 XC
def Ym : DS :=
  (dRet (dAndV (Yr ZV (Zh (dVar 0) dNil)) (d2 fLe (d1 fAbs (dVar 0)) (dC (.int 999999999999)))))
def Zx : DF := runQ 1 1 Ym
def Z8 : DS :=
  (dRet (d2 fAdd (d2 fMul (d2 fIx (dVar 0) (d2 fMod (dVar 1) (d1 fLen (dVar 0)))) (dC (.int 31))) (dVar 1)))
def ZP : DS :=
  dSeq (dIf (tV (d2 fEq (dVar 0) (dLst dNil)))
  (dRet (dC (.int 0)))
  XZ)
  Z8
def Z1 : DS :=
  dSeq (dIf (tV (d2 fLt (dVar 1) (d1 fLen (dVar 0))))
  (dRet (d2 fIx (dVar 0) (dVar 1)))
  XZ)
  ZP
def Zb : DF := runQ 2 2 Z1
end Lw
namespace Lw
open PySem Fx
theorem at0 (x y : PyData) : atP [x, y] 0 = some x := rfl
theorem at1 (x y : PyData) : atP [x, y] 1 = some y := rfl
theorem at_lt {ns : List Int} {k : Int} (h0 : 0 <= k) (h : k < ns.length) : ∃ c : Int, atP (ns.map .int) k = some (.int c) := by
 have hk : k.toNat < ns.length := by omega
 refine ⟨ns[k.toNat], ?_⟩
 simp [atP, ixP, h0, h, hk]
theorem Xg : ∀ ns : List Int, Yh (.list (ns.map .int)) = true := by
 intro ns
 have h1 : ∀ ns : List Int, PyData.canLayAll0 (ns.map .int) = true := by
  intro ns
  induction ns with
  | nil => simp [PyData.canLayAll0]
  | cons n ns ih => simp [PyData.canLayAll0, PyData.canLay0, ih]
 have h2 : ∀ ns : List Int, PyData.depthAll (ns.map .int) = 0 := by
  intro ns
  induction ns with
  | nil => simp [PyData.depthAll]
  | cons n ns ih => simp [PyData.depthAll, PyData.depth, ih]
 simp [Yh, PyData.canLay0, PyData.depth, h1, h2]
theorem eqv_nil (ns : List Int) : PyData.eqv (.list (ns.map .int)) (.list []) = ns.isEmpty := by
 cases ns <;> simp [PyData.eqv, PyData.eqvAll]
theorem Xw : Yh (.list []) = true := Xg []
theorem Uv (ns : List Int) (k : Int) (h0 : 0 <= k) : ∃ c : Int, Zb [.list (ns.map .int), .int k] = .ok (.int c) := by
 by_cases h : k < ns.length
 ·obtain ⟨c, e⟩ := at_lt h0 h
  exact ⟨c, by simp [Zb, runQ, runF, Z1, ZP, Z8, h, e]⟩
 ·by_cases hz : ns = []
  ·subst hz
   exact ⟨0, by
    have z := Xw
    have hk : ¬ k < 0 := by omega
    simp [Zb, runQ, runF, Z1, ZP, fEq, z, hk, PyData.eqv, PyData.eqvAll]⟩
  ·have hl : (0 : Int) < ns.length := by
    have : ns.length ≠ 0 := by simpa using hz
    omega
   have hf : Int.fmod k ns.length = k % ns.length := Int.fmod_eq_emod_of_nonneg _ (by omega)
   obtain ⟨c, e⟩ := at_lt (ns := ns) (k := k % ns.length) (Int.emod_nonneg _ (by omega)) (Int.emod_lt_of_pos _ hl)
   have hE : ns.isEmpty = false := by simpa using hz
   have o : Wh c 31 = true := mulOk_r (by decide)
   refine ⟨c * 31 + k, ?_⟩
   simp [Zb, runQ, runF, Z1, ZP, Z8, h, fEq, Xg, Xw, eqv_nil, hE, hz, hf, e, o]
@[simp] def noD : PyData -> Bool
 | .dict _ => false
 | _ => true
theorem WS (t : PyData) (h : noD t = true) : ZV [t] = .ok (.bool (match t with | .int _ => true | _ => false)) := by
 cases t <;> simp [ZV, runQ, runF, XC] at h ⊢
theorem VC (i : Int) : ZV [.int i] = .ok (.bool true) := WS (.int i) rfl
theorem atP_map {α : Type} {f : α -> PyData} {xs : List α} {i : Nat} (h : i < xs.length) : atP (xs.map f) (i : Int) = some (f xs[i]) := by
 simp [atP, ixP, h]
end Lw
namespace Lw
open PySem Fx
theorem YF {c : Int} {n : Nat} (h : 0 < n) : ∃ r : Nat, Int.fmod c (n : Int) = (r : Int) /\ r < n := by
 rw [Int.fmod_eq_emod_of_nonneg _ (by omega)]
 have h1 := Int.emod_nonneg c (b := (n : Int)) (by omega)
 have h2 := Int.emod_lt_of_pos c (b := (n : Int)) (by omega)
 exact ⟨(c % n).toNat, by omega, by omega⟩
end Lw
namespace Lw
open PySem Fx
theorem isnum_ok {i : Int} (h : i.natAbs <= 999999999999) : Zx [.int i] = .ok (.bool true) := by
 have : (if i < 0 then -i else i) <= 999999999999 := by split <;> omega
 simp [Zx, runQ, runF, Ym, VC, this]
end Lw
namespace Fx
open PySem PySem.Spec PyProof.Rows L2
def CO (c : Addr) (q : Str) : HO := .ext fun h => ∃ oc vs t, h.get? c = some oc /\ oc.data = .fields vs /\ vs[1]? = some (.str q t)
def YA : List Str := ["raising_column"]
def lamQ (x : Str) : Str := x ++ ".<locals>." ++ "<lambda>"
def Ys (K : PySem.W.Frag) (H : Hp) : Prop := ∀ x c T, x ∈ YA -> PySem.W.tabIn K x = some (c, T) ->
 ∃ ps, H T = some (.tbl ps) /\ TriplesOk ps.toList /\ ∀ pos cv, codeAmong pos ps.toList = some cv -> ∃ c', cv = .ref c' /\ H c' = some (CO c' (lamQ x))
def Nt (o : HO) : Prop := ∀ ps, o ≠ .tbl ps
theorem ZN {xs : List V} : Nt (.lst xs) := fun _ z => by cases z
theorem nt_tup {xs : List V} : Nt (.tup xs) := fun _ z => by cases z
theorem nt_ins {C dx : Addr} {fs : List (Str × V)} : Nt (.ins C dx fs) := fun _ z => by cases z
theorem nt_frz {o : Obj} {u : HO} : Nt (.frz o u) := fun _ z => by cases z
theorem nt_ext {φ : Heap -> Prop} : Nt (.ext φ) := fun _ z => by cases z
structure Same (H H' : Hp) : Prop where
 kp : ∀ b o, H b = some o -> Nt o -> H' b = some o
 free : ∀ {b}, H' b = none -> H b = none
 tab : ∀ K, Ys K H -> Ys K H'
 tbk : ∀ b ps, H b = some (.tbl ps) -> ∃ qs, H' b = some (.tbl qs)
theorem Same.refl (H : Hp) : Same H H := ⟨fun _ _ h _ => h, fun h => h, fun _ h => h, fun _ ps h => ⟨ps, h⟩⟩
theorem Same.trans {H H1 H2 : Hp} (a : Same H H1) (b : Same H1 H2) : Same H H2 := ⟨fun c o h n => b.kp c o (a.kp c o h n) n, fun h => a.free (b.free h), fun K h => b.tab K (a.tab K h), fun c ps h => let ⟨qs, h1⟩ := a.tbk c ps h; b.tbk c qs h1⟩
theorem Ys.mono {K : PySem.W.Frag} {H H' : Hp} (h : Ys K H) (e : ∀ b o, H b = some o -> (∀ xs, o ≠ .lst xs) -> H' b = some o) : Ys K H' := fun x c T hx ht => by
 obtain ⟨ps, h1, h2, h3⟩ := h x c T hx ht
 refine ⟨ps, e _ _ h1 (fun _ z => by cases z), h2, fun pos cv hc => ?_⟩
 obtain ⟨c', e1, e2⟩ := h3 pos cv hc
 exact ⟨c', e1, e _ _ e2 (fun _ z => by cases z)⟩
theorem Same.of {H H' : Hp} (e : ∀ b o, H b = some o -> H' b = some o) : Same H H' where
 kp := fun b o h _ => e b o h
 free := fun {b} h => by
  cases q : H b with
  | none => rfl
  | some o => rw [e b o q] at h; cases h
 tab := fun K h => Ys.mono h fun b o q _ => e b o q
 tbk := fun b ps h => ⟨ps, e b _ h⟩
structure Pv where
 own : Nat -> Option Addr
 fb : Addr -> Prop
def Off (P : Pv) (a : Addr) : Prop := (∀ i, P.own i ≠ some a) /\ ¬ P.fb a
def Tr (H : Hp) (P : Pv) (H' : Hp) (P' : Pv) : Prop := ∀ a o, H a = some o -> Nt o -> Off P a -> H' a = some o /\ Off P' a
theorem Tr.same {H H' : Hp} {P : Pv} (e : Same H H') : Tr H P H' P := fun a o h n q => ⟨e.kp a o h n, q⟩
structure Go (H : Hp) (P : Pv) (H' : Hp) (P' : Pv) : Prop where
 mv : ∀ a o, H a = some o -> Nt o -> (∀ i, P.own i ≠ some a) -> H' a = some o /\ ∀ i, P'.own i ≠ some a
 fbe : P'.fb = P.fb
 free : ∀ {b}, H' b = none -> H b = none
 tab : ∀ K, Ys K H -> Ys K H'
 tbk : ∀ b ps, H b = some (.tbl ps) -> ∃ qs, H' b = some (.tbl qs)
theorem Go.refl (H : Hp) (P : Pv) : Go H P H P := ⟨fun _ _ h _ o => ⟨h, o⟩, rfl, fun h => h, fun _ h => h, fun _ ps h => ⟨ps, h⟩⟩
theorem Go.trans {H H1 H2 : Hp} {P P1 P2 : Pv} (a : Go H P H1 P1) (b : Go H1 P1 H2 P2) : Go H P H2 P2 := ⟨fun c o h n q =>
 let ⟨h1, q1⟩ := a.mv c o h n q
 b.mv c o h1 n q1, b.fbe.trans a.fbe, fun h => a.free (b.free h), fun K h => b.tab K (a.tab K h), fun c ps h => let ⟨qs, h1⟩ := a.tbk c ps h; b.tbk c qs h1⟩
theorem Go.same {H H' : Hp} {P : Pv} (e : Same H H') : Go H P H' P := ⟨fun a o h n q => ⟨e.kp a o h n, q⟩, rfl, fun h => e.free h, e.tab, e.tbk⟩
theorem Go.tr {H H' : Hp} {P P' : Pv} (g : Go H P H' P') : Tr H P H' P' := fun a o h n q => ⟨(g.mv a o h n q.1).1, (g.mv a o h n q.1).2, by rw [g.fbe]; exact q.2⟩
theorem Go.all {H H' : Hp} {P P' : Pv} (g : Go H P H' P') (ho : ∀ i, P.own i = none) : Same H H' := ⟨fun b o e n => (g.mv b o e n fun i => by rw [ho i]; exact fun z => by cases z).1, fun h => g.free h, g.tab, g.tbk⟩
def ModL (K : PySem.W.Frag) (a : Addr) (xs : List V) : Prop :=
 ∃ (o : Obj) (its : Array Value) (n : Nat), K.lookup a = some o /\ o.cls = .type "list" /\ o.dict = none /\ o.data = .seq its n /\ its.size <= sizeLine /\ Vals xs its.toList
def ModT (K : PySem.W.Frag) (a : Addr) (xs : List V) : Prop :=
 ∃ (o : Obj) (its : Array Value) (n : Nat), K.lookup a = some o /\ o.cls = .type "tuple" /\ o.data = .seq its n /\ its.size <= sizeLine /\ Vals xs its.toList
def SL (K : PySem.W.Frag) (H : Hp) (P : Pv) (a : Addr) (xs : List V) : Prop := (Rd H a (.lst xs) /\ Off P a) \/ ModL K a xs
def ST (K : PySem.W.Frag) (H : Hp) (P : Pv) (a : Addr) (xs : List V) : Prop := (Rd H a (.tup xs) /\ Off P a) \/ ModT K a xs
theorem SL.sq {K : PySem.W.Frag} {H : Hp} {P : Pv} {a : Addr} {xs : List V} (h : SL K H P a xs) : SqL K H a xs := by
 rcases h with ⟨h, _⟩ | h
 ·exact .inl h
 ·exact .inr h
theorem ST.sq {K : PySem.W.Frag} {H : Hp} {P : Pv} {a : Addr} {xs : List V} (h : ST K H P a xs) : SqT K H a xs := by
 rcases h with ⟨h, _⟩ | h
 ·exact .inl h
 ·exact .inr h
theorem Rd.go {H H' : Hp} {P P' : Pv} {a : Addr} {u : HO} (g : Tr H P H' P') (n : Nt u) (h : Rd H a u) (o : Off P a) : Rd H' a u /\ Off P' a := by
 rcases h with h | ⟨ob, h⟩
 ·exact ⟨.inl (g _ _ h n o).1, (g _ _ h n o).2⟩
 ·exact ⟨.inr ⟨ob, (g _ _ h nt_frz o).1⟩, (g _ _ h nt_frz o).2⟩
theorem SL.go {K : PySem.W.Frag} {H H' : Hp} {P P' : Pv} {a : Addr} {xs : List V} (g : Tr H P H' P') (h : SL K H P a xs) : SL K H' P' a xs := by
 rcases h with ⟨h, o⟩ | h
 ·exact .inl (Fx.Rd.go g ZN h o)
 ·exact .inr h
theorem ST.go {K : PySem.W.Frag} {H H' : Hp} {P P' : Pv} {a : Addr} {xs : List V} (g : Tr H P H' P') (h : ST K H P a xs) : ST K H' P' a xs := by
 rcases h with ⟨h, o⟩ | h
 ·exact .inl (Fx.Rd.go g nt_tup h o)
 ·exact .inr h
def XO (K : PySem.W.Frag) (a : Addr) : HO := .ext fun h => ∃ ob C, h.get? a = some ob /\ ob.cls = .ref C /\ PySem.W.subIn K (.ref C) (.type "ValueError") = some true
mutual
def Rl (K : PySem.W.Frag) (H : Hp) (P : Pv) : PyData -> V -> Prop
 | .none, v => v = .non
 | .bool b, v => v = .bl b
 | .int i, v => v = .int i
 | .str x, v => v = .str x
 | .list xs, v => ∃ a vs, v = .ref a /\ SL K H P a vs /\ Rls K H P xs vs
 | .tuple xs, v => ∃ a vs, v = .ref a /\ ST K H P a vs /\ Rls K H P xs vs
 | .dict xs, v => (xs = [] /\ ∃ a, v = .ref a /\ H a = some (XO K a) /\ Off P a) \/ (xs ≠ [] /\ ∃ a C dx fs, v = .ref a /\ H a = some (.ins C dx fs) /\ Off P a /\ Cls K C /\ Rlp K H P C xs fs)
def Rls (K : PySem.W.Frag) (H : Hp) (P : Pv) : List PyData -> List V -> Prop
 | [], vs => vs = []
 | x :: xs, vs => ∃ v r, vs = v :: r /\ Rl K H P x v /\ Rls K H P xs r
def Rlp (K : PySem.W.Frag) (H : Hp) (P : Pv) (C : Addr) : List (PyData × PyData) -> List (Str × V) -> Prop
 | [], fs => fs = []
 | (k, t) :: xs, fs => ∃ n v r, fs = (n, v) :: r /\ k = .str n /\ NoAttr K C n /\ Rl K H P t v /\ Rlp K H P C xs r
end
mutual
theorem Rl.go {K : PySem.W.Frag} {H H' : Hp} {P P' : Pv} (g : Tr H P H' P') : ∀ (t : PyData) (v : V), Rl K H P t v -> Rl K H' P' t v
 | .none, v, h => by simpa only [Rl] using h
 | .bool b, v, h => by simpa only [Rl] using h
 | .int i, v, h => by simpa only [Rl] using h
 | .str x, v, h => by simpa only [Rl] using h
 | .list xs, v, h => by
  simp only [Rl] at h ⊢
  obtain ⟨a, vs, e, s, r⟩ := h
  exact ⟨a, vs, e, s.go g, Rls.go g xs vs r⟩
 | .tuple xs, v, h => by
  simp only [Rl] at h ⊢
  obtain ⟨a, vs, e, s, r⟩ := h
  exact ⟨a, vs, e, s.go g, Rls.go g xs vs r⟩
 | .dict xs, v, h => by
  simp only [Rl] at h ⊢
  rcases h with ⟨e, a, e2, s, o⟩ | ⟨e, a, C, dx, fs, e2, s, o, c, r⟩
  ·exact .inl ⟨e, a, e2, g a _ s nt_ext o⟩
  ·exact .inr ⟨e, a, C, dx, fs, e2, (g a _ s nt_ins o).1, (g a _ s nt_ins o).2, c, Rlp.go g xs fs r⟩
theorem Rls.go {K : PySem.W.Frag} {H H' : Hp} {P P' : Pv} (g : Tr H P H' P') : ∀ (ts : List PyData) (vs : List V), Rls K H P ts vs -> Rls K H' P' ts vs
 | [], vs, h => by simpa only [Rls] using h
 | x :: xs, vs, h => by
  simp only [Rls] at h ⊢
  obtain ⟨v, r, e, q, t⟩ := h
  exact ⟨v, r, e, Rl.go g x v q, Rls.go g xs r t⟩
theorem Rlp.go {K : PySem.W.Frag} {H H' : Hp} {P P' : Pv} {C : Addr} (g : Tr H P H' P') : ∀ (ts : List (PyData × PyData)) (fs : List (Str × V)), Rlp K H P C ts fs -> Rlp K H' P' C ts fs
 | [], vs, h => by simpa only [Rlp] using h
 | (k, t) :: xs, vs, h => by
  simp only [Rlp] at h ⊢
  obtain ⟨n, v, r, e, e2, na, q, z⟩ := h
  exact ⟨n, v, r, e, e2, na, Rl.go g t v q, Rlp.go g xs r z⟩
end
section
variable {K : PySem.W.Frag} {H H' : Hp} {P P' : Pv}
theorem Yt {v : V} : Rl K H P .none v ↔ v = .non := by simp only [Rl]
theorem ZT {b : Bool} {v : V} : Rl K H P (.bool b) v ↔ v = .bl b := by simp only [Rl]
theorem Zo {i : Int} {v : V} : Rl K H P (.int i) v ↔ v = .int i := by simp only [Rl]
theorem We {x : Str} {v : V} : Rl K H P (.str x) v ↔ v = .str x := by simp only [Rl]
theorem Zw {xs : List PyData} {v : V} : Rl K H P (.list xs) v ↔ ∃ a vs, v = .ref a /\ SL K H P a vs /\ Rls K H P xs vs := by simp only [Rl]
theorem ZG {xs : List PyData} {v : V} : Rl K H P (.tuple xs) v ↔ ∃ a vs, v = .ref a /\ ST K H P a vs /\ Rls K H P xs vs := by simp only [Rl]
theorem rl_dict {xs : List (PyData × PyData)} {v : V} : Rl K H P (.dict xs) v ↔ (xs = [] /\ ∃ a, v = .ref a /\ H a = some (XO K a) /\ Off P a) \/ (xs ≠ [] /\ ∃ a C dx fs, v = .ref a /\ H a = some (.ins C dx fs) /\ Off P a /\ Cls K C /\ Rlp K H P C xs fs) := by simp only [Rl]
theorem rl_exc {v : V} : Rl K H P (.dict []) v ↔ ∃ a, v = .ref a /\ H a = some (XO K a) /\ Off P a := by rw [rl_dict]; simp
theorem Zq {vs : List V} : Rls K H P [] vs ↔ vs = [] := by simp only [Rls]
theorem Zj {x : PyData} {xs : List PyData} {vs : List V} : Rls K H P (x :: xs) vs ↔ ∃ v r, vs = v :: r /\ Rl K H P x v /\ Rls K H P xs r := by simp only [Rls]
theorem Rls.length : ∀ {ts : List PyData} {vs : List V}, Rls K H P ts vs -> ts.length = vs.length
 | [], vs, h => by rw [Zq.mp h]; rfl
 | t :: ts, vs, h => by
  obtain ⟨v, r, rfl, _, q⟩ := Zj.mp h
  simp only [List.length_cons, Rls.length q]
theorem Rls.getT : ∀ {ts : List PyData} {vs : List V} {i : Nat} {t : PyData}, Rls K H P ts vs -> ts[i]? = some t -> ∃ v, vs[i]? = some v /\ Rl K H P t v
 | [], vs, i, v, h, e => by simp at e
 | t :: ts, vs, 0, t', h, e => by
  obtain ⟨v', r, rfl, q, _⟩ := Zj.mp h
  simp at e; subst e
  exact ⟨v', rfl, q⟩
 | t :: ts, vs, i + 1, t', h, e => by
  obtain ⟨v', r, rfl, _, q⟩ := Zj.mp h
  exact Rls.getT (i := i) q (by simpa using e)
theorem Rls.append : ∀ {ts us : List PyData} {vs ws : List V}, Rls K H P ts vs -> Rls K H P us ws -> Rls K H P (ts ++ us) (vs ++ ws)
 | [], us, vs, ws, h, q => by rw [Zq.mp h]; exact q
 | t :: ts, us, vs, ws, h, q => by
  obtain ⟨v, r, rfl, a, b⟩ := Zj.mp h
  exact Zj.mpr ⟨v, r ++ ws, rfl, a, Rls.append b q⟩
theorem Rls.set : ∀ {ts : List PyData} {vs : List V} {t : PyData} {v : V} (i : Nat), Rls K H P ts vs -> Rl K H P t v -> Rls K H P (ts.set i t) (vs.set i v)
 | [], vs, t, v, i, h, q => by rw [Zq.mp h]; exact Zq.mpr rfl
 | t' :: ts, vs, t, v, 0, h, q => by
  obtain ⟨v', r, rfl, a, b⟩ := Zj.mp h
  exact Zj.mpr ⟨v, r, rfl, q, b⟩
 | t' :: ts, vs, t, v, i + 1, h, q => by
  obtain ⟨v', r, rfl, a, b⟩ := Zj.mp h
  exact Zj.mpr ⟨v', r.set i v, rfl, a, Rls.set i b q⟩
theorem Rls.drop : ∀ {ts : List PyData} {vs : List V} (n : Nat), Rls K H P ts vs -> Rls K H P (ts.drop n) (vs.drop n)
 | ts, vs, 0, h => h
 | [], vs, n + 1, h => by rw [Zq.mp h]; exact Zq.mpr rfl
 | t :: ts, vs, n + 1, h => by
  obtain ⟨v', r, rfl, a, b⟩ := Zj.mp h
  exact Rls.drop n b
theorem Rls.take : ∀ {ts : List PyData} {vs : List V} (n : Nat), Rls K H P ts vs -> Rls K H P (ts.take n) (vs.take n)
 | ts, vs, 0, h => Zq.mpr rfl
 | [], vs, n + 1, h => by rw [Zq.mp h]; exact Zq.mpr rfl
 | t :: ts, vs, n + 1, h => by
  obtain ⟨v', r, rfl, a, b⟩ := Zj.mp h
  exact Zj.mpr ⟨v', r.take n, rfl, a, Rls.take n b⟩
theorem rls_ints (ns : List Int) : Rls K H P (ns.map .int) (ns.map V.int) := by
 induction ns with
 | nil => exact Zq.mpr rfl
 | cons n ns ih => exact Zj.mpr ⟨.int n, _, rfl, Zo.mpr rfl, ih⟩
end
def SlOk (K : PySem.W.Frag) (H : Hp) (P : Pv) (i : Nat) (x : Option V) : Sl -> Prop
 | .emp => True
 | .val t => ∃ v, x = some v /\ Rl K H P t v
 | .own xs => ∃ p vs, x = some (.ref p) /\ P.own i = some p /\ H p = some (.lst vs) /\ Rls K H P xs vs
structure Hol (K : PySem.W.Frag) (H : Hp) (P : Pv) (σ : L2.St) (G : List Sl) : Prop where
 sl : ∀ i s, G[i]? = some s -> SlOk K H P i (σ.getD i none) s
 inj : ∀ i j a, P.own i = some a -> P.own j = some a -> i = j
 only : ∀ i a, P.own i = some a -> ∃ xs, G[i]? = some (.own xs)
 fbd : ∀ a, P.fb a -> H a ≠ none
 nfb : ∀ i a, P.own i = some a -> ¬ P.fb a
 len : σ.length = G.length
 tab : Ys K H
theorem getD_some {σ : L2.St} {i : Nat} {v : V} (h : σ.getD i none = some v) : σ[i]? = some (some v) := by
 rw [List.getD_eq_getElem?_getD] at h
 cases e : σ[i]? with
 | none => rw [e] at h; cases h
 | some x => rw [e] at h; simp at h; rw [h]
section
variable {K : PySem.W.Frag} {H H' : Hp} {P P' : Pv} {σ : L2.St} {G : List Sl}
theorem Hol.dom (h : Hol K H P σ G) {i : Nat} {a : Addr} (e : P.own i = some a) : ∃ vs, H a = some (.lst vs) := by
 obtain ⟨xs, q⟩ := h.only i a e
 obtain ⟨p, vs, _, e', q', _⟩ := h.sl i _ q
 rw [e] at e'; cases e'
 exact ⟨vs, q'⟩
theorem Hol.nofb (h : Hol K H P σ G) {p : Addr} (e : H p = none) : ¬ P.fb p := fun z => h.fbd p z e
theorem Hol.off_new (h : Hol K H P σ G) {p : Addr} (e : H p = none) : Off P p := by
 refine ⟨fun i z => ?_, h.nofb e⟩
 obtain ⟨vs, q⟩ := h.dom z
 rw [e] at q
 cases q
theorem Hol.same (h : Hol K H P σ G) (e : Same H H') : Hol K H' P σ G where
 sl := fun i s q => by
  have z := h.sl i s q
  cases s with
  | emp => trivial
  | val t => obtain ⟨v, e1, r⟩ := z; exact ⟨v, e1, Rl.go (.same e) t v r⟩
  | own xs => obtain ⟨p, vs, e1, e2, e3, r⟩ := z; exact ⟨p, vs, e1, e2, e.kp _ _ e3 ZN, Rls.go (.same e) xs vs r⟩
 inj := h.inj
 only := h.only
 fbd := fun a z w => h.fbd a z (e.free w)
 nfb := h.nfb
 len := h.len
 tab := e.tab K h.tab
def Pv.del (P : Pv) (i : Nat) : Pv := ⟨fun j => if j = i then none else P.own j, P.fb⟩
def Pv.put (P : Pv) (i : Nat) (p : Addr) : Pv := ⟨fun j => if j = i then some p else P.own j, P.fb⟩
theorem Tr.del {i : Nat} : Tr H P H (P.del i) := fun a o h _ q => ⟨h, fun j z => by
 have z' : (if j = i then none else P.own j) = some a := z
 split at z'
 ·cases z'
 ·exact q.1 j z', q.2⟩
theorem Go.del {i : Nat} : Go H P H (P.del i) := ⟨fun a o h _ q => ⟨h, fun j z => by
 have z' : (if j = i then none else P.own j) = some a := z
 split at z'
 ·cases z'
 ·exact q j z'⟩, rfl, fun h => h, fun _ h => h, fun _ ps h => ⟨ps, h⟩⟩
theorem Go.put {i : Nat} {p : Addr} (hp : H p = none) : Go H P H (P.put i p) := ⟨fun a o h _ q => ⟨h, fun j z => by
 have z' : (if j = i then some p else P.own j) = some a := z
 split at z'
 ·cases z'; rw [hp] at h; cases h
 ·exact q j z'⟩, rfl, fun h => h, fun _ h => h, fun _ ps h => ⟨ps, h⟩⟩
theorem YR {σ : L2.St} {i : Nat} {x : Option V} (h : i < σ.length) : (σ.set i x).getD i none = x := by
 rw [List.getD_eq_getElem?_getD, List.getElem?_set_self h]; rfl
theorem YI {σ : L2.St} {i j : Nat} {x : Option V} (h : j ≠ i) : (σ.set i x).getD j none = σ.getD j none := by
 rw [List.getD_eq_getElem?_getD, List.getD_eq_getElem?_getD, List.getElem?_set_ne (Ne.symm h)]
theorem Hol.setVal (h : Hol K H P σ G) (i : Nat) {t : PyData} {v : V} (r : Rl K H P t v) : Hol K H (P.del i) (σ.set i (some v)) (G.set i (.val t)) where
 sl := fun j s q => by
  by_cases e : j = i
  ·subst e
   have hl : j < G.length := by
    have := (List.getElem?_eq_some_iff.mp q).1
    simpa using this
   rw [List.getElem?_set_self hl] at q
   cases q
   refine ⟨v, ?_, Rl.go .del t v r⟩
   exact YR (by rw [h.len]; exact hl)
  ·rw [List.getElem?_set_ne (Ne.symm e)] at q
   have z := h.sl j s q
   rw [YI e]
   cases s with
   | emp => trivial
   | val t' => obtain ⟨v', e1, r'⟩ := z; exact ⟨v', e1, Rl.go .del t' v' r'⟩
   | own xs => obtain ⟨p, vs, e1, e2, e3, r'⟩ := z; exact ⟨p, vs, e1, (by show (if j = i then none else P.own j) = _; rw [if_neg e]; exact e2), e3, Rls.go .del xs vs r'⟩
 inj := fun a b c h1 h2 => by
  have h1' : (if a = i then none else P.own a) = some c := h1
  have h2' : (if b = i then none else P.own b) = some c := h2
  split at h1'
  ·cases h1'
  ·split at h2'
   ·cases h2'
   ·exact h.inj a b c h1' h2'
 only := fun j a z => by
  have z' : (if j = i then none else P.own j) = some a := z
  split at z'
  ·cases z'
  ·rename_i ne
   obtain ⟨xs, q⟩ := h.only j a z'
   exact ⟨xs, by rw [List.getElem?_set_ne (Ne.symm ne)]; exact q⟩
 fbd := h.fbd
 nfb := fun j a z => by
  have z' : (if j = i then none else P.own j) = some a := z
  split at z'
  ·cases z'
  ·exact h.nfb j a z'
 len := by rw [List.length_set, List.length_set]; exact h.len
 tab := h.tab
theorem Zu {p : Addr} {o : HO} (h : H p = none) : Same H (upd H p o) := .of fun b u q => by rw [Zf (Zt q h)]; exact q
theorem Hol.upOwn (h : Hol K H P σ G) {i : Nat} {ys xs : List PyData} {vs : List V} {p : Addr} (hi : G[i]? = some (.own ys)) (hp : P.own i = some p) (r : Rls K H P xs vs) : Hol K (upd H p (.lst vs)) P σ (G.set i (.own xs)) /\ Go H P (upd H p (.lst vs)) P := by
 have hpl := h.dom hp
 have g0 : Go H P (upd H p (.lst vs)) P := ⟨fun a o e _ q => ⟨by rw [Zf (fun z => q i (by rw [z]; exact hp))]; exact e, q⟩, rfl, fun {b} w => by
  by_cases z : b = p
  ·rw [z, Zi] at w; cases w
  ·rw [Zf z] at w; exact w, fun K t => Ys.mono t fun b o e nl => by
  rw [Zf (fun z => by obtain ⟨us, w⟩ := hpl; rw [z, w] at e; cases e; exact nl _ rfl)]; exact e, fun b ps e => ⟨ps, by rw [Zf (fun z => by obtain ⟨us, w⟩ := hpl; rw [z, w] at e; cases e)]; exact e⟩⟩
 have gg := g0.tr
 have hl : i < G.length := (List.getElem?_eq_some_iff.mp hi).1
 refine ⟨⟨fun j s q => ?_, h.inj, fun j a z => ?_, fun a z => ?_, h.nfb, by rw [List.length_set]; exact h.len, g0.tab K h.tab⟩, g0⟩
 ·by_cases e : j = i
  ·subst e
   rw [List.getElem?_set_self hl] at q
   cases q
   obtain ⟨p', vs', e1, e2, _, _⟩ := h.sl j _ hi
   rw [hp] at e2; cases e2
   exact ⟨p, vs, e1, hp, Zi, Rls.go gg xs vs r⟩
  ·rw [List.getElem?_set_ne (Ne.symm e)] at q
   have z := h.sl j s q
   cases s with
   | emp => trivial
   | val t' => obtain ⟨v', e1, r'⟩ := z; exact ⟨v', e1, Rl.go gg t' v' r'⟩
   | own xs' =>
    obtain ⟨p', vs', e1, e2, e3, r'⟩ := z
    refine ⟨p', vs', e1, e2, ?_, Rls.go gg xs' vs' r'⟩
    rw [Zf (fun z => e (h.inj j i p' e2 (by rw [z]; exact hp)))]
    exact e3
 ·by_cases e : j = i
  ·subst e; exact ⟨xs, List.getElem?_set_self hl⟩
  ·obtain ⟨xs', q⟩ := h.only j a z
   exact ⟨xs', by rw [List.getElem?_set_ne (Ne.symm e)]; exact q⟩
 ·rw [Zf (fun e => h.nfb i p hp (by rw [<- e]; exact z))]
  exact h.fbd a z
end
section
variable {K : PySem.W.Frag} {H H' : Hp} {P P' : Pv} {σ : L2.St} {G : List Sl}
theorem Hol.frz1 (h : Hol K H P σ G) (i : Nat) : ∃ P', Hol K H P' σ (Fx.frz1 G i) /\ Go H P H P' := by
 unfold Fx.frz1
 split
 ·rename_i xs q
  obtain ⟨p, vs, e1, e2, e3, r⟩ := h.sl i _ q
  have off : Off (P.del i) p := ⟨fun j z => by
   have z' : (if j = i then none else P.own j) = some p := z
   split at z'
   ·cases z'
   ·rename_i ne; exact ne (h.inj j i p z' e2), h.nfb i p e2⟩
  have r0 : Rl K H (P.del i) (.list xs) (.ref p) := Zw.mpr ⟨p, vs, rfl, .inl ⟨.inl e3, off⟩, Rls.go .del xs vs r⟩
  refine ⟨P.del i, ⟨fun j s z => ?_, ?_, ?_, h.fbd, ?_, by rw [List.length_set]; exact h.len, h.tab⟩, .del⟩
  ·by_cases e : j = i
   ·subst e
    rw [List.getElem?_set_self (List.getElem?_eq_some_iff.mp q).1] at z
    cases z
    exact ⟨.ref p, e1, r0⟩
   ·rw [List.getElem?_set_ne (Ne.symm e)] at z
    have z := h.sl j s z
    cases s with
    | emp => trivial
    | val t' => obtain ⟨v', e1, r'⟩ := z; exact ⟨v', e1, Rl.go .del t' v' r'⟩
    | own xs => obtain ⟨p, vs, e1, e2, e3, r'⟩ := z; exact ⟨p, vs, e1, (by show (if j = i then none else P.own j) = _; rw [if_neg e]; exact e2), e3, Rls.go .del xs vs r'⟩
  ·intro a b c h1 h2
   have h1' : (if a = i then none else P.own a) = some c := h1
   have h2' : (if b = i then none else P.own b) = some c := h2
   split at h1'
   ·cases h1'
   ·split at h2'
    ·cases h2'
    ·exact h.inj a b c h1' h2'
  ·intro j a z
   have z' : (if j = i then none else P.own j) = some a := z
   split at z'
   ·cases z'
   ·rename_i ne
    obtain ⟨xs, q⟩ := h.only j a z'
    exact ⟨xs, by rw [List.getElem?_set_ne (Ne.symm ne)]; exact q⟩
  ·intro j a z
   have z' : (if j = i then none else P.own j) = some a := z
   split at z'
   ·cases z'
   ·exact h.nfb j a z'
 ·exact ⟨P, h, .refl _ _⟩
theorem Hol.frz (is : List Nat) : ∀ {P : Pv} {G : List Sl}, Hol K H P σ G -> ∃ P', Hol K H P' σ (Fx.frz is G) /\ Go H P H P' := by
 induction is with
 | nil => exact fun {P G} h => ⟨P, h, .refl _ _⟩
 | cons i is ih =>
  intro P G h
  obtain ⟨P1, h1, g1⟩ := h.frz1 i
  obtain ⟨P2, h2, g2⟩ := ih h1
  exact ⟨P2, h2, g1.trans g2⟩
theorem YS : ∀ (G : List Sl) (i : Nat), (frzA G)[i]? = (G[i]?).map fun s => match s with | .own xs => .val (.list xs) | s => s
 | [], i => by simp [frzA]
 | .own xs :: r, 0 => by simp [frzA]
 | .emp :: r, 0 => by simp [frzA]
 | .val t :: r, 0 => by simp [frzA]
 | .own xs :: r, i + 1 => by simp [frzA, YS r i]
 | .emp :: r, i + 1 => by simp [frzA, YS r i]
 | .val t :: r, i + 1 => by simp [frzA, YS r i]
theorem Yl : ∀ (G : List Sl), (frzA G).length = G.length
 | [] => rfl
 | .own xs :: r => by simp [frzA, Yl r]
 | .emp :: r => by simp [frzA, Yl r]
 | .val t :: r => by simp [frzA, Yl r]
def Pv.bare (P : Pv) : Pv := ⟨fun _ => none, P.fb⟩
theorem Hol.frzA (h : Hol K H P σ G) : Hol K H P.bare σ (Fx.frzA G) /\ Go H P H P.bare := by
 have g0 : Go H P H P.bare := ⟨fun a o e _ q => ⟨e, fun _ z => (by cases z)⟩, rfl, fun h => h, fun _ h => h, fun _ ps h => ⟨ps, h⟩⟩
 have gg := g0.tr
 refine ⟨⟨fun j s z => ?_, fun _ _ _ z => (by cases z), fun _ _ z => (by cases z), h.fbd, fun _ _ z => (by cases z), by rw [Yl]; exact h.len, h.tab⟩, g0⟩
 rw [YS] at z
 cases q : G[j]? with
 | none => rw [q] at z; cases z
 | some s' =>
  rw [q] at z
  have w := h.sl j s' q
  cases s' with
  | emp => cases z; trivial
  | val t => cases z; obtain ⟨v, e, r⟩ := w; exact ⟨v, e, Rl.go gg t v r⟩
  | own xs =>
   cases z
   obtain ⟨p, vs, e1, e2, e3, r⟩ := w
   exact ⟨.ref p, e1, Zw.mpr ⟨p, vs, rfl, .inl ⟨.inl e3, fun _ z => (by cases z), h.nfb j p e2⟩, Rls.go gg xs vs r⟩⟩
end
end Fx
namespace Fx
open PySem PySem.Spec PyProof.Rows L2
def Z3 (K : PySem.W.Frag) (W : Str -> Hp -> Prop) (H : Hp) (P : Pv) (r : Res PyData) (Q : VK) : Prop :=
 match r with
 | .ok t => ∀ v H', Same H H' -> Rl K H' P t v -> Q v H'
 | .exc c => ∀ H', Same H H' -> W c H'
 | .stuck => False
def tF (K : PySem.W.Frag) (W : Str -> Hp -> Prop) (d : DE) : TE := fun σ H Q => ∃ G P, Hol K H P σ G /\ Z3 K W H P (d G) Q
def Vz (K : PySem.W.Frag) (W : Str -> Hp -> Prop) (H : Hp) (P : Pv) (r : Res (List PyData)) (Q : List V -> Hp -> Prop) : Prop :=
 match r with
 | .ok ts => ∀ vs H', Same H H' -> Rls K H' P ts vs -> Q vs H'
 | .exc c => ∀ H', Same H H' -> W c H'
 | .stuck => False
def tFA (K : PySem.W.Frag) (W : Str -> Hp -> Prop) (d : DA) : TA := fun σ H Q => ∃ G P, Hol K H P σ G /\ Vz K W H P (d G) Q
def Xu (W : Str -> Hp -> Prop) (H : Hp) (r : Res Bool) (Q : Bool -> Hp -> Prop) : Prop :=
 match r with
 | .ok b => ∀ H', Same H H' -> Q b H'
 | .exc c => ∀ H', Same H H' -> W c H'
 | .stuck => False
def tFT (K : PySem.W.Frag) (W : Str -> Hp -> Prop) (d : DT) : TT := fun σ H Q => ∃ G P, Hol K H P σ G /\ Xu W H (d G) Q
def Pv.fbd (P : Pv) (p : Addr) : Pv := ⟨P.own, fun a => P.fb a \/ a = p⟩
def NewL (K : PySem.W.Frag) (H : Hp) (P : Pv) (H' : Hp) (P' : Pv) (t : PyData) (v : V) : Prop :=
 ∃ p us xs, v = .ref p /\ t = .list xs /\ H' p = some (.lst us) /\ Rls K H' (P'.fbd p) xs us /\ ∀ o, H p = some o -> Nt o -> ∃ i, P.own i = some p
theorem NewL.back {K : PySem.W.Frag} {H H1 H' : Hp} {P P1 P' : Pv} {t : PyData} {v : V} (g : Go H P H1 P1) (n : NewL K H1 P1 H' P' t v) : NewL K H P H' P' t v := by
 obtain ⟨p, us, xs, e1, e2, e3, r, q⟩ := n
 refine ⟨p, us, xs, e1, e2, e3, r, fun o e nt => Classical.byContradiction fun z => ?_⟩
 have := g.mv p o e nt fun i w => z ⟨i, w⟩
 obtain ⟨i, w⟩ := q o this.1 nt
 exact this.2 i w
def Z2 (K : PySem.W.Frag) (W : Str -> Hp -> Prop) (fl : Bool) (H : Hp) (P : Pv) (r : Res Out) (D : Ends) : Prop :=
 match r with
 | .ok (.nx G') => ∀ σ' H' P', Go H P H' P' -> Hol K H' P' σ' G' -> D.nx σ' H'
 | .ok (.bk G') => ∀ σ' H' P', Go H P H' P' -> Hol K H' P' σ' G' -> D.bk σ' H'
 | .ok (.ct G') => ∀ σ' H' P', Go H P H' P' -> Hol K H' P' σ' G' -> D.ct σ' H'
 | .ok (.rt t) => ∀ v H' P', Go H P H' P' -> Rl K H' P' t v -> (fl = true -> NewL K H P H' P' t v) -> D.rt v H'
 | .exc c => ∀ H' P', Go H P H' P' -> W c H'
 | .stuck => False
def tFS (K : PySem.W.Frag) (W : Str -> Hp -> Prop) (fl : Bool) (d : DS) : TS := fun D σ H => ∃ G P, Hol K H P σ G /\ Z2 K W fl H P (d G) D
def EV (X : Cx) (W : Str -> Hp -> Prop) (e : Expr) (d : DE) : Prop := PE X e (tF X.K W d)
def AV (X : Cx) (W : Str -> Hp -> Prop) (es : List Expr) (d : DA) : Prop := PA X es (tFA X.K W d)
def TV (X : Cx) (W : Str -> Hp -> Prop) (e : Expr) (d : DT) : Prop := PT X e (tFT X.K W d)
def TW (X : Cx) (W : Str -> Hp -> Prop) (e : Expr) (d : DT) : Prop := PW X e (tFT X.K W d)
def SV (X : Cx) (W : Str -> Hp -> Prop) (fl : Bool) (st : Stmt) (d : DS) : Prop := PS X st (tFS X.K W fl d)
def SVs (X : Cx) (W : Str -> Hp -> Prop) (fl : Bool) (st : List Stmt) (d : DS) : Prop := PSs X st (tFS X.K W fl d)
theorem Zn {X : Cx} {e : Expr} {t t' : TE} (h : PE X e t) (w : ∀ σ H Q, t' σ H Q -> t σ H Q) : PE X e t' := fun pins s σ H Q I q => h pins s σ H Q I (w σ H Q q)
theorem VV {X : Cx} {e : List Expr} {t t' : TA} (h : PA X e t) (w : ∀ σ H Q, t' σ H Q -> t σ H Q) : PA X e t' := fun pos pins s σ H Q I q => h pos pins s σ H Q I (w σ H Q q)
theorem WF {X : Cx} {e : Expr} {t t' : TT} (h : PT X e t) (w : ∀ σ H Q, t' σ H Q -> t σ H Q) : PT X e t' := fun pins s σ H Q I q => h pins s σ H Q I (w σ H Q q)
theorem pw_weak {X : Cx} {e : Expr} {t t' : TT} (h : PW X e t) (w : ∀ σ H Q, t' σ H Q -> t σ H Q) : PW X e t' := fun wh pins s σ H Q I q => h wh pins s σ H Q I (w σ H Q q)
theorem YY {X : Cx} {e : Stmt} {t t' : TS} (h : PS X e t) (w : ∀ D σ H, t' D σ H -> t D σ H) : PS X e t' := fun pins s σ H D I q => h pins s σ H D I (w D σ H q)
theorem Yi {X : Cx} {e : List Stmt} {t t' : TS} (h : PSs X e t) (w : ∀ D σ H, t' D σ H -> t D σ H) : PSs X e t' := fun pins s σ H D I q => h pins s σ H D I (w D σ H q)
theorem Zp {K : PySem.W.Frag} {W : Str -> Hp -> Prop} {σ : L2.St} {G : List Sl} {H : Hp} {P : Pv} {a : DE} (h : Hol K H P σ G) {Q : VK}
  (hx : ∀ c, a G = .exc c -> ∀ H', Same H H' -> W c H') (hs : a G ≠ .stuck)
  (q : ∀ t v H', a G = .ok t -> Same H H' -> Hol K H' P σ G -> Rl K H' P t v -> Q v H') : tF K W a σ H Q := by
 refine ⟨G, P, h, ?_⟩
 unfold Z3
 cases e : a G with
 | ok t => exact fun v H' s r => q t v H' e s (h.same s) r
 | exc c => exact hx c e
 | stuck => exact hs e
theorem YK {K : PySem.W.Frag} {W : Str -> Hp -> Prop} {σ : L2.St} {G : List Sl} {H : Hp} {P : Pv} {a : DT} (h : Hol K H P σ G) {Q : Bool -> Hp -> Prop}
  (hx : ∀ c, a G = .exc c -> ∀ H', Same H H' -> W c H') (hs : a G ≠ .stuck)
  (q : ∀ t H', a G = .ok t -> Same H H' -> Hol K H' P σ G -> Q t H') : tFT K W a σ H Q := by
 refine ⟨G, P, h, ?_⟩
 unfold Xu
 cases e : a G with
 | ok t => exact fun H' s => q t H' e s (h.same s)
 | exc c => exact hx c e
 | stuck => exact hs e
theorem Xb {K : PySem.W.Frag} {W : Str -> Hp -> Prop} {σ : L2.St} {G : List Sl} {H : Hp} {P : Pv} {a : DA} (h : Hol K H P σ G) {Q : List V -> Hp -> Prop}
  (hx : ∀ c, a G = .exc c -> ∀ H', Same H H' -> W c H') (hs : a G ≠ .stuck)
  (q : ∀ t v H', a G = .ok t -> Same H H' -> Hol K H' P σ G -> Rls K H' P t v -> Q v H') : tFA K W a σ H Q := by
 refine ⟨G, P, h, ?_⟩
 unfold Vz
 cases e : a G with
 | ok t => exact fun v H' s r => q t v H' e s (h.same s) r
 | exc c => exact hx c e
 | stuck => exact hs e
section
variable {X : Cx} {W : Str -> Hp -> Prop} {a b c e : Expr} {es : List Expr} {da db : DE} {pos : Pos}
theorem Za (i : Nat) {x : Str} {pos : Pos} (hN : X.N[i]? = some x := by rfl) (hv : Vis X.env.scope x := by first | exact Or.inl rfl | exact Or.inr (Or.inl rfl) | exact Or.inr (Or.inr rfl)) (hd : (x == ("__debug__" : Str)) = false := by decide)
  (hcd : (x == ("__classdict__" : Str)) = false := by decide) : EV X W (.Name x pos) (dVar i) :=
 Zn (W2 hN hv hd hcd) fun σ H Q ⟨G, P, h, q⟩ => by
  unfold dVar at q
  cases e : G[i]? with
  | none => rw [e] at q; exact q.elim
  | some s =>
   rw [e] at q
   cases s with
   | emp => exact q.elim
   | own xs => exact q.elim
   | val t =>
    obtain ⟨v, e1, r⟩ := h.sl i _ e
    exact ⟨v, getD_some e1, q v H (Same.refl H) r⟩
theorem Zg {i j pos} : EV X W (.Constant (.int i) j pos) (dC (.int i)) := Zn pe_int fun σ H Q ⟨G, P, h, q⟩ => q _ H (Same.refl H) (Zo.mpr rfl)
theorem ev_bl {b j pos} : EV X W (.Constant (.bool b) j pos) (dC (.bool b)) := Zn pe_bl fun σ H Q ⟨G, P, h, q⟩ => q _ H (Same.refl H) (ZT.mpr rfl)
theorem ev_non {j pos} : EV X W (.Constant .none j pos) (dC .none) := Zn pe_non fun σ H Q ⟨G, P, h, q⟩ => q _ H (Same.refl H) (Yt.mpr rfl)
theorem Wo {x j pos} : EV X W (.Constant (.str x) j pos) (dC (.str x)) := Zn pe_str fun σ H Q ⟨G, P, h, q⟩ => q _ H (Same.refl H) (We.mpr rfl)
theorem XY {x : Str} {i : Int} {t : Tok} {pos : Pos} (hg : Gl X x) (hm : X.mg x = some (.int i t)) (hd : (x == ("__debug__" : Str)) = false := by decide) : EV X W (.Name x pos) (dC (.int i)) :=
 Zn (pe_glob (v := .int i) hg hm ⟨t, rfl⟩ hd) fun σ H Q ⟨G, P, h, q⟩ => q _ H (Same.refl H) (Zo.mpr rfl)
def Fop (X : Cx) (W : Str -> Hp -> Prop) (r : R2) (f : PyData -> PyData -> Res PyData) : Prop :=
 ∀ (H : Hp) (P : Pv) (σ : L2.St) (G : List Sl) (x y : V) (tx ty : PyData) (Q : VK), Hol X.K H P σ G -> Rl X.K H P tx x -> Rl X.K H P ty y -> Z3 X.K W H P (f tx ty) Q -> r x y H Q
theorem Xt {a : Res PyData} {f : PyData -> Res PyData} {K : PySem.W.Frag} {H : Hp} {P : Pv} {Q : VK} (q : Z3 K W H P (a.bind f) Q) :
  (∀ c, a = .exc c -> ∀ H', Same H H' -> W c H') /\ a ≠ .stuck /\ ∀ t, a = .ok t -> Z3 K W H P (f t) Q := by
 cases a with
 | ok t => exact ⟨fun c e => (by cases e), (by intro e; cases e), fun t' e => by cases e; exact q⟩
 | exc c => exact ⟨fun c' e => by cases e; exact q, (by intro e; cases e), fun t e => by cases e⟩
 | stuck => exact q.elim
theorem Z3.up {K : PySem.W.Frag} {H H' : Hp} {P : Pv} {r : Res PyData} {Q : VK} (q : Z3 K W H P r Q) (s : Same H H') : Z3 K W H' P r Q := by
 cases r with
 | ok t => exact fun v H2 s2 r2 => q v H2 (s.trans s2) r2
 | exc c => exact fun H2 s2 => q H2 (s.trans s2)
 | stuck => exact q
theorem WV {r : R2} {f : PyData -> PyData -> Res PyData} (hf : Fop X W r f) {σ : L2.St} {H : Hp} {Q : VK} (h : tF X.K W (d2 f da db) σ H Q) : tOp r (tF X.K W da) (tF X.K W db) σ H Q := by
 obtain ⟨G, P, h, q⟩ := h
 unfold d2 at q
 obtain ⟨q1, q2, q3⟩ := Xt q
 refine Zp h q1 q2 fun tx x H1 ex s1 h1 rx => ?_
 obtain ⟨q4, q5, q6⟩ := Xt (q3 tx ex)
 refine Zp h1 (fun c e H' s => q4 c e H' (s1.trans s)) q5 fun ty y H2 ey s2 h2 ry => ?_
 exact hf H2 P σ G x y tx ty Q h2 (Rl.go (.same s2) tx x rx) ry ((q6 ty ey).up (s1.trans s2))
theorem ZQ {op : Operator} {r : R2} {f : PyData -> PyData -> Res PyData} (ho : OpR X (binaryOp op) r /\ Fop X W r f) (ha : EV X W a da) (hb : EV X W b db) : EV X W (.BinOp a op b pos) (d2 f da db) :=
 Zn (pe_op ho.1 ha hb) fun σ H Q h => WV ho.2 h
theorem Ud {op : CmpOp} {r : R2} {f : PyData -> PyData -> Res PyData} (ho : OpR X (compareOp op) r /\ Fop X W r f) (ha : EV X W a da) (hb : EV X W b db) (hm : behindInMarks op b = false) : EV X W (.Compare a [op] [b] pos) (d2 f da db) :=
 Zn (pe_cmpR ho.1 ha hb hm) fun σ H Q h => WV ho.2 h
theorem W9 {C : Int -> Int -> Prop} {g : Int -> Int -> V} {f : PyData -> PyData -> Res PyData}
  (h : ∀ (H : Hp) (P : Pv) (tx ty : PyData) (Q : VK), Z3 X.K W H P (f tx ty) Q -> ∃ i j, tx = .int i /\ ty = .int j /\ C i j /\ Q (g i j) H) : Fop X W (rI C g) f := fun H P σ G x y tx ty Q hh rx ry q => by
 obtain ⟨i, j, rfl, rfl, c, q'⟩ := h H P tx ty Q q
 exact ⟨i, j, Zo.mp rx, Zo.mp ry, c, q'⟩
theorem XW {g : Int -> Int -> V} {f : PyData -> PyData -> Res PyData}
  (h : ∀ (H : Hp) (P : Pv) (tx ty : PyData) (Q : VK), Z3 X.K W H P (f tx ty) Q -> ∃ i j, tx = .int i /\ ty = .int j /\ Q (g i j) H) : Fop X W (rI0 g) f := fun H P σ G x y tx ty Q hh rx ry q => by
 obtain ⟨i, j, rfl, rfl, q'⟩ := h H P tx ty Q q
 exact ⟨i, j, Zo.mp rx, Zo.mp ry, q'⟩
theorem ZK {K : PySem.W.Frag} {H : Hp} {P : Pv} {Q : VK} {i : Int} (q : Z3 K W H P (.ok (.int i)) Q) : Q (.int i) H := q _ H (Same.refl H) (Zo.mpr rfl)
theorem Yc {K : PySem.W.Frag} {H : Hp} {P : Pv} {Q : VK} {i : Bool} (q : Z3 K W H P (.ok (.bool i)) Q) : Q (.bl i) H := q _ H (Same.refl H) (ZT.mpr rfl)
theorem SL.off {K : PySem.W.Frag} {H : Hp} {P : Pv} {a : Addr} {xs : List V} (h : H a = some (.lst xs)) (o : Off P a) : SL K H P a xs := .inl ⟨.inl h, o⟩
def rCatS (K : PySem.W.Frag) : R2 := fun x y H Q => ∃ l b xs zs, x = .ref l /\ y = .ref b /\ SqL K H l xs /\ SqL K H b zs /\ xs.length + zs.length <= sizeLine /\ ∀ p, H p = none -> Q (.ref p) (upd H p (.lst (xs ++ zs)))
theorem op_catS : OpR X (binaryOp .Add) (rCatS X.K) := by
 intro pins s σ H x y v u Q I rx ry h
 obtain ⟨l, b, xs, zs, rfl, rfl, hH, hB, hz, q⟩ := h
 cases rx
 cases ry
 obtain ⟨its, r, ⟨o, n, e, hc, hd, hs⟩, z⟩ := I.list hH
 obtain ⟨its2, r2, ⟨o2, n2, e2, hc2, hd2, hs2⟩, z2⟩ := I.list hB
 obtain ⟨c1, c2, c3, c4⟩ := o
 obtain ⟨k1, k2, k3, k4⟩ := o2
 simp only at hc hd hs hc2 hd2 hs2
 subst hc hd hs hc2 hd2 hs2
 have l1 := r.length
 have l2 := r2.length
 refine concat_meets ⟨_, e, rfl⟩ ⟨_, e2, rfl⟩ noFill_list_add seq_list_add PySem.F.slot_list_add PySem.F.entry_list_add (PySem.F.args_list_add_2 _ _) (list_addW l b its.toArray its2.toArray n n2 none none c4 k4 (by simp; omega)) ⟨e, e2, ?_⟩
 have ea : its.toArray ++ its2.toArray = (its ++ its2).toArray := by simp
 rw [ea]
 exact ⟨.ref _, _, I.lnew (t' := s.toks) (r.append r2) (by rw [List.length_append]; omega), rfl, q _ I.fresh⟩
theorem Yj : OpR X (binaryOp .Add) (fun x y H Q => rI0 (fun i j => .int (i + j)) x y H Q \/ rCatS X.K x y H Q) /\ Fop X W (fun x y H Q => rI0 (fun i j => .int (i + j)) x y H Q \/ rCatS X.K x y H Q) fAdd :=
 ⟨op_add.or op_catS, fun H P σ G x y tx ty Q h rx ry q => by
  cases tx <;> cases ty <;> try exact q.elim
  ·exact .inl ⟨_, _, Zo.mp rx, Zo.mp ry, ZK q⟩
  ·rename_i xs ys
   refine .inr ?_
   obtain ⟨l, us, rfl, s1, r1⟩ := Zw.mp rx
   obtain ⟨m, ws, rfl, s2, r2⟩ := Zw.mp ry
   simp only [fAdd] at q
   split at q
   ·rename_i hz
    have e1 := r1.length
    have e2 := r2.length
    refine ⟨l, m, us, ws, rfl, rfl, s1.sq, s2.sq, by rw [sizeLine_eq]; omega, fun p hp => q _ _ (Zu hp) (Zw.mpr ⟨p, us ++ ws, rfl, .off Zi (h.off_new hp), ?_⟩)⟩
    exact (Rls.go (.same (Zu hp)) xs us r1).append (Rls.go (.same (Zu hp)) ys ws r2)
   ·exact q.elim⟩
theorem op_subF : OpR X (binaryOp .Sub) (rI0 fun i j => .int (i - j)) /\ Fop X W (rI0 fun i j => .int (i - j)) fSub :=
 ⟨op_sub, XW fun H P tx ty Q q => by
  cases tx <;> cases ty <;> try exact q.elim
  exact ⟨_, _, rfl, rfl, ZK q⟩⟩
theorem mulOk_ok {i j : Int} (h : Wh i j = true) : IntMulOk i j := by
 have bits : ∀ k : Int, Builtin.Int.intBits k <= k.natAbs.log2 + 1 := fun k => by
  unfold Builtin.Int.intBits
  split <;> omega
 simp only [Wh, Bool.or_eq_true, decide_eq_true_eq] at h
 rcases h with (h | h) | h
 ·have h1 := bits i
  have h2 := bits j
  unfold IntMulOk
  intro z
  simp only [Bool.and_eq_true, decide_eq_true_eq, Builtin.Int.intTooBig] at z
  have := z.2
  simp only [bitsLine] at this
  omega
 ·exact .of_left (intBits_le_64 (by omega) (by omega))
 ·exact .of_right (intBits_le_64 (by omega) (by omega))
theorem op_mulF : OpR X (binaryOp .Mult) (rI (fun i j => Wh i j = true) fun i j => .int (i * j)) /\ Fop X W (rI (fun i j => Wh i j = true) fun i j => .int (i * j)) fMul :=
 ⟨opI fun _ _ _ _ _ _ _ hc q => mul_int q (mulOk_ok hc), W9 fun H P tx ty Q q => by
  cases tx <;> cases ty <;> try exact q.elim
  simp only [fMul] at q
  split at q
  ·rename_i hc; exact ⟨_, _, rfl, rfl, hc, ZK q⟩
  ·exact q.elim⟩
theorem Vb {i j : Int} (h : WM j = true) : j ≠ 0 /\ Builtin.divisionGoesByPylong i j = false := by
 simp only [WM, Bool.and_eq_true, decide_eq_true_eq] at h
 refine ⟨h.1, ?_⟩
 unfold Builtin.divisionGoesByPylong
 have e : (j == 0) = false := by simpa using h.1
 simp only [e]
 have : ¬ (j.natAbs.log2 / 30 + 1 > 300) := by omega
 simp [this]
theorem VY : OpR X (binaryOp .FloorDiv) (rI (fun _ j => WM j = true) fun i j => .int (i.fdiv j)) /\ Fop X W (rI (fun _ j => WM j = true) fun i j => .int (i.fdiv j)) fDiv :=
 ⟨opI fun _ _ _ _ _ _ _ hc q => floordiv_int (Vb (i := 0) hc).1 q (.inl (Vb hc).2), W9 fun H P tx ty Q q => by
  cases tx <;> cases ty <;> try exact q.elim
  simp only [fDiv] at q
  split at q
  ·rename_i hc; exact ⟨_, _, rfl, rfl, hc, ZK q⟩
  ·exact q.elim⟩
theorem ZU : OpR X (binaryOp .Mod) (rI (fun _ j => j ≠ 0) fun i j => .int (i.fmod j)) /\ Fop X W (rI (fun _ j => j ≠ 0) fun i j => .int (i.fmod j)) fMod :=
 ⟨op_modN, W9 fun H P tx ty Q q => by
  cases tx <;> cases ty <;> try exact q.elim
  simp only [fMod] at q
  split at q
  ·exact q.elim
  ·rename_i hc; exact ⟨_, _, rfl, rfl, hc, ZK q⟩⟩
theorem VW : OpR X (binaryOp .Pow) (rI CPow fun i j => .int (i ^ j.toNat)) /\ Fop X W (rI CPow fun i j => .int (i ^ j.toNat)) fPow :=
 ⟨op_pow, W9 fun H P tx ty Q q => by
  cases tx <;> cases ty <;> try exact q.elim
  simp only [fPow] at q
  split at q
  ·rename_i hc; exact ⟨_, _, rfl, rfl, hc, ZK q⟩
  ·exact q.elim⟩
theorem VX : OpR X (compareOp .Lt) (rI0 fun i j => .bl (decide (i < j))) /\ Fop X W (rI0 fun i j => .bl (decide (i < j))) fLt :=
 ⟨op_lt, XW fun H P tx ty Q q => by
  cases tx <;> cases ty <;> try exact q.elim
  exact ⟨_, _, rfl, rfl, Yc q⟩⟩
theorem op_leF : OpR X (compareOp .LtE) (rI0 fun i j => .bl (decide (i <= j))) /\ Fop X W (rI0 fun i j => .bl (decide (i <= j))) fLe :=
 ⟨op_le, XW fun H P tx ty Q q => by
  cases tx <;> cases ty <;> try exact q.elim
  exact ⟨_, _, rfl, rfl, Yc q⟩⟩
theorem op_gtF : OpR X (compareOp .Gt) (rI0 fun i j => .bl (decide (j < i))) /\ Fop X W (rI0 fun i j => .bl (decide (j < i))) fGt :=
 ⟨op_gt, XW fun H P tx ty Q q => by
  cases tx <;> cases ty <;> try exact q.elim
  exact ⟨_, _, rfl, rfl, Yc q⟩⟩
mutual
theorem Rl.reads {pins : List (Addr × Obj)} {σ : L2.St} {H : Hp} {s : Shared} {P : Pv} (I : Inv X pins σ H s) : ∀ (t : PyData) (v : V) (u : Value), t.canLay0 = true -> Rl X.K H P t v -> RelV v u -> ∃ as, Reads s.heap u t as
 | .none, v, u, _, h, r => by rw [Yt.mp h] at r; cases r; exact ⟨_, .none⟩
 | .bool b, v, u, hl, h, r => by rw [ZT.mp h] at r; cases r; exact ⟨_, .bool b⟩
 | .int i, v, u, hl, h, r => by rw [Zo.mp h] at r; obtain ⟨t, rfl⟩ := r; exact ⟨_, .int i t⟩
 | .str x, v, u, hl, h, r => by rw [We.mp h] at r; obtain ⟨t, rfl⟩ := r; exact ⟨_, .str x t⟩
 | .list xs, v, u, hl, h, r => by
  obtain ⟨a, vs, rfl, sl, rs⟩ := Zw.mp h
  cases r
  obtain ⟨its, rv, ⟨o, n, e, hc, hd, hs⟩, z⟩ := I.list sl.sq
  obtain ⟨as, ra⟩ := Rls.reads I xs vs its (by simpa [PyData.canLay0] using hl) rs rv
  exact ⟨_, .list e hc hs (by simpa using ra)⟩
 | .tuple xs, v, u, hl, h, r => by
  obtain ⟨a, vs, rfl, sl, rs⟩ := ZG.mp h
  cases r
  obtain ⟨its, rv, ⟨o, e, hc, n, hs⟩, z⟩ := I.tuple sl.sq
  obtain ⟨as, ra⟩ := Rls.reads I xs vs its (by simpa [PyData.canLay0] using hl) rs rv
  exact ⟨_, .tuple e hc hs (by simpa using ra)⟩
 | .dict _, v, u, hl, h, r => by simp [PyData.canLay0] at hl
theorem Rls.reads {pins : List (Addr × Obj)} {σ : L2.St} {H : Hp} {s : Shared} {P : Pv} (I : Inv X pins σ H s) : ∀ (ts : List PyData) (vs : List V) (us : List Value), PyData.canLayAll0 ts = true -> Rls X.K H P ts vs -> Vals vs us -> ∃ as, ReadsAll s.heap us ts as
 | [], vs, us, _, h, r => by rw [Zq.mp h] at r; cases r; exact ⟨_, .nil⟩
 | t :: ts, vs, us, hl, h, r => by
  simp only [PyData.canLayAll0, Bool.and_eq_true] at hl
  obtain ⟨v, vs', rfl, h1, h2⟩ := Zj.mp h
  cases r with
  | cons r1 r2 =>
   obtain ⟨as, ra⟩ := Rl.reads I t v _ hl.1 h1 r1
   obtain ⟨bs, rb⟩ := Rls.reads I ts vs' _ hl.2 h2 r2
   exact ⟨_, .cons ra rb⟩
end
theorem Xx {t : PyData} (h : Yh t = true) : t.canLay0 = true := by
 unfold Yh at h
 rw [Bool.and_eq_true] at h
 exact h.1
def rEqD (K : PySem.W.Frag) (k : Bool -> Bool) : R2 := fun x y H Q => ∃ P tx ty, Rl K H P tx x /\ Rl K H P ty y /\ Yh tx = true /\ Yh ty = true /\ Q (.bl (k (tx.eqv ty))) H
theorem op_eqD (hu : X.A.units + 64 < cLine) : OpR X (compareOp .Eq) (rEqD X.K fun k => k) := by
 intro pins s σ H x y v u Q I rx ry h
 obtain ⟨P, tx, ty, hx, hy, sx, sy, q⟩ := h
 obtain ⟨as, ra⟩ := Rl.reads I tx x v (Xx sx) hx rx
 obtain ⟨bs, rb⟩ := Rl.reads I ty y u (Xx sy) hy ry
 exact SeqAt.compareEq_shaped ra rb sx sy hu ⟨.bl _, H, I, rfl, q⟩
def rEqI (k : Bool -> Bool) : R2 := rI0 fun i j => .bl (k (decide (i = j)))
theorem op_eqI : OpR X (compareOp .Eq) (rEqI fun k => k) := opB0 fun i j _ _ _ _ _ q => eq_int (by rw [Bool.beq_eq_decide_eq]; exact q)
theorem Yq (hu : X.A.units + 64 < cLine) : OpR X (compareOp .Eq) (fun x y H Q => rEqI (fun k => k) x y H Q \/ rEqD X.K (fun k => k) x y H Q) /\ Fop X W (fun x y H Q => rEqI (fun k => k) x y H Q \/ rEqD X.K (fun k => k) x y H Q) fEq :=
 ⟨op_eqI.or (op_eqD hu), fun H P σ G x y tx ty Q h rx ry q => by
  unfold fEq at q
  split at q
  ·exact .inl ⟨_, _, Zo.mp rx, Zo.mp ry, Yc q⟩
  ·split at q
   ·rename_i hc
    rw [Bool.and_eq_true] at hc
    exact .inr ⟨P, tx, ty, rx, ry, hc.1, hc.2, Yc q⟩
   ·exact q.elim⟩
theorem tUn_of {r : V -> Hp -> VK -> Prop} {f : PyData -> Res PyData} (hf : ∀ (H : Hp) (P : Pv) (x : V) (tx : PyData) (Q : VK), Rl X.K H P tx x -> Z3 X.K W H P (f tx) Q -> r x H Q) {σ : L2.St} {H : Hp} {Q : VK} (h : tF X.K W (d1 f da) σ H Q) :
  tUn r (tF X.K W da) σ H Q := by
 obtain ⟨G, P, h, q⟩ := h
 unfold d1 at q
 obtain ⟨q1, q2, q3⟩ := Xt q
 exact Zp h q1 q2 fun tx x H1 ex s1 h1 rx => hf H1 P x tx Q rx ((q3 tx ex).up s1)
theorem ev_neg (ha : EV X W a da) : EV X W (.UnaryOp .USub a pos) (d1 fNeg da) :=
 Zn (pe_un un_neg ha) fun σ H Q h => tUn_of (r := rU fun i => .int (-i)) (fun H P x tx Q rx q => by
  cases tx <;> try exact q.elim
  exact ⟨_, Zo.mp rx, ZK q⟩) h
theorem bindA {a : Res PyData} {f : PyData -> Res (List PyData)} {K : PySem.W.Frag} {H : Hp} {P : Pv} {Q : List V -> Hp -> Prop} (q : Vz K W H P (a.bind f) Q) :
  (∀ c, a = .exc c -> ∀ H', Same H H' -> W c H') /\ a ≠ .stuck /\ ∀ t, a = .ok t -> Vz K W H P (f t) Q := by
 cases a with
 | ok t => exact ⟨fun c e => (by cases e), (by intro e; cases e), fun t' e => by cases e; exact q⟩
 | exc c => exact ⟨fun c' e => by cases e; exact q, (by intro e; cases e), fun t e => by cases e⟩
 | stuck => exact q.elim
theorem bindAA {a : Res (List PyData)} {f : List PyData -> Res (List PyData)} {K : PySem.W.Frag} {H : Hp} {P : Pv} {Q : List V -> Hp -> Prop} (q : Vz K W H P (a.bind f) Q) :
  (∀ c, a = .exc c -> ∀ H', Same H H' -> W c H') /\ a ≠ .stuck /\ ∀ t, a = .ok t -> Vz K W H P (f t) Q := by
 cases a with
 | ok t => exact ⟨fun c e => (by cases e), (by intro e; cases e), fun t' e => by cases e; exact q⟩
 | exc c => exact ⟨fun c' e => by cases e; exact q, (by intro e; cases e), fun t e => by cases e⟩
 | stuck => exact q.elim
theorem Uz {a : Res (List PyData)} {f : List PyData -> Res PyData} {K : PySem.W.Frag} {H : Hp} {P : Pv} {Q : VK} (q : Z3 K W H P (a.bind f) Q) :
  (∀ c, a = .exc c -> ∀ H', Same H H' -> W c H') /\ a ≠ .stuck /\ ∀ t, a = .ok t -> Z3 K W H P (f t) Q := by
 cases a with
 | ok t => exact ⟨fun c e => (by cases e), (by intro e; cases e), fun t' e => by cases e; exact q⟩
 | exc c => exact ⟨fun c' e => by cases e; exact q, (by intro e; cases e), fun t e => by cases e⟩
 | stuck => exact q.elim
theorem bindT {a : Res Bool} {f : Bool -> Res Bool} {H : Hp} {Q : Bool -> Hp -> Prop} (q : Xu W H (a.bind f) Q) :
  (∀ c, a = .exc c -> ∀ H', Same H H' -> W c H') /\ a ≠ .stuck /\ ∀ t, a = .ok t -> Xu W H (f t) Q := by
 cases a with
 | ok t => exact ⟨fun c e => (by cases e), (by intro e; cases e), fun t' e => by cases e; exact q⟩
 | exc c => exact ⟨fun c' e => by cases e; exact q, (by intro e; cases e), fun t e => by cases e⟩
 | stuck => exact q.elim
theorem bindET {a : Res PyData} {f : PyData -> Res Bool} {H : Hp} {Q : Bool -> Hp -> Prop} (q : Xu W H (a.bind f) Q) :
  (∀ c, a = .exc c -> ∀ H', Same H H' -> W c H') /\ a ≠ .stuck /\ ∀ t, a = .ok t -> Xu W H (f t) Q := by
 cases a with
 | ok t => exact ⟨fun c e => (by cases e), (by intro e; cases e), fun t' e => by cases e; exact q⟩
 | exc c => exact ⟨fun c' e => by cases e; exact q, (by intro e; cases e), fun t e => by cases e⟩
 | stuck => exact q.elim
theorem Xu.up {H H' : Hp} {r : Res Bool} {Q : Bool -> Hp -> Prop} (q : Xu W H r Q) (s : Same H H') : Xu W H' r Q := by
 cases r with
 | ok t => exact fun H2 s2 => q H2 (s.trans s2)
 | exc c => exact fun H2 s2 => q H2 (s.trans s2)
 | stuck => exact q
theorem Zv : AV X W [] dNil := VV YE fun σ H Q ⟨G, P, h, q⟩ => q [] H (Same.refl H) (Zq.mpr rfl)
theorem Zc {dr : DA} (ha : EV X W e da) (hr : AV X W es dr) (hs : starEach (e :: es) X.env = (false, eval e X.env) :: starEach es X.env := by rfl) : AV X W (e :: es) (Zh da dr) :=
 VV (ZY ha hr hs) fun σ H Q ⟨G, P, h, q⟩ => by
  unfold Zh at q
  obtain ⟨q1, q2, q3⟩ := bindA q
  refine Zp h q1 q2 fun tx x H1 ex s1 h1 rx => ?_
  obtain ⟨q4, q5, q6⟩ := bindAA (q3 tx ex)
  refine Xb h1 (fun c e H' s => q4 c e H' (s1.trans s)) q5 fun ts vs H2 es' s2 h2 rs => ?_
  exact (q6 ts es') (x :: vs) H2 (s1.trans s2) (Zj.mpr ⟨x, vs, rfl, Rl.go (.same s2) tx x rx, rs⟩)
theorem W4 {xs : List PyData} {vs : List V} {K : PySem.W.Frag} {H : Hp} {P : Pv} (h : lenOk xs = true) (r : Rls K H P xs vs) : vs.length <= sizeLine := by
 have := r.length
 have h' : xs.length <= 16777216 := of_decide_eq_true h
 rw [sizeLine_eq]; omega
theorem ST.off {K : PySem.W.Frag} {H : Hp} {P : Pv} {a : Addr} {xs : List V} (h : H a = some (.tup xs)) (o : Off P a) : ST K H P a xs := .inl ⟨.inl h, o⟩
theorem ev_tup {da : DA} {x1} (h : AV X W es da) : EV X W (.Tuple es x1 pos) (dTup da) :=
 Zn (pe_tup h) fun σ H Q ⟨G, P, h, q⟩ => by
  unfold dTup at q
  obtain ⟨q1, q2, q3⟩ := Uz q
  refine Xb h q1 q2 fun ts vs H1 es' s1 h1 rs => ?_
  have q4 := q3 ts es'
  split at q4
  ·rename_i hl
   exact ⟨W4 hl rs, fun p hp => q4 _ _ (s1.trans (Zu hp)) (ZG.mpr ⟨p, vs, rfl, .off Zi (h1.off_new hp), Rls.go (.same (Zu hp)) ts vs rs⟩)⟩
  ·exact q4.elim
theorem Ye {da : DA} (h : AV X W es da) : EV X W (.List es pos) (dLst da) :=
 Zn (pe_lst h) fun σ H Q ⟨G, P, h, q⟩ => by
  unfold dLst at q
  obtain ⟨q1, q2, q3⟩ := Uz q
  refine Xb h q1 q2 fun ts vs H1 es' s1 h1 rs => ?_
  have q4 := q3 ts es'
  split at q4
  ·rename_i hl
   exact ⟨W4 hl rs, fun p hp => q4 _ _ (s1.trans (Zu hp)) (Zw.mpr ⟨p, vs, rfl, .off Zi (h1.off_new hp), Rls.go (.same (Zu hp)) ts vs rs⟩)⟩
  ·exact q4.elim
theorem W7 (n : Nat) (i : Int) : ixP n i = ixN n i := rfl
theorem Wz {K : PySem.W.Frag} {H : Hp} {P : Pv} {ts : List PyData} {vs : List V} {i : Int} {t : PyData} (r : Rls K H P ts vs) (h : atP ts i = some t) : ∃ v, atI vs i = some v /\ Rl K H P t v := by
 unfold atP at h
 unfold atI
 rw [<- r.length, <- W7]
 cases e : ixP ts.length i with
 | none => rw [e] at h; cases h
 | some j =>
  rw [e] at h
  exact r.getT (i := j) h
theorem XX (ha : EV X W a da) (hb : EV X W b db) (hs : X5 b) : EV X W (.Subscript a b pos) (d2 fIx da db) :=
 Zn (pe_ix (WI.or ix_tup) ha hb hs) fun σ H Q h => WV (r := fun x y H Q => rIxL X.K x y H Q \/ rIxT X.K x y H Q) (fun H P σ G x y tx ty Q h rx ry q => by
  cases tx <;> cases ty <;> try exact q.elim
  ·rename_i xs i
   obtain ⟨l, us, rfl, s1, r1⟩ := Zw.mp rx
   simp only [fIx] at q
   cases e : atP xs i with
   | none => rw [e] at q; exact q.elim
   | some t =>
    rw [e] at q
    obtain ⟨v, e1, r⟩ := Wz r1 e
    exact .inl ⟨l, us, i, v, rfl, Zo.mp ry, s1.sq, e1, q v H (Same.refl H) r⟩
  ·rename_i xs i
   obtain ⟨l, us, rfl, s1, r1⟩ := ZG.mp rx
   simp only [fIx] at q
   cases e : atP xs i with
   | none => rw [e] at q; exact q.elim
   | some t =>
    rw [e] at q
    obtain ⟨v, e1, r⟩ := Wz r1 e
    exact .inr ⟨l, us, i, v, rfl, Zo.mp ry, s1.sq, e1, q v H (Same.refl H) r⟩) h
theorem X8 {r : List V -> Hp -> VK -> Prop} {f : PyData -> Res PyData} (hf : ∀ (H : Hp) (P : Pv) (σ : L2.St) (G : List Sl) (x : V) (tx : PyData) (Q : VK), Hol X.K H P σ G -> Rl X.K H P tx x -> Z3 X.K W H P (f tx) Q -> r [x] H Q) {σ : L2.St} {H : Hp} {Q : VK} (h : tF X.K W (d1 f da) σ H Q) :
  tCB r (tCons (tF X.K W da) tNil) σ H Q := by
 obtain ⟨G, P, h, q⟩ := h
 unfold d1 at q
 obtain ⟨q1, q2, q3⟩ := Xt q
 exact Zp h q1 q2 fun tx x H1 ex s1 h1 rx => hf H1 P σ G x tx Q h1 rx ((q3 tx ex).up s1)
theorem YG {p : Pos} (hg : Gl X "len") (hm : X.mg "len" = none) (ha : EV X W a da) (hs : starEach [a] X.env = (false, eval a X.env) :: starEach [] X.env := by rfl) : EV X W (.Call (.Name "len" p) [a] [] pos) (d1 fLen da) :=
 Zn (YQ Wu hg hm PySem.boot_len (ZY ha YE hs) (he := hs)) fun σ H Q h => X8 (fun H P σ G x tx Q h rx q => by
  cases tx <;> try exact q.elim
  ·obtain ⟨l, us, rfl, s1, r1⟩ := Zw.mp rx
   have e := r1.length
   refine ⟨l, us, rfl, .inl s1.sq, ?_⟩
   rw [<- e]; exact ZK q
  ·obtain ⟨l, us, rfl, s1, r1⟩ := ZG.mp rx
   have e := r1.length
   refine ⟨l, us, rfl, .inr s1.sq, ?_⟩
   rw [<- e]; exact ZK q) h
theorem ev_abs {p : Pos} (hg : Gl X "abs") (hm : X.mg "abs" = none) (ha : EV X W a da) (hs : starEach [a] X.env = (false, eval a X.env) :: starEach [] X.env := by rfl) : EV X W (.Call (.Name "abs" p) [a] [] pos) (d1 fAbs da) :=
 Zn (YQ call_abs hg hm (show bootBuiltins "abs" = some (.builtin "abs") by decide +kernel) (ZY ha YE hs) (he := hs)) fun σ H Q h => X8 (fun H P σ G x tx Q h rx q => by
  cases tx <;> try exact q.elim
  exact ⟨_, by rw [Zo.mp rx], ZK q⟩) h
def tyN : PyData -> String
 | .none => "NoneType"
 | .bool _ => "bool"
 | .int _ => "int"
 | .str _ => "str"
 | .list _ => "list"
 | .tuple _ => "tuple"
 | .dict _ => "dict"
def Kit (T : String) (p : PyData -> Bool) : Prop := ∀ (K : PySem.W.Frag) (t : PyData), PySem.W.kitOne K (.type (tyN t)) (.type T) = some (p t)
theorem kit_int : Kit "int" isInt := fun K t => by cases t <;> rfl
theorem kit_bool : Kit "bool" isBool := fun K t => by cases t <;> rfl
theorem W6 : Kit "list" isList := fun K t => by cases t <;> rfl
theorem call_isi {T : String} {p : PyData -> Bool} (hk : Kit T p) : Xv X (.builtin "isinstance") (fun xs H Q => ∃ x t P, xs = [x, .ty T] /\ (∀ ys, t ≠ .dict ys) /\ Rl X.K H P t x /\ Q (.bl (p t)) H) := by
 intro pins s σ H xs us Q I r h
 obtain ⟨x, t, P, rfl, nd, rx, q⟩ := h
 obtain ⟨u, w', rfl, ru, rw'⟩ := vals2 r
 cases rw'
 have e := hk X.K t
 have fin : ∀ tk, EP X pins σ Q (.bool (p t)) { s with toks := tk } := fun tk => ⟨.bl (p t), H, I.tok tk, rfl, q⟩
 cases t with
 | none => rw [Yt.mp rx] at ru; cases ru; exact PySem.W.kia_one PySem.W.kitx_none I.kIn True.intro e (fun z => nomatch z) fin
 | bool b => rw [ZT.mp rx] at ru; cases ru; exact PySem.W.kia_one PySem.W.kitx_bool I.kIn True.intro e (fun z => nomatch z) fin
 | int i => rw [Zo.mp rx] at ru; obtain ⟨t, rfl⟩ := ru; exact PySem.W.kia_one PySem.W.kitx_int I.kIn True.intro e (fun z => nomatch z) fin
 | str y => rw [We.mp rx] at ru; obtain ⟨t, rfl⟩ := ru; exact PySem.W.kia_one PySem.W.kitx_str I.kIn True.intro e (fun z => nomatch z) fin
 | list ys =>
  obtain ⟨l, vs, rfl, s1, r1⟩ := Zw.mp rx
  cases ru
  obtain ⟨its, rv, ⟨o, n, e1, hc, hd, hs⟩, z⟩ := I.list s1.sq
  exact PySem.W.kia_one PySem.W.kitx_list I.kIn ⟨o, e1, hc⟩ e (fun z => nomatch z) fin
 | tuple ys =>
  obtain ⟨l, vs, rfl, s1, r1⟩ := ZG.mp rx
  cases ru
  obtain ⟨its, rv, ⟨o, e1, hc, n, hs⟩, z⟩ := I.tuple s1.sq
  exact PySem.W.kia_one PySem.W.kitx_tuple I.kIn ⟨o, e1, hc⟩ e (fun z => nomatch z) fin
 | dict ys => exact absurd rfl (nd ys)
theorem YU {T : String} {x : Str} {f : PyData -> Bool} {p p2 : Pos} (hk : Kit T f) (hv : bootBuiltins x = some (.type T)) (hg : Gl X "isinstance") (hm : X.mg "isinstance" = none) (hg2 : Gl X x) (hm2 : X.mg x = none) (ha : EV X W a da)
  (hs : starEach [a, .Name x p2] X.env = (false, eval a X.env) :: starEach [.Name x p2] X.env := by rfl) (hs2 : starEach [.Name x p2] X.env = (false, eval (.Name x p2) X.env) :: starEach [] X.env := by rfl)
  (hpl : (backTo pos (starEach [.Name x p2] X.env)).any (·.1) = false := by rfl) (hn : x ≠ "__name__" := by decide) (hdb : (x == ("__debug__" : Str)) = false := by decide) :
  EV X W (.Call (.Name "isinstance" p) [a, .Name x p2] [] pos) (d1 (fIs f) da) :=
 Zn (YQ (call_isi hk) hg hm (show bootBuiltins "isinstance" = some (.builtin "isinstance") by decide +kernel) (ZY ha (ZY (VU (v := .ty T) hg2 hm2 hv rfl hn hdb) YE hs2) hs) (he := hs) (hpl := hpl)) fun σ H Q ⟨G, P, h, q⟩ => by
  unfold d1 at q
  obtain ⟨q1, q2, q3⟩ := Xt q
  refine Zp h q1 q2 fun tx x H1 ex s1 h1 rx => ?_
  have q4 := Z3.up (q3 tx ex) s1
  refine ⟨x, tx, P, rfl, fun ys z => (by subst z; exact q4.elim), rx, ?_⟩
  cases tx <;> first | exact Yc q4 | exact q4.elim
theorem ev_one {op} (h : EV X W a da) : EV X W (.BoolOp op [a] pos) da := pe_one h
theorem ev_and {rest : List Expr} (ha : EV X W a da) (hb : EV X W (.BoolOp .And (b :: rest) pos) db) : EV X W (.BoolOp .And (a :: b :: rest) pos) (dAndV da db) :=
 Zn (pe_and ha hb) fun σ H Q ⟨G, P, h, q⟩ => by
  unfold dAndV at q
  obtain ⟨q1, q2, q3⟩ := Xt q
  refine Zp h q1 q2 fun tx x H1 ex s1 h1 rx => ?_
  have q4 := q3 tx ex
  cases tx <;> try exact q4.elim
  rename_i k
  refine ⟨k, ZT.mp rx, ?_⟩
  cases k with
  | true => exact iteT ⟨G, P, h1, Z3.up q4 s1⟩
  | false => exact iteF (Yc (Z3.up q4 s1))
theorem ev_not (ha : EV X W a da) : EV X W (.UnaryOp .Not a pos) (dNotV da) :=
 Zn (pe_not ha) fun σ H Q ⟨G, P, h, q⟩ => by
  unfold dNotV at q
  obtain ⟨q1, q2, q3⟩ := Xt q
  refine Zp h q1 q2 fun tx x H1 ex s1 h1 rx => ?_
  have q4 := q3 tx ex
  cases tx <;> try exact q4.elim
  exact ⟨_, ZT.mp rx, Yc (Z3.up q4 s1)⟩
theorem truth_ok {H : Hp} {P : Pv} {x : V} {tx : PyData} {k : Bool} (r : Rl X.K H P tx x) (e : truth tx = .ok k) : TruV X.K x H k := by
 cases tx with
 | none => rw [Yt.mp r]; cases e; rfl
 | bool b => rw [ZT.mp r]; cases e; rfl
 | int i => rw [Zo.mp r]; cases e; rfl
 | str x => cases e
 | list xs =>
  obtain ⟨l, us, rfl, s1, r1⟩ := Zw.mp r
  cases e
  refine .inl ⟨us, s1.sq, ?_⟩
  have := r1.length
  cases xs <;> cases us <;> first | rfl | simp at this
 | tuple xs =>
  obtain ⟨l, us, rfl, s1, r1⟩ := ZG.mp r
  cases e
  refine .inr (.inl ⟨us, s1.sq, ?_⟩)
  have := r1.length
  cases xs <;> cases us <;> first | rfl | simp at this
 | dict _ => cases e
theorem WT (ha : EV X W a da) (he : ∀ whole, isTrue a X.env whole = (do let v <- whole; standAt a.pos; holding [v] (truthy v))) : TV X W a (tV da) :=
 WF (pt_truth ha he) fun σ H Q ⟨G, P, h, q⟩ => by
  unfold Fx.tV at q
  obtain ⟨q1, q2, q3⟩ := bindET q
  refine Zp h q1 q2 fun tx x H1 ex s1 h1 rx => ?_
  have q4 := q3 tx ex
  cases e : truth tx with
  | stuck => rw [e] at q4; exact q4.elim
  | exc c => cases tx <;> cases e
  | ok k => rw [e] at q4; exact ⟨k, truth_ok rx e, q4 H1 s1⟩
theorem Z7 {op : CmpOp} {r : R2} {f : PyData -> PyData -> Res PyData} (ho : OpR X (compareOp op) r /\ Fop X W r f) (ha : EV X W a da) (hb : EV X W b db) (hm : behindInMarks op b = false)
  (hf : ∀ x y, (∃ k, f x y = .ok (.bool k)) \/ f x y = .stuck := by first | exact fLt_b | exact fLe_b | exact fGt_b | exact fGe_b | exact fEq_b | exact fNe_b) : TV X W (.Compare a [op] [b] pos) (tV (d2 f da db)) :=
 WF (pt_cmpR ho.1 ha hb hm) fun σ H Q ⟨G, P, h, q⟩ => by
  refine WV ho.2 ⟨G, P, h, ?_⟩
  unfold Fx.tV at q
  cases e : d2 f da db G with
  | stuck => rw [e] at q; exact q
  | exc c => rw [e] at q; exact q
  | ok t =>
   rw [e] at q
   have hb : ∃ k, t = .bool k := by
    unfold d2 at e
    cases e1 : da G with
    | stuck => rw [e1] at e; cases e
    | exc c => rw [e1] at e; cases e
    | ok tx =>
     rw [e1, Res.bind_ok] at e
     cases e2 : db G with
     | stuck => rw [e2] at e; cases e
     | exc c => rw [e2] at e; cases e
     | ok ty =>
      rw [e2, Res.bind_ok] at e
      rcases hf tx ty with ⟨k, e3⟩ | e3
      ·rw [e3] at e; cases e; exact ⟨k, rfl⟩
      ·rw [e3] at e; cases e
   obtain ⟨k, rfl⟩ := hb
   exact fun v H' s r => ⟨k, ZT.mp r, q H' s⟩
theorem tw_or1 {dt : DT} (ha : TV X W a dt) : TW X W (.BoolOp .Or [a] pos) dt := pw_or1 ha
theorem tw_or {dt du : DT} {rest : List Expr} (ha : TV X W a dt) (hb : TW X W (.BoolOp .Or (b :: rest) pos) du) : TW X W (.BoolOp .Or (a :: b :: rest) pos) (tOr dt du) :=
 pw_weak (pw_or ha hb) fun σ H Q ⟨G, P, h, q⟩ => by
  unfold Fx.tOr at q
  obtain ⟨q1, q2, q3⟩ := bindT q
  refine YK h q1 q2 fun k H1 ek s1 h1 => ?_
  have q4 := q3 k ek
  cases k with
  | true => exact iteT (q4 H1 s1)
  | false => exact iteF ⟨G, P, h1, Xu.up q4 s1⟩
theorem tv_w {dt : DT} (h : TW X W a dt) : TV X W a dt := PW.pt h
theorem WU {dt : DT} (ha : TV X W a dt) : TV X W (.UnaryOp .Not a pos) (tNot dt) :=
 WF (pt_not ha) fun σ H Q ⟨G, P, h, q⟩ => by
  unfold Fx.tNot at q
  obtain ⟨q1, q2, q3⟩ := bindT q
  exact YK h q1 q2 fun k H1 ek s1 h1 => (q3 k ek) H1 s1
end
end Fx
namespace Fx
open PySem PySem.Spec PyProof.Rows L2
section
variable {X : Cx} {W : Str -> Hp -> Prop} {fl : Bool} {a b c e : Expr} {es : List Expr} {da db : DE} {pos : Pos}
theorem Z2.up {K : PySem.W.Frag} {H H' : Hp} {P P' : Pv} {r : Res Out} {D : Ends} (q : Z2 K W fl H P r D) (g : Go H P H' P') : Z2 K W fl H' P' r D := by
 cases r with
 | ok o =>
  cases o with
  | nx G => exact fun σ2 H2 P2 g2 h2 => q σ2 H2 P2 (g.trans g2) h2
  | bk G => exact fun σ2 H2 P2 g2 h2 => q σ2 H2 P2 (g.trans g2) h2
  | ct G => exact fun σ2 H2 P2 g2 h2 => q σ2 H2 P2 (g.trans g2) h2
  | rt t => exact fun v H2 P2 g2 h2 n2 => q v H2 P2 (g.trans g2) h2 fun z => (n2 z).back g
 | exc c => exact fun H2 P2 g2 => q H2 P2 (g.trans g2)
 | stuck => exact q
theorem YW {a : Res PyData} {f : PyData -> Res Out} {K : PySem.W.Frag} {H : Hp} {P : Pv} {D : Ends} (q : Z2 K W fl H P (a.bind f) D) :
  (∀ c, a = .exc c -> ∀ H' P', Go H P H' P' -> W c H') /\ a ≠ .stuck /\ ∀ t, a = .ok t -> Z2 K W fl H P (f t) D := by
 cases a with
 | ok t => exact ⟨fun c e => (by cases e), (by intro e; cases e), fun t' e => by cases e; exact q⟩
 | exc c => exact ⟨fun c' e => by cases e; exact q, (by intro e; cases e), fun t e => by cases e⟩
 | stuck => exact q.elim
theorem Uy {a : Res Bool} {f : Bool -> Res Out} {K : PySem.W.Frag} {H : Hp} {P : Pv} {D : Ends} (q : Z2 K W fl H P (a.bind f) D) :
  (∀ c, a = .exc c -> ∀ H' P', Go H P H' P' -> W c H') /\ a ≠ .stuck /\ ∀ t, a = .ok t -> Z2 K W fl H P (f t) D := by
 cases a with
 | ok t => exact ⟨fun c e => (by cases e), (by intro e; cases e), fun t' e => by cases e; exact q⟩
 | exc c => exact ⟨fun c' e => by cases e; exact q, (by intro e; cases e), fun t e => by cases e⟩
 | stuck => exact q.elim
theorem bindAS {a : Res (List PyData)} {f : List PyData -> Res Out} {K : PySem.W.Frag} {H : Hp} {P : Pv} {D : Ends} (q : Z2 K W fl H P (a.bind f) D) :
  (∀ c, a = .exc c -> ∀ H' P', Go H P H' P' -> W c H') /\ a ≠ .stuck /\ ∀ t, a = .ok t -> Z2 K W fl H P (f t) D := by
 cases a with
 | ok t => exact ⟨fun c e => (by cases e), (by intro e; cases e), fun t' e => by cases e; exact q⟩
 | exc c => exact ⟨fun c' e => by cases e; exact q, (by intro e; cases e), fun t e => by cases e⟩
 | stuck => exact q.elim
theorem YL : SVs X W fl [] XZ := Yi XR fun D σ H ⟨G, P, h, q⟩ => q σ H P (.refl H P) h
theorem ZD {st : Stmt} {d : DS} (h : SV X W fl st d) : SVs X W fl [st] d := pss_one h
theorem ZB {st : Stmt} {rest : List Stmt} {d1 d2 : DS} (h1 : SV X W fl st d1) (h2 : SVs X W fl rest d2) : SVs X W fl (st :: rest) (dSeq d1 d2) :=
 Yi (Yz h1 h2) fun D σ H ⟨G, P, h, q⟩ => by
  refine ⟨G, P, h, ?_⟩
  unfold dSeq at q
  cases e : d1 G with
  | stuck => rw [e] at q; exact q.elim
  | exc c => rw [e] at q; exact q
  | ok o =>
   rw [e, Res.bind_ok] at q
   cases o with
   | nx G1 => exact fun σ' H' P' g h' => ⟨G1, P', h', Z2.up q g⟩
   | rt t => exact q
   | bk G1 => exact q
   | ct G1 => exact q
theorem WW {st : Stmt} : SV X W fl st dNev := YY ps_never fun D σ H ⟨G, P, h, q⟩ => q
theorem Yb (he : EV X W e da) : SV X W false (.Return (some e) pos) (dRet da) :=
 YY (ps_ret he) fun D σ H ⟨G, P, h, q⟩ => by
  unfold dRet at q
  obtain ⟨h', g⟩ := h.frzA
  obtain ⟨q1, q2, q3⟩ := YW q
  exact Zp h' (fun c e H' s => q1 c e H' P.bare (g.trans (.same s))) q2 fun t v H1 et s1 h1 r => (q3 t et) v H1 P.bare (g.trans (.same s1)) r fun z => by cases z
theorem XL {x y : List Stmt} {dc : DT} {dx dy : DS} (hc : TV X W c dc) (hx : SVs X W fl x dx) (hy : SVs X W fl y dy) : SV X W fl (.If c x y pos) (dIf dc dx dy) :=
 YY (ps_if hc hx hy) fun D σ H ⟨G, P, h, q⟩ => by
  unfold dIf at q
  obtain ⟨h', g⟩ := h.frzA
  obtain ⟨q1, q2, q3⟩ := Uy q
  refine YK h' (fun c e H' s => q1 c e H' P.bare (g.trans (.same s))) q2 fun k H1 ek s1 _ => ?_
  have q4 := q3 k ek
  cases k with
  | true => exact iteT ⟨G, P, h.same s1, Z2.up q4 (.same s1)⟩
  | false => exact iteF ⟨G, P, h.same s1, Z2.up q4 (.same s1)⟩
theorem ss_drop (he : EV X W e da) (hs : swapsWith e none pos.line X.env = pure false := by rfl) : SV X W fl (.Expr e pos) (X0 da) :=
 YY (ps_expr he hs) fun D σ H ⟨G, P, h, q⟩ => by
  unfold X0 at q
  obtain ⟨h', g⟩ := h.frzA
  obtain ⟨q1, q2, q3⟩ := YW q
  exact Zp h' (fun c e H' s => q1 c e H' P.bare (g.trans (.same s))) q2 fun t v H1 et s1 h1 r => (q3 t et) σ H1 P (.same s1) (h.same s1)
mutual
theorem VP {K : PySem.W.Frag} {H : Hp} {P P' : Pv} (hd : ∀ i a, P'.own i = some a -> ∃ vs, H a = some (.lst vs)) (hf : P'.fb = P.fb) : ∀ (t : PyData) (v : V), Zy t = true -> Rl K H P t v -> Rl K H P' t v
 | .none, v, _, r => Yt.mpr (Yt.mp r)
 | .bool b, v, _, r => ZT.mpr (ZT.mp r)
 | .int i, v, _, r => Zo.mpr (Zo.mp r)
 | .str x, v, _, r => We.mpr (We.mp r)
 | .list _, v, h, r => by simp at h
 | .dict _, v, h, r => by simp at h
 | .tuple xs, v, h, r => by
  obtain ⟨a, vs, e, s, rs⟩ := ZG.mp r
  refine ZG.mpr ⟨a, vs, e, ?_, W0 hd hf xs vs (by simpa using h) rs⟩
  rcases s with ⟨s, o⟩ | s
  ·refine .inl ⟨s, fun i z => ?_, by rw [hf]; exact o.2⟩
   obtain ⟨ws, q⟩ := hd i a z
   rcases s with s | ⟨ob, s⟩
   ·rw [q] at s; cases s
   ·rw [q] at s; cases s
  ·exact .inr s
theorem W0 {K : PySem.W.Frag} {H : Hp} {P P' : Pv} (hd : ∀ i a, P'.own i = some a -> ∃ vs, H a = some (.lst vs)) (hf : P'.fb = P.fb) : ∀ (ts : List PyData) (vs : List V), ZX ts = true -> Rls K H P ts vs -> Rls K H P' ts vs
 | [], vs, _, r => Zq.mpr (Zq.mp r)
 | t :: ts, vs, h, r => by
  obtain ⟨v, r', e, a, b⟩ := Zj.mp r
  simp only [Y5, Bool.and_eq_true] at h
  exact Zj.mpr ⟨v, r', e, VP hd hf t v h.1 a, W0 hd hf ts r' h.2 b⟩
end
theorem after {K : PySem.W.Frag} {H H1 : Hp} {P P1 : Pv} {σ : L2.St} {G : List Sl} {is : List Nat} {t : PyData} {v : V} (h : Hol K H P σ G) (h1 : Hol K H P1 σ (frz is G)) (g : Go H P H P1) (s : Same H H1) (r : Rl K H1 P1 t v) :
  ∃ P2, Hol K H1 P2 σ (if Zy t then G else frz is G) /\ Rl K H1 P2 t v /\ Go H P H1 P2 := by
 cases e : Zy t with
 | true => exact ⟨P, by rw [if_pos rfl]; exact h.same s, VP (fun i a z => (h.same s).dom z) g.2.symm t v e r, .same s⟩
 | false => exact ⟨P1, by rw [if_neg Bool.false_ne_true]; exact h1.same s, r, g.trans (.same s)⟩
theorem Xf {i : Nat} {x : Str} {is : List Nat} {pos' : Pos} (hN : X.N.Nodup) (hi : X.N[i]? = some x) (hx : Loc X.env.scope x) (he : EV X W e da) (hs : swapsWith e (some (.Name x pos')) pos.line X.env = pure false := by rfl)
  (hf : X.fn x = true \/ X.env.scope.names.lookup x = some .local := by first | exact .inl rfl | exact .inr rfl | assumption) : SV X W fl (.Assign [.Name x pos'] e pos) (dSet i is da) :=
 YY (ps_set hN hi hx he hs hf) fun D σ H ⟨G, P, h, q⟩ => by
  unfold dSet at q
  obtain ⟨P1, h1, g⟩ := h.frz is
  obtain ⟨q1, q2, q3⟩ := YW q
  refine Zp h1 (fun c e H' s => q1 c e H' P1 (g.trans (.same s))) q2 fun t v H1 et s1 h2 r => ?_
  obtain ⟨P2, h3, r3, g3⟩ := after h h1 g s1 r
  exact (q3 t et) _ H1 (P2.del i) (g3.trans .del) (h3.setVal i r3)
end
theorem Wj {a : DE} : ∀ G ts, Zh a dNil G = .ok ts -> ts.length = 1 := fun G ts h => by
 unfold Zh dNil at h
 cases e : a G <;> rw [e] at h <;> first | (cases h; done) | (cases h; rfl)
theorem len_cs {a : DE} {r : DA} {n : Nat} (hr : ∀ G ts, r G = .ok ts -> ts.length = n) : ∀ G ts, Zh a r G = .ok ts -> ts.length = n + 1 := fun G ts h => by
 unfold Zh at h
 cases e : a G with
 | stuck => rw [e] at h; cases h
 | exc c => rw [e] at h; cases h
 | ok x =>
  rw [e, Res.bind_ok] at h
  cases e2 : r G with
  | stuck => rw [e2] at h; cases h
  | exc c => rw [e2] at h; cases h
  | ok xs => rw [e2] at h; cases h; simp [hr G xs e2]
theorem W3 {a b : DE} : ∀ G ts, Zh a (Zh b dNil) G = .ok ts -> ts.length = 2 := len_cs Wj
theorem V4 {a b c : DE} : ∀ G ts, Zh a (Zh b (Zh c dNil)) G = .ok ts -> ts.length = 3 := len_cs W3
def spX (E : XK) (H : Hp) (c : Str) : Option (Str -> Value) -> Prop
 | none => False
 | some cl => ∀ dx H', Same H H' -> E (cl c) dx H'
def spF (K : PySem.W.Frag) (cl : Option (Str -> Value)) (np : Nat) (f : DF) : Sp := fun vs H Q E => vs.length = np /\ ∃ ts P, Rls K H P ts vs /\ (∀ i, P.own i = none) /\ ((∀ a, P.fb a -> H a ≠ none) /\ Ys K H) /\
 match f ts with
 | .ok t => ∀ v H', Same H H' -> Rl K H' P t v -> Q v H'
 | .exc c => spX E H c cl
 | .stuck => False
def EX (cl : Option (Str -> Value)) (W : Str -> Hp -> Prop) : XK := fun v _ H => ∃ c f, cl = some f /\ v = f c /\ W c H
structure Cal (X : Cx) (W : Str -> Hp -> Prop) (cl : Option (Str -> Value)) (k : Nat) (x : Str) (np : Nat) (f : DF) : Prop where
 ex : ∃ (CX : CXT) (fa : Addr) (fd : FuncData) (ps : List Str), FnOk X.prog X.w X.K X.mg X.base CX k fa fd ps (spF X.K cl np f) /\ X.mg x = some (.ref fa) /\ PySem.W.keepIn X.K (.ref fa) = true /\ Yx X.K fd ps [] /\ Vi CX X (EX cl W)
 nox : cl = none -> ∀ ts c, f ts ≠ .exc c
section
variable {X : Cx} {W : Str -> Hp -> Prop} {fl : Bool} {a b c e : Expr} {es : List Expr} {da db : DE} {pos : Pos}
theorem Yd {cl : Option (Str -> Value)} {k np : Nat} {x : Str} {f : DF} {d : DA} {p : Pos} (C : Cal X W cl k x np f) (hr : Room k X.A) (hg : Gl X x) (ha : AV X W (e :: es) d) (hL : ∀ G ts, d G = .ok ts -> ts.length = np := by first | exact Wj | exact W3 | exact V4 | exact len_c4) (hdb : (x == ("__debug__" : Str)) = false := by decide)
  (he : starEach (e :: es) X.env = (false, eval e X.env) :: starEach es X.env := by rfl) (hpl : (backTo pos (starEach es X.env)).any (·.1) = false := by rfl) : EV X W (.Call (.Name x p) (e :: es) [] pos) (Yr f d) := by
 obtain ⟨CX, fa, fd, ps, F, hm, hk, hb, hx⟩ := C.ex
 refine Zn (pe_call (x := x) (p := p) F hr hg hm hk hb .nil hx ha (hdb := hdb) (he := he) (hpl := hpl)) fun σ H Q ⟨G, P, h, q⟩ => ?_
 unfold Yr at q
 obtain ⟨q1, q2, q3⟩ := Uz q
 refine Xb h q1 q2 fun ts vs H1 es' s1 h1 rs => ?_
 have q4 := Z3.up (q3 ts es') s1
 have el : (vs ++ []) = vs := List.append_nil vs
 rw [el]
 -- the callee sees all that the caller may not hand on as forbidden
 have gg : Tr H1 P H1 ⟨fun _ => none, fun a => ¬ Off P a⟩ := fun a o e1 _ o1 => ⟨e1, fun _ z => (by cases z), fun z => z o1⟩
 have back : ∀ H2, Tr H2 ⟨fun _ => none, fun a => ¬ Off P a⟩ H2 P := fun H2 a o e1 _ o1 => ⟨e1, Classical.byContradiction fun z => o1.2 z⟩
 refine ⟨by rw [<- rs.length]; exact hL G ts es', ts, ⟨fun _ => none, fun a => ¬ Off P a⟩, Rls.go gg ts vs rs, fun _ => rfl, ⟨fun a z => ?_, h1.tab⟩, ?_⟩
 ·intro hn
  exact z (h1.off_new hn)
 ·cases e : f ts with
  | ok t => rw [e] at q4; exact fun v H' s r => q4 v H' s (Rl.go (back H') t v r)
  | exc c =>
   rw [e] at q4
   cases ec : cl with
   | none => exact absurd e (C.nox ec ts c)
   | some g => exact fun dx H' s => ⟨c, g, rfl, rfl, q4 H' s⟩
  | stuck => rw [e] at q4; exact q4
end
theorem Wl {K : PySem.W.Frag} {H : Hp} {P : Pv} {ts : List PyData} {vs : List V} {N : List Str} (r : Rls K H P ts vs) (ho : ∀ i, P.own i = none) (hf : (∀ a, P.fb a -> H a ≠ none) /\ Ys K H) :
  Hol K H P (L2.start N vs) (ts.map .val ++ List.replicate (N.length - ts.length) .emp) where
 sl := fun i s e => by
  by_cases hi : i < ts.length
  ·rw [List.getElem?_append_left (by simpa using hi), List.getElem?_map] at e
   cases et : ts[i]? with
   | none => rw [et] at e; cases e
   | some t =>
    rw [et] at e
    cases e
    obtain ⟨v, ev, rv⟩ := r.getT et
    refine ⟨v, ?_, rv⟩
    have hl := r.length
    unfold L2.start
    rw [List.getD_eq_getElem?_getD, List.getElem?_append_left (by simp; omega), List.getElem?_map, ev]
    rfl
  ·rw [List.getElem?_append_right (by simpa using hi)] at e
   rw [List.getElem?_replicate] at e
   split at e
   ·cases e; trivial
   ·cases e
 inj := fun i j a h _ => by rw [ho i] at h; cases h
 only := fun i a h => by rw [ho i] at h; cases h
 fbd := hf.1
 tab := hf.2
 nfb := fun i a h => by rw [ho i] at h; cases h
 len := by
  have hl := r.length
  unfold L2.start
  simp [hl]
theorem fn_ok {P : Program} {w : World} {K : PySem.W.Frag} {mg : Str -> Option Value} {base : Heap} {x qual : Str} {st : Stmt} {f : Addr} {fd : FuncData} {N ps : List Str} {k np : Nat} {d : DS} (F : Fun K x qual st f fd) (S : FnScope N ps (Zd st)) (hnp : ps.length = np)
  (hb : ∀ (cdv : Value) (A : Around) (outer : List Env) (s : Shared) (H : Hp) (E : XK), Room k (A.deeper (envOfC qual (Zd st) s.heap.objs.size f cdv)) ->
   SVs (cxOf CX0 P w K mg base N qual (Zd st) f cdv A outer s H E).nox (fun _ _ => False) false (ZC st) d) : FnOk P w K mg base CX0 (k + 1) f fd ps (spF K none np (runQ N.length np d)) := by
 refine F.ok S (fun vs H Q E h => by rw [hnp]; exact h.1) fun cdv A outer s H vs Q E hr h => ⟨_, hb cdv A outer s H E hr, ?_⟩
 obtain ⟨hl, ts, P', rs, ho, hf, q⟩ := h
 have hlt : ts.length = np := by rw [rs.length]; exact hl
 refine ⟨_, P', Wl rs ho hf, ?_⟩
 unfold runQ runF at q
 rw [if_pos hlt] at q
 have en : N.length - np = N.length - ts.length := by rw [hlt]
 rw [en] at q
 have sm : ∀ H' P2, Go H P' H' P2 -> Same H H' := fun H' P2 g => g.all ho
 have bk : ∀ H' P2, Go H P' H' P2 -> Tr H' P2 H' P' := fun H' P2 g b o e _ z => ⟨e, fun i => by rw [ho i]; exact fun z => (by cases z), by rw [<- g.fbe]; exact z.2⟩
 cases e : d (ts.map .val ++ List.replicate (N.length - ts.length) .emp) with
 | stuck => rw [e] at q; exact q.elim
 | exc c => rw [e] at q; exact q.elim
 | ok o =>
  rw [e, Res.bind_ok] at q
  cases o with
  | nx G => exact fun σ' H' P2 g h' => q .non H' (sm H' P2 g) (Yt.mpr rfl)
  | rt t => exact fun v H' P2 g r _ => q v H' (sm H' P2 g) (Rl.go (bk H' P2 g) t v r)
  | bk G => exact q.elim
  | ct G => exact q.elim
end Fx
namespace Fx
open PySem PySem.Spec PyProof.Rows L2
structure Cle (P : Program) (w : World) (K : PySem.W.Frag) (mg : Str -> Option Value) (base : Heap) (k : Nat) (x : Str) (np : Nat) (f : DF) : Prop where
 ex : ∃ (fa : Addr) (fd : FuncData) (ps : List Str), FnOk P w K mg base CX0 k fa fd ps (spF K none np f) /\ mg x = some (.ref fa) /\ PySem.W.keepIn K (.ref fa) = true /\ Yx K fd ps []
 nox : ∀ ts c, f ts ≠ .exc c
section
variable {P : Program} {w : World} {K : PySem.W.Frag} {mg : Str -> Option Value} {base : Heap}
theorem Cle.cal {X : Cx} {W : Str -> Hp -> Prop} {k np : Nat} {x : Str} {f : DF} (C : Cle X.prog X.w X.K X.mg X.base k x np f) : Cal X W none k x np f := by
 obtain ⟨fa, fd, ps, F, hm, hk, hb⟩ := C.ex
 exact ⟨⟨CX0, fa, fd, ps, F, hm, hk, hb, fun _ _ _ _ _ _ _ h => h.elim⟩, fun _ => C.nox⟩
theorem Cle.mono {j k np : Nat} {x : Str} {f : DF} (C : Cle P w K mg base j x np f) (h : j <= k) : Cle P w K mg base k x np f := by
 obtain ⟨fa, fd, ps, F, r⟩ := C.ex
 exact ⟨⟨fa, fd, ps, F.mono h, r⟩, C.nox⟩
theorem Ws {x : Str} {st : Stmt} {fa : Addr} {fd : FuncData} {N ps : List Str} {k n np : Nat} {d : DS} (F : Fun K x x st fa fd) (hm : mg x = some (.ref fa)) (b : Yx K fd ps []) (S : FnScope N ps (Zd st)) (hnp : ps.length = np) (hN : N.length = n)
  (hb : ∀ (cdv : Value) (A : Around) (outer : List Env) (s : Shared) (H : Hp) (E : XK), Room k (A.deeper (envOfC x (Zd st) s.heap.objs.size fa cdv)) ->
   SVs (cxOf CX0 P w K mg base N x (Zd st) fa cdv A outer s H E).nox (fun _ _ => False) false (ZC st) d) : Cle P w K mg base (k + 1) x np (runQ n np d) := by
 subst hN
 exact ⟨⟨fa, fd, ps, fn_ok F S hnp hb, hm, F.kp, b⟩, fun ts c => runQ_nox _ _ _ ts c⟩
theorem law_sp {f : DF} {ns : List Int} (h : f [.list (ns.map .int)] = .ok (.bool true)) {H : Hp} {a : Addr} (hT : Ys K H) (hS : SqL K H a (ns.map V.int)) : spF K none 1 f [.ref a] H (fun v _ => v = .bl true) (fun _ _ _ => False) := by
 refine ⟨rfl, [.list (ns.map .int)], ⟨fun _ => none, fun _ => False⟩, Zj.mpr ⟨.ref a, [], rfl, Zw.mpr ⟨a, ns.map V.int, rfl, ?_, rls_ints ns⟩, Zq.mpr rfl⟩, fun _ => rfl, ⟨fun _ z => z.elim, hT⟩, ?_⟩
 ·rcases hS with h | h
  ·exact .inl ⟨h, fun _ z => (by cases z), fun z => z⟩
  ·exact .inr h
 ·rw [h]
  exact fun v H' _ r => ZT.mp r
end
end Fx
namespace Fx
open PySem PySem.Spec PyProof.Rows L2
def Yld (K : PySem.W.Frag) (J : It) (ts : List PyData) (H : Hp) (P : Pv) : Prop := ∀ H' P', Tr H P H' P' -> (∀ p, H' p = none -> Off P' p) -> ∀ i,
 (∀ t, ts[i]? = some t -> J.go i H' /\ ∀ x H'', J.yld i H' x H'' -> Same H' H'' /\ Rl K H'' P' t x) /\ (ts.length <= i -> J.stop i H')
def PostI (K : PySem.W.Frag) (W : Str -> Hp -> Prop) (H : Hp) (P : Pv) (r : Res (List PyData)) (R : It -> Hp -> Prop) : Prop :=
 match r with
 | .ok ts => ∀ J H', Same H H' -> Yld K J ts H' P -> R J H'
 | .exc c => ∀ H', Same H H' -> W c H'
 | .stuck => False
def tFI (K : PySem.W.Frag) (W : Str -> Hp -> Prop) (d : DA) : TI := fun σ H R => ∃ G P, Hol K H P σ G /\ PostI K W H P (d G) R
def IV (X : Cx) (W : Str -> Hp -> Prop) (tg iter : Expr) (d : DA) : Prop := PI X tg iter (tFI X.K W d)
theorem VS {X : Cx} {tg e : Expr} {t t' : TI} (h : PI X tg e t) (w : ∀ σ H Q, t' σ H Q -> t σ H Q) : PI X tg e t' := fun pins s σ H Q I q => h pins s σ H Q I (w σ H Q q)
theorem bindEI {a : Res PyData} {f : PyData -> Res (List PyData)} {K : PySem.W.Frag} {W : Str -> Hp -> Prop} {H : Hp} {P : Pv} {Q : It -> Hp -> Prop} (q : PostI K W H P (a.bind f) Q) :
  (∀ c, a = .exc c -> ∀ H', Same H H' -> W c H') /\ a ≠ .stuck /\ ∀ t, a = .ok t -> PostI K W H P (f t) Q := by
 cases a with
 | ok t => exact ⟨fun c e => (by cases e), (by intro e; cases e), fun t' e => by cases e; exact q⟩
 | exc c => exact ⟨fun c' e => by cases e; exact q, (by intro e; cases e), fun t e => by cases e⟩
 | stuck => exact q.elim
section
variable {X : Cx} {W : Str -> Hp -> Prop} {fl : Bool} {tg a b c e : Expr} {da db : DE} {pos : Pos}
def iSq (K : PySem.W.Frag) (tl : TE) : TI := fun σ H R => tl σ H fun x H1 => (∃ a, x = .ref a /\ (∃ xs, SqL K H1 a xs) /\ R (Itl K a) H1) \/ (∃ a, x = .ref a /\ (∃ xs, SqT K H1 a xs) /\ R (Itt K a) H1)
theorem pi_sq {l : Expr} {tl : TE} (hl : PE X l tl) : PI X tg l (iSq X.K tl) := by
 intro pins s σ H R I h
 refine thn (hl pins s σ H _ I h) fun v s1 ⟨x, H1, I1, r1, q1⟩ => ?_
 rcases q1 with ⟨a, e, ⟨xs, hq⟩, q⟩ | ⟨a, e, ⟨xs, hq⟩, q⟩
 ·subst e
  cases r1
  obtain ⟨its, rv, p, hz⟩ := I1.list hq
  refine wpAny_pyIter_list p.isList ?_
  refine ⟨s1.heap.objs.size, [s1.heap.objs.size], _, _, H1, rfl, I1.kept (t' := s1.toks) fun b o e => Heap.get?_push_of_some _ e, VF a _, ⟨_, Heap.get?_push_size _ rfl, rfl, rfl⟩, fun b hb => ?_, q⟩
  have e : b = s1.heap.objs.size := by simpa using hb
  subst e
  exact I1.fpOk (Nat.le_refl _) (I1.hok.fresh (Nat.le_refl _))
 ·subst e
  cases r1
  obtain ⟨its, rv, p, hz⟩ := I1.tuple hq
  refine wpAny_pyIter_tuple (show s1.heap.IsTuple a its.toArray from p) ?_
  refine ⟨s1.heap.objs.size, [s1.heap.objs.size], _, _, H1, rfl, I1.kept (t' := s1.toks) fun b o e => Heap.get?_push_of_some _ e, Vk a _, ⟨_, Heap.get?_push_size _ rfl, rfl, rfl⟩, fun b hb => ?_, q⟩
  have e : b = s1.heap.objs.size := by simpa using hb
  subst e
  exact I1.fpOk (Nat.le_refl _) (I1.hok.fresh (Nat.le_refl _))
theorem yld_list {H : Hp} {P : Pv} {l : Addr} {xs : List PyData} {vs : List V} (s : SL X.K H P l vs) (r : Rls X.K H P xs vs) : Yld X.K (Itl X.K l) xs H P := fun H' P' tr nf i =>
 ⟨fun t e => by
  have r' := Rls.go tr xs vs r
  have s' := (s.go tr).sq
  obtain ⟨v, ev, rv⟩ := r'.getT e
  refine ⟨⟨vs, v, s', ev⟩, fun x H'' y => ?_⟩
  obtain ⟨rfl, y⟩ := y
  have := y vs s'
  rw [ev] at this
  cases this
  exact ⟨Same.refl _, rv⟩, fun hl => ⟨vs, (s.go tr).sq, by rw [<- r.length]; exact hl⟩⟩
theorem VA {H : Hp} {P : Pv} {l : Addr} {xs : List PyData} {vs : List V} (s : ST X.K H P l vs) (r : Rls X.K H P xs vs) : Yld X.K (Itt X.K l) xs H P := fun H' P' tr nf i =>
 ⟨fun t e => by
  have r' := Rls.go tr xs vs r
  have s' := (s.go tr).sq
  obtain ⟨v, ev, rv⟩ := r'.getT e
  refine ⟨⟨vs, v, s', ev⟩, fun x H'' y => ?_⟩
  obtain ⟨rfl, y⟩ := y
  have := y vs s'
  rw [ev] at this
  cases this
  exact ⟨Same.refl _, rv⟩, fun hl => ⟨vs, (s.go tr).sq, by rw [<- r.length]; exact hl⟩⟩
theorem Xy (ha : EV X W a da) : IV X W tg a (iSeq da) :=
 VS (pi_sq ha) fun σ H R ⟨G, P, h, q⟩ => by
  unfold iSeq at q
  obtain ⟨q1, q2, q3⟩ := bindEI q
  refine Zp h q1 q2 fun tx x H1 ex s1 h1 rx => ?_
  have q4 := q3 tx ex
  cases tx <;> try exact q4.elim
  ·obtain ⟨l, vs, rfl, sl, rs⟩ := Zw.mp rx
   exact .inl ⟨l, rfl, ⟨vs, sl.sq⟩, q4 _ H1 s1 (yld_list sl rs)⟩
  ·obtain ⟨l, vs, rfl, sl, rs⟩ := ZG.mp rx
   exact .inr ⟨l, rfl, ⟨vs, sl.sq⟩, q4 _ H1 s1 (VA sl rs)⟩
theorem rngT_get (lo : Int) (n i : Nat) : (rngT lo n)[i]? = if i < n then some (.int (lo + (i : Int))) else none := by
 unfold rngT
 rw [List.getElem?_map]
 by_cases h : i < n
 ·rw [if_pos h, List.getElem?_eq_getElem (by simpa using h)]
  simp
 ·rw [if_neg h, List.getElem?_eq_none (by simpa using h)]
  rfl
theorem VB {H : Hp} {P : Pv} (lo : Int) (n : Nat) : Yld X.K (Itr lo n) (rngT lo n) H P := by
 intro H' P' tr nf i
 refine ⟨fun t e => ?_, fun hl => ?_⟩
 ·rw [rngT_get] at e
  split at e
  ·rename_i hi
   cases e
   refine ⟨hi, fun x H'' y => ?_⟩
   obtain ⟨rfl, rfl⟩ := y
   exact ⟨Same.refl _, Zo.mpr rfl⟩
  ·cases e
 ·have : (rngT lo n).length = n := by simp [rngT]
  rw [this] at hl
  exact hl
theorem XV {p : Pos} (hg : Gl X "range") (hm : X.mg "range" = none) (ha : EV X W a da) (hs : starEach [a] X.env = [(false, eval a X.env)] := by rfl) (hs' : starEach [a] X.env = (false, eval a X.env) :: starEach [] X.env := by rfl) : IV X W tg (.Call (.Name "range" p) [a] [] pos) (iRng da) :=
 VS (VT hg hm (ZY ha YE hs') hs) fun σ H R ⟨G, P, h, q⟩ => by
  unfold Fx.iRng at q
  obtain ⟨q1, q2, q3⟩ := bindEI q
  refine Zp h q1 q2 fun tx x H1 ex s1 h1 rx => ?_
  have q4 := q3 tx ex
  cases tx <;> try exact q4.elim
  rename_i j
  simp only at q4
  split at q4
  ·rename_i hj
   exact ⟨j, by rw [Zo.mp rx], (WZ hj).1, (WZ hj).2, q4 _ H1 s1 (VB 0 j.toNat)⟩
  ·exact q4.elim
def GV (X : Cx) (tg : Expr) (st : PyData -> List Sl -> Res (List Sl)) : Prop :=
 ∃ g, PG X tg g /\ ∀ (t : PyData) (v : V) (σ : L2.St) (H : Hp) (P : Pv) (G : List Sl) (Q : L2.St -> Hp -> Prop), Hol X.K H P σ G -> Rl X.K H P t v ->
  (∃ G', st t G = .ok G' /\ ∀ σ' P', Go H P H P' -> Hol X.K H P' σ' G' -> Q σ' H) -> g v σ H Q
theorem Yk {i : Nat} {x : Str} (hN : X.N.Nodup) (hi : X.N[i]? = some x) (hx : Loc X.env.scope x) (hf : X.fn x = true \/ X.env.scope.names.lookup x = some .local := by first | exact .inl rfl | exact .inr rfl | assumption) : GV X (.Name x pos) (Ya i) :=
 ⟨gName i, pg_name hN hi hx hf, fun t v σ H P G Q h r ⟨G', e, q⟩ => by
  cases e
  exact q _ (P.del i) .del (h.setVal i r)⟩
end
end Fx
namespace Fx
open PySem PySem.Spec PyProof.Rows L2
theorem Same.updL {H H8 : Hp} {D : Addr} {vs ws : List V} (s : Same H H8) (hD : H D = none) (h8 : H8 D = some (.lst vs)) : Same H (upd H8 D (.lst ws)) where
 kp := fun b o e n => by rw [Zf (Zt e hD)]; exact s.kp b o e n
 free := fun {b} w => by
  by_cases z : b = D
  ·rw [z]; exact hD
  ·rw [Zf z] at w; exact s.free w
 tab := fun K t => Ys.mono (s.tab K t) fun b o e nl => by
  rw [Zf (fun z => by rw [z, h8] at e; cases e; exact nl _ rfl)]; exact e
 tbk := fun b ps e => by rw [Zf (Zt e hD)]; exact s.tbk b ps e
def UD (K : PySem.W.Frag) (W : Str -> Hp -> Prop) (H : Hp) (P : Pv) (r : Res (List PyData)) (Q : VK) : Prop :=
 match r with
 | .ok xs => ∀ p vs H', Same H H' -> H p = none -> H' p = some (.lst vs) -> Rls K H' (P.fbd p) xs vs -> Q (.ref p) H'
 | .exc c => ∀ H', Same H H' -> W c H'
 | .stuck => False
def tFO (K : PySem.W.Frag) (W : Str -> Hp -> Prop) (d : DA) : TE := fun σ H Q => ∃ G P, Hol K H P σ G /\ UD K W H P (d G) Q
def OV (X : Cx) (W : Str -> Hp -> Prop) (e : Expr) (d : DA) : Prop := PE X e (tFO X.K W d)
theorem Tr.fbd {H : Hp} {P : Pv} {p : Addr} : Tr H (P.fbd p) H P := fun a o e _ q => ⟨e, q.1, fun z => q.2 (.inl z)⟩
theorem Tr.tofbd {H : Hp} {P : Pv} {p : Addr} (hp : H p = none) : Tr H P H (P.fbd p) := fun a o e _ q => ⟨e, q.1, fun z => z.elim q.2 fun z => by rw [z, hp] at e; cases e⟩
theorem VQ {K : PySem.W.Frag} {H H' : Hp} {P : Pv} {σ : L2.St} {G : List Sl} {p : Addr} {vs : List V} {xs : List PyData} (h : Hol K H P σ G) (s : Same H H') (hp : H p = none) (hl : H' p = some (.lst vs)) (r : Rls K H' (P.fbd p) xs vs) : Rl K H' P (.list xs) (.ref p) :=
 Zw.mpr ⟨p, vs, rfl, .off hl (h.off_new hp), Rls.go .fbd xs vs r⟩
theorem Hol.own' {K : PySem.W.Frag} {H H' : Hp} {P : Pv} {σ : L2.St} {G : List Sl} {p : Addr} {vs : List V} {xs : List PyData} {i : Nat} (h : Hol K H P σ G) (hi : i < G.length) (s : Same H H') (hp : H p = none) (hl : H' p = some (.lst vs)) (r : Rls K H' (P.fbd p) xs vs) :
  Hol K H' (P.put i p) (σ.set i (some (.ref p))) (G.set i (.own xs)) /\ Go H P H' (P.put i p) := by
 have g0 : Go H P H' (P.put i p) := (Go.put hp).trans (.same s)
 have gg := g0.tr
 have tt : Tr H' (P.fbd p) H' (P.put i p) := fun a o e _ q => ⟨e, fun j z => by
  have z' : (if j = i then some p else P.own j) = some a := z
  split at z'
  ·cases z'; exact q.2 (Or.inr rfl)
  ·exact q.1 j z', fun z => q.2 (Or.inl z)⟩
 have rr : Rls K H' (P.put i p) xs vs := Rls.go tt xs vs r
 refine ⟨⟨fun j s' q => ?_, ?_, ?_, ?_, ?_, ?_, s.tab K h.tab⟩, g0⟩
 ·by_cases e : j = i
  ·subst e
   rw [List.getElem?_set_self hi] at q
   cases q
   exact ⟨p, vs, YR (by rw [h.len]; exact hi), if_pos rfl, hl, rr⟩
  ·rw [List.getElem?_set_ne (Ne.symm e)] at q
   have z := h.sl j s' q
   rw [YI e]
   cases s' with
   | emp => trivial
   | val t' => obtain ⟨v', e1, r'⟩ := z; exact ⟨v', e1, Rl.go gg t' v' r'⟩
   | own xs' =>
    obtain ⟨p', vs', e1, e2, e3, r'⟩ := z
    exact ⟨p', vs', e1, (by show (if j = i then some p else P.own j) = _; rw [if_neg e]; exact e2), s.kp _ _ e3 ZN, Rls.go gg xs' vs' r'⟩
 ·intro a b c h1 h2
  have h1' : (if a = i then some p else P.own a) = some c := h1
  have h2' : (if b = i then some p else P.own b) = some c := h2
  split at h1'
  ·split at h2'
   ·rename_i z1 z2; rw [z1, z2]
   ·cases h1'; obtain ⟨ws, q⟩ := h.dom h2'; rw [hp] at q; cases q
  ·split at h2'
   ·cases h2'; obtain ⟨ws, q⟩ := h.dom h1'; rw [hp] at q; cases q
   ·exact h.inj a b c h1' h2'
 ·intro j a z
  have z' : (if j = i then some p else P.own j) = some a := z
  split at z'
  ·rename_i e; subst e; exact ⟨xs, List.getElem?_set_self hi⟩
  ·rename_i ne
   obtain ⟨xs, q⟩ := h.only j a z'
   exact ⟨xs, by rw [List.getElem?_set_ne (Ne.symm ne)]; exact q⟩
 ·intro a z w
  exact h.fbd a z (s.free w)
 ·intro j a z
  have z' : (if j = i then some p else P.own j) = some a := z
  split at z'
  ·cases z'; exact h.nofb hp
  ·exact h.nfb j a z'
 ·rw [List.length_set, List.length_set]; exact h.len
def Zm (env : Env) : List (Str × NameKind) -> List (Str × Addr) -> List (Str × Addr)
 | [], cs => cs
 | (n, k) :: r, cs => Zm env r (if (k == NameKind.free) = true then (n, (env.cells.lookup n).getD 0) :: cs else cs)
theorem Wr (env : Env) (f : Str × NameKind -> List (Str × Addr) -> Sem (ForInStep (List (Str × Addr))))
  (hf : ∀ n k cs, f (n, k) cs = if (k == NameKind.free) = true then (cellOf env n >>= fun a => pure (.yield ((n, a) :: cs))) else pure (.yield cs)) :
  ∀ (names : List (Str × NameKind)) (cs : List (Str × Addr)), (∀ y ∈ names, y.2 = .free -> ∃ c, env.cells.lookup y.1 = some c) -> (forIn names cs f : Sem (List (Str × Addr))) = pure (Zm env names cs)
 | [], cs, h => rfl
 | (n, k) :: r, cs, h => by
  rw [List.forIn_cons, hf]
  have ih := fun cs => Wr env f hf r cs fun y hy => h y (List.mem_cons_of_mem _ hy)
  by_cases hk : (k == NameKind.free) = true
  ·obtain ⟨c, e⟩ := h (n, k) List.mem_cons_self (by simpa using hk)
   have e2 : cellOf env n = pure c := by unfold cellOf; rw [e]
   rw [if_pos hk, e2, pure_bind, pure_bind]
   show forIn r _ f = _
   rw [ih]
   have ec : Zm env ((n, k) :: r) cs = Zm env r (if (k == NameKind.free) = true then (n, (env.cells.lookup n).getD 0) :: cs else cs) := rfl
   rw [ec, if_pos hk, e]
   rfl
  ·rw [if_neg hk, pure_bind]
   show forIn r _ f = _
   rw [ih]
   have ec : Zm env ((n, k) :: r) cs = Zm env r (if (k == NameKind.free) = true then (n, (env.cells.lookup n).getD 0) :: cs else cs) := rfl
   rw [ec, if_neg hk]
theorem Yp {scope : Scope} {env : Env} (h : ∀ y ∈ scope.names, y.2 = .free -> ∃ c, env.cells.lookup y.1 = some c) : closureFor scope env = pure (Zm env scope.names []) := by
 unfold closureFor
 have := Wr env (fun x r => match x with
  | (name, kind) => if (kind == NameKind.free) = true then (cellOf env name >>= fun a => pure (.yield ((name, a) :: r))) else pure (.yield r)) (fun _ _ _ => rfl) scope.names [] h
 simp only [bind_pure]
 exact this
theorem Yf (env : Env) : ∀ (names : List (Str × NameKind)) (cs : List (Str × Addr)), (∀ y ∈ names, y.2 = .free -> ∃ c, env.cells.lookup y.1 = some c) -> (∀ x c, cs.lookup x = some c -> env.cells.lookup x = some c) ->
  ∀ x c, (Zm env names cs).lookup x = some c -> env.cells.lookup x = some c
 | [], cs, h, hc, x, c, e => hc x c e
 | (n, k) :: r, cs, h, hc, x, c, e => by
  unfold Zm at e
  refine Yf env r _ (fun y hy => h y (List.mem_cons_of_mem _ hy)) (fun y d ey => ?_) x c e
  by_cases hk : (k == NameKind.free) = true
  ·rw [if_pos hk] at ey
   obtain ⟨c', e'⟩ := h (n, k) List.mem_cons_self (by simpa using hk)
   rw [List.lookup_cons] at ey
   split at ey
   ·rename_i q
    have : y = n := by simpa using q
    subst this
    rw [e'] at ey ⊢
    exact ey
   ·exact hc y d ey
  ·rw [if_neg hk] at ey
   exact hc y d ey
theorem ZA {α : Type} {x : Str} {a : α} : ∀ {cs : List (Str × α)}, (x, a) ∈ cs -> ∃ b, cs.lookup x = some b
 | (y, b) :: r, h => by
  rw [List.lookup_cons]
  split
  ·exact ⟨b, rfl⟩
  ·rename_i q
   rcases List.mem_cons.mp h with e | e
   ·cases e; simp at q
   ·exact ZA e
theorem Yg (env : Env) : ∀ (names : List (Str × NameKind)) (cs : List (Str × Addr)) (x : Str), ((∃ c, (x, c) ∈ cs) \/ (x, NameKind.free) ∈ names) -> ∃ c, (x, c) ∈ Zm env names cs
 | [], cs, x, h => by
  rcases h with h | h
  ·exact h
  ·cases h
 | (n, k) :: r, cs, x, h => by
  unfold Zm
  refine Yg env r _ x ?_
  rcases h with ⟨c, h⟩ | h
  ·left
   split
   ·exact ⟨c, List.mem_cons_of_mem _ h⟩
   ·exact ⟨c, h⟩
  ·rcases List.mem_cons.mp h with e | e
   ·cases e
    left
    exact ⟨_, by rw [if_pos (by rfl)]; exact List.mem_cons_self⟩
   ·exact .inr e
theorem ZI {α : Type} {x : Str} {a : α} : ∀ {cs : List (Str × α)}, cs.lookup x = some a -> (x, a) ∈ cs
 | (y, b) :: r, h => by
  rw [List.lookup_cons] at h
  split at h
  ·rename_i q
   have : x = y := by simpa using q
   cases h; subst this
   exact List.mem_cons_self
  ·exact List.mem_cons_of_mem _ (ZI h)
theorem Y6 {scope : Scope} {env : Env} {x : Str} (hcell : ∀ y ∈ scope.names, y.2 ≠ .cell) : (relabel scope env).names.lookup x = some .cell \/ (relabel scope env).names.lookup x = some .free -> (x, NameKind.free) ∈ scope.names := by
 intro h
 have : ∃ k, (x, k) ∈ (relabel scope env).names /\ (k = .cell \/ k = .free) := by
  rcases h with h | h
  ·exact ⟨_, ZI h, .inl rfl⟩
  ·exact ⟨_, ZI h, .inr rfl⟩
 obtain ⟨k, hm, hk⟩ := this
 unfold relabel at hm
 obtain ⟨⟨n, k0⟩, hm0, e⟩ := List.mem_map.mp hm
 simp only at e
 split at e
 ·rename_i q
  cases e
  simp only [Bool.and_eq_true, beq_iff_eq] at q
  rw [q.1.1] at hm0
  exact hm0
 ·cases e
  rcases hk with rfl | rfl
  ·exact absurd rfl (hcell _ hm0)
  ·exact hm0
def cxC (X : Cx) (scope : Scope) (N : List Str) (s₀ : Shared) (H₀ : Hp) (ex : List Addr) (pn : List (Addr × Obj) := []) : Cx :=
 { X with env := compEnvC scope (Zm X.env scope.names []) s₀.heap.objs.size X.env, N := N, s₀ := s₀, H₀ := H₀, outer := X.stack, ex := ex, fn := fun _ => false, pn := pn, xe := fun _ _ => False }
structure CompOk (X : Cx) (scope : Scope) (N : List Str) (nv : Nat) (cap : List Nat) : Prop where
 cell : ∀ y ∈ scope.names, y.2 ≠ .cell
 kind : scope.kind = .function
 names : ∀ y ∈ scope.names, y.2 = .local -> scope.names.lookup y.1 = some .local
 free : ∀ y ∈ scope.names, y.2 = .free -> X.env.kindOf y.1 = some .cell \/ X.env.kindOf y.1 = some .free
 len : N.length = nv + cap.length
 caps : ∀ (i j : Nat) (x : Str), cap[i]? = some j -> N[nv + i]? = some x -> X.N[j]? = some x /\ ((relabel scope X.env).names.lookup x = some .cell \/ (relabel scope X.env).names.lookup x = some .free) /\ (X.env.kindOf x = some .cell \/ X.env.kindOf x = some .free)
def sig (nv : Nat) (cap : List Nat) (σ : L2.St) : L2.St := List.replicate nv none ++ cap.map fun j => σ.getD j none
section
variable {X : Cx} {scope : Scope} {N : List Str} {nv : Nat} {cap : List Nat} {pins : List (Addr × Obj)} {σ : L2.St} {H : Hp} {s : Shared} {ex : List Addr}
theorem CompOk.has (C : CompOk X scope N nv cap) (ok : X.Ok) : ∀ y ∈ scope.names, y.2 = .free -> ∃ c, X.env.cells.lookup y.1 = some c := fun y hy e => ok.has y.1 (C.free y hy e)
theorem CompOk.start (C : CompOk X scope N nv cap) (I : Inv X pins σ H s) (hex : ∀ b ∈ ex, FpOk X pins H b /\ b < s.heap.objs.size) {h' : Heap} {t : Nat} {m : Str -> Option Value} (hn : h'.Ns s.heap.objs.size m) (hk : ∀ b o, s.heap.get? b = some o -> h'.get? b = some o) :
  Inv (cxC X scope N s H ex) [] (sig nv cap σ) H { s with heap := h', toks := t } := by
 have hh := C.has I.ok
 have sub := Yf X.env scope.names [] hh (fun x c e => by cases e)
 have hL : s.heap.objs.size <= (cxC X scope N s H ex).env.locals := Nat.le_refl _
 have stk : ∀ b ∈ frs X.stack, b < s.heap.objs.size := fun b hb => by
  obtain ⟨_, o, ho, _⟩ := I.stack.mem hb
  exact Heap.lt_size ho
 refine ⟨⟨I.ok.mod, C.kind, I.ok.glob, I.ok.blt, hL, fun x y c h1 h2 => I.ok.inj x y c (sub x c h1) (sub y c h2), fun x hx => ?_, fun x c h => ?_, I.ok.hd, I.ok.frames, .inl rfl, fun b hb => ?_, fun b o e => I.bs b o e, ?_, fun b o e hb => ?_, fun b hb => ?_, I.stack, I.stkFree⟩,
  rfl, I.bare, Un.kept hk, ⟨m, hn, fun i x v e1 e2 e3 => ?_⟩, fun x c e => ?_, I.hok.fresh (Nat.le_refl _), fun x c e => I.freeC x c (sub x c e), fun p hp => ?_, I.hok.kept hk, ?_⟩
 ·have hx' : (relabel scope X.env).names.lookup x = some .cell \/ (relabel scope X.env).names.lookup x = some .free := hx
  obtain ⟨c, hc⟩ := Yg X.env scope.names [] x (.inr (Y6 C.cell hx'))
  exact ZA hc
 ·cases h
 ·obtain ⟨f, lt⟩ := hex b hb
  refine ⟨Nat.ne_of_lt lt, fun x c e => f.2.2.2.2.1 x c (sub x c e)⟩
 ·exact Nat.le_trans I.ok.bsz I.sz
 ·obtain ⟨f, lt⟩ := hex b hb
  rcases f.2.2.2.1 with z | z
  ·exact I.ok.noex b o e z
  ·exact absurd (Nat.lt_of_lt_of_le (Heap.lt_size e) (Nat.le_trans I.ok.bsz z)) (Nat.lt_irrefl _)
 ·obtain ⟨f, lt⟩ := hex b hb
  intro z
  rcases List.mem_cons.mp (I.stkSub b z) with e | e
  ·exact f.2.1 e
  ·exact f.2.2.1 e
 ·-- the names
  have hi : nv <= i := by
   rcases Nat.lt_or_ge i nv with z | z
   ·unfold sig at e2
    rw [List.getElem?_append_left (by simpa using z), List.getElem?_replicate] at e2
    split at e2 <;> cases e2
   ·exact z
  obtain ⟨k, rfl⟩ := Nat.exists_eq_add_of_le hi
  unfold sig at e2
  rw [List.getElem?_append_right (by simp), List.getElem?_map] at e2
  have ek : nv + k - (List.replicate nv (none : Option V)).length = k := by simp
  rw [ek] at e2
  cases ec : cap[k]? with
  | none => rw [ec] at e2; cases e2
  | some j =>
   rw [ec] at e2
   have e2' : σ.getD j none = some v := by simpa using e2
   obtain ⟨c1, c2, c3⟩ := C.caps k j x ec e1
   obtain ⟨m0, _, hl⟩ := I.loc
   have vis : Vis X.env.scope x := c3.elim (fun z => .inr (.inl z)) fun z => .inr (.inr z)
   obtain ⟨u, ru, lk⟩ := hl j x v c1 (getD_some e2') vis
   refine ⟨u, ru, .inr ⟨c2, ?_⟩⟩
   rcases lk with ⟨z, _⟩ | ⟨_, c, ec', o, ho, hd⟩
   ·rcases c3 with c3 | c3 <;> (rw [c3] at z; cases z)
   ·obtain ⟨c', hc'⟩ := Yg X.env scope.names [] x (.inr (Y6 C.cell c2))
    obtain ⟨c'', hc''⟩ := ZA hc'
    have := sub x c'' hc''
    rw [ec'] at this
    cases this
    exact ⟨c, hc'', o, hk c o ho, hd⟩
 ·obtain ⟨v, o, ho, hd⟩ := I.cell x c (sub x c e)
  exact ⟨v, o, hk c o ho, hd⟩
 ·exact absurd (show p ∈ ([] : List (Addr × Obj)) from hp) (by simp)
 ·show (sig nv cap σ).length = N.length
  unfold sig
  rw [C.len]
  simp
theorem CompOk.stop {H' : Hp} {s' : Shared} {σ' : L2.St} {pl : List (Addr × Obj)} (I : Inv X pins σ H s) (hex : ∀ b ∈ ex, FpOk X pins H b) (J : Inv (cxC X scope N s H ex) pl σ' H' s') : Inv X pins σ H' s' :=
 I.call' J.os J.base J.hok J.bare fun b hb => by
  obtain ⟨f0, f1, f2, f3, f4, f5⟩ := hex b hb
  exact ⟨f3, f1, f4, f5⟩
theorem inv_pn {s₀ : Shared} {H₀ : Hp} {E : Value -> Shared -> Prop} (I : Inv (cxC X scope N s₀ H₀ ex) pins σ H s) : Inv ((cxC X scope N s₀ H₀ ex pins).wish E) [] σ H s :=
 ⟨⟨I.ok.mod, I.ok.kind, I.ok.glob, I.ok.blt, I.ok.above, I.ok.inj, I.ok.has, I.ok.cab, I.ok.hd, I.ok.frames, I.ok.stk, I.ok.exf, I.ok.bs, I.ok.bsz, I.ok.noex, I.ok.exfs, I.ok.funs, I.ok.frf⟩, I.os, I.bare, I.base, I.loc, I.cell, I.free, I.freeC,
  fun p hp => I.pin p (show p ∈ [] ++ pins by simpa using (show p ∈ pins ++ [] from hp)), I.hok, I.len⟩
theorem V9 {s₀ : Shared} {H₀ : Hp} {pn : List (Addr × Obj)} {E : Value -> Shared -> Prop} (I : Inv ((cxC X scope N s₀ H₀ ex pn).wish E) pins σ H s) : Inv (cxC X scope N s₀ H₀ ex) (pn ++ pins) σ H s :=
 ⟨⟨I.ok.mod, I.ok.kind, I.ok.glob, I.ok.blt, I.ok.above, I.ok.inj, I.ok.has, I.ok.cab, I.ok.hd, I.ok.frames, I.ok.stk, I.ok.exf, I.ok.bs, I.ok.bsz, I.ok.noex, I.ok.exfs, I.ok.funs, I.ok.frf⟩, I.os, I.bare, I.base, I.loc, I.cell, I.free, I.freeC,
  fun p hp => I.pin p (show p ∈ pn ++ pins from by simpa using (show p ∈ [] ++ (pn ++ pins) from hp)), I.hok, I.len⟩
end
end Fx
namespace Fx
open PySem PySem.Spec PyProof.Rows L2
theorem Y3 {prog : Program} {w : World} {A : Around} {R : Result -> Shared -> Prop} {s : Shared} {elt target iter : Expr} {ifs : List Expr} {scope : Scope} {pos : Pos} {it acc : Value} {env : Env} (I : Nat -> Shared -> Prop)
  (turn : ∀ n s, I n s -> wpAny (model prog w) A (pyNext it) (fun r s₁ => match r with
   | none => R (.ok .next) s₁
   | some v => wpAny (model prog w) A (letOwnedTupleGo target it v) (fun _ s₀ => wpAny (model prog w) A (assign target env v) (fun _ s₂ =>
     wpAny (model prog w) A (forIn ifs true fun c r => if r = true then do let ok <- isTrue c env (eval c env); pure (ForInStep.yield ok) else pure (ForInStep.yield r)) (fun ok s₃ =>
      if ok = true then wpAny (model prog w) A (eval elt env) (fun x s₄ =>
       wpAny (model prog w) A (call (.builtin "list.append") [acc, x]) (fun _ s₅ => ∃ m, m < n /\ I m s₅) (notedBy (model prog w) A env fun e s' => R (.error e) s') s₄) (notedBy (model prog w) A env fun e s' => R (.error e) s') s₃
      else ∃ m, m < n /\ I m s₃) (notedBy (model prog w) A env fun e s' => R (.error e) s') s₂) (notedBy (model prog w) A env fun e s' => R (.error e) s') s₀) (notedBy (model prog w) A env fun e s' => R (.error e) s') s₁) (notedBy (model prog w) A env fun e s' => R (.error e) s') s)
  (n : Nat) (h : I n s) :
  codeAny (model prog w) A (.compLoop (.ListComp elt [⟨target, iter, ifs, 0⟩] scope pos) 0 it acc env) R s := by
 refine codeAny_loop rfl I (fun n s hI => ?_) n h
 show wpAny _ A ((compTurn (.ListComp elt [⟨target, iter, ifs, 0⟩] scope pos) 0 it acc env).onRaise (fun x => do noteFrame x env; theTreesLotGoes x)) _ _ s
 refine wpAny_noted ?_
 rw [compTurn_list]
 refine wpAny_bind (wpAny_standAt (wpAny_bind (wpAny_mono (turn n s hI) (fun r s₁ h₁ => ?_) fun _ _ h' => h')))
 cases r with
 | none => exact wpAny_pure h₁
 | some v =>
  refine wpAny_bind (wpAny_mono h₁ (fun _ s₀ h₀ => ?_) fun _ _ h' => h')
  refine wpAny_bind (wpAny_mono h₀ (fun _ s₂ h₂ => wpAny_bind (wpAny_mono h₂ (fun ok s₃ h₃ => ?_) fun _ _ h' => h')) fun _ _ h' => h')
  cases ok with
  | false => exact wpAny_pure ⟨rfl, h₃⟩
  | true =>
   exact wpAny_bind (wpAny_bind (wpAny_mono h₃ (fun x s₄ h₄ => wpAny_bind (wpAny_mono h₄ (fun _ s₅ h₅ => wpAny_pure (wpAny_pure ⟨rfl, h₅⟩)) fun _ _ h' => h')) fun _ _ h' => h'))
def CT (X : Cx) (W : Str -> Hp -> Prop) (ifs : List Expr) (dc : DT) : Prop := (ifs = [] /\ dc = tT) \/ ∃ c, ifs = [c] /\ TV X W c dc
theorem Yn {X : Cx} {W : Str -> Hp -> Prop} : CT X W [] tT := .inl ⟨rfl, rfl⟩
section
variable {X : Cx} {scope : Scope} {N : List Str} {nv : Nat} {cap : List Nat}
theorem WL {K : PySem.W.Frag} {H H' : Hp} {P P' : Pv} {σ : L2.St} {G : List Sl} (h : Hol K H P σ G) (tr : Tr H P H' P') (ho : ∀ i, P'.own i = none) (hf : ∀ a, P'.fb a -> H' a ≠ none) (htb : Ys K H') : Hol K H' P' (sig nv cap σ) (List.replicate nv .emp ++ capS cap G) where
 sl := fun i s e => by
  by_cases hi : i < nv
  ·rw [List.getElem?_append_left (by simpa using hi), List.getElem?_replicate, if_pos hi] at e
   cases e
   trivial
  ·rw [List.getElem?_append_right (by simpa using hi)] at e
   have el : i - (List.replicate nv Sl.emp).length = i - nv := by simp
   rw [el] at e
   unfold capS at e
   rw [List.getElem?_map] at e
   cases ec : cap[i - nv]? with
   | none => rw [ec] at e; cases e
   | some j =>
    rw [ec] at e
    have es : (sig nv cap σ).getD i none = σ.getD j none := by
     unfold sig
     rw [List.getD_eq_getElem?_getD, List.getElem?_append_right (by simpa using hi)]
     have el2 : i - (List.replicate nv (none : Option V)).length = i - nv := by simp
     rw [el2, List.getElem?_map, ec]
     rfl
    rw [es]
    simp only [Option.map_some, Option.some.injEq] at e
    cases eg : G[j]? with
    | none => rw [eg] at e; subst e; trivial
    | some x =>
     rw [eg] at e
     cases x with
     | emp => subst e; trivial
     | own xs => subst e; trivial
     | val t =>
      subst e
      obtain ⟨v, ev, rv⟩ := h.sl j _ eg
      exact ⟨v, ev, Rl.go tr t v rv⟩
 inj := fun i j a z _ => by rw [ho i] at z; cases z
 only := fun i a z => by rw [ho i] at z; cases z
 fbd := hf
 nfb := fun i a z => by rw [ho i] at z; cases z
 len := by simp [sig]
 tab := htb
theorem Y0 {K : PySem.W.Frag} {H : Hp} {P : Pv} {σ : L2.St} {G1 : List Sl} {C : List Sl} (hC : ∀ i, i < nv -> ∀ s, C[i]? = some s -> s = .emp) (hC2 : ∀ (i : Nat) xs, C[i]? ≠ some (.own xs)) (h : Hol K H P σ G1) (hl : G1.length = C.length) (he : ∀ i, nv <= i -> G1[i]? = C[i]?) :
  Hol K H P.bare σ C := by
 obtain ⟨h', g⟩ := h.frzA
 refine ⟨fun i s e => ?_, fun _ _ _ z => (by cases z), fun _ _ z => (by cases z), h'.fbd, fun _ _ z => (by cases z), by rw [h.len, hl], h'.tab⟩
 by_cases hi : i < nv
 ·rw [hC i hi s e]; trivial
 ·have e1 : G1[i]? = some s := by rw [he i (by omega)]; exact e
  cases s with
  | emp => trivial
  | own xs => exact absurd e (hC2 i xs)
  | val t =>
   refine h'.sl i (.val t) ?_
   rw [YS, e1]; rfl
abbrev cxT (xz : Cx -> Value -> Shared -> Prop) (X : Cx) (scope : Scope) (N : List Str) (s₀ : Shared) (H₀ : Hp) (ex : List Addr) (pn : List (Addr × Obj)) : Cx := (cxC X scope N s₀ H₀ ex pn).wish (xz (cxC X scope N s₀ H₀ ex pn))
theorem Vw {xz : Cx -> Value -> Shared -> Prop} {W : Str -> Hp -> Prop} {tg elt iter : Expr} {ifs : List Expr} {pos : Pos} {st : PyData -> List Sl -> Res (List Sl)} {dc : DT} {de : DE} {pins : List (Addr × Obj)} {σ : L2.St} {H2 : Hp} {s3 s4 : Shared} {P : Pv} {G : List Sl} {J : It} {fp : List Addr} {itA D : Addr} {tn : Nat -> Heap -> Prop} {ts : List PyData} {r : Res (List PyData)} {R : Result -> Shared -> Prop} {m : Str -> Option Value}
  (C : CompOk X scope N nv cap) (hc : X.calm = true) (hk : Xa nv st)
  (hg : ∀ s₀ H₀ ex pn, GV (cxT xz X scope N s₀ H₀ ex pn) tg st) (ht : ∀ s₀ H₀ ex pn, (∀ b ∈ ex, ∃ o, (b, o) ∈ pn) -> CT (cxT xz X scope N s₀ H₀ ex pn) W ifs dc) (he : ∀ s₀ H₀ ex pn, (∀ b ∈ ex, ∃ o, (b, o) ∈ pn) -> EV (cxT xz X scope N s₀ H₀ ex pn) W elt de)
  (h2 : Hol X.K H2 P σ G) (hD : H2 D = none) (I3 : Inv X pins σ (upd H2 D (.lst [])) s3) (T : Turn X.prog X.w X.K tg J fp itA tn) (hf : ∀ b ∈ fp, FpOk X pins (upd H2 D (.lst [])) b /\ b < s3.heap.objs.size) (y : Yld X.K J ts H2 P) (hlen : ts.length <= 16777216)
  (hall : Zk st dc de (List.replicate nv .emp ++ capS cap G) ts = r) (hr : r ≠ .stuck) (hW : ∀ c, r = .exc c -> ∀ H', Same H2 H' -> W c H')
  (hn : s4.heap.Ns s3.heap.objs.size m) (hkp : ∀ b o, s3.heap.get? b = some o -> s4.heap.get? b = some o) (e4 : ∃ h' t, s4 = { s3 with heap := h', toks := t }) (tn0 : tn 0 s4.heap)
  (fin : ∀ s' H' σ' vs all, r = .ok all -> Inv (cxC X scope N s3 (upd H2 D (.lst [])) fp) [] σ' H' s' -> H' D = some (.lst vs) -> Same H2 H' -> Rls X.K H' (P.fbd D) all vs -> R (.ok .next) s')
  (finx : ∀ pn e s', (∀ b ∈ fp, ∃ o, (b, o) ∈ pn) -> xz (cxC X scope N s3 (upd H2 D (.lst [])) fp pn) e s' -> notedBy (model X.prog X.w) X.A (compEnvC scope (Zm X.env scope.names []) s3.heap.objs.size X.env) (fun e s' => R (.error e) s') e s') :
  codeAny (model X.prog X.w) X.A (.compStart (.ListComp elt [⟨tg, iter, ifs, 0⟩] scope pos) 0 (.ref itA) (.ref D) (compEnvC scope (Zm X.env scope.names []) s3.heap.objs.size X.env)) R s4 := by
 obtain ⟨h4, t4, rfl⟩ := e4
 have J4 := C.start (t := t4) I3 hf hn hkp
 -- what no element may hold
 have trc : ∀ H', Same H2 H' -> (∃ vs, H' D = some (.lst vs)) -> Tr H2 P H' ⟨fun _ => none, fun a => ¬ Off P a \/ a = D⟩ := fun H' s _ a o e n q => ⟨s.kp a o e n, fun _ z => (by cases z), fun z => z.elim (fun z => z q) fun z => by rw [z, hD] at e; cases e⟩
 have offc : ∀ H', Same H2 H' -> (∃ vs, H' D = some (.lst vs)) -> ∀ p, H' p = none -> Off ⟨fun _ => none, fun a => ¬ Off P a \/ a = D⟩ p := fun H' s ⟨vs, hv⟩ p hp => ⟨fun _ z => (by cases z), fun z => z.elim (fun z => z (h2.off_new (s.free hp))) fun z => by rw [z, hv] at hp; cases hp⟩
 have fbc : ∀ H', Same H2 H' -> (∃ vs, H' D = some (.lst vs)) -> ∀ a, (¬ Off P a \/ a = D) -> H' a ≠ none := fun H' s hv a z hn => (offc H' s hv a hn).2 z
 have hCe : ∀ i, i < nv -> ∀ x, (List.replicate nv Sl.emp ++ capS cap G)[i]? = some x -> x = .emp := fun i hi x e => by
  rw [List.getElem?_append_left (by simpa using hi), List.getElem?_replicate, if_pos hi] at e
  cases e
  rfl
 have hCo : ∀ (i : Nat) xs, (List.replicate nv Sl.emp ++ capS cap G)[i]? ≠ some (.own xs) := fun i xs e => by
  by_cases hi : i < nv
  ·have := hCe i hi _ e; cases this
  ·rw [List.getElem?_append_right (by simpa using hi)] at e
   unfold capS at e
   rw [List.getElem?_map] at e
   cases ec : cap[i - (List.replicate nv Sl.emp).length]? with
   | none => rw [ec] at e; cases e
   | some j =>
    rw [ec] at e
    simp only [Option.map_some, Option.some.injEq] at e
    cases eg : G[j]? with
    | none => rw [eg] at e; cases e
    | some x => rw [eg] at e; cases x <;> cases e
 have fpo : ∀ H', (∀ b ∈ fp, H' b = none) -> ∀ b ∈ fp, FpOk (cxC X scope N s3 (upd H2 D (.lst [])) fp) [] H' b := fun H' hz b hb => by
  obtain ⟨f, lt⟩ := hf b hb
  refine ⟨hz b hb, Nat.ne_of_lt lt, fun z => ?_, .inl hb, fun x c e => f.2.2.2.2.1 x c (Yf X.env scope.names [] (C.has I3.ok) (fun x c e => by cases e) x c e), fun p hp => absurd (show p ∈ ([] : List (Addr × Obj)) from hp) (by simp)⟩
  rcases List.mem_cons.mp (I3.stkSub b z) with e | e
  ·exact f.2.1 e
  ·exact f.2.2.1 e
 have up0 : Same H2 (upd H2 D (.lst [])) := Zu hD
 -- the loop
 have loop : ∀ s5 : Shared, s5 = { s3 with heap := h4, toks := t4 } -> codeAny (model X.prog X.w) X.A (.compLoop (.ListComp elt [⟨tg, iter, ifs, 0⟩] scope pos) 0 (.ref itA) (.ref D) (compEnvC scope (Zm X.env scope.names []) s3.heap.objs.size X.env)) R s5 := by
  rintro s5 rfl
  refine Y3 (fun n s => ∃ i σ' H' vs ys, n = ts.length - i /\ i <= ts.length /\ Inv (cxC X scope N s3 (upd H2 D (.lst [])) fp) [] σ' H' s /\ tn i s.heap /\ (∀ b ∈ fp, H' b = none) /\ Same H2 H' /\ H' D = some (.lst vs) /\
   Rls X.K H' ⟨fun _ => none, fun a => ¬ Off P a \/ a = D⟩ ys vs /\ Hol X.K H' ⟨fun _ => none, fun a => ¬ Off P a \/ a = D⟩ σ' (List.replicate nv .emp ++ capS cap G) /\ ((Zk st dc de (List.replicate nv .emp ++ capS cap G) (ts.drop i)).bind fun zs => .ok (ys ++ zs)) = r /\ ys.length <= i) ?_ ts.length
   ⟨0, _, _, [], [], rfl, Nat.zero_le _, J4, tn0, fun b hb => (hf b hb).1.1, up0, Zi, Zq.mpr rfl, WL h2 (trc _ up0 ⟨_, Zi⟩) (fun _ => rfl) (fbc _ up0 ⟨_, Zi⟩) (up0.tab _ h2.tab), by rw [List.drop_zero, hall]; cases r <;> rfl, Nat.le_refl _⟩
  rintro n s ⟨i, σ', H', vs, ys, rfl, hi, Ji, tni, fpn, sm, hDv, rys, hol, ecl, hyl⟩
  obtain ⟨y1, y2⟩ := y H' ⟨fun _ => none, fun a => ¬ Off P a \/ a = D⟩ (trc H' sm ⟨vs, hDv⟩) (offc H' sm ⟨vs, hDv⟩) i
  by_cases hlt : i < ts.length
  ·have et : ts[i]? = some ts[i] := by simp [hlt]
   obtain ⟨go, yl⟩ := y1 _ et
   rw [List.drop_eq_getElem_cons hlt] at ecl
   unfold Zk at ecl
   -- the turn's own data
   obtain ⟨G1, eG⟩ : ∃ G1, st ts[i] (List.replicate nv .emp ++ capS cap G) = .ok G1 := by
    rcases Yu (st ts[i] (List.replicate nv .emp ++ capS cap G)) with ⟨G1, h⟩ | h
    ·exact ⟨G1, Wg h⟩
    ·rw [h] at ecl; exact absurd ecl.symm hr
   rw [eG, show noX (Res.ok G1 : Res (List Sl)) = .ok G1 from rfl, Res.bind_ok] at ecl
   obtain ⟨kl, ke⟩ := hk _ _ _ eG
   refine wpAny_mono (T.item (cxC X scope N s3 (upd H2 D (.lst [])) fp) rfl rfl rfl hc i [] s σ' H' (fun _ _ => False) Ji (fpo H' fpn) tni go) (fun r' s1 hr' => ?_) fun _ _ z => z.elim
   obtain ⟨u, rfl, hr'⟩ := hr'
   refine wpAny_mono hr' (fun _ s2 hr2 => ?_) fun _ _ z => z.elim
   obtain ⟨x, H5, J5, r5, y5, tn5, fr5⟩ := hr2
   obtain ⟨sm5, rl5⟩ := yl x H5 y5
   have J5' : Inv (cxT xz X scope N s3 (upd H2 D (.lst [])) fp (Zl fp s2.heap)) [] σ' H5 s2 := inv_pn (J5.pinned (fpo H5 fr5) (T.obj _ _ tn5))
   have pnn : ∀ b ∈ fp, ∃ o, (b, o) ∈ Zl fp s2.heap := fun b hb => by
    obtain ⟨o, e, _⟩ := T.obj _ _ tn5 b hb
    exact ⟨o, Z6 hb e⟩
   have finx' := fun e s' => finx (Zl fp s2.heap) e s' pnn
   obtain ⟨g, pg, gp⟩ := hg s3 (upd H2 D (.lst [])) fp (Zl fp s2.heap)
   have hol5 := hol.same sm5
   refine wpAny_mono (pg _ s2 σ' H5 x u (fun σ6 H6 => H6 = H5 /\ ∃ P6, Go H5 ⟨fun _ => none, fun a => ¬ Off P a \/ a = D⟩ H5 P6 /\ Hol X.K H5 P6 σ6 G1) J5' r5 (gp ts[i] x σ' H5 _ _ _ hol5 rl5 ⟨G1, eG, fun σ6 P6 g6 h6 => ⟨rfl, P6, g6, h6⟩⟩)) (fun _ s6 h6 => ?_) finx'
   obtain ⟨σ6, H6, J6, rfl, P6, g6, hol6⟩ := h6
   -- on to the next turn
   have fr6 : ∀ {H8 : Hp} {s8 : Shared}, Inv (cxT xz X scope N s3 (upd H2 D (.lst [])) fp (Zl fp s2.heap)) [] σ6 H8 s8 -> ∀ b ∈ fp, H8 b = none := fun {H8 s8} J8 b hb => by
    obtain ⟨o, e⟩ := pnn b hb
    exact (J8.pin (b, o) (List.mem_append_left _ e)).2.1
   have next : ∀ {H8 : Hp} {s8 : Shared} {ys' : List PyData} {vs' : List V}, Inv (cxT xz X scope N s3 (upd H2 D (.lst [])) fp (Zl fp s2.heap)) [] σ6 H8 s8 -> Same H2 H8 -> H8 D = some (.lst vs') -> (∀ b, b ≠ D -> ∀ o, H6 b = some o -> Nt o -> H8 b = some o) ->
     Rls X.K H8 ⟨fun _ => none, fun a => ¬ Off P a \/ a = D⟩ ys' vs' -> ((Zk st dc de (List.replicate nv .emp ++ capS cap G) (ts.drop (i + 1))).bind fun zs => .ok (ys' ++ zs)) = r -> ys'.length <= i + 1 ->
     ∃ m, m < ts.length - i /\ ∃ i σ' H' vs ys, m = ts.length - i /\ i <= ts.length /\ Inv (cxC X scope N s3 (upd H2 D (.lst [])) fp) [] σ' H' s8 /\ tn i s8.heap /\ (∀ b ∈ fp, H' b = none) /\ Same H2 H' /\ H' D = some (.lst vs) /\
      Rls X.K H' ⟨fun _ => none, fun a => ¬ Off P a \/ a = D⟩ ys vs /\ Hol X.K H' ⟨fun _ => none, fun a => ¬ Off P a \/ a = D⟩ σ' (List.replicate nv .emp ++ capS cap G) /\ ((Zk st dc de (List.replicate nv .emp ++ capS cap G) (ts.drop i)).bind fun zs => .ok (ys ++ zs)) = r /\ ys.length <= i := by
    intro H8 s8 ys' vs' J8 sm8 hD8 kp8 rys8 ecl8 hyl8
    refine ⟨ts.length - (i + 1), by omega, i + 1, σ6, H8, vs', ys', rfl, hlt, Inv.unpinned (pins := []) (pl := Zl fp s2.heap) (by simpa using V9 J8), ?_, fr6 J8, sm8, hD8, rys8, ?_, ecl8, hyl8⟩
    ·exact T.keep _ _ _ tn5 fun b hb o e => (J8.pin (b, o) (List.mem_append_left _ (Z6 hb e))).1
    ·have hF : Hol X.K H6 P6.bare σ6 (List.replicate nv .emp ++ capS cap G) := Y0 hCe hCo hol6 kl ke
     have ep : P6.bare = ⟨fun _ => none, fun a => ¬ Off P a \/ a = D⟩ := by
      unfold Pv.bare
      rw [g6.fbe]
     rw [ep] at hF
     have tr8 : Tr H6 ⟨fun _ => none, fun a => ¬ Off P a \/ a = D⟩ H8 ⟨fun _ => none, fun a => ¬ Off P a \/ a = D⟩ := fun a o e n q => ⟨kp8 a (fun z => q.2 (Or.inr z)) o e n, q⟩
     refine ⟨fun j x e => ?_, fun _ _ _ z => (by cases z), fun _ _ z => (by cases z), fbc H8 sm8 ⟨vs', hD8⟩, fun _ _ z => (by cases z), hF.len, sm8.tab _ h2.tab⟩
     have z := hF.sl j x e
     cases x with
     | emp => trivial
     | val t => obtain ⟨v, e1, r1⟩ := z; exact ⟨v, e1, Rl.go tr8 t v r1⟩
     | own xs => exact absurd e (hCo j xs)
   have sm6 : Same H2 H6 := sm.trans sm5
   -- behind the test
   have after : ∀ k s7 H7, Inv (cxT xz X scope N s3 (upd H2 D (.lst [])) fp (Zl fp s2.heap)) [] σ6 H7 s7 -> Same H6 H7 -> dc G1 = .ok k -> (if k = true then wpAny (model X.prog X.w) X.A (eval elt (compEnvC scope (Zm X.env scope.names []) s3.heap.objs.size X.env)) (fun x s₄ =>
      wpAny (model X.prog X.w) X.A (call (.builtin "list.append") [.ref D, x]) (fun _ s₅ => ∃ m, m < ts.length - i /\ ∃ i σ' H' vs ys, m = ts.length - i /\ i <= ts.length /\ Inv (cxC X scope N s3 (upd H2 D (.lst [])) fp) [] σ' H' s₅ /\ tn i s₅.heap /\ (∀ b ∈ fp, H' b = none) /\ Same H2 H' /\ H' D = some (.lst vs) /\
      Rls X.K H' ⟨fun _ => none, fun a => ¬ Off P a \/ a = D⟩ ys vs /\ Hol X.K H' ⟨fun _ => none, fun a => ¬ Off P a \/ a = D⟩ σ' (List.replicate nv .emp ++ capS cap G) /\ ((Zk st dc de (List.replicate nv .emp ++ capS cap G) (ts.drop i)).bind fun zs => .ok (ys ++ zs)) = r /\ ys.length <= i) (notedBy (model X.prog X.w) X.A (compEnvC scope (Zm X.env scope.names []) s3.heap.objs.size X.env) fun e s' => R (.error e) s') s₄) (notedBy (model X.prog X.w) X.A (compEnvC scope (Zm X.env scope.names []) s3.heap.objs.size X.env) fun e s' => R (.error e) s') s7
     else ∃ m, m < ts.length - i /\ ∃ i σ' H' vs ys, m = ts.length - i /\ i <= ts.length /\ Inv (cxC X scope N s3 (upd H2 D (.lst [])) fp) [] σ' H' s7 /\ tn i s7.heap /\ (∀ b ∈ fp, H' b = none) /\ Same H2 H' /\ H' D = some (.lst vs) /\
      Rls X.K H' ⟨fun _ => none, fun a => ¬ Off P a \/ a = D⟩ ys vs /\ Hol X.K H' ⟨fun _ => none, fun a => ¬ Off P a \/ a = D⟩ σ' (List.replicate nv .emp ++ capS cap G) /\ ((Zk st dc de (List.replicate nv .emp ++ capS cap G) (ts.drop i)).bind fun zs => .ok (ys ++ zs)) = r /\ ys.length <= i) := by
    intro k s7 H7 J7 sm7 eK
    rw [eK, Res.bind_ok] at ecl
    have sm27 : Same H2 H7 := sm6.trans sm7
    have hD7 : H7 D = some (.lst vs) := sm7.kp _ _ (sm5.kp _ _ hDv ZN) ZN
    have r7 : Rls X.K H7 ⟨fun _ => none, fun a => ¬ Off P a \/ a = D⟩ ys vs := Rls.go (.same (sm5.trans sm7)) ys vs rys
    cases k with
    | false =>
     rw [if_neg Bool.false_ne_true] at ecl ⊢
     exact next J7 sm27 hD7 (fun b _ o e n => sm7.kp b o e n) r7 ecl (by omega)
    | true =>
     rw [if_pos rfl] at ecl ⊢
     cases eY : de G1 with
     | stuck => rw [eY] at ecl; exact absurd ecl.symm hr
     | exc c =>
      rw [eY] at ecl
      refine wpAny_mono (he s3 (upd H2 D (.lst [])) fp (Zl fp s2.heap) pnn _ s7 σ6 H7 (fun _ _ => False) J7 ⟨G1, P6, hol6.same sm7, by rw [eY]; exact fun H8 s8 => hW c ecl.symm H8 (sm27.trans s8)⟩) (fun xv s8 h8 => ?_) finx'
      obtain ⟨_, _, _, _, z⟩ := h8
      exact z.elim
     | ok yv =>
      rw [eY, Res.bind_ok] at ecl
      refine wpAny_mono (he s3 (upd H2 D (.lst [])) fp (Zl fp s2.heap) pnn _ s7 σ6 H7 (fun v H8 => Same H7 H8 /\ Rl X.K H8 P6 yv v) J7 ⟨G1, P6, hol6.same sm7, by rw [eY]; exact fun v H8 s r => ⟨s, r⟩⟩) (fun xv s8 h8 => ?_) finx'
      obtain ⟨v8, H8, J8, r8, sm8, rl8⟩ := h8
      have hD8 : H8 D = some (.lst vs) := sm8.kp _ _ hD7 ZN
      have lv := rys.length
      have tr6 : Tr H8 P6 H8 ⟨fun _ => none, fun a => ¬ Off P a \/ a = D⟩ := fun a o e _ q => ⟨e, fun _ z => (by cases z), by rw [<- g6.fbe]; exact q.2⟩
      refine wpAny_mono (Xi (X := cxT xz X scope N s3 (upd H2 D (.lst [])) fp (Zl fp s2.heap)) _ s8 σ6 H8 (.ref D) [v8] (.ref D) [xv] (fun w H9 => H9 = upd H8 D (.lst (vs ++ [v8]))) J8 rfl (.cons r8 .nil) ⟨D, vs, v8, rfl, rfl, hD8, by rw [sizeLine_eq]; omega, rfl⟩) (fun _ s9 h9 => ?_) finx'
      obtain ⟨_, H9, J9, _, rfl⟩ := h9
      have trD : Tr H8 ⟨fun _ => none, fun a => ¬ Off P a \/ a = D⟩ (upd H8 D (.lst (vs ++ [v8]))) ⟨fun _ => none, fun a => ¬ Off P a \/ a = D⟩ := fun a o e _ q => ⟨by rw [Zf (fun z => q.2 (Or.inr z))]; exact e, q⟩
      have smD : Same H2 (upd H8 D (.lst (vs ++ [v8]))) := (sm27.trans sm8).updL hD hD8
      refine next J9 smD Zi (fun b hb o e n => by rw [Zf hb]; exact sm8.kp b o (sm7.kp b o e n) n) (Rls.append (Rls.go trD ys vs (Rls.go (.same sm8) ys vs r7)) (Zj.mpr ⟨v8, [], rfl, Rl.go trD yv v8 (Rl.go tr6 yv v8 rl8), Zq.mpr rfl⟩)) ?_ (by simp; omega)
      rw [<- ecl]
      cases Zk st dc de (List.replicate nv .emp ++ capS cap G) (ts.drop (i + 1)) <;> simp
   rcases ht s3 (upd H2 D (.lst [])) fp (Zl fp s2.heap) pnn with ⟨rfl, rfl⟩ | ⟨cx, rfl, tvc⟩
   ·exact wpAny_tests_nil (after true s6 H6 J6 (Same.refl _) rfl)
   ·cases eK : dc G1 with
    | stuck => rw [eK] at ecl; exact absurd ecl.symm hr
    | exc c =>
     rw [eK] at ecl
     refine wpAny_tests_one (wpAny_mono (tvc _ s6 σ6 H6 (fun _ _ => False) J6 ⟨G1, P6, hol6, by rw [eK]; exact fun H7 s => hW c ecl.symm H7 (sm6.trans s)⟩) (fun b s7 h7 => ?_) finx')
     obtain ⟨_, _, z⟩ := h7
     exact z.elim
    | ok k =>
     refine wpAny_tests_one (wpAny_mono (tvc _ s6 σ6 H6 (fun b H7 => b = k /\ Same H6 H7) J6 ⟨G1, P6, hol6, by rw [eK]; exact fun H7 s => ⟨rfl, s⟩⟩) (fun b s7 h7 => ?_) finx')
     obtain ⟨H7, J7, rfl, sm7⟩ := h7
     exact after b s7 H7 J7 sm7 eK
  ·have ei : i = ts.length := by omega
   subst ei
   rw [List.drop_length] at ecl
   have ecl' : r = .ok ys := by rw [<- ecl]; simp [Zk]
   refine wpAny_mono (T.done (cxC X scope N s3 (upd H2 D (.lst [])) fp) rfl rfl rfl hc _ [] s σ' H' (fun _ _ => False) Ji (fpo H' fpn) tni (y2 (Nat.le_refl _))) (fun r' s1 hr' => ?_) fun _ _ z => z.elim
   obtain ⟨rfl, J1⟩ := hr'
   have trf : Tr H' ⟨fun _ => none, fun a => ¬ Off P a \/ a = D⟩ H' (P.fbd D) := fun a o e _ q => by
    have o1 : Off P a := Classical.byContradiction fun z => q.2 (Or.inl z)
    exact ⟨e, o1.1, fun z => z.elim o1.2 fun z => q.2 (Or.inr z)⟩
   exact fin s1 H' σ' vs ys ecl' J1 hDv sm (Rls.go trf ys vs rys)
 exact codeAny_compStart_list (loop _ rfl) (T.self _ 0 _ _ _ tn0 (loop _ rfl))
end
end Fx
namespace Fx
open PySem PySem.Spec PyProof.Rows L2
theorem bindAO {a : Res (List PyData)} {f : List PyData -> Res (List PyData)} {K : PySem.W.Frag} {W : Str -> Hp -> Prop} {H : Hp} {P : Pv} {Q : VK} (q : UD K W H P (a.bind f) Q) :
  (∀ c, a = .exc c -> ∀ H', Same H H' -> W c H') /\ a ≠ .stuck /\ ∀ t, a = .ok t -> UD K W H P (f t) Q := by
 cases a with
 | ok t => exact ⟨fun c e => (by cases e), (by intro e; cases e), fun t' e => by cases e; exact q⟩
 | exc c => exact ⟨fun c' e => by cases e; exact q, (by intro e; cases e), fun t e => by cases e⟩
 | stuck => exact q.elim
theorem bindEO {a : Res PyData} {f : PyData -> Res (List PyData)} {K : PySem.W.Frag} {W : Str -> Hp -> Prop} {H : Hp} {P : Pv} {Q : VK} (q : UD K W H P (a.bind f) Q) :
  (∀ c, a = .exc c -> ∀ H', Same H H' -> W c H') /\ a ≠ .stuck /\ ∀ t, a = .ok t -> UD K W H P (f t) Q := by
 cases a with
 | ok t => exact ⟨fun c e => (by cases e), (by intro e; cases e), fun t' e => by cases e; exact q⟩
 | exc c => exact ⟨fun c' e => by cases e; exact q, (by intro e; cases e), fun t e => by cases e⟩
 | stuck => exact q.elim
def WR (X : Cx) (scope : Scope) (N : List Str) (xz : Cx -> Value -> Shared -> Prop) : Prop :=
 ∀ (pins : List (Addr × Obj)) (σ : L2.St) (H3 : Hp) (s3 : Shared) (fp : List Addr) (pn : List (Addr × Obj)) (e : Value) (s' : Shared), Inv X pins σ H3 s3 -> (∀ b ∈ fp, FpOk X pins H3 b /\ b < s3.heap.objs.size) -> (∀ b ∈ fp, ∃ o, (b, o) ∈ pn) ->
  xz (cxC X scope N s3 H3 fp pn) e s' -> notedBy (model X.prog X.w) X.A (compEnvC scope (Zm X.env scope.names []) s3.heap.objs.size X.env) (fun x s' => ∃ m, s'.heap.Ns s3.heap.objs.size m /\ ∀ h', Heap.SameBut s3.heap.objs.size s'.heap h' -> ∀ cenv : Env, cenv.locals = s3.heap.objs.size ->
   wpAny (model X.prog X.w) X.A (PySem.passOn "comprehension.variables-let-go" x cenv : Sem Value) (fun _ _ => False) X.xe { s' with heap := h' }) e s'
theorem YB {X : Cx} {scope : Scope} {N : List Str} : WR X scope N (fun _ _ _ => False) := fun _ _ _ _ _ _ _ _ _ _ _ h => h.elim
section
variable {X : Cx} {W : Str -> Hp -> Prop} {fl : Bool} {scope : Scope} {N : List Str} {nv : Nat} {cap : List Nat} {tg elt iter : Expr} {ifs : List Expr} {pos : Pos} {st : PyData -> List Sl -> Res (List Sl)} {it : DA} {dc : DT} {de : DE} {xz : Cx -> Value -> Shared -> Prop}
theorem comp_any {pins : List (Addr × Obj)} {σ : L2.St} {H : Hp} {s : Shared} {P : Pv} {G : List Sl} {use : Option (Value -> Sem Unit)} {Q : Value -> Shared -> Prop} {pos' : Pos}
  (C : CompOk X scope N nv cap) (hc : X.calm = true) (hk : Xa nv st) (hi : IV X W tg iter it)
  (hX : WR X scope N xz) (hg : ∀ s₀ H₀ ex pn, GV (cxT xz X scope N s₀ H₀ ex pn) tg st) (ht : ∀ s₀ H₀ ex pn, (∀ b ∈ ex, ∃ o, (b, o) ∈ pn) -> CT (cxT xz X scope N s₀ H₀ ex pn) W ifs dc) (he : ∀ s₀ H₀ ex pn, (∀ b ∈ ex, ∃ o, (b, o) ∈ pn) -> EV (cxT xz X scope N s₀ H₀ ex pn) W elt de)
  (I : Inv X pins σ H s) (h : Hol X.K H P σ G)
  (hx : ∀ c, it G = .exc c -> ∀ H', Same H H' -> W c H') (hs0 : it G ≠ .stuck)
  (fin : ∀ ts, it G = .ok ts -> ts.length <= 16777216 /\ Zk st dc de (List.replicate nv .emp ++ capS cap G) ts ≠ .stuck /\ (∀ c, Zk st dc de (List.replicate nv .emp ++ capS cap G) ts = .exc c -> ∀ H', Same H H' -> W c H') /\ ∀ all, Zk st dc de (List.replicate nv .emp ++ capS cap G) ts = .ok all ->
   ∀ D vs H' s' c, Inv X pins σ H' s' -> FpOk X pins H' c -> (∃ m, s'.heap.Ns c m) -> (X.env.locals ≠ c /\ ∀ x a, X.env.cells.lookup x = some a -> a ≠ c) -> Same H H' -> H D = none -> H' D = some (.lst vs) -> Rls X.K H' (P.fbd D) all vs ->
    compPost (model X.prog X.w) X.A X.xe use Q (.ref D) c (.ok .next) s')
  (hs : ∀ x, foldedSetIterable iter X.env x = pure x := by intro _; rfl) :
  wpAny (model X.prog X.w) X.A (comprehension (.ListComp elt [⟨tg, iter, ifs, 0⟩] scope pos) scope X.env pos' (newList []) false (eval iter X.env) use) Q X.xe s := by
 refine wpAny_comprehension_free rfl hs (Yp (C.has I.ok)) C.kind C.names (wpAny_mono (hi pins s σ H (fun J H' => Same H H' /\ ∃ ts, it G = .ok ts /\ Yld X.K J ts H' P) I ⟨G, P, h, ?_⟩) (fun v s1 h1 => wpAny_mono h1 (fun itv s2 h2 => ?_) fun _ _ z => z) fun _ _ z => z)
 ·cases e : it G with
  | ok ts => exact fun J H' s y => ⟨s, ts, rfl, y⟩
  | exc c => exact hx c e
  | stuck => exact absurd e hs0
 obtain ⟨itA, fp, tn, J, H2, rfl, I2, T, tn0, f2, sm2, ts, ets, y⟩ := h2
 obtain ⟨hlen, hns, hex, fin⟩ := fin ts ets
 have hD : H2 s2.heap.objs.size = none := I2.hok.fresh (Nat.le_refl _)
 refine wpAny_newObj_type (wpAny_newFunctionEnv C.cell (by intro y hy; simp at hy) (fun h₁ hns₁ hsb₁ => ?_) C.kind)
 have I3 : Inv X pins σ (upd H2 s2.heap.objs.size (.lst [])) { s2 with heap := s2.heap.push { cls := .type "list", dict := none, data := .seq ([] : List Value).toArray } } :=
  I2.laid (t' := s2.toks) (fun b u e => Heap.get?_push_of_some _ e) (Nat.le_refl _) ⟨by show 0 <= sizeLine; exact Nat.zero_le _, [], 0, .nil, Heap.get?_push_size _ rfl⟩
 have sz : (s2.heap.push { cls := .type "list", dict := none, data := .seq ([] : List Value).toArray }).objs.size = s2.heap.objs.size + 1 := Heap.size_push _ _
 have hf3 : ∀ b ∈ fp, FpOk X pins (upd H2 s2.heap.objs.size (.lst [])) b /\ b < (s2.heap.push { cls := .type "list", dict := none, data := .seq ([] : List Value).toArray }).objs.size := fun b hb => by
  obtain ⟨o, ho, _⟩ := T.obj 0 _ tn0 b hb
  have lt := Heap.lt_size ho
  obtain ⟨a1, a2⟩ := f2 b hb
  exact ⟨⟨by rw [Zf (Nat.ne_of_lt lt)]; exact a1, a2⟩, by rw [sz]; exact Nat.lt_succ_of_lt lt⟩
 have kp : ∀ b o, (s2.heap.push { cls := .type "list", dict := none, data := .seq ([] : List Value).toArray }).get? b = some o -> h₁.get? b = some o := fun b o e =>
  hsb₁.extBut b o (Nat.ne_of_lt (Heap.lt_size e)) (Heap.get?_push_of_some _ e)
 have tn3 : tn 0 h₁ := T.keep 0 _ _ tn0 fun b _ o e => kp b o (Heap.get?_push_of_some _ e)
 refine Vw (s3 := { s2 with heap := s2.heap.push { cls := .type "list", dict := none, data := .seq ([] : List Value).toArray } }) (D := s2.heap.objs.size) C hc hk hg ht he (h.same sm2) hD I3 T hf3 y hlen rfl hns (fun c ec H' sm => hex c ec H' (sm2.trans sm)) hns₁ kp ⟨h₁, _, rfl⟩ tn3 (fun s' H' σ' vs all hall J' hl sm r => ?_) fun pn e s' pnn hx => hX pins σ _ _ fp pn e s' I3 hf3 pnn hx
 have IX := CompOk.stop I3 (fun b hb => (hf3 b hb).1) J'
 have fo : FpOk X pins H' (s2.heap.push { cls := .type "list", dict := none, data := .seq ([] : List Value).toArray }).objs.size := I3.fpOk (Nat.le_refl _) J'.free
 obtain ⟨m, hm, _⟩ := J'.loc
 exact fin all hall _ vs H' s' _ IX fo ⟨m, hm⟩ ⟨Ne.symm fo.2.1, fun x a e => fo.2.2.2.2.1 x a e⟩ (sm2.trans sm) (sm2.free hD) hl r
theorem atC {pins : List (Addr × Obj)} {σ : L2.St} {H : Hp} {s : Shared} {c : Addr} {h' : Heap} (I : Inv X pins σ H s) (f : FpOk X pins H c) (hs : Heap.SameBut c s.heap h') : Inv X pins σ H { s with heap := h' } :=
 I.turned (t' := s.toks) (fun b o hb e => (hs.2 b hb).trans e) f.1 f.2.1 f.2.2.2.1 f.2.2.2.2.1 f.2.2.2.2.2
theorem YH (C : CompOk X scope N nv cap) (hc : X.calm = true) (hk : Xa nv st) (hi : IV X W tg iter it)
  (hX : WR X scope N xz) (hg : ∀ s₀ H₀ ex pn, GV (cxT xz X scope N s₀ H₀ ex pn) tg st) (ht : ∀ s₀ H₀ ex pn, (∀ b ∈ ex, ∃ o, (b, o) ∈ pn) -> CT (cxT xz X scope N s₀ H₀ ex pn) W ifs dc) (he : ∀ s₀ H₀ ex pn, (∀ b ∈ ex, ∃ o, (b, o) ∈ pn) -> EV (cxT xz X scope N s₀ H₀ ex pn) W elt de)
  (hs : ∀ x, foldedSetIterable iter X.env x = pure x := by intro _; rfl) : OV X W (.ListComp elt [⟨tg, iter, ifs, 0⟩] scope pos) (Y2 nv cap st it dc de) := by
 intro pins s σ H Q I ⟨G, P, h, q⟩
 unfold Y2 at q
 obtain ⟨q1, q2, q3⟩ := bindAO q
 rw [eval_ListComp]
 refine comp_any (use := none) C hc hk hi hX hg ht he I h q1 q2 (fun ts ets => ?_) hs
 have q4 := q3 ts ets
 split at q4
 ·rename_i hl
  cases e : Zk st dc de (List.replicate nv .emp ++ capS cap G) ts with
  | stuck => rw [e] at q4; exact q4.elim
  | exc c => rw [e] at q4; exact ⟨hl, fun z => (by cases z), fun c' z => by cases z; exact q4, fun all z => by cases z⟩
  | ok all =>
   rw [e] at q4
   refine ⟨hl, fun z => (by cases z), fun c z => (by cases z), fun all' z D vs H' s' c IX fo hm hne sm hD hl r => ?_⟩
   cases z
   obtain ⟨m, hm⟩ := hm
   exact ⟨m, hm, fun h' hsb => ⟨.ref D, H', atC IX fo hsb, rfl, q4 D vs H' sm hD hl r⟩⟩
 ·exact q4.elim
theorem YT {e : Expr} {d : DA} (h : OV X W e d) : EV X W e (dL d) :=
 Zn h fun σ H Q ⟨G, P, hh, q⟩ => by
  refine ⟨G, P, hh, ?_⟩
  unfold dL at q
  cases e : d G with
  | stuck => rw [e] at q; exact q.elim
  | exc c => rw [e] at q; exact q
  | ok xs => rw [e] at q; exact fun p vs H' s hp hl r => q _ H' s (VQ hh s hp hl r)
end
end Fx
namespace Fx
open PySem PySem.Spec PyProof.Rows L2
def cf (k : Option NameKind) : Bool := k == some .cell || k == some .free
theorem Vy {k : Option NameKind} (h : cf k = true) : k = some .cell \/ k = some .free := by
 unfold cf at h
 rw [Bool.or_eq_true] at h
 rcases h with h | h
 ·exact .inl (by simpa using h)
 ·exact .inr (by simpa using h)
def capChk (scope : Scope) (env : Env) (N0 N : List Str) (nv : Nat) (cap : List Nat) : Bool :=
 (List.range cap.length).all fun i => match (cap[i]? : Option Nat), (N[nv + i]? : Option Str) with
  | some j, some x => N0[j]? == some x && cf ((relabel scope env).names.lookup x) && cf (env.kindOf x)
  | _, _ => true
def Uu (scope : Scope) (env : Env) (N0 N : List Str) (nv : Nat) (cap : List Nat) : Bool :=
 (scope.names.all fun y => y.2 != .cell) && (scope.kind == .function) && (scope.names.all fun y => y.2 != .local || scope.names.lookup y.1 == some .local)
  && (scope.names.all fun y => y.2 != .free || cf (env.kindOf y.1)) && (N.length == nv + cap.length) && capChk scope env N0 N nv cap
theorem Y9 {X : Cx} {scope : Scope} {N : List Str} {nv : Nat} {cap : List Nat} (h : Uu scope X.env X.N N nv cap = true) : CompOk X scope N nv cap := by
 unfold Uu at h
 simp only [Bool.and_eq_true, List.all_eq_true] at h
 obtain ⟨⟨⟨⟨⟨h1, h2⟩, h3⟩, h4⟩, h5⟩, h6⟩ := h
 refine ⟨fun y hy => by simpa using h1 y hy, by simpa using h2, fun y hy e => ?_, fun y hy e => ?_, by simpa using h5, fun i j x hc hx => ?_⟩
 ·have := h3 y hy
  rw [e] at this
  simpa using this
 ·have := h4 y hy
  rw [e] at this
  exact Vy (by simpa using this)
 ·unfold capChk at h6
  rw [List.all_eq_true] at h6
  have hi : i < cap.length := (List.getElem?_eq_some_iff.mp hc).1
  have := h6 i (List.mem_range.mpr hi)
  rw [hc, hx] at this
  simp only [Bool.and_eq_true] at this
  exact ⟨by simpa using this.1.1, Vy this.1.2, Vy this.2⟩
section
variable {X : Cx} {W : Str -> Hp -> Prop} {fl : Bool} {a b c e : Expr} {es : List Expr} {da db : DE} {pos : Pos}
theorem WE {K : PySem.W.Frag} {H1 : Hp} {P : Pv} {p : Addr} {ts : List PyData} {vs : List V} {o : HO} (hp : H1 p = none) (rs : Rls K H1 P ts vs) : Rls K (upd H1 p o) (P.fbd p) ts vs :=
 Rls.go (.same (Zu hp)) ts vs (Rls.go (Tr.tofbd hp) ts vs rs)
theorem ov_list {p : Pos} (hg : Gl X "list") (hm : X.mg "list" = none) (ha : EV X W a da) (hs : starEach [a] X.env = (false, eval a X.env) :: starEach [] X.env := by rfl) : OV X W (.Call (.Name "list" p) [a] [] pos) (Vq da) :=
 Zn (Xh Wt hg hm (show bootBuiltins "list" = some (.type "list") by decide +kernel) (ZY ha YE hs) (he := hs)) fun σ H Q ⟨G, P, h, q⟩ => by
  unfold Vq at q
  obtain ⟨q1, q2, q3⟩ := bindEO q
  refine Zp h q1 q2 fun tx x H1 ex s1 h1 rx => ?_
  have q4 := q3 tx ex
  cases tx <;> try exact q4.elim
  ·obtain ⟨l, vs, rfl, sl, rs⟩ := Zw.mp rx
   exact ⟨l, vs, rfl, .inl sl.sq, fun p hp => q4 p vs _ (s1.trans (Zu hp)) (s1.free hp) Zi (WE hp rs)⟩
  ·obtain ⟨l, vs, rfl, sl, rs⟩ := ZG.mp rx
   exact ⟨l, vs, rfl, .inr sl.sq, fun p hp => q4 p vs _ (s1.trans (Zu hp)) (s1.free hp) Zi (WE hp rs)⟩
theorem Va {p : Pos} (hg : Gl X "tuple") (hm : X.mg "tuple" = none) (ha : EV X W a da) (hs : starEach [a] X.env = (false, eval a X.env) :: starEach [] X.env := by rfl) : EV X W (.Call (.Name "tuple" p) [a] [] pos) (d1 Uc da) :=
 Zn (Xh X4 hg hm (show bootBuiltins "tuple" = some (.type "tuple") by decide +kernel) (ZY ha YE hs) (he := hs)) fun σ H Q h => X8 (fun H P σ G x tx Q h rx q => by
  cases tx <;> try exact q.elim
  ·obtain ⟨l, vs, rfl, sl, rs⟩ := Zw.mp rx
   exact ⟨l, vs, rfl, .inl ⟨sl.sq, fun p hp => q _ _ (Zu hp) (ZG.mpr ⟨p, vs, rfl, .off Zi (h.off_new hp), Rls.go (.same (Zu hp)) _ vs rs⟩)⟩⟩
  ·obtain ⟨l, vs, rfl, sl, rs⟩ := ZG.mp rx
   exact ⟨l, vs, rfl, .inr ⟨sl.sq, q _ H (Same.refl H) rx⟩⟩) h
theorem Wd {K : PySem.W.Frag} {H : Hp} {P : Pv} : ∀ {bs : List Bool} {vs : List V}, Rls K H P (bs.map .bool) vs -> vs = bs.map V.bl
 | [], vs, h => Zq.mp h
 | b :: bs, vs, h => by
  obtain ⟨v, r, rfl, a, q⟩ := Zj.mp h
  rw [ZT.mp a, Wd q]
  rfl
theorem call_all (hc : X.calm = true) : Xv X (.builtin "all") (fun xs H Q => ∃ (p : Addr) (bs : List Bool), xs = [.ref p] /\ SqL X.K H p (bs.map V.bl) /\ Q (.bl (bs.all id)) H) := by
 intro pins s σ H xs us Q I r h
 obtain ⟨l, bs, rfl, hq, q⟩ := h
 obtain ⟨u, rfl, ru⟩ := WA r
 cases ru
 obtain ⟨its, rv, pl, hz⟩ := I.list hq
 have hl : s.heap.IsList l its.toArray := pl.isList
 have hlt : l < s.heap.objs.size := by obtain ⟨_, e, _⟩ := hl; exact Heap.lt_size e
 have hb : ∀ (i : Nat) (v : Value), its[i]? = some v -> ∃ b, bs[i]? = some b /\ v = .bool b := fun i v e => by
  have hi : i < its.length := (List.getElem?_eq_some_iff.mp e).1
  have hl2 := rv.length
  rw [List.length_map] at hl2
  have hi2 : i < bs.length := by omega
  obtain ⟨u, hu, ru⟩ := rv.get (i := i) (x := V.bl bs[i]) (by simp [hi2])
  rw [e] at hu; cases hu
  cases ru
  exact ⟨bs[i], by simp [hi2], rfl⟩
 refine call_all_walk (wpAny_pyIter_list hl ?_)
 refine ⟨s.heap.objs.size, [s.heap.objs.size, l], [s.heap.objs.size], its.toArray.size, _, _, fun i => (bs[i]?).getD true, rfl, Walks.list (A := X.A.in1) (I.ok.hd hc) _ l (Nat.ne_of_lt hlt) its.toArray,
  ⟨⟨_, Heap.get?_push_size _ rfl, rfl, rfl⟩, hl.push _⟩, fun i v s' Q' E' hP hQ => ?_, fun h' tk hk => ?_⟩
 ·obtain ⟨b, e, rfl⟩ := hb i v (by simpa using hP)
  simp only [e, Option.getD_some] at hQ
  exact wpAny_truthy_bool hQ
 ·have e : ((List.range its.toArray.size).all fun i => (bs[i]?).getD true) = bs.all id := by
   have hl2 := rv.length
   rw [List.length_map] at hl2
   rw [List.size_toArray, <- hl2, Bool.eq_iff_iff, List.all_eq_true, List.all_eq_true]
   constructor
   ·intro h b hb
    obtain ⟨i, hi, e⟩ := List.getElem_of_mem hb
    have := h i (List.mem_range.mpr hi)
    simp only [List.getElem?_eq_getElem hi, Option.getD_some, e] at this
    exact this
   ·intro h i hi
    have hi' := List.mem_range.mp hi
    simp only [List.getElem?_eq_getElem hi', Option.getD_some]
    exact h _ (List.getElem_mem hi')
  rw [e]
  have kk : ∀ b x, s.heap.get? b = some x -> h'.get? b = some x := fun b x e => hk b x (fun hm => by rw [List.mem_singleton.mp hm] at e; exact Nat.lt_irrefl _ (Heap.lt_size e)) (Heap.get?_push_of_some _ e)
  exact ⟨.bl _, H, I.kept (t' := tk) kk, rfl, q⟩
theorem Ue {p : Pos} (hg : Gl X "all") (hm : X.mg "all" = none) (ha : EV X W a da) (hc : X.calm = true := by rfl) (hs : starEach [a] X.env = (false, eval a X.env) :: starEach [] X.env := by rfl) : EV X W (.Call (.Name "all" p) [a] [] pos) (d1 fAll da) :=
 Zn (YQ (call_all hc) hg hm (show bootBuiltins "all" = some (.builtin "all") by decide +kernel) (ZY ha YE hs) (he := hs)) fun σ H Q h => X8 (fun H P σ G x tx Q h rx q => by
  cases tx <;> try exact q.elim
  rename_i xs
  obtain ⟨l, vs, rfl, sl, rs⟩ := Zw.mp rx
  simp only [fAll] at q
  cases e : allT xs with
  | stuck => rw [e] at q; exact q.elim
  | exc c => exact absurd e (Vh xs c)
  | ok k =>
   rw [e, Res.bind_ok] at q
   obtain ⟨bs, rfl, rfl⟩ := UC e
   have := Wd rs
   subst this
   exact ⟨l, bs, rfl, sl.sq, Yc q⟩) h
theorem isOwn_ok {G : List Sl} {i : Nat} (h : Wk G i = true) : ∃ xs, G[i]? = some (.own xs) := by
 unfold Wk at h
 split at h
 ·rename_i xs e; exact ⟨xs, e⟩
 ·cases h
theorem XI {i : Nat} {x : Str} {is : List Nat} {dk : DE} {k : Expr} {p1 p2 : Pos} (hi : X.N[i]? = some x) (hk : EV X W k dk) (he : EV X W e da) (hv : Vis X.env.scope x := by first | exact Or.inl rfl | exact Or.inr (Or.inl rfl) | exact Or.inr (Or.inr rfl)) (hd : (x == ("__debug__" : Str)) = false := by decide)
  (hcd : (x == ("__classdict__" : Str)) = false := by decide)
  (ha : ∀ v, assign (.Subscript (.Name x p1) k p2) X.env v = (do
   let ov <- holding [v] (eval (.Name x p1) X.env)
   let iv <- holding [v, ov] (eval k X.env)
   standAt p2
   holding [v, ov, iv] (setItem ov iv v)
   release [v, ov, iv] []) := by intro _; rfl)
  (hs : swapsWithSole [.Subscript (.Name x p1) k p2] e pos.line X.env = pure false := by rfl) (hw : swappedStores [.Subscript (.Name x p1) k p2] e X.env = pure none := by rfl)
  (h1 : (assignEach [.Subscript (.Name x p1) k p2] X.env).map (·.2) = [assign (.Subscript (.Name x p1) k p2) X.env] := by rfl) :
  SV X W fl (.Assign [.Subscript (.Name x p1) k p2] e pos) (Xm i is dk da) :=
 YY (ps_asg he (pg_sub (W2 hi hv hd hcd) hk WX ha) hs hw h1) fun D σ H ⟨G, P, h, q⟩ => by
  unfold Xm at q
  obtain ⟨P1, h1, g⟩ := h.frz is
  obtain ⟨q1, q2, q3⟩ := YW q
  refine Zp h1 (fun c e H' s => q1 c e H' P1 (g.trans (.same s))) q2 fun t v H1 et s1 h2 r => ?_
  obtain ⟨P2, h3, r3, g3⟩ := after h h1 g s1 r
  have q4 := q3 t et
  generalize (if Zy t = true then G else frz is G) = G' at h3 q4
  split at q4
  ·rename_i ho
   obtain ⟨xs0, e0⟩ := isOwn_ok ho
   obtain ⟨p, vs, ev, ep, eh, rs⟩ := h3.sl i _ e0
   refine ⟨.ref p, getD_some ev, ?_⟩
   obtain ⟨q5, q6, q7⟩ := YW q4
   refine Zp h2 (fun c e H' s => q5 c e H' P1 ((g.trans (.same s1)).trans (.same s))) q6 fun kt kv H2 ek s2 h4 rk => ?_
   have q8 := q7 kt ek
   unfold YD at q8
   rw [e0] at q8
   cases kt <;> try exact q8.elim
   rename_i j
   simp only at q8
   cases em : ixP xs0.length j with
   | none => rw [em] at q8; exact q8.elim
   | some m =>
    rw [em] at q8
    have h5 := h3.same s2
    have hl := rs.length
    obtain ⟨p', vs', ev', ep', eh', rs'⟩ := h5.sl i _ e0
    rw [ev] at ev'
    cases ev'
    have hl' := rs'.length
    obtain ⟨h6, g6⟩ := h5.upOwn e0 ep' (rs'.set m (Rl.go (.same s2) t v r3))
    refine ⟨p, vs', j, m, rfl, Zo.mp rk, eh', by rw [<- hl', <- W7]; exact em, q8 σ _ P2 ((g3.trans (.same s2)).trans g6) h6⟩
  ·exact q4.elim
end
end Fx
namespace Fx
open PySem PySem.Spec PyProof.Rows L2
theorem ex_of_ok {P : Program} {w : World} {H : Hp} {h : Heap} {a : Addr} {o : HO} (x : YC P w H h a o) : ∃ ob, h.get? a = some ob := by
 cases o with
 | lst xs => obtain ⟨_, _, _, _, e⟩ := x; exact ⟨_, e⟩
 | tup xs => obtain ⟨_, _, _, o, e, _⟩ := x; exact ⟨_, e⟩
 | dK kvs => obtain ⟨_, _, _, _, o, _, _, e, _⟩ := x; exact ⟨_, e⟩
 | dT kvs => obtain ⟨_, _, _, _, o, _, _, e, _⟩ := x; exact ⟨_, e⟩
 | set S n => obtain ⟨o, _, _, _, e, _⟩ := x; exact ⟨_, e⟩
 | ins C dx fs => obtain ⟨_, _, _, e, _⟩ := x; exact ⟨_, e⟩
 | own y => obtain ⟨_, e⟩ := x; exact ⟨_, e⟩
 | xd fs => obtain ⟨_, ⟨_, _, _, e, _⟩, _⟩ := x; exact ⟨_, e⟩
 | rng lo hi => obtain ⟨_, _, _, e⟩ := x; exact ⟨_, e⟩
 | frz ob u => obtain ⟨e, _⟩ := x; exact ⟨_, e⟩
 | tbl ps => exact ⟨_, show h.get? a = some _ from x⟩
 | met f y => exact ⟨_, show h.get? a = some _ from x⟩
 | ext φ => obtain ⟨_, ⟨_, e⟩, _⟩ := x; exact ⟨_, e⟩
structure Alien (X : Cx) (pins : List (Addr × Obj)) (H : Hp) (b : Addr) : Prop where
 young : X.s₀.heap.get? b = none
 loc : b ≠ X.env.locals
 cell : ∀ x c, X.env.cells.lookup x = some c -> c ≠ b
 pin : ∀ p ∈ X.pn ++ pins, p.1 ≠ b
 trk : H b = none
 frm : b ∉ frs X.stack
def ExO (h : Heap) (a : Addr) (cv : Value) : Option (Addr × Value) -> Prop
 | none => ∃ oe vs a0, h.get? a = some oe /\ oe.cls = cv /\ oe.data = .fields vs /\ vs[0]? = some a0 /\ vs[1]? = some .none
 | some (T, f) => ∃ oe vs a0 oT ts, h.get? a = some oe /\ oe.cls = cv /\ oe.data = .fields vs /\ vs[0]? = some a0 /\ vs[1]? = some (.ref T) /\ T ≠ a /\ h.get? T = some oT /\ oT.data = .fields ts /\ ts[3]? = some f
structure Exc (X : Cx) (pins : List (Addr × Obj)) (σ : L2.St) (H : Hp) (a : Addr) (cv : Value) (n : Option (Addr × Value)) (s : Shared) : Prop where
 inv : Inv X pins σ H s
 al : Alien X pins H a
 ob : ExO s.heap a cv n
 nt : ∀ T f, n = some (T, f) -> Alien X pins H T
section
variable {X : Cx} {pins : List (Addr × Obj)} {σ : L2.St} {H H' : Hp} {s : Shared} {h' : Heap} {a T : Addr} {cv fl : Value} {n : Option (Addr × Value)}
theorem Inv.stepA {t' : Nat} {ch : List Addr} (I : Inv X pins σ H s)
  (hch : ∀ b ∈ ch, X.s₀.heap.get? b = none /\ b ≠ X.env.locals /\ (∀ x c, X.env.cells.lookup x = some c -> c ≠ b) /\ ∀ p ∈ X.pn ++ pins, p.1 ≠ b)
  (keep : ∀ b o, b ≠ X.env.locals -> b ∉ X.fs -> b ∉ ch -> s.heap.get? b = some o -> H b = none -> h'.get? b = some o)
  (slot : ∀ b o, b ≠ X.env.locals -> b ∈ X.fs -> b ∉ ch -> s.heap.get? b = some o -> H b = none -> ∃ sl, h'.get? b = some { o with slots := sl })
  (there : ∀ b o, b ∉ ch -> s.heap.get? b = some o -> ∃ o', h'.get? b = some o')
  (ns : ∀ m, s.heap.Ns X.env.locals m -> h'.Ns X.env.locals m) (hok : HOk X.prog X.w H h') :
  Inv X pins σ H { s with heap := h', toks := t' } := by
 have neL : ∀ b o, X.s₀.heap.get? b = some o -> b ≠ X.env.locals := fun b o e => Nat.ne_of_lt (Nat.lt_of_lt_of_le (Heap.lt_size e) I.ok.above)
 have neC : ∀ b o, X.s₀.heap.get? b = some o -> b ∉ X.ex -> b ∉ ch := fun b o e hx hb => by
  have z := (hch b hb).1
  rw [e] at z; cases z
 have cellK : ∀ x c, X.env.cells.lookup x = some c -> ∀ v, s.heap.IsCell c v -> h'.IsCell c v := fun x c e v ⟨o, ho, hd⟩ => by
  have nch : c ∉ ch := fun z => (hch c z).2.2.1 x c e rfl
  by_cases hc : c ∈ X.fs
  ·obtain ⟨sl, q⟩ := slot c o (I.cne x c e) hc nch ho (I.freeC x c e)
   exact ⟨_, q, hd⟩
  ·exact ⟨o, keep c o (I.cne x c e) hc nch ho (I.freeC x c e), hd⟩
 refine ⟨I.ok, I.os, I.bare, ⟨fun b o e n hb hx => ?_, fun b o e n hb hx => ?_, fun b o e n hx => I.base.free b o e n hx, fun b o e hx => ?_, fun b xs e => I.base.tups b xs e, fun b o xs e => I.base.frzs b o xs e, fun b ps e => I.base.tbls b ps e⟩, ?_, fun x c e => ?_, I.free, fun x c e => I.freeC x c e, fun p hp => ?_, hok, I.len⟩
 ·exact keep b o (neL b o e) hb (neC b o e hx) (I.base.keep b o e n hb hx) (I.base.free b o e n hx)
 ·obtain ⟨sl, e1⟩ := I.base.slot b o e n hb hx
  obtain ⟨sl', e2⟩ := slot b _ (neL b o e) hb (neC b o e hx) e1 (I.base.free b o e n hx)
  exact ⟨sl', e2⟩
 ·obtain ⟨o', e1⟩ := I.base.there b o e hx
  exact there b o' (neC b o e hx) e1
 ·obtain ⟨m, hn, hl⟩ := I.loc
  refine ⟨m, ns m hn, fun i x v e1 e2 e3 => ?_⟩
  obtain ⟨u, r, l⟩ := hl i x v e1 e2 e3
  refine ⟨u, r, ?_⟩
  rcases l with l | ⟨k, c, e, z⟩
  ·exact .inl l
  ·exact .inr ⟨k, c, e, cellK x c e _ z⟩
 ·obtain ⟨v, z⟩ := I.cell x c e
  exact ⟨v, cellK x c e v z⟩
 ·obtain ⟨e, n, ne, nf, d⟩ := I.pin p hp
  have nch : p.1 ∉ ch := fun z => (hch p.1 z).2.2.2 p hp rfl
  exact ⟨keep p.1 p.2 ne nf nch e n, n, ne, nf, d⟩
def X6 (X : Cx) : Prop := ∀ b ∈ X.ex, ∃ o, (b, o) ∈ X.pn
theorem Yw (hp : X6 X) (I : Inv X pins σ H s) (e : s.heap.get? a = none) : Alien X pins H a := by
 refine ⟨?_, fun z => ?_, fun x c ec z => ?_, fun p hp z => ?_, ?_, fun z => ?_⟩
 ·by_cases hx : a ∈ X.ex
  ·obtain ⟨o, ho⟩ := hp a hx
   have := (I.pin (a, o) (List.mem_append_left _ ho)).1
   rw [e] at this; cases this
  ·cases q : X.s₀.heap.get? a with
   | none => rfl
   | some o => obtain ⟨o', e'⟩ := I.base.there a o q hx; rw [e] at e'; cases e'
 ·obtain ⟨m, ⟨o, _, _, ho, _⟩, _⟩ := I.loc
  rw [<- z, e] at ho; cases ho
 ·obtain ⟨v, o, ho, _⟩ := I.cell x c ec
  rw [z, e] at ho; cases ho
 ·obtain ⟨q, _⟩ := I.pin p hp
  rw [z, e] at q; cases q
 ·cases q : H a with
  | none => rfl
  | some o => 
   obtain ⟨o', e'⟩ : ∃ o', s.heap.get? a = some o' := ex_of_ok (I.hok a o q)
   rw [e] at e'; cases e'
 ·obtain ⟨_, o, ho, _⟩ := I.stack.mem z
  rw [e] at ho; cases ho
def hid (X : Cx) (a : Addr) : Option (Addr × Value) -> List Addr
 | none => a :: frs X.stack
 | some (T, _) => a :: T :: frs X.stack
theorem hid_frs (X : Cx) (a : Addr) (n : Option (Addr × Value)) : ∀ b ∈ frs X.stack, b ∈ hid X a n := by
 intro b hb
 cases n with
 | none => exact List.mem_cons_of_mem _ hb
 | some p => obtain ⟨T, f⟩ := p; exact List.mem_cons_of_mem _ (List.mem_cons_of_mem _ hb)
theorem Wm {X : Cx} {a b : Addr} {n : Option (Addr × Value)} (h : b ∈ hid X a n) : b = a \/ (∃ T f, n = some (T, f) /\ b = T) \/ b ∈ frs X.stack := by
 cases n with
 | none =>
  rcases List.mem_cons.mp h with h | h
  ·exact .inl h
  ·exact .inr (.inr h)
 | some p =>
  obtain ⟨T, f⟩ := p
  rcases List.mem_cons.mp h with h | h
  ·exact .inl h
  ·rcases List.mem_cons.mp h with h | h
   ·exact .inr (.inl ⟨T, f, rfl, h⟩)
   ·exact .inr (.inr h)
theorem Exc.moved {t' : Nat} (E : Exc X pins σ H a cv n s) (k1 : (PySem.W.hideAll s.heap (hid X a n)).StaysIn h') (k2 : s.heap.UpToSlots h') : Inv X pins σ H { s with heap := h', toks := t' } := by
 have I := E.inv
 have al : ∀ b, b ∈ hid X a n -> b ∉ frs X.stack -> Alien X pins H b := fun b hb hf => by
  rcases Wm hb with z | ⟨T, f, z1, z2⟩ | z
  ·rw [z]; exact E.al
  ·rw [z2]; exact E.nt T f z1
  ·exact absurd z hf
 have up : ∀ b, b ∈ frs X.stack -> ∀ o, s.heap.get? b = some o -> ∃ sl, h'.get? b = some { o with slots := sl } := fun b hb o ho => by
  obtain ⟨_, o', ho', hd⟩ := I.stack.mem hb
  rw [ho] at ho'; cases ho'
  exact k2 b o ho hd
 have fsub : ∀ b ∈ X.fs, b ∈ frs X.stack := fun b hb => by
  rcases I.ok.stk with z | ⟨z, _⟩
  ·rw [z]; exact hb
  ·rw [z]
   unfold frs at *
   simp only [List.filterMap_cons]
   split
   ·exact hb
   ·exact List.mem_cons_of_mem _ hb
 have stay : ∀ b o, b ∉ hid X a n -> s.heap.get? b = some o -> h'.get? b = some o := fun b o hb e => k1 b o (PySem.W.hideAll_get _ e hb)
 have trk : ∀ b, H b ≠ none -> b ∉ hid X a n := fun b hb hm => by
  by_cases hf : b ∈ frs X.stack
  ·exact hb (I.stkFree b hf)
  ·exact hb (al b hm hf).trk
 refine Inv.stepA (t' := t') (ch := (hid X a n).filter fun b => decide (b ∉ frs X.stack)) I (fun b hb => ?_) (fun b o hL hf hc e hn => ?_) (fun b o hL hf hc e hn => up b (fsub b hf) o e) (fun b o hc e => ?_) (fun m hm => k2.ns hm) fun b o e => ?_
 ·have hb' := List.mem_filter.mp hb
  have A := al b hb'.1 (of_decide_eq_true hb'.2)
  exact ⟨A.young, A.loc, A.cell, A.pin⟩
 ·by_cases hm : b ∈ hid X a n
  ·by_cases hs : b ∈ frs X.stack
   ·rcases List.mem_cons.mp (I.stkSub b hs) with z | z
    ·exact absurd z hL
    ·exact absurd z hf
   ·exact absurd (List.mem_filter.mpr ⟨hm, decide_eq_true hs⟩) hc
  ·exact stay b o hm e
 ·by_cases hs : b ∈ frs X.stack
  ·obtain ⟨sl, q⟩ := up b hs o e; exact ⟨_, q⟩
  ·by_cases hm : b ∈ hid X a n
   ·exact absurd (List.mem_filter.mpr ⟨hm, decide_eq_true hs⟩) hc
   ·exact ⟨o, stay b o hm e⟩
 ·refine (I.hok b o e).stay (fun c v hc q => stay c v ?_ q) (fun _ q => q) fun _ _ q => q
  rcases hc with z | z
  ·rw [z]; exact trk b (by rw [e]; simp)
  ·exact trk c (by rw [z]; simp)
theorem Exc.noted {t' : Nat} {a0 : Value} (hp : X6 X) (E : Exc X pins σ H a cv n s) (k1 : (PySem.W.hideAll s.heap (hid X a n)).StaysIn h') (k2 : s.heap.UpToSlots h') (ht : h'.TracedAtW (PySem.W.hideAll s.heap (hid X a n)) a cv a0 fl) :
  ∃ T', Exc X pins σ H a cv (some (T', fl)) { s with heap := h', toks := t' } := by
 obtain ⟨oe, vs, T', oT, ts, he, ⟨hc, h0⟩, hd, h1, hn, hne, hT, hdT, h3⟩ := ht
 have I := E.inv
 refine ⟨T', E.moved k1 k2, E.al, ⟨oe, vs, a0, oT, ts, he, hc, hd, h0, h1, hne, hT, hdT, h3⟩, fun T f q => ?_⟩
 cases q
 cases q : s.heap.get? T' with
 | none => exact Yw hp I q
 | some o =>
  have hm : T' ∈ hid X a n := Classical.byContradiction fun z => by
   rw [PySem.W.hideAll_get _ q z] at hn; cases hn
  rcases Wm hm with z | ⟨T, f, z1, z2⟩ | z
  ·exact absurd z hne
  ·rw [z2]; exact E.nt T f z1
  ·obtain ⟨_, o', ho', hd'⟩ := I.stack.mem z
   obtain ⟨sl, hs⟩ := k2 T' o' ho' hd'
   rw [hT] at hs
   cases hs
   exact absurd hdT (hd' ts)
theorem fun_hid {as : List Addr} {base h : Heap} : ∀ {l : List Env}, h.FunFrames base l -> (∀ b ∈ frs l, b ∈ as) -> h.FunFrames (PySem.W.hideAll h as) l := fun {l} hf hs =>
 PySem.W.funFrames_hide hf fun env he b hb => hs b (List.mem_filterMap.mpr ⟨env, he, hb⟩)
theorem Vv {h : Heap} {as : List Addr} : (PySem.W.hideAll h as).StaysIn h := fun b o e => PySem.W.of_hideAll as e
theorem Vr {v : Value} {e1 e2 : Env} (h : e1.frame = e2.frame) : noteFrame v e1 = noteFrame v e2 := by
 unfold noteFrame PySem.frameOf
 rw [h]
structure InFrame (X : Cx) (L : Addr) : Prop where
 pin : X6 X
 ex : ∃ e0 rest, X.stack = e0 :: rest /\ e0.frame = some L
 env : X.env.frame = some L
theorem Exc.setT {f v : Value} {Q : Unit -> Shared -> Prop} {Ee : Value -> Shared -> Prop} (E : Exc X pins σ H a cv (some (T, f)) s) (q : ∀ s', Exc X pins σ H a cv (some (T, v)) s' -> Q () s') : wpAny (model X.prog X.w) X.A (setField (.ref T) 3 v) Q Ee s := by
 obtain ⟨oe, vs, a0, oT, ts, he, hc, hd, h0, h1, hne, hT, hdT, h3⟩ := E.ob
 have hz : 3 < ts.size := (Array.getElem?_eq_some_iff.mp h3).1
 refine wpAny_setField hT hdT hz (q _ ?_)
 have other : ∀ b, b ≠ T -> (s.heap.update T (Obj.mapFields (·.setIfInBounds 3 v))).get? b = s.heap.get? b := fun b hb => Heap.get?_update_other _ _ (Ne.symm hb)
 have self := Heap.get?_update_self (Obj.mapFields (·.setIfInBounds 3 v)) hT (Obj.isFreed_of_fields (Obj.data_mapFields hdT _))
 have A := E.nt T f rfl
 refine ⟨E.moved (t' := s.toks) (fun b o e => ?_) (fun b o e hn => ?_), E.al, ⟨oe, vs, a0, _, _, (other a (Ne.symm hne)).trans he, hc, hd, h0, h1, hne, self, Obj.data_mapFields hdT _, by simp [hz]⟩, fun T' f' z => by cases z; exact A⟩
 ·have hb : b ≠ T := fun z => by
   have hh : (PySem.W.hideAll s.heap (hid X a (some (T, f)))).get? T = none := PySem.W.hideAll_none (hid X a (some (T, f))) (List.mem_cons_of_mem _ List.mem_cons_self)
   rw [z, hh] at e; cases e
  exact (other b hb).trans (PySem.W.of_hideAll _ e)
 ·have hb : b ≠ T := fun z => by rw [z, hT] at e; cases e; exact hn ts hdT
  exact ⟨o.slots, (other b hb).trans e⟩
theorem ExO.first {h : Heap} {a : Addr} {cv : Value} {n : Option (Addr × Value)} (x : ExO h a cv n) : ∃ oe vs a0 b1, h.get? a = some oe /\ oe.cls = cv /\ oe.data = .fields vs /\ vs[0]? = some a0 /\ vs[1]? = some b1 := by
 cases n with
 | none => obtain ⟨oe, vs, a0, h1, h2, h3, h4, h5⟩ := x; exact ⟨oe, vs, a0, _, h1, h2, h3, h4, h5⟩
 | some p => obtain ⟨T, f⟩ := p; obtain ⟨oe, vs, a0, _, _, h1, h2, h3, h4, h5, _⟩ := x; exact ⟨oe, vs, a0, _, h1, h2, h3, h4, h5⟩
theorem Exc.entry (hp : X6 X) {L : Addr} {e0 : Env} {rest : List Env} {head : Value} {hadNext : Bool} {Q : Unit -> Shared -> Prop} {Ee : Value -> Shared -> Prop} (hst : X.stack = e0 :: rest) (hf : e0.frame = some L) (E : Exc X pins σ H a cv n s)
  (q : ∀ T' s', Exc X pins σ H a cv (some (T', rawInt L)) s' -> Q () s') :
  wpAny (model X.prog X.w) X.A (do let fr <- PySem.frameOf e0; let pl <- entryPlaceOf L hadNext; let b <- EntryCells.newEntry head fr .none (rawInt L) .none pl; setField (.ref a) 1 b) Q Ee s := by
 have hfr : X.A.frames = some (e0 :: rest) := by rw [<- hst]; exact E.inv.ok.frames
 have fun0 : s.heap.FunFrames (PySem.W.hideAll s.heap (hid X a n)) (e0 :: rest) := by rw [<- hst]; exact fun_hid E.inv.stack (hid_frs X a n)
 have hen : (PySem.W.hideAll s.heap (hid X a n)).get? a = none := PySem.W.hideAll_none _ (by cases n with | none => exact List.mem_cons_self | some p => exact List.mem_cons_self)
 obtain ⟨oe, vs, a0, b1, he, hc, hd, h0, h1⟩ := E.ob.first
 refine wpAny_entryW hfr fun0 hf he Vv hen hd (Array.getElem?_eq_some_iff.mp h1).1 h0 fun h' x => ?_
 rw [hc] at x
 obtain ⟨k1, k2, k3, k4⟩ := x
 obtain ⟨T', x⟩ := E.noted (t' := s.toks) hp k1 k4 k3
 exact q T' _ x
theorem Exc.note {L : Addr} {Q : Unit -> Shared -> Prop} {Ee : Value -> Shared -> Prop} (F : InFrame X L) (E : Exc X pins σ H a cv n s)
  (q : ∀ T' s', Exc X pins σ H a cv (some (T', rawInt L)) s' -> Q () s') : wpAny (model X.prog X.w) X.A (noteFrame (.ref a) X.env) Q Ee s := by
 obtain ⟨e0, rest, hst, hf⟩ := F.ex
 rw [Vr (e1 := X.env) (e2 := e0) (by rw [F.env, hf])]
 unfold noteFrame
 simp only [hf]
 cases n with
 | none =>
  obtain ⟨oe, vs, a0, he, hc, hd, h0, h1⟩ := E.ob
  refine wpAny_bind (wpAny_field he hd h1 ?_)
  rw [if_neg (by decide)]
  exact E.entry F.pin hst hf q
 | some p =>
  obtain ⟨T, f⟩ := p
  obtain ⟨oe, vs, a0, oT, ts, he, hc, hd, h0, h1, hne, hT, hdT, h3⟩ := id E.ob
  refine wpAny_bind (wpAny_field he hd h1 ?_)
  rw [if_pos (show (Value.ref T != Value.none) = true from by simp)]
  refine wpAny_bind (wpAny_field hT hdT h3 ?_)
  by_cases hfl : (f == rawInt L) = true
  ·rw [if_pos hfl]
   refine wpAny_pure (q T s ?_)
   have : f = rawInt L := by simpa using hfl
   rw [<- this]
   exact E
  ·rw [if_neg hfl]
   exact wpAny_bind (E.setT fun s1 E1 => E1.entry F.pin hst hf q)
theorem Exc.flight {f : Value} {fr : Option Addr} {Q : Unit -> Shared -> Prop} {Ee : Value -> Shared -> Prop} (E : Exc X pins σ H a cv (some (T, f)) s)
  (q : ∀ s', Exc X pins σ H a cv (some (T, fr.elim .none fun f => rawInt f)) s' -> Q () s') : wpAny (model X.prog X.w) X.A (setFlight (.ref a) fr) Q Ee s := by
 obtain ⟨oe, vs, a0, oT, ts, he, hc, hd, h0, h1, hne, hT, hdT, h3⟩ := id E.ob
 unfold setFlight
 refine wpAny_bind (wpAny_field he hd h1 ?_)
 rw [if_pos (show (Value.ref T != Value.none) = true from by simp)]
 exact E.setT q
theorem Exc.leave {L : Addr} {Q : Unit -> Shared -> Prop} {Ee : Value -> Shared -> Prop} (F : InFrame X L) (E : Exc X pins σ H a cv n s)
  (q : ∀ T' s', Exc X pins σ H a cv (some (T', .none)) s' -> Q () s') : wpAny (model X.prog X.w) X.A (leaving X.env (.ref a)) Q Ee s := by
 unfold leaving
 exact wpAny_bind (E.note F fun T' s1 E1 => E1.flight (fr := none) fun s2 E2 => q T' s2 E2)
theorem Exc.pass {α : Type} {w : String} {f : Value} {env : Env} {Q : α -> Shared -> Prop} {Ee : Value -> Shared -> Prop} (E : Exc X pins σ H a cv (some (T, f)) s)
  (q : ∀ fl s', Exc X pins σ H a cv (some (T, fl)) s' -> Ee (.ref a) s') : wpAny (model X.prog X.w) X.A (PySem.passOn w (.ref a) env : Sem α) Q Ee s := by
 obtain ⟨oe, vs, a0, oT, ts, he, hc, hd, h0, h1, hne, hT, hdT, h3⟩ := id E.ob
 unfold PySem.passOn
 refine wpAny_bind (wpAny_field he hd h1 ?_)
 rw [if_neg (show ¬ ((Value.ref T == Value.none) = true) from Bool.false_ne_true)]
 exact wpAny_bind (E.flight fun s1 E1 => wpAny_throw (q _ _ E1))
end
end Fx
namespace Fx
open PySem PySem.Spec PyProof.Rows L2
def XE (X : Cx) (cl : Str -> Value) (W : Str -> Hp -> Prop) : Value -> Shared -> Prop := fun e s => ∃ a c pins σ H n, e = .ref a /\ Exc X pins σ H a (cl c) n s /\ W c H
abbrev Cx.xw (X : Cx) (cl : Str -> Value) (W : Str -> Hp -> Prop) : Cx := X.wish (XE X cl W)
def CX1 (P : Program) (w : World) : CXT := fun outer H s E e s' => ∃ a cv T H', e = .ref a /\ s'.os = s.os /\ AllBare s'.gens /\ Un (frs outer) [] H H' s.heap s'.heap /\ HOk P w H' s'.heap /\ H' a = none /\ H' T = none /\
 s.heap.get? a = none /\ s.heap.get? T = none /\ ExO s'.heap a cv (some (T, .none)) /\ E cv none H'
section
variable {X : Cx} {cl : Str -> Value} {W : Str -> Hp -> Prop} {pins : List (Addr × Obj)} {σ : L2.St} {H H' : Hp} {s s' : Shared} {a : Addr}
theorem Alien.to (A : Alien X pins H a) (e : H' a = none) : Alien X pins H' a := ⟨A.young, A.loc, A.cell, A.pin, e, A.frm⟩
theorem Xl (hp : X6 X) {E : XK} {e : Value} (I : Inv X pins σ H s) (h : CX1 X.prog X.w X.stack H s E e s') : ∃ a cv T H', e = .ref a /\ Exc X pins σ H' a cv (some (T, .none)) s' /\ E cv none H' := by
 obtain ⟨a, cv, T, H', rfl, os, bare, un, hok, ha, hT, na, nT, ob, hE⟩ := h
 obtain ⟨hh, g, d, t, os'⟩ := s'
 obtain rfl : os' = s.os := os
 refine ⟨a, cv, T, H', rfl, ⟨I.call (h' := hh) (g' := g) (d' := d) (t' := t) (ch := []) un hok bare (fun b z => absurd z (by simp)), (Yw hp I na).to ha, ob, fun T' f z => ?_⟩, hE⟩
 cases z
 exact (Yw hp I nT).to hT
theorem pass_xw (hp : X6 X) : Vi (CX1 X.prog X.w) (Cx.xw X cl W) (EX (some cl) W) := fun pins σ H s e s' I h => by
 obtain ⟨a, cv, T, H', rfl, x, c, f, e1, rfl, hw⟩ := Xl hp I.unwish h
 cases e1
 exact ⟨a, c, pins, σ, H', _, rfl, x, hw⟩
end
structure Clx (P : Program) (w : World) (K : PySem.W.Frag) (mg : Str -> Option Value) (base : Heap) (cl : Str -> Value) (k : Nat) (x : Str) (np : Nat) (f : DF) : Prop where
 ex : ∃ (fa : Addr) (fd : FuncData) (ps : List Str), FnOk P w K mg base (CX1 P w) k fa fd ps (spF K (some cl) np f) /\ mg x = some (.ref fa) /\ PySem.W.keepIn K (.ref fa) = true /\ Yx K fd ps []
theorem Clx.cal {X : Cx} {cl : Str -> Value} {W : Str -> Hp -> Prop} {k np : Nat} {x : Str} {f : DF} (hp : X6 X) (C : Clx X.prog X.w X.K X.mg X.base cl k x np f) : Cal (Cx.xw X cl W) W (some cl) k x np f := by
 obtain ⟨fa, fd, ps, F, hm, hk, hb⟩ := C.ex
 exact ⟨⟨CX1 X.prog X.w, fa, fd, ps, F, hm, hk, hb, pass_xw hp⟩, fun z => by cases z⟩
theorem Clx.mono {P : Program} {w : World} {K : PySem.W.Frag} {mg : Str -> Option Value} {base : Heap} {cl : Str -> Value} {j k np : Nat} {x : Str} {f : DF} (C : Clx P w K mg base cl j x np f) (h : j <= k) : Clx P w K mg base cl k x np f := by
 obtain ⟨fa, fd, ps, F, r⟩ := C.ex
 exact ⟨⟨fa, fd, ps, F.mono h, r⟩⟩
theorem pss_xe {X : Cx} {E' : Value -> Shared -> Prop} {st : List Stmt} {t : TS} (h : PSs (X.wish E') st t) (hx : ∀ e s, E' e s -> X.xe e s) : PSs X st t := fun pins s σ H D I hw =>
 wpAny_mono (h pins s σ H D (I.wish _) hw) (fun _ _ q => q.unwish) hx
section
variable {P : Program} {w : World} {K : PySem.W.Frag} {mg : Str -> Option Value} {base : Heap}
theorem Z0 {CX : CXT} {N : List Str} {qual : Str} {scope : Scope} {f : Addr} {cdv : Value} {A : Around} {outer : List Env} {s : Shared} {H : Hp} {E : XK} : InFrame (cxOf CX P w K mg base N qual scope f cdv A outer s H E) s.heap.objs.size :=
 ⟨fun b z => absurd (show b ∈ ([] : List Addr) from z) (by simp), ⟨_, _, rfl, rfl⟩, rfl⟩
theorem fn_okX {cl : Str -> Value} {x qual : Str} {st : Stmt} {f : Addr} {fd : FuncData} {N ps : List Str} {k np : Nat} {d : DS} (F : Fun K x qual st f fd) (S : FnScope N ps (Zd st)) (hnp : ps.length = np)
  (hb : ∀ (cdv : Value) (A : Around) (outer : List Env) (s : Shared) (H : Hp) (E : XK) (W : Str -> Hp -> Prop), Room k (A.deeper (envOfC qual (Zd st) s.heap.objs.size f cdv)) ->
   SVs (Cx.xw (cxOf (CX1 P w) P w K mg base N qual (Zd st) f cdv A outer s H E) cl W) W false (ZC st) d) : FnOk P w K mg base (CX1 P w) (k + 1) f fd ps (spF K (some cl) np (runF N.length np d)) := by
 obtain ⟨oc, od, kV, doc, pm, an, cdv, ct, osl, rfl, lk, hcd⟩ := F.ex
 refine fn_of lk hcd S (fun vs H Q E h => by rw [hnp]; exact h.1) fun A outer s H vs Q E hr h => ⟨_, pss_xe (hb cdv A outer s H E (fun c H' => E (cl c) none H') hr) (fun e s1 hx => ?_), ?_⟩
 ·obtain ⟨a, c, pins, σ, H', n, rfl, x, hw⟩ := hx
  refine x.leave Z0 fun T s2 x2 => ?_
  refine ⟨a, cl c, T, H', rfl, x2.inv.os, x2.inv.bare, x2.inv.base, x2.inv.hok, x2.al.trk, (x2.nt T _ rfl).trk, x2.al.young, (x2.nt T _ rfl).young, x2.ob, hw⟩
 ·obtain ⟨hl, ts, P', rs, ho, hf, q⟩ := h
  have hlt : ts.length = np := by rw [rs.length]; exact hl
  refine ⟨_, P', Wl rs ho hf, ?_⟩
  unfold runF at q
  rw [if_pos hlt] at q
  have en : N.length - np = N.length - ts.length := by rw [hlt]
  rw [en] at q
  have sm : ∀ H' P2, Go H P' H' P2 -> Same H H' := fun H' P2 g => g.all ho
  have bk : ∀ H' P2, Go H P' H' P2 -> Tr H' P2 H' P' := fun H' P2 g b o e _ z => ⟨e, fun i => by rw [ho i]; exact fun z => (by cases z), by rw [<- g.fbe]; exact z.2⟩
  cases e : d (ts.map .val ++ List.replicate (N.length - ts.length) .emp) with
  | stuck => rw [e] at q; exact q.elim
  | exc c => rw [e] at q; exact fun H' P2 g => q none H' (sm H' P2 g)
  | ok o =>
   rw [e, Res.bind_ok] at q
   cases o with
   | nx G => exact fun σ' H' P2 g h' => q .non H' (sm H' P2 g) (Yt.mpr rfl)
   | rt t => exact fun v H' P2 g r _ => q v H' (sm H' P2 g) (Rl.go (bk H' P2 g) t v r)
   | bk G => exact q.elim
   | ct G => exact q.elim
theorem clx_of {cl : Str -> Value} {x : Str} {st : Stmt} {fa : Addr} {fd : FuncData} {N ps : List Str} {k n np : Nat} {d : DS} (F : Fun K x x st fa fd) (hm : mg x = some (.ref fa)) (b : Yx K fd ps []) (S : FnScope N ps (Zd st)) (hnp : ps.length = np) (hN : N.length = n)
  (hb : ∀ (cdv : Value) (A : Around) (outer : List Env) (s : Shared) (H : Hp) (E : XK) (W : Str -> Hp -> Prop), Room k (A.deeper (envOfC x (Zd st) s.heap.objs.size fa cdv)) ->
   SVs (Cx.xw (cxOf (CX1 P w) P w K mg base N x (Zd st) fa cdv A outer s H E) cl W) W false (ZC st) d) : Clx P w K mg base cl (k + 1) x np (runF n np d) := by
 subst hN
 exact ⟨⟨fa, fd, ps, fn_okX F S hnp hb, hm, F.kp, b⟩⟩
end
structure XCls (K : PySem.W.Frag) (mg : Str -> Option Value) (x : Str) (C : Addr) : Prop where
 bd : mg x = some (.ref C)
 ex : PySem.W.excIn K C [.type "ValueError", .type "Exception", .type "BaseException", .type "object"] "ValueError.__new__" = true
theorem XCls.obj {K : PySem.W.Frag} {mg : Str -> Option Value} {x : Str} {C : Addr} {h : Heap} (c : XCls K mg x C) (k : K.In h) : OwnCls x C [.type "ValueError", .type "Exception", .type "BaseException", .type "object"] "ValueError.__new__" mg h := by
 refine ⟨c.bd, ?_⟩
 have q := c.ex
 unfold PySem.W.excIn at q
 split at q
 ·rename_i d0 cdat slts look
  split at q
  ·rename_i C1 tl a0 a1 a2 a3 nid a5 em es
   simp only [Bool.and_eq_true, beq_iff_eq, Bool.not_eq_true'] at q
   obtain ⟨⟨⟨⟨⟨q1, q2⟩, q3⟩, q4⟩, q5⟩, q6⟩ := q
   obtain ⟨c1, c2, c3, c4, c5, c6, c7, c8, c9, c10, c11⟩ := cdat
   dsimp only at em q3 q5 q6
   subst em q3 q1 q2
   obtain ⟨lst⟩ := slts
   dsimp only at es
   subst es
   exact ⟨tl, c4, c1, c5, c2, c6, c7, c8, c9, c10, d0, a0, a1, a2, a3, a5, _, k _ _ look, .of_isNs (PySem.W.isNs_of_in k q5), PySem.W.nsMap_none_of_in k q5 q6, PySem.W.tail_of_in k q4⟩
  ·cases q
 ·cases q
section
variable {X : Cx} {cl : Str -> Value} {W : Str -> Hp -> Prop} {e : Expr} {es : List Expr} {d : DA} {pos : Pos}
theorem XJ {x : Str} {C : Addr} {np cpos : Pos} (hp : X6 X) (c : XCls X.K X.mg x C) (hcl : cl x = .ref C) (ha : AV (Cx.xw X cl W) W (e :: es) d) (hg : Gl X x) (hc : X.calm = true := by rfl) (hdb : (x == ("__debug__" : Str)) = false := by decide)
  (he : starEach (e :: es) X.env = (false, eval e X.env) :: starEach es X.env := by rfl) (hpl : (backTo cpos (starEach es X.env)).any (·.1) = false := by rfl)
  (hln : ∀ G ts, d G = .ok ts -> ts.length <= 4 := by intro G ts h; have := Wj G ts h; omega) :
  SV (Cx.xw X cl W) W fl (.Raise (some (.Call (.Name x np) (e :: es) [] cpos)) none pos) (Wp x d) := by
 intro pins s σ H D I ⟨G, P, h, q⟩
 unfold Wp at q
 obtain ⟨h', g⟩ := h.frzA
 obtain ⟨q1, q2, q3⟩ := bindAS q
 obtain ⟨tl, N, nm, qn, bs, hd, sn, sb, ab, co, dd, k0, k1, k2, k3, k5, mN, hC, hN, hni, tail⟩ := (c.obj I.mod.kin).obj
 refine wpAny_Raise_call_subT (C := C) (nm := nm) (q := qn) (N := N) (bs := bs) (bm := tl) (hdct := hd) (sn := sn) (sub := sb) (ab := ab) (col := co) (dd := dd) (k0 := k0) (k1 := k1) (k2 := k2) (k3 := k3) (k5 := k5)
  PySem.F.excBase_ValueError (mN := mN) (tail.hasType PySem.F.excBase_ValueError.hasBase) (I.ok.hd hc) (by rw [show starEach (e :: es) (Cx.xw X cl W).env = _ from he]; show (false || (backTo cpos (starEach es X.env)).any (·.1)) = false; rw [hpl]; rfl) hni (YZ I hg c.bd ⟨rfl, ?_⟩ hdb)
 have hA := ha cpos pins s σ H (fun vs H2 => vs.length <= 4 /\ W x H2) I ⟨frzA G, P.bare, h', ?_⟩
 ·rw [show starEach (e :: es) (Cx.xw X cl W).env = _ from he] at hA ⊢
  refine Calls.evalArgs_plain (wpAny_mono hA (fun us s2 ⟨vs, H2, I2, r2, hl, hw⟩ => ?_) fun _ _ z => z)
  have hl2 := r2.length
  refine ⟨rfl, by show us.length <= sizeLine; rw [sizeLine_eq]; omega, I2.bk _ _ hC, hN.keeps I2.bk, tail.keeps I2.bk, fun h2 a mk => ?_⟩
  obtain ⟨t, ho, _, _⟩ := mk.there
  refine ⟨a, x, pins, σ, H2, none, rfl, ⟨I2.unwish.kept (t' := s2.toks) mk.keeps, Yw hp I2.unwish mk.new, ⟨_, _, .ref t, ho, hcl.symm, rfl, rfl, rfl⟩, fun T f z => by cases z⟩, hw⟩
 ·cases ed : d (frzA G) with
  | stuck => exact absurd ed q2
  | exc c' => exact fun H2 sm => q1 c' ed H2 P.bare (g.trans (.same sm))
  | ok ts => exact fun vs H2 sm rs => ⟨by rw [<- rs.length]; exact hln _ _ ed, q3 ts ed H2 P.bare (g.trans (.same sm))⟩
end
end Fx
namespace Fx
open PySem PySem.Spec PyProof.Rows L2
section
variable {X : Cx} {cl : Str -> Value} {W : Str -> Hp -> Prop} {L : Addr} {scope : Scope} {N : List Str}
theorem frame_c {s₀ : Shared} {H₀ : Hp} {ex : List Addr} {pn : List (Addr × Obj)} (F : InFrame X L) (hp : ∀ b ∈ ex, ∃ o, (b, o) ∈ pn) : InFrame (cxC X scope N s₀ H₀ ex pn) L := ⟨hp, F.ex, F.env⟩
theorem InFrame.wish {E : Value -> Shared -> Prop} (F : InFrame X L) : InFrame (X.wish E) L := ⟨F.pin, F.ex, F.env⟩
theorem Vd (F : InFrame X L) : WR (Cx.xw X cl W) scope N (fun Y => XE Y cl W) := by
 intro pins σ H3 s3 fp pn e s' I3 hf pnn hx
 obtain ⟨a, c, pins', σ', H', n, rfl, x, hw⟩ := hx
 refine Exc.note (X := cxC (Cx.xw X cl W) scope N s3 H3 fp pn) (L := L) (frame_c (InFrame.wish F) pnn) x fun T s1 x1 => ?_
 obtain ⟨m, hm, _⟩ := x1.inv.loc
 refine ⟨m, hm, fun h' hsb cenv hc => ?_⟩
 have J : Inv (cxC (Cx.xw X cl W) scope N s3 H3 fp) (pn ++ pins') σ' H' s1 := V9 (x1.inv.wish fun _ _ => False)
 have I0 : Inv X pins σ H' s1 := (CompOk.stop I3 (fun b hb => (hf b hb).1) J).unwish
 have al : ∀ b, Alien (cxC (Cx.xw X cl W) scope N s3 H3 fp pn) pins' H' b -> Alien X pins H' b := fun b A => (Yw F.pin I3.unwish A.young).to A.trk
 have fo : FpOk X pins H' s3.heap.objs.size := I3.unwish.fpOk (Nat.le_refl _) x1.inv.free
 have ne : ∀ b, Alien (cxC (Cx.xw X cl W) scope N s3 H3 fp pn) pins' H' b -> h'.get? b = s1.heap.get? b := fun b A => hsb.2 b A.loc
 have aT := x1.nt T _ rfl
 have x2 : Exc X pins σ H' a (cl c) (some (T, rawInt L)) { s1 with heap := h' } := by
  refine ⟨atC I0 fo hsb, al a x1.al, ?_, fun T' f z => by cases z; exact al T aT⟩
  obtain ⟨oe, vs, a0, oT, ts, he, hc, hd, h0, h1, hne, hT, hdT, h3⟩ := x1.ob
  exact ⟨oe, vs, a0, oT, ts, (ne a x1.al).trans he, hc, hd, h0, h1, hne, (ne T aT).trans hT, hdT, h3⟩
 exact x2.pass fun fl s2 x3 => ⟨a, c, pins, σ, H', _, rfl, x3, hw⟩
end
end Fx
namespace Fx
open PySem PySem.Spec PyProof.Rows L2
def cxH (X : Cx) (a : Addr) : Cx := { X with A := X.A.mark (some (.ref a)), calm := false, xe := fun _ _ => False }
section
variable {X : Cx} {pins : List (Addr × Obj)} {σ : L2.St} {H H' : Hp} {s s' : Shared} {a : Addr} {cv : Value} {n : Option (Addr × Value)} {cl : Str -> Value} {W : Str -> Hp -> Prop} {L : Addr}
theorem inv_h (I : Inv X pins σ H s) : Inv (cxH X a) pins σ H s :=
 ⟨⟨I.ok.mod, I.ok.kind, I.ok.glob, I.ok.blt, I.ok.above, I.ok.inj, I.ok.has, I.ok.cab, fun z => (by cases z), I.ok.frames, I.ok.stk, I.ok.exf, I.ok.bs, I.ok.bsz, I.ok.noex, I.ok.exfs, I.ok.funs, I.ok.frf⟩, I.os, I.bare, I.base, I.loc, I.cell, I.free, I.freeC, I.pin, I.hok, I.len⟩
theorem XA (ok : X.Ok) (I : Inv (cxH X a) pins σ H s) : Inv X pins σ H s := ⟨ok, I.os, I.bare, I.base, I.loc, I.cell, I.free, I.freeC, I.pin, I.hok, I.len⟩
theorem exc_h (x : Exc X pins σ H a cv n s) : Exc (cxH X a) pins σ H a cv n s := ⟨inv_h x.inv, ⟨x.al.young, x.al.loc, x.al.cell, x.al.pin, x.al.trk, x.al.frm⟩, x.ob, fun T f z => let A := x.nt T f z; ⟨A.young, A.loc, A.cell, A.pin, A.trk, A.frm⟩⟩
theorem sp_oh {D : Ends} {f : Flow} (ok : X.Ok) (h : SP (cxH X a) pins D f s') : SP X pins D f s' := by
 cases f with
 | next => obtain ⟨σ', H', I, q⟩ := h; exact ⟨σ', H', XA ok I, q⟩
 | brk => obtain ⟨σ', H', I, q⟩ := h; exact ⟨σ', H', XA ok I, q⟩
 | cont => obtain ⟨σ', H', I, q⟩ := h; exact ⟨σ', H', XA ok I, q⟩
 | ret u => obtain ⟨v, σ', H', I, r, q⟩ := h; exact ⟨v, σ', H', XA ok I, r, q⟩
theorem Wn {K : PySem.W.Frag} {M : Model} {A : Around} {E : Value -> Shared -> Prop} {mg : Str -> Option Value} {x : Str} {C C' : Addr} {ob : Obj} {Q : Bool -> Shared -> Prop} (k : K.In s.heap) (c : XCls K mg x C') (ho : s.heap.get? a = some ob) (hc : ob.cls = .ref C)
  (hsub : PySem.W.subIn K (.ref C) (.ref C') = some true) (q : Q true s) : wpAny M A (excMatches (.ref a) (.ref C')) Q E s := by
 obtain ⟨tl, N, nm, qn, bs, hd, sn, sb, ab, co, dd, k0, k1, k2, k3, k5, mN, hC, hN, hni, tail⟩ := (c.obj k).obj
 have hB : (Value.ref C' :: tl).contains (.type "BaseException") = true := by rw [List.contains_cons, tail.hasType PySem.F.excBase_ValueError.hasBase, Bool.or_true]
 have nt := tc_notTuple
 obtain ⟨hp, g, d, tk, os⟩ := s
 unfold excMatches
 repeat (first | (with_reducible refine wpAny_loadPart_at ho ?_; rw [hc]) | with_reducible refine wpAny_loadPart_at hC ?_ | (with_reducible refine wpAny_isSubtype_exc hC ?_; rw [hB]) | (refine (PySem.W.looks_subIn k hsub).at ?_) | wp_step)
 exact q
theorem isi_exc {x : Addr} {A : Around} {Ee : Value -> Shared -> Prop} {Q : Value -> Shared -> Prop} (I : Inv X pins σ H s) (h : H x = some (XO X.K x)) (q : Q (.bool true) s) : wpAny (model X.prog X.w) A (call (.builtin "isinstance") [.ref x, .type "ValueError"]) Q Ee s := by
 obtain ⟨⟨ob, C, ho, hc, hs⟩, _, _⟩ := I.hok x _ h
 have lt : PySem.W.Looks (model X.prog X.w) s.heap (typeOf (.ref x)) (.ref C) := hc ▸ (PySem.W.Looks.ld ho).andThen .now
 have li : PySem.W.Looks (model X.prog X.w) s.heap (isInstance (.ref x) (.type "ValueError")) true := lt.andThen (PySem.W.looks_subIn I.kIn hs)
 refine call_isinstance_of ?_ (by intro e; cases e)
 unfold Builtin.«isinstance.nested»
 refine wpAny_bind (lt.at ?_)
 rw [if_neg (show ¬ ((Value.ref C == Value.type "ValueError") = true) from Bool.false_ne_true)]
 refine wpAny_bind (wpAny_of_eq (a := Value.type "type") (PySem.W.kitMeta_of (by decide +kernel)) ?_)
 rw [if_pos (by decide)]
 k_delta "plainIsInstance"
 refine wpAny_bind (wpAny_bind (wpAny_of_eq (a := true) rfl ?_))
 simp only [Bool.not_true, Bool.false_eq_true, if_false]
 refine wpAny_bind (li.at ?_)
 simp only [if_true]
 exact wpAny_pure (wpAny_pure q)
theorem call_isx : Xv X (.builtin "isinstance") (fun xs H Q => ∃ x, xs = [.ref x, .ty "ValueError"] /\ H x = some (XO X.K x) /\ Q (.bl true) H) := by
 intro pins s σ H xs us Q I r h
 obtain ⟨x, rfl, hx, q⟩ := h
 obtain ⟨u, w', rfl, ru, rw'⟩ := vals2 r
 cases ru
 cases rw'
 exact isi_exc I hx ⟨.bl true, H, I, rfl, q⟩
theorem ev_isx {ex : Expr} {da : DE} {p p2 pos : Pos} (hg : Gl X "isinstance") (hm : X.mg "isinstance" = none) (hg2 : Gl X "ValueError") (hm2 : X.mg "ValueError" = none) (ha : EV X W ex da)
  (hs : starEach [ex, .Name "ValueError" p2] X.env = (false, eval ex X.env) :: starEach [.Name "ValueError" p2] X.env := by rfl) (hs2 : starEach [.Name "ValueError" p2] X.env = (false, eval (.Name "ValueError" p2) X.env) :: starEach [] X.env := by rfl)
  (hpl : (backTo pos (starEach [.Name "ValueError" p2] X.env)).any (·.1) = false := by rfl) :
  EV X W (.Call (.Name "isinstance" p) [ex, .Name "ValueError" p2] [] pos) (d1 fIsX da) :=
 Zn (YQ call_isx hg hm (show bootBuiltins "isinstance" = some (.builtin "isinstance") by decide +kernel) (ZY ha (ZY (VU (v := .ty "ValueError") hg2 hm2 (show bootBuiltins "ValueError" = some (.type "ValueError") by decide +kernel) rfl) YE hs2) hs) (he := hs) (hpl := hpl)) fun σ H Q ⟨G, P, h, q⟩ => by
  unfold d1 at q
  obtain ⟨q1, q2, q3⟩ := Xt q
  refine Zp h q1 q2 fun tx x H1 ex s1 h1 rx => ?_
  have q4 := Z3.up (q3 tx ex) s1
  cases tx <;> try exact q4.elim
  rename_i ys
  cases ys with
  | cons y ys => exact q4.elim
  | nil =>
   obtain ⟨y, rfl, hy, _⟩ := rl_exc.mp rx
   exact ⟨y, rfl, hy, Yc q4⟩
theorem ev_intc {ex : Expr} {da : DE} {p pos : Pos} (hg : Gl X "int") (hm : X.mg "int" = none) (ha : EV X W ex da) (hs : starEach [ex] X.env = (false, eval ex X.env) :: starEach [] X.env := by rfl) : EV X W (.Call (.Name "int" p) [ex] [] pos) (d1 fInt da) :=
 Zn (Xh Ux hg hm (show bootBuiltins "int" = some (.type "int") by decide +kernel) (ZY ha YE hs) (he := hs)) fun σ H Q h => X8 (fun H P σ G x tx Q h rx q => by
  cases tx <;> try exact q.elim
  ·exact .inr ⟨_, by rw [ZT.mp rx], ZK q⟩
  ·exact .inl ⟨_, by rw [Zo.mp rx], ZK q⟩) h
theorem Vg {ex : Expr} {es : List Expr} {k np : Nat} {x : Str} {f : DF} {d : DA} {p pos : Pos} (C : Clx X.prog X.w X.K X.mg X.base cl k x np f) (hr : Room k X.A) (hp : X6 X) (hg : Gl X x) (ha : AV X.nox (fun _ _ => False) (ex :: es) d)
  (hL : ∀ G ts, d G = .ok ts -> ts.length = np) (hdb : (x == ("__debug__" : Str)) = false) (he : starEach (ex :: es) X.env = (false, eval ex X.env) :: starEach es X.env) (hpl : (backTo pos (starEach es X.env)).any (·.1) = false)
  {G : List Sl} {P : Pv} (I : Inv X pins σ H s) (h : Hol X.K H P σ G) {Q : Value -> Shared -> Prop} {Ee : Value -> Shared -> Prop} {ts : List PyData} (hd : d G = .ok ts) (hns : f ts ≠ .stuck)
  (ok : ∀ t, f ts = .ok t -> ∀ v u H' s', Inv X pins σ H' s' -> Same H H' -> Rl X.K H' P t v -> RelV v u -> Q u s')
  (xc : ∀ c, f ts = .exc c -> ∀ a T H' s', Exc X pins σ H' a (cl c) (some (T, .none)) s' -> Same H H' -> Ee (.ref a) s') :
  wpAny (model X.prog X.w) X.A (eval (.Call (.Name x p) (ex :: es) [] pos) X.env) Q Ee s := by
 obtain ⟨fa, fd, ps, F, hm, hk, hb⟩ := C.ex
 refine wpAny_Call_Name_kw (YZ I hg hm ?_ hdb)
 refine PySem.W.callWith_K (h₀ := X.base) I.ok.mod.kin hk (wpAny_mono (ha pos pins s σ H (fun vs H1 => Same H H1 /\ Rls X.K H1 P ts vs) (I.wish _) ⟨G, P, h, by rw [hd]; exact fun vs H' s r => ⟨s, r⟩⟩) (fun us s1 hA => ?_) fun _ _ z => False.elim z) he hpl
 obtain ⟨vs, H1, I1, r, sm, rs⟩ := hA
 have J := I1.unwish
 refine ⟨J.kIn, ?_⟩
 have h1 := h.same sm
 have el : vs ++ [] = vs := List.append_nil vs
 have eu : us ++ [] = us := List.append_nil us
 have gg : Tr H1 P H1 ⟨fun _ => none, fun a => ¬ Off P a⟩ := fun a o e1 _ o1 => ⟨e1, fun _ z => (by cases z), fun z => z o1⟩
 have back : ∀ H2, Tr H2 ⟨fun _ => none, fun a => ¬ Off P a⟩ H2 P := fun H2 a o e1 _ o1 => ⟨e1, Classical.byContradiction fun z => o1.2 z⟩
 have sp : spF X.K (some cl) np f (vs ++ []) H1 (fun v H' => ∃ t, f ts = .ok t /\ Same H1 H' /\ Rl X.K H' P t v) (fun cv _ H' => ∃ c, f ts = .exc c /\ cv = cl c /\ Same H1 H') := by
  rw [el]
  refine ⟨by rw [<- rs.length]; exact hL G ts hd, ts, ⟨fun _ => none, fun a => ¬ Off P a⟩, Rls.go gg ts vs rs, fun _ => rfl, ⟨fun a z hn => z (h1.off_new hn), h1.tab⟩, ?_⟩
  cases e : f ts with
  | ok t => exact fun v H' s r => ⟨t, rfl, s, Rl.go (back H') t v r⟩
  | exc c => exact fun dx H' s => ⟨c, rfl, rfl, s⟩
  | stuck => exact hns e
 have hl : (us ++ []).length = ps.length := by rw [eu, <- r.length, <- el]; exact F.len _ _ _ _ sp
 refine wpAny_call (codeAny_mono (F.run X.A X.stack s1 H1 ⟨us, []⟩ (us ++ []) (vs ++ []) _ _ hr J.env0 (hb s1 us J.kIn hl) (by rw [el, eu]; exact r) sp) fun r' s' hq => ?_)
 cases r' with
 | error e =>
  have hq' : CX1 X.prog X.w X.stack H1 s1 (fun cv _ H' => ∃ c, f ts = .exc c /\ cv = cl c /\ Same H1 H') e s' := hq
  obtain ⟨a, cv, T, H', rfl, x, c, ec, rfl, s2⟩ := Xl hp J hq'
  exact xc c ec a T H' s' x (sm.trans s2)
 | ok fl =>
  cases fl with
  | ret u =>
   obtain ⟨v, H', I', rv, t, et, s2, rl⟩ := J.after hq
   exact ok t et v u H' s' I' (sm.trans s2) rl rv
  | next => exact False.elim hq
  | brk => exact False.elim hq
  | cont => exact False.elim hq
def Xo (X : Cx) (cl : Str -> Value) (sub : Str -> Bool) (C' : Addr) : Prop := ∀ c, sub c = true -> ∃ C, cl c = .ref C /\ PySem.W.subIn X.K (.ref C) (.ref C') = some true
theorem handled0 {Cn : Str} {C' : Addr} {sub : Str -> Bool} {c : Str} {dh : DS} {b₀ : Stmt} {suite : List Stmt} {np hpos : Pos} {D : Ends} {G : List Sl} {P : Pv} (F : InFrame X L) (hcn : XCls X.K X.mg Cn C') (hgn : Gl X Cn) (hdb : (Cn == ("__debug__" : Str)) = false) (hsub : Xo X cl sub C') (hs : sub c = true)
  (hh : SVs (cxH X a) (fun _ _ => False) fl (b₀ :: suite) dh) {T : Addr} (x : Exc X pins σ H a (cl c) (some (T, .none)) s) (h : Hol X.K H P σ G) (q : Z2 X.K (fun _ _ => False) fl H P (dh G) D) :
  wpAny (model X.prog X.w) X.A (noteFrame (.ref a) X.env) (fun _ s₂ => wpAny (model X.prog X.w) X.A (setFlight (.ref a) none) (fun _ s₃ => wpAny (model X.prog X.w) X.A (handleBy (.ref a) X.env [.ExceptHandler (some (.Name Cn np)) none (b₀ :: suite) hpos]) (SP X pins D) X.xe s₃) X.xe s₂) X.xe s := by
 refine x.note F fun T1 s1 x1 => x1.flight (fr := none) fun s2 x2 => ?_
 obtain ⟨C, ec, hC⟩ := hsub c hs
 obtain ⟨oe, vs, a0, b1, ho, hc, _⟩ := x2.ob.first
 refine wpAny_handleBy_cons (codeAny_handlers_test (YZ (X := cxH X a) (inv_h x2.inv) hgn hcn.bd ?_ hdb)) (by intro z; cases z)
 refine Wn x2.inv.kIn hcn ho (hc.trans ec) hC ?_
 refine codeAny_handlers_suite (Exc.flight (X := cxH X a) (fr := none) (exc_h x2) fun s3 x3 => ?_)
 refine wpAny_mono (hh pins s3 σ H D x3.inv ⟨G, P, h, q⟩) (fun f s4 h4 => sp_oh x2.inv.ok h4) fun _ _ z => False.elim z
section
variable {Cn : Str} {C' : Addr} {sub : Str -> Bool} {dh : DS} {b₀ : Stmt} {suite : List Stmt} {np hpos : Pos} {ex : Expr} {es : List Expr} {k nps : Nat} {x : Str} {f : DF} {d : DA} {p cpos epos pos : Pos}
theorem ss_try (F : InFrame X L) (C : Clx X.prog X.w X.K X.mg X.base cl k x nps f) (hr : Room k X.A) (hg : Gl X x) (ha : AV X.nox (fun _ _ => False) (ex :: es) d) (hcn : XCls X.K X.mg Cn C') (hgn : Gl X Cn) (hsub : Xo X cl sub C')
  (hh : ∀ a, SVs (cxH X a) (fun _ _ => False) fl (b₀ :: suite) dh) (hL : ∀ G ts, d G = .ok ts -> ts.length = nps := by first | exact Wj | exact W3 | exact V4 | exact len_c4) (hdb : (x == ("__debug__" : Str)) = false := by decide) (hdn : (Cn == ("__debug__" : Str)) = false := by decide)
  (he : starEach (ex :: es) X.env = (false, eval ex X.env) :: starEach es X.env := by rfl) (hpl : (backTo cpos (starEach es X.env)).any (·.1) = false := by rfl) (hsw : swapsWith (.Call (.Name x p) (ex :: es) [] cpos) none epos.line X.env = pure false := by rfl) :
  SV X W fl (.Try [.Expr (.Call (.Name x p) (ex :: es) [] cpos) epos] [.ExceptHandler (some (.Name Cn np)) none (b₀ :: suite) hpos] [] [] pos) (dTry (X0 (XF f d)) sub dh) := by
 intro pins s σ H D I ⟨G, P, h, q⟩
 obtain ⟨h', g⟩ := h.frzA
 unfold dTry X0 XF at q
 cases ed : noX (d (frzA G)) with
 | exc c => rcases Yu (d (frzA G)) with ⟨t, z⟩ | z <;> (rw [ed] at z; cases z)
 | stuck => rw [ed] at q; exact q.elim
 | ok ts =>
  rw [ed, Res.bind_ok] at q
  have hd : d (frzA G) = .ok ts := Wg ed
  refine wpAny_Try_except (wpAny_execs_cons (wpAny_Expr_any (Vg C hr F.pin hg ha hL hdb he hpl I h' hd (fun z => ?_) (fun t et v u H' s' I' sm rl rv => ?_) fun c ec a T H' s' xx sm => ?_) I.quiet hsw))
  ·rw [z] at q; exact q.elim
  ·rw [et] at q
   refine wpAny_execs_nil ?_
   exact wpAny_execs_nil ⟨σ, H', I', q σ H' P (.same sm) (h.same sm)⟩
  ·rw [ec] at q
   simp only [Res.bind_exc] at q
   split at q
   ·rename_i hs
    refine handled0 F hcn hgn hdn hsub hs (hh a) xx (h.same sm) ?_
    cases eh : dh G with
    | ok o =>
     rw [eh] at q
     exact Z2.up (W := fun _ _ => False) (r := .ok o) (by cases o <;> exact q) (.same sm)
    | exc c' => rw [eh] at q; exact q.elim
    | stuck => rw [eh] at q; exact q.elim
   ·exact q.elim
end
theorem V7 {o : HO} (I : Inv X pins σ H s) (A : Alien X pins H a) (ho : YC X.prog X.w (upd H a o) s.heap a o) : Inv X pins σ (upd H a o) s := by
 refine ⟨I.ok, I.os, I.bare, ⟨I.base.keep, I.base.slot, fun b u e n hx => ?_, I.base.there, fun b xs e => ?_, fun b u xs e => ?_, fun b ps e => ?_⟩, I.loc, I.cell, ?_, fun x c e => ?_, fun p hp => ?_, fun b u e => ?_, I.len⟩
 ·rw [Zf (fun z => by rw [z, A.young] at e; cases e)]
  exact I.base.free b u e n hx
 ·have q := I.base.tups b xs e
  rw [Zf (Zt q A.trk)]
  exact q
 ·have q := I.base.frzs b u xs e
  rw [Zf (Zt q A.trk)]
  exact q
 ·obtain ⟨m, q⟩ := I.base.tbls b ps e
  exact ⟨m, by rw [Zf (Zt q A.trk)]; exact q⟩
 ·rw [Zf (Ne.symm A.loc)]; exact I.free
 ·rw [Zf (A.cell x c e)]; exact I.freeC x c e
 ·obtain ⟨e, q, r⟩ := I.pin p hp
  exact ⟨e, by rw [Zf (A.pin p hp)]; exact q, r⟩
 ·by_cases hb : b = a
  ·subst hb
   rw [Zi] at e
   cases e
   exact ho
  ·rw [Zf hb] at e
   exact (I.hok b u e).stay (fun _ _ _ q => q) (fun c q => by rw [Zf (Zt q A.trk)]; exact q) fun c ys q => by rw [Zf (Zt q A.trk)]; exact q
theorem VE {M : Model} {A : Around} {Ee : Value -> Shared -> Prop} {i : Nat} {x : Str} {v : V} {Q : Unit -> Shared -> Prop} (I : Inv X pins σ H s) (hN : X.N.Nodup) (hi : X.N[i]? = some x) (hv : σ[i]? = some (some v)) (hx : X.env.kindOf x = some .local)
  (h : ∀ s', Inv X pins (σ.set i none) H s' -> Q () s') : wpAny M A (unbindName X.env x) Q Ee s := by
 obtain ⟨m, hn, hl⟩ := id I.loc
 have hcls : (X.env.scope.kind == .class || (X.env.scope.kind == .module && X.env.locals != X.env.globals)) = false := by rw [I.ok.kind]; rfl
 obtain ⟨u, _, lk⟩ := hl i x v hi hv (.inl hx)
 have hm : m x = some u := by
  rcases lk with ⟨_, e⟩ | ⟨k, _⟩
  ·exact e
  ·rw [hx] at k; rcases k with k | k <;> cases k
 have hiσ : i < σ.length := by rw [I.len]; exact (List.getElem?_eq_some_iff.mp hi).1
 obtain ⟨oL, _, _, hoL, _⟩ := id hn
 have low : ∀ b o, X.s₀.heap.get? b = some o -> b ≠ X.env.locals := fun b o e => Nat.ne_of_lt (Nat.lt_of_lt_of_le (Heap.lt_size e) I.ok.above)
 refine wpAny_unbindName_local hx hn hm hcls fun h' w hn' hs => h _ ⟨I.ok, I.os, I.bare, ⟨fun b o e n hb hx => (hs.2 b (low b o e)).trans (I.base.keep b o e n hb hx), fun b o e n hb hx => ?_, I.base.free, fun b o e hx => ?_, I.base.tups, I.base.frzs, I.base.tbls⟩,
  ⟨_, hn', fun j y v' e1 e2 e3 => ?_⟩, fun y c e => ?_, I.free, I.freeC, fun p hp => ?_, fun b ob e => ?_, by simpa using I.len⟩
 ·obtain ⟨sl, e1⟩ := I.base.slot b o e n hb hx
  exact ⟨sl, (hs.2 b (low b o e)).trans e1⟩
 ·obtain ⟨o', e1⟩ := I.base.there b o e hx
  exact ⟨o', (hs.2 b (low b o e)).trans e1⟩
 ·by_cases hj : j = i
  ·subst hj
   rw [List.getElem?_set_self hiσ] at e2
   cases e2
  ·rw [List.getElem?_set_ne (Ne.symm hj)] at e2
   obtain ⟨u', r', q⟩ := hl j y v' e1 e2 e3
   refine ⟨u', r', ?_⟩
   rcases q with ⟨k, e⟩ | ⟨k, c, e, z⟩
   ·refine .inl ⟨k, ?_⟩
    have : y ≠ x := fun e => hj (XT hN e1 (e ▸ hi))
    simp [this, e]
   ·exact .inr ⟨k, c, e, z.sameBut hs (I.cne y c e)⟩
 ·obtain ⟨w', z⟩ := I.cell y c e
  exact ⟨w', z.sameBut hs (I.cne y c e)⟩
 ·obtain ⟨e, n, ne, nf, d⟩ := I.pin p hp
  exact ⟨(hs.2 p.1 ne).trans e, n, ne, nf, d⟩
 ·refine (I.hok b ob e).stay (fun c w' hc q => (hs.2 c ?_).trans q) (fun _ q => q) fun _ _ q => q
  rintro rfl
  rcases hc with z | z
  ·rw [<- z, I.free] at e; cases e
  ·rw [I.free] at z; cases z
theorem Hol.forget {K : PySem.W.Frag} {H : Hp} {P : Pv} {σ : L2.St} {G : List Sl} (h : Hol K H P σ G) (i : Nat) (x : Option V) : ∃ P', Hol K H P' (σ.set i x) (G.set i .emp) /\ Go H P H P' := by
 refine ⟨P.del i, ⟨fun j s q => ?_, fun a b c h1 h2 => ?_, fun j a z => ?_, h.fbd, fun j a z => ?_, by rw [List.length_set, List.length_set]; exact h.len, h.tab⟩, .del⟩
 ·by_cases e : j = i
  ·subst e
   have hl : j < G.length := by simpa using (List.getElem?_eq_some_iff.mp q).1
   rw [List.getElem?_set_self hl] at q
   cases q
   trivial
  ·rw [List.getElem?_set_ne (Ne.symm e)] at q
   have z := h.sl j s q
   rw [YI e]
   cases s with
   | emp => trivial
   | val t' => obtain ⟨v', e1, r'⟩ := z; exact ⟨v', e1, Rl.go .del t' v' r'⟩
   | own xs => obtain ⟨p, vs, e1, e2, e3, r'⟩ := z; exact ⟨p, vs, e1, (by show (if j = i then none else P.own j) = _; rw [if_neg e]; exact e2), e3, Rls.go .del xs vs r'⟩
 ·have h1' : (if a = i then none else P.own a) = some c := h1
  have h2' : (if b = i then none else P.own b) = some c := h2
  split at h1'
  ·cases h1'
  ·split at h2'
   ·cases h2'
   ·exact h.inj a b c h1' h2'
 ·have z' : (if j = i then none else P.own j) = some a := z
  split at z'
  ·cases z'
  ·rename_i ne
   obtain ⟨xs, q⟩ := h.only j a z'
   exact ⟨xs, by rw [List.getElem?_set_ne (Ne.symm ne)]; exact q⟩
 ·have z' : (if j = i then none else P.own j) = some a := z
  split at z'
  ·cases z'
  ·exact h.nfb j a z'
def endsA (K : PySem.W.Frag) (H : Hp) (P : Pv) (i : Nat) (D : Ends) : Ends where
 nx := fun σ' H' => ∃ G' P', Go H P H' P' /\ Hol K H' P' σ' G' /\ ∀ σ2 P2, Go H P H' P2 -> Hol K H' P2 σ2 (G'.set i .emp) -> D.nx σ2 H'
 rt := D.rt
theorem VD {i : Nat} {n : Str} {hpos : Pos} {Q : Unit -> Shared -> Prop} (I : Inv X pins σ H s) (hN : X.N.Nodup) (hi : X.N[i]? = some n) (hn : X.env.kindOf n = some .local) (q : ∀ s', Inv X pins ((σ.set i (some .non)).set i none) H s' -> Q () s') :
  wpAny (model X.prog X.w) X.A (do bindName X.env n .none; unbindBehindTheSuite X.env n hpos) Q X.xe s := by
 refine wpAny_bind (wpAny_bindName (Xc I hN hi (.inl hn) (v := .non) rfl (fun s1 I1 => ?_) (.inr hn)))
 unfold unbindBehindTheSuite
 refine wpAny_onRaise (VE I1 hN hi (v := .non) ?_ hn fun s2 I2 => q s2 I2)
 exact List.getElem?_set_self (by rw [I.len]; exact (List.getElem?_eq_some_iff.mp hi).1)
theorem handledA {Cn n : Str} {i : Nat} {C' : Addr} {sub : Str -> Bool} {c : Str} {dh : DS} {b₀ : Stmt} {suite : List Stmt} {np hpos : Pos} {D : Ends} {G : List Sl} {P : Pv} (F : InFrame X L) (hcn : XCls X.K X.mg Cn C') (hgn : Gl X Cn) (hdb : (Cn == ("__debug__" : Str)) = false) (hsub : Xo X cl sub C') (hs : sub c = true)
  (hve : ∀ C, cl c = .ref C -> PySem.W.subIn X.K (.ref C) (.type "ValueError") = some true) (hN : X.N.Nodup) (hi : X.N[i]? = some n) (hn : X.env.kindOf n = some .local)
  (hh : SVs (cxH X a) (fun _ _ => False) fl (b₀ :: suite) dh) {T : Addr} (x : Exc X pins σ H a (cl c) (some (T, .none)) s) (h : Hol X.K H P σ G)
  (q : Z2 X.K (fun _ _ => False) fl H P ((noX (dh (G.set i (.val (.dict []))))).bind fun o => match o with
   | .nx G' => .ok (.nx (G'.set i .emp))
   | .rt t => .ok (.rt t)
   | _ => .stuck) D) :
  wpAny (model X.prog X.w) X.A (noteFrame (.ref a) X.env) (fun _ s₂ => wpAny (model X.prog X.w) X.A (setFlight (.ref a) none) (fun _ s₃ => wpAny (model X.prog X.w) X.A (handleBy (.ref a) X.env [.ExceptHandler (some (.Name Cn np)) (some n) (b₀ :: suite) hpos]) (SP X pins D) X.xe s₃) X.xe s₂) X.xe s := by
 refine x.note F fun T1 s1 x1 => x1.flight (fr := none) fun s2 x2 => ?_
 obtain ⟨C, ec, hC⟩ := hsub c hs
 obtain ⟨oe, vs, a0, b1, ho, hc, _⟩ := x2.ob.first
 refine wpAny_handleBy_cons (codeAny_handlers_test (YZ (X := cxH X a) (inv_h x2.inv) hgn hcn.bd ?_ hdb)) (by intro z; cases z)
 refine Wn x2.inv.kIn hcn ho (hc.trans ec) hC ?_
 refine codeAny_handlers_suite_as (Exc.flight (X := cxH X a) (fr := none) (exc_h x2) fun s3 x3 => ?_)
 obtain ⟨oe3, vs3, a03, b13, ho3, hc3, _⟩ := x3.ob.first
 have hx0 : H a = none := x3.al.trk
 have I4 : Inv (cxH X a) pins σ (upd H a (XO X.K a)) s3 := by
  refine V7 x3.inv x3.al ⟨⟨oe3, C, ho3, hc3.trans ec, hve C ec⟩, ⟨oe3, ho3⟩, ?_⟩
  rintro h1 h2 ⟨ob, C1, e1, e2, e3⟩ k
  exact ⟨ob, C1, k ob e1, e2, e3⟩
 refine Xc (X := cxH X a) I4 hN hi (.inl hn) (v := .ref a) rfl (fun s4 I5 => ?_) (.inr hn)
 have h4 : Hol X.K (upd H a (XO X.K a)) (P.del i) (σ.set i (some (.ref a))) (G.set i (.val (.dict []))) := (h.same (Zu hx0)).setVal i (rl_exc.mpr ⟨a, rfl, Zi, h.off_new hx0⟩)
 have g4 : Go H P (upd H a (XO X.K a)) (P.del i) := (Go.same (Zu hx0)).trans .del
 refine wpAny_mono (hh pins s4 _ _ (endsA X.K H P i D) I5 ⟨_, _, h4, ?_⟩) (fun f s5 h5 => ?_) fun _ _ z => False.elim z
 ·cases ed : dh (G.set i (.val (.dict []))) with
  | stuck => rw [ed] at q; exact q.elim
  | exc c => rw [ed] at q; exact q.elim
  | ok o =>
   rw [ed] at q
   cases o with
   | nx G' => exact fun σ' H' P' g' h' => ⟨G', P', g4.trans g', h', fun σ2 P2 g2 h2 => q σ2 H' P2 g2 h2⟩
   | rt t => exact fun v H' P' g' r n => q v H' P' (g4.trans g') r fun z => (n z).back g4
   | bk G' => exact q.elim
   | ct G' => exact q.elim
 ·have ok := x2.inv.ok
  cases f with
  | next =>
   obtain ⟨σ', H', I6, G', P', g', h', q'⟩ := h5
   refine VD (XA ok I6) hN hi hn fun s6 I7 => ⟨_, H', I7, ?_⟩
   obtain ⟨P2, h2, g2⟩ := h'.forget i (some .non)
   obtain ⟨P3, h3, g3⟩ := h2.forget i none
   have e3 : (G'.set i Sl.emp).set i Sl.emp = G'.set i Sl.emp := List.set_set ..
   rw [e3] at h3
   exact q' _ P3 (g'.trans (g2.trans g3)) h3
  | ret u =>
   obtain ⟨v, σ', H', I6, rv, q'⟩ := h5
   exact VD (XA ok I6) hN hi hn fun s6 I7 => ⟨v, _, H', I7, rv, q'⟩
  | brk => obtain ⟨_, _, _, z⟩ := h5; exact False.elim z
  | cont => obtain ⟨_, _, _, z⟩ := h5; exact False.elim z
section
variable {Cn n : Str} {i : Nat} {C' : Addr} {sub : Str -> Bool} {dh : DS} {b₀ : Stmt} {suite : List Stmt} {np hpos : Pos} {ex : Expr} {es : List Expr} {k nps : Nat} {x : Str} {f : DF} {d : DA} {p cpos epos pos : Pos}
theorem ss_tryA (F : InFrame X L) (C : Clx X.prog X.w X.K X.mg X.base cl k x nps f) (hr : Room k X.A) (hg : Gl X x) (ha : AV X.nox (fun _ _ => False) (ex :: es) d) (hcn : XCls X.K X.mg Cn C') (hgn : Gl X Cn) (hsub : Xo X cl sub C')
  (hve : ∀ c, sub c = true -> ∀ C, cl c = .ref C -> PySem.W.subIn X.K (.ref C) (.type "ValueError") = some true) (hN : X.N.Nodup) (hi : X.N[i]? = some n) (hn : X.env.kindOf n = some .local)
  (hh : ∀ a, SVs (cxH X a) (fun _ _ => False) fl (b₀ :: suite) dh) (hL : ∀ G ts, d G = .ok ts -> ts.length = nps := by first | exact Wj | exact W3 | exact V4 | exact len_c4) (hdb : (x == ("__debug__" : Str)) = false := by decide) (hdn : (Cn == ("__debug__" : Str)) = false := by decide)
  (he : starEach (ex :: es) X.env = (false, eval ex X.env) :: starEach es X.env := by rfl) (hpl : (backTo cpos (starEach es X.env)).any (·.1) = false := by rfl) (hsw : swapsWith (.Call (.Name x p) (ex :: es) [] cpos) none epos.line X.env = pure false := by rfl) :
  SV X W fl (.Try [.Expr (.Call (.Name x p) (ex :: es) [] cpos) epos] [.ExceptHandler (some (.Name Cn np)) (some n) (b₀ :: suite) hpos] [] [] pos) (dTryA i (X0 (XF f d)) sub dh) := by
 intro pins s σ H D I ⟨G, P, h, q⟩
 obtain ⟨h', g⟩ := h.frzA
 unfold dTryA X0 XF at q
 cases ed : noX (d (frzA G)) with
 | exc c => rcases Yu (d (frzA G)) with ⟨t, z⟩ | z <;> (rw [ed] at z; cases z)
 | stuck => rw [ed] at q; exact q.elim
 | ok ts =>
  rw [ed, Res.bind_ok] at q
  have hd : d (frzA G) = .ok ts := Wg ed
  refine wpAny_Try_except (wpAny_execs_cons (wpAny_Expr_any (Vg C hr F.pin hg ha hL hdb he hpl I h' hd (fun z => ?_) (fun t et v u H' s' I' sm rl rv => ?_) fun c ec a T H' s' xx sm => ?_) I.quiet hsw))
  ·rw [z] at q; exact q.elim
  ·rw [et] at q
   refine wpAny_execs_nil ?_
   exact wpAny_execs_nil ⟨σ, H', I', q σ H' P (.same sm) (h.same sm)⟩
  ·rw [ec] at q
   simp only [Res.bind_exc] at q
   split at q
   ·rename_i hs
    refine handledA F hcn hgn hdn hsub hs (hve c hs) hN hi hn (hh a) xx (h.same sm) ?_
    have q' := Z2.up q (.same sm)
    revert q'
    cases dh (G.set i (.val (.dict []))) with
    | ok o => cases o <;> exact fun z => z
    | exc c' => exact fun z => z.elim
    | stuck => exact fun z => z.elim
   ·exact q.elim
end
end
end Fx
namespace Fx
open PySem PySem.Spec PyProof.Rows L2
section
variable {X : Cx} {W : Str -> Hp -> Prop} {a b c e : Expr} {es : List Expr} {da db : DE} {pos : Pos}
theorem XB {i : Nat} {x : Str} {p1 : Pos} (hi : X.N[i]? = some x) (hb : EV X W b db) (hs : X5 b) (hv : Vis X.env.scope x := by first | exact Or.inl rfl | exact Or.inr (Or.inl rfl) | exact Or.inr (Or.inr rfl)) (hd : (x == ("__debug__" : Str)) = false := by decide)
  (hcd : (x == ("__classdict__" : Str)) = false := by decide) : EV X W (.Subscript (.Name x p1) b pos) (dIxN i db) :=
 Zn (pe_ix (WI.or ix_tup) (W2 hi hv hd hcd) hb hs) fun σ H Q ⟨G, P, h, q⟩ => by
  unfold dIxN at q
  cases e : G[i]? with
  | none => rw [e] at q; exact q.elim
  | some s =>
   rw [e] at q
   cases s with
   | emp => exact q.elim
   | own xs =>
    obtain ⟨p, vs, ev, ep, eh, rs⟩ := h.sl i _ e
    refine ⟨.ref p, getD_some ev, ?_⟩
    obtain ⟨q1, q2, q3⟩ := Xt q
    refine Zp h q1 q2 fun ty y H1 ey s1 h1 ry => ?_
    have q4 := Z3.up (q3 ty ey) s1
    cases ty <;> try exact q4.elim
    rename_i j
    simp only [fIx] at q4
    cases et : atP xs j with
    | none => rw [et] at q4; exact q4.elim
    | some t =>
     rw [et] at q4
     obtain ⟨v, e1, r⟩ := Wz (Rls.go (.same s1) xs vs rs) et
     exact .inl ⟨p, vs, j, v, rfl, Zo.mp ry, SqL.of (s1.kp _ _ eh ZN), e1, q4 v H1 (Same.refl H1) r⟩
   | val t =>
    obtain ⟨v, ev, rx⟩ := h.sl i _ e
    refine ⟨v, getD_some ev, ?_⟩
    obtain ⟨q1, q2, q3⟩ := Xt q
    refine Zp h q1 q2 fun ty y H1 ey s1 h1 ry => ?_
    have q4 := Z3.up (q3 ty ey) s1
    have rx1 := Rl.go (.same s1) t v rx
    cases t <;> cases ty <;> try exact q4.elim
    ·rename_i xs j
     obtain ⟨l, us, rfl, s2, r2⟩ := Zw.mp rx1
     simp only [fIx] at q4
     cases et : atP xs j with
     | none => rw [et] at q4; exact q4.elim
     | some t =>
      rw [et] at q4
      obtain ⟨w, e1, r⟩ := Wz r2 et
      exact .inl ⟨l, us, j, w, rfl, Zo.mp ry, s2.sq, e1, q4 w H1 (Same.refl H1) r⟩
    ·rename_i xs j
     obtain ⟨l, us, rfl, s2, r2⟩ := ZG.mp rx1
     simp only [fIx] at q4
     cases et : atP xs j with
     | none => rw [et] at q4; exact q4.elim
     | some t =>
      rw [et] at q4
      obtain ⟨w, e1, r⟩ := Wz r2 et
      exact .inr ⟨l, us, j, w, rfl, Zo.mp ry, s2.sq, e1, q4 w H1 (Same.refl H1) r⟩
theorem VN (n d : Nat) (o : Option Int) : sIxT n d o = HT.sIx n d o := by cases o <;> rfl
theorem cut_rls {K : PySem.W.Frag} {H : Hp} {P : Pv} {xs : List PyData} {vs : List V} (lo hi : Option Int) (r : Rls K H P xs vs) : Rls K H P (cutT xs lo hi) (cutV vs lo hi) := by
 unfold cutT cutV
 rw [VN, VN, r.length]
 exact (r.drop _).take _
def PV (X : Cx) (W : Str -> Hp -> Prop) (e : Option Expr) (d : DP) : Prop := PO X e fun σ H Q => ∃ G P, Hol X.K H P σ G /\ match d G with
 | .ok o => ∀ H', Same H H' -> Q o H'
 | .exc c => ∀ H', Same H H' -> W c H'
 | .stuck => False
theorem pv_no : PV X W none pNo := fun pins s σ H Q I ⟨G, P, h, q⟩ => po_none pins s σ H Q I (q H (Same.refl H))
theorem pv_at (he : EV X W e da) : PV X W (some e) (pAt da) := fun pins s σ H Q I ⟨G, P, h, q⟩ => po_some he pins s σ H Q I (by
 unfold pAt at q
 refine ⟨G, P, h, ?_⟩
 cases ed : da G with
 | stuck => rw [ed] at q; exact q.elim
 | exc c => rw [ed] at q; exact q
 | ok t =>
  rw [ed, Res.bind_ok] at q
  cases t <;> try exact q.elim
  exact fun v H' s r => ⟨_, Zo.mp r, q H' s⟩)
theorem ov_cut {lo hi : Option Expr} {dl dh : DP} {p2 : Pos} (ha : EV X W a da) (hl : PV X W lo dl) (hh : PV X W hi dh) : OV X W (.Subscript a (.Slice lo hi none p2) pos) (oCut da dl dh) :=
 Zn (pe_slice sl_list ha hl hh) fun σ H Q ⟨G, P, h, q⟩ => by
  unfold oCut at q
  obtain ⟨q1, q2, q3⟩ := bindEO q
  refine Zp h q1 q2 fun tx x H1 ex s1 h1 rx => ⟨G, P, h1, ?_⟩
  have q4 := q3 tx ex
  cases el : dl G with
  | stuck => rw [el] at q4; exact q4.elim
  | exc c => rw [el] at q4; exact fun H' s => q4 H' (s1.trans s)
  | ok l =>
   rw [el, Res.bind_ok] at q4
   refine fun H2 s2 => ⟨G, P, h1.same s2, ?_⟩
   cases eh : dh G with
   | stuck => rw [eh] at q4; exact q4.elim
   | exc c => rw [eh] at q4; exact fun H' s => q4 H' ((s1.trans s2).trans s)
   | ok u =>
    rw [eh, Res.bind_ok] at q4
    intro H3 s3
    cases tx <;> try exact q4.elim
    obtain ⟨p, vs, rfl, sl, rs⟩ := Zw.mp (Rl.go (.same (s2.trans s3)) _ x rx)
    exact ⟨p, vs, rfl, sl.sq, fun p hp => q4 p _ _ (((s1.trans s2).trans s3).trans (Zu hp)) (((s1.trans s2).trans s3).free hp) Zi (WE hp (cut_rls l u rs))⟩
end
theorem XG {X : Cx} {cl : Str -> Value} {C' : Addr} : Xo X cl (subs []) C' := fun c h => by simp at h
theorem Xn {X : Cx} {cl : Str -> Value} {C' C : Addr} {x : Str} {l : List Str} (e : cl x = .ref C) (h : PySem.W.subIn X.K (.ref C) (.ref C') = some true) (r : Xo X cl (subs l) C') : Xo X cl (subs (x :: l)) C' := fun c hc => by
 simp only [subs, List.contains_cons, Bool.or_eq_true] at hc
 rcases hc with z | z
 ·have : c = x := by simpa using z
  subst this
  exact ⟨C, e, h⟩
 ·exact r c z
theorem ve_nil {X : Cx} {cl : Str -> Value} : ∀ c, subs [] c = true -> ∀ C, cl c = .ref C -> PySem.W.subIn X.K (.ref C) (.type "ValueError") = some true := fun c h => by simp at h
theorem ve_cons {X : Cx} {cl : Str -> Value} {C : Addr} {x : Str} {l : List Str} (e : cl x = .ref C) (h : PySem.W.subIn X.K (.ref C) (.type "ValueError") = some true) (r : ∀ c, subs l c = true -> ∀ C, cl c = .ref C -> PySem.W.subIn X.K (.ref C) (.type "ValueError") = some true) :
  ∀ c, subs (x :: l) c = true -> ∀ C, cl c = .ref C -> PySem.W.subIn X.K (.ref C) (.type "ValueError") = some true := fun c hc C' ec => by
 simp only [subs, List.contains_cons, Bool.or_eq_true] at hc
 rcases hc with z | z
 ·have : c = x := by simpa using z
  subst this
  rw [e] at ec
  cases ec
  exact h
 ·exact r c z C' ec
end Fx
namespace Fx
open PySem
def dUnp (st : PyData -> List Sl -> Res (List Sl)) (is : List Nat) (e : DE) : DS := fun G => (e (frz is G)).bind fun t => (st t (if Zy t then G else frz is G)).bind fun G' => .ok (.nx G')
@[simp] theorem dUnp_cons (st : PyData -> List Sl -> Res (List Sl)) (i : Nat) (is : List Nat) (e : DE) (G : List Sl) : dUnp st (i :: is) e G = (e (frz (i :: is) G)).bind fun t => (st t (if Zy t then G else frz (i :: is) G)).bind fun G' => .ok (.nx G') := rfl
@[simp] def set2 (i j : Nat) (G : List Sl) : List PyData -> Res Out
 | [x, y] => .ok (.nx ((G.set i (.val x)).set j (.val y)))
 | _ => .stuck
def dPar (i j : Nat) (is : List Nat) (d : DA) : DS := fun G => (d (frz is G)).bind fun ts => set2 i j (if ZX ts then G else frz is G) ts
@[simp] theorem dPar_cons (i j k : Nat) (is : List Nat) (d : DA) (G : List Sl) : dPar i j (k :: is) d G = (d (frz (k :: is) G)).bind fun ts => set2 i j (if ZX ts then G else frz (k :: is) G) ts := rfl
end Fx
namespace Fx
open PySem
def lkp (f : Str) : List (PyData × PyData) -> Option PyData
 | [] => none
 | (.str n, t) :: r => if n = f then some t else lkp f r
 | _ => none
def fFld (f : Str) : PyData -> Res PyData
 | .dict kvs => ofO (lkp f kvs)
 | _ => .stuck
end Fx
namespace Fx
open PySem PySem.Spec PyProof.Rows L2
section
variable {X : Cx} {qual : Str} {scope : Scope} {N : List Str} {y : Str} {cap : List Nat} {pins : List (Addr × Obj)} {σ : L2.St} {H : Hp} {s : Shared} {f : Addr} {cd : Value}
def UE (mg : Str -> Option Value) (base : Heap) : Prop := ∃ bm ob, mg "__builtins__" = some (.ref bm) /\ bm ≠ builtinsNs /\ bm ≠ mainGlobals /\ base.get? bm = some ob /\ ob.cls = .type "module" /\ ob.dict = some builtinsNs /\ ob.data = .plain
theorem lam_one {x x' : Str} (h : x ∈ YA) (h' : x' ∈ YA) : x = x' := by
 unfold YA at h h'
 rw [List.mem_singleton.mp h, List.mem_singleton.mp h']
end
end Fx
namespace Fx
open PySem PySem.Spec PyProof.Rows L2
theorem Vm {K : PySem.W.Frag} {x : Str} {c T : Addr} (t : PySem.W.tabIn K x = some (c, T)) : ∃ o, K.lookup c = some o := by
 unfold PySem.W.tabIn at t
 split at t
 ·split at t
  ·split at t
   ·split at t
    ·rename_i hco
     split at t
     ·cases t; exact ⟨_, hco⟩
     ·cases t
    ·cases t
   ·cases t
  ·cases t
 ·cases t
theorem Vx {K : PySem.W.Frag} {x : Str} {c T : Addr} {b : Heap} (t : PySem.W.tabIn K x = some (c, T)) (hb : K.In b) (h : PySem.W.CodeHd b c T) : ∀ h' : Heap, K.In h' -> PySem.W.CodeHd h' c T := fun h' hk => by
 obtain ⟨o0, e0⟩ := Vm t
 obtain ⟨o, vs, file, tf, flags, tg, inF, text, tt, e, r⟩ := h
 have := hb _ _ e0
 rw [e] at this
 cases this
 exact ⟨_, vs, file, tf, flags, tg, inF, text, tt, hk _ _ e0, r⟩
theorem V5 {P : Program} {w : World} {K : PySem.W.Frag} {mg mb : Str -> Option Value} {k : Nat} {fa a c T : Addr} {fd : FuncData} {x x0 : Str} {f : DF} {s₁ : Shared} {vs : List Value} {ns : List Int}
  (KX : K.In s₁.heap) (hns : s₁.heap.Ns mainGlobals mg) (hb : s₁.heap.Ns builtinsNs mb) (hbb : ∀ x : Str, x ≠ "__name__" -> mb x = bootBuiltins x) (hlim : s₁.heap.NoLimit) (hg : s₁.gens = #[])
  (bmain : UE mg s₁.heap) (htb : PySem.W.tabIn K x0 = some (c, T)) (hx0 : x0 ∈ YA) (hno : PySem.W.noTabs K = true) (hC : PySem.W.CodeHd s₁.heap c T) (hT : s₁.heap.get? T = some (PySem.W.tabObj #[]))
  (ha : s₁.heap.get? a = some { cls := .type "list", data := .seq vs.toArray }) (hi : IntsAre vs ns) (hl : ns.length <= sizeLine) (hr : Room k callerA)
  (F : ∀ base : Heap, K.In base -> base.Ns mainGlobals mg -> UE mg base -> PySem.W.CodeHd base c T -> FnOk P w K mg base CX0 k fa fd [x] (spF K none 1 f)) (hbind : ∀ (s : Shared) (u : Value), BindsTo s fd ⟨[u], []⟩ [(x, u)])
  (hok : f [.list (ns.map .int)] = .ok (.bool true)) :
  codeAny (model P w) callerA (.call (.ref fa) ⟨[.ref a], []⟩) (fun r s' => r = .ok (.ret (.bool true)) /\ OldK s₁.heap s'.heap /\ s'.os = s₁.os /\ AllBare s'.gens) s₁ := by
 have rv := X7 hi
 have lenV := hi.length
 have haT : a ≠ T := fun e => by rw [e, hT] at ha; cases ha
 have hKT : ∀ b o, K.lookup b = some o -> b ≠ T := fun b o e z => by
  have h2 := List.all_eq_true.mp hno (b, o) (PySem.W.mem_of_lookupK e)
  have h3 := KX _ _ e
  rw [z, hT] at h3
  cases h3
  exact absurd (show false = true from h2) Bool.false_ne_true
 -- from an abstract heap in which nothing but the table and the script may be tracked
 have core : ∀ H : Hp, H T = some (.tbl #[]) -> SqL K H a (ns.map V.int) -> HOk P w H s₁.heap -> (∀ b, H b ≠ none -> b = a \/ b = T) -> (∀ o, H a = some o -> K.lookup a = none /\ ∃ ob xs, o = .frz ob (.lst xs)) ->
   codeAny (model P w) callerA (.call (.ref fa) ⟨[.ref a], []⟩) (fun r s' => r = .ok (.ret (.bool true)) /\ OldK s₁.heap s'.heap /\ s'.os = s₁.os /\ AllBare s'.gens) s₁ := by
  intro H hHT hS hok' hA hK
  have base_of : ∀ {b : Addr} {o : Obj}, s₁.heap.get? b = some o -> H b = none -> (hidT s₁.heap H).get? b = some o := fun e n => hidT_get e n
  have noD : ∀ {b : Addr} {o : Obj}, s₁.heap.get? b = some o -> b ≠ T -> (∀ xs n, o.data ≠ .seq xs n) -> H b = none := fun {b o} e nt d => by
   cases q : H b with
   | none => rfl
   | some u =>
    rcases hA b (by rw [q]; simp) with e' | e'
    ·subst e'
     rw [ha] at e; cases e
     exact absurd rfl (d _ _)
    ·exact absurd e' nt
  have nsK : ∀ {b : Addr} {m : Str -> Option Value}, s₁.heap.Ns b m -> (hidT s₁.heap H).Ns b m := fun {b m} ⟨o, es, ep, e, d, r⟩ => ⟨o, es, ep, base_of e (noD e (fun z => by rw [z, hT] at e; cases e; cases d) fun xs n z => by rw [d] at z; cases z), d, r⟩
  have hKb : K.In (hidT s₁.heap H) := fun b o e => base_of (KX b o e) (by
   cases q : H b with
   | none => rfl
   | some u =>
    rcases hA b (by rw [q]; simp) with e' | e'
    ·subst e'
     rw [(hK u q).1] at e; cases e
    ·exact absurd e' (hKT b o e))
  have hBb : UE mg (hidT s₁.heap H) := by
   obtain ⟨bm, ob, b1, b2, b3, b4, b5, b6, b7⟩ := bmain
   exact ⟨bm, ob, b1, b2, b3, base_of b4 (noD b4 (fun z => by rw [z, hT] at b4; cases b4; cases b5) fun xs n z => by rw [b7] at z; cases z), b5, b6, b7⟩
  have hCb : PySem.W.CodeHd (hidT s₁.heap H) c T := Vx htb KX hC _ hKb
  have hM : Mod K mg (hidT s₁.heap H) := ⟨hKb, nsK hns, ⟨mb, nsK hb, hbb⟩, let ⟨mc, h1, h2⟩ := hlim; ⟨mc, nsK h1, h2⟩⟩
  have e0 : Env0 P w K mg (hidT s₁.heap H) callerA [] s₁ H := ⟨rfl, hM, fun b o e => of_hidT e, Nat.le_of_eq (Ua _ _), trivial, fun b hb => absurd (show b ∈ ([] : List Addr) from hb) (by simp), hok', .of_eq hg⟩
  have tk : Ys K H := fun x1 c1 T1 h1 h2 => by
   have e1 : x1 = x0 := lam_one h1 hx0
   subst e1
   rw [htb] at h2
   cases h2
   exact ⟨#[], hHT, trivial, fun pos cv z => by simp [codeAmong] at z⟩
  refine codeAny_mono ((F _ hKb (nsK hns) hBb hCb).run callerA [] s₁ H ⟨[.ref a], []⟩ [.ref a] [.ref a] _ (fun _ _ _ => False) hr e0 (hbind s₁ (.ref a)) (.cons rfl .nil) (law_sp hok tk hS)) fun r s' h => ?_
  cases r with
  | error e => exact False.elim h
  | ok fl =>
   cases fl with
   | next => exact False.elim h
   | brk => exact False.elim h
   | cont => exact False.elim h
   | ret u =>
    obtain ⟨v, H', os, bare, un, hok2, r', q⟩ := h
    have q' : v = .bl true := q
    subst q'
    obtain rfl : u = Value.bool true := r'
    have keep : ∀ b o, b ≠ T -> s₁.heap.get? b = some o -> s'.heap.get? b = some o := fun b o nb e => by
     cases q : H b with
     | none => exact un.keep b o e q (by intro z; exact absurd (show b ∈ ([] : List Addr) from z) (by simp)) (by simp)
     | some u =>
      rcases hA b (by rw [q]; simp) with e' | e'
      ·subst e'
       obtain ⟨_, ob, xs, rfl⟩ := hK u q
       have z2 := un.frzs b ob _ q
       obtain ⟨e1, _⟩ := hok' b _ q
       obtain ⟨e2, _⟩ := hok2 b _ z2
       rw [e] at e1; cases e1
       exact e2
      ·exact absurd e' nb
    obtain ⟨more, hT'⟩ := un.tbls T _ hHT
    have hTo : s'.heap.get? T = some (PySem.W.tabObj (#[] ++ more)) := hok2 T _ hT'
    refine ⟨rfl, ⟨fun b o e => ?_, fun b o e => ?_⟩, os, bare⟩
    ·by_cases nb : b = T
     ·subst nb
      rw [hT] at e
      cases e
      exact .inr (.inl ⟨(hC.tab hT).isCodeTable, rfl, #[], more, rfl, hTo⟩)
     ·exact .inl (keep b o nb e)
    ·by_cases nb : b = T
     ·subst nb; exact ⟨_, hTo⟩
     ·exact ⟨o, keep b o nb e⟩
 cases hk : K.lookup a with
 | some o =>
  have e := KX a o hk
  rw [ha] at e
  cases e
  refine core (fun b => if b = T then some (.tbl #[]) else none) (if_pos rfl) (.inr ⟨_, vs.toArray, _, hk, rfl, rfl, rfl, by rw [List.size_toArray, lenV]; exact hl, by simpa using rv⟩) (fun b u z => ?_) (fun b z => ?_) fun o z => ?_
  ·by_cases hb : b = T
   ·have z' := (if_pos hb).symm.trans z
    cases z'
    subst hb
    exact hT
   ·have z' := (if_neg hb).symm.trans z
    cases z'
  ·by_cases hb : b = T
   ·exact .inr hb
   ·exact absurd (if_neg hb) z
  ·have z' := (if_neg haT).symm.trans z
   cases z'
 | none =>
  refine core (fun b => if b = T then some (.tbl #[]) else if b = a then some (.frz { cls := .type "list", data := .seq vs.toArray } (.lst (ns.map V.int))) else none) (if_pos rfl) (.inl (.inr ⟨{ cls := .type "list", data := .seq vs.toArray }, (if_neg haT).trans (if_pos rfl)⟩)) (fun b u z => ?_) (fun b z => ?_) fun o z => ?_
  ·by_cases hb : b = T
   ·have z' := (if_pos hb).symm.trans z
    cases z'
    subst hb
    exact hT
   ·have z1 := (if_neg hb).symm.trans z
    by_cases hb2 : b = a
    ·have z' := (if_pos hb2).symm.trans z1
     cases z'
     subst hb2
     exact ⟨ha, by rw [List.length_map]; exact hl, vs, _, rv, ha⟩
    ·have z' := (if_neg hb2).symm.trans z1
     cases z'
  ·by_cases hb : b = T
   ·exact .inr hb
   ·by_cases hb2 : b = a
    ·exact .inl hb2
    ·exact absurd ((if_neg hb).trans (if_neg hb2)) z
  ·have z' := ((if_neg haT).trans (if_pos rfl)).symm.trans z
   cases z'
   exact ⟨hk, _, _, rfl⟩
theorem walk_T {l : PySem.W.OpenLaw} {n k : Nat} {q : Program} {loose : List Str} {XP : (Str -> Option Value) -> Heap -> Prop} {YP : World -> Heap -> Prop} {d d0 : DefRec} {K : Params -> PySem.W.Frag} {x x0 : Str} {f : DF}
  (hn : l.most = some n) (hn2 : n <= sizeLine) (hdf : d.params.defaults = []) (hr : Room k callerA) (hx0 : x0 ∈ YA) (hrec : (recsOf q).find? (fun e => e.name == x0) = some d0)
  (hY : ∀ (w : World) (h : Heap), YP w h -> (K w.params).In h)
  (F : ∀ (w : World) (mg : Str -> Option Value) (fa : Addr) (h : Heap), (K w.params).In h -> h.Ns mainGlobals mg -> mg d.name = some (.ref fa) ->
   ∃ (fd : FuncData) (c T : Addr), PySem.W.tabIn (K w.params) x0 = some (c, T) /\ PySem.W.noTabs (K w.params) = true /\ (∀ (s : Shared) (u : Value), BindsTo s fd ⟨[u], []⟩ [(x, u)]) /\
    ∀ base : Heap, (K w.params).In base -> base.Ns mainGlobals mg -> UE mg base -> PySem.W.CodeHd base c T -> FnOk l.prog w (K w.params) mg base CX0 k fa fd [x] (spF (K w.params) none 1 f))
  (hok : ∀ ns : List Int, ns.length <= n -> f [.list (ns.map .int)] = .ok (.bool true)) :
  PySem.W.WalkO q loose XP YP l.row.toRowW d [] (fun f vs => PySem.call f vs) := by
 refine Att.attach_call hn hdf fun w s₀ s₁ mg mb fa o pm cd doc a vs ns G Y ho hd hcd hmg hobj hints hlen hg => ?_
 have KX := hY w _ Y
 obtain ⟨fd, c, T, htb, hno, hb, hF⟩ := F w mg fa _ KX G.T.g hmg
 obtain ⟨hC, hT⟩ := PySem.W.tab_of G.T KX hrec htb
 have hB : UE mg s₁.heap := by
  obtain ⟨bm, ob, b1, b2, b3, b4, b5, b6⟩ := G.T.bmain
  refine ⟨bm, ob, b1, b2, fun z => ?_, b3, b4, b5, b6⟩
  obtain ⟨o, es, ep, e, hdd, _⟩ := G.T.g
  rw [z, e] at b3; cases b3; rw [hdd] at b6; cases b6
 exact V5 KX G.T.g G.T.b G.T.builtins G.T.nolimit hg hB htb hx0 hno hC hT hobj hints (Nat.le_trans hlen hn2) hr hF hb (hok ns hlen)
end Fx
namespace Sx
structure Bd where
 h : Nat -> Nat
 D : Int
 R : Nat -> Nat -> Int
end Sx
namespace Lw
open PySem Fx
structure LB where
 heads : List Nat
 D : Int
 rows : List (List Int)
abbrev eI (xs : List Int) : PyData := .list (xs.map .int)
abbrev eH (hs : List Nat) : PyData := .list (hs.map fun (h : Nat) => .int (h : Int))
def eB (b : LB) : PyData := .dict [(.str "heads", eH b.heads), (.str "divisor", .int b.D), (.str "rows", .list (b.rows.map eI))]
def LB.bd (b : LB) : Sx.Bd := ⟨fun j => b.heads.getD j 0, b.D, fun i j => (b.rows.getD i []).getD j 0⟩
@[simp] theorem bd_D (b : LB) : b.bd.D = b.D := rfl
@[simp] theorem bd_h (b : LB) (j : Nat) : b.bd.h j = b.heads.getD j 0 := rfl
theorem bd_R (b : LB) (i j : Nat) : b.bd.R i j = (b.rows.getD i []).getD j 0 := rfl
@[simp] theorem fld_heads (b : LB) : fFld "heads" (eB b) = .ok (eH b.heads) := rfl
@[simp] theorem fld_div (b : LB) : fFld "divisor" (eB b) = .ok (.int b.D) := rfl
@[simp] theorem fld_rows (b : LB) : fFld "rows" (eB b) = .ok (.list (b.rows.map eI)) := rfl
@[simp] theorem scalT_eB (b : LB) : Zy (eB b) = false := rfl
end Lw
namespace Fx
open PySem
def dHs : List ((Str -> Bool) × (Str -> Bool) × DS) -> Str -> DS
 | [], _ => fun _ => .stuck
 | (y, n, h) :: r, c => fun G => if y c then noX (h G) else if n c then dHs r c G else .stuck
@[simp] theorem dHs_cons (y n : Str -> Bool) (h : DS) (r : List ((Str -> Bool) × (Str -> Bool) × DS)) (c : Str) (G : List Sl) : dHs ((y, n, h) :: r) c G = if y c then noX (h G) else if n c then dHs r c G else .stuck := rfl
end Fx
namespace Fx
open PySem PySem.Spec PyProof.Rows L2
theorem star_tup {xs es : List Expr} {k : Nat} {pos : Pos} {env : Env} : starEach (.Tuple xs k pos :: es) env = (false, eval (.Tuple xs k pos) env) :: starEach es env := rfl
theorem star_lst {xs es : List Expr} {pos : Pos} {env : Env} : starEach (.List xs pos :: es) env = (false, eval (.List xs pos) env) :: starEach es env := rfl
end Fx
namespace Fx
open PySem PySem.Spec PyProof.Rows L2
theorem newEnvK {M : Model} {A : Around} {E : Value -> Shared -> Prop} {s : Shared} {scope : Scope} {x0 : Str} {globals : Addr} {closure : List (Str × Addr)} {qual : Str} {env : Env} {Q : Env -> Shared -> Prop}
  (h1 : ∀ (n : Nat) (cl : List (Str × Addr)), cellsFrom n scope.names cl = (x0, n) :: cl) (h2 : ∀ h : Heap, pushCells h scope.names = h.push { cls := .type "cell", data := .cell none })
  (hQ : ∀ h', h'.Ns s.heap.objs.size (fun _ => none) -> (∀ b o, s.heap.get? b = some o -> h'.get? b = some o) -> h'.IsCell (s.heap.objs.size + 1) none ->
   Q (newEnv scope s.heap.objs.size globals ((x0, s.heap.objs.size + 1) :: closure) qual none .none (some env) builtinsNs) { s with heap := h' }) :
  wpAny M A (newFunctionEnv scope globals closure [] qual none .none (some env)) Q E s := by
 simp only [newFunctionEnv, Option.isSome_some, if_true]
 refine wpAny_bind (wpAny_alloc ?_)
 refine wpAny_bind (wpAny_layCells _ (fun name kind cells => by cases hkc : kind == NameKind.cell <;> simp [hkc]) _ _ _ _ ?_)
 rw [h1, h2]
 have sz : (s.heap.push { cls := .type "dict", data := .dict #[] }).objs.size = s.heap.objs.size + 1 := Heap.size_push _ _
 rw [show ({ s with heap := s.heap.push { cls := .type "dict", data := .dict #[] } } : Shared).heap.objs.size = s.heap.objs.size + 1 from sz]
 refine wpAny_bind ?_
 rw [List.forIn_nil]
 refine wpAny_pure (wpAny_pure (hQ _ ?_ ?_ ?_))
 ·exact (Heap.Ns.new s.heap (.type "dict")).keeps fun b o e => Heap.get?_push_of_some _ e
 ·exact fun b o e => Heap.get?_push_of_some _ (Heap.get?_push_of_some _ e)
 ·exact ⟨_, by rw [<- sz]; exact Heap.get?_push_size _ rfl, rfl⟩
def cxK (X : Cx) (scope : Scope) (x0 : Str) (N : List Str) (s₀ : Shared) (H₀ : Hp) (ex : List Addr) (pn : List (Addr × Obj) := []) : Cx :=
 { X with env := compEnvC scope ((x0, s₀.heap.objs.size + 1) :: Zm X.env scope.names []) s₀.heap.objs.size X.env, N := N, s₀ := s₀, H₀ := H₀, outer := X.stack, ex := ex, fn := fun y => y == x0, pn := pn, xe := fun _ _ => False }
structure CompKk (X : Cx) (scope : Scope) (x0 : Str) (N : List Str) (nv : Nat) (cap : List Nat) : Prop where
 one : ∀ (n : Nat) (cl : List (Str × Addr)), cellsFrom n scope.names cl = (x0, n) :: cl
 pone : ∀ h : Heap, pushCells h scope.names = h.push { cls := .type "cell", data := .cell none }
 cell : ∀ y ∈ scope.names, y.2 = .cell -> y.1 = x0
 kind : scope.kind = .function
 names : ∀ y ∈ scope.names, y.2 = .local -> scope.names.lookup y.1 = some .local
 free : ∀ y ∈ scope.names, y.2 = .free -> (X.env.kindOf y.1 = some .cell \/ X.env.kindOf y.1 = some .free) /\ y.1 ≠ x0
 len : N.length = nv + cap.length
 caps : ∀ (i j : Nat) (x : Str), cap[i]? = some j -> N[nv + i]? = some x -> X.N[j]? = some x /\ ((relabel scope X.env).names.lookup x = some .cell \/ (relabel scope X.env).names.lookup x = some .free) /\ (X.env.kindOf x = some .cell \/ X.env.kindOf x = some .free) /\ x ≠ x0
section
variable {X : Cx} {scope : Scope} {x0 : Str} {N : List Str} {nv : Nat} {cap : List Nat} {pins : List (Addr × Obj)} {σ : L2.St} {H : Hp} {s : Shared} {ex : List Addr}
theorem CompKk.has (C : CompKk X scope x0 N nv cap) (ok : X.Ok) : ∀ y ∈ scope.names, y.2 = .free -> ∃ c, X.env.cells.lookup y.1 = some c := fun y hy e => ok.has y.1 (C.free y hy e).1
theorem CompKk.sub (C : CompKk X scope x0 N nv cap) (ok : X.Ok) {n : Nat} (x : Str) (c : Addr) (e : ((x0, n) :: Zm X.env scope.names []).lookup x = some c) : (x = x0 /\ c = n) \/ X.env.cells.lookup x = some c := by
 rw [List.lookup_cons] at e
 split at e
 ·rename_i q
  cases e
  exact .inl ⟨by simpa using q, rfl⟩
 ·exact .inr (Yf X.env scope.names [] (C.has ok) (fun x c e => by cases e) x c e)
theorem YO {scope : Scope} {env : Env} {x : Str} : (relabel scope env).names.lookup x = some .cell \/ (relabel scope env).names.lookup x = some .free -> (x, NameKind.free) ∈ scope.names \/ (x, NameKind.cell) ∈ scope.names := by
 intro h
 have : ∃ k, (x, k) ∈ (relabel scope env).names /\ (k = .cell \/ k = .free) := by
  rcases h with h | h
  ·exact ⟨_, ZI h, .inl rfl⟩
  ·exact ⟨_, ZI h, .inr rfl⟩
 obtain ⟨k, hm, hk⟩ := this
 unfold relabel at hm
 obtain ⟨⟨n, k0⟩, hm0, e⟩ := List.mem_map.mp hm
 simp only at e
 split at e
 ·rename_i q
  cases e
  simp only [Bool.and_eq_true, beq_iff_eq] at q
  rw [q.1.1] at hm0
  exact .inl hm0
 ·cases e
  rcases hk with rfl | rfl
  ·exact .inr hm0
  ·exact .inl hm0
theorem CompKk.start (C : CompKk X scope x0 N nv cap) (I : Inv X pins σ H s) (hex : ∀ b ∈ ex, FpOk X pins H b /\ b < s.heap.objs.size) {h' : Heap} {t : Nat} {m : Str -> Option Value} (hn : h'.Ns s.heap.objs.size m) (hk : ∀ b o, s.heap.get? b = some o -> h'.get? b = some o) (hcl : h'.IsCell (s.heap.objs.size + 1) none) :
  Inv (cxK X scope x0 N s H ex) [] (sig nv cap σ) H { s with heap := h', toks := t } := by
 have hh := C.has I.ok
 have sub : ∀ x c, (cxK X scope x0 N s H ex).env.cells.lookup x = some c -> (x = x0 /\ c = s.heap.objs.size + 1) \/ X.env.cells.lookup x = some c := fun x c e => C.sub I.ok x c e
 have cl : ∀ x c, X.env.cells.lookup x = some c -> c < s.heap.objs.size := fun x c e => by
  obtain ⟨v, z⟩ := I.cell x c e
  exact z.lt
 have hL : s.heap.objs.size <= (cxK X scope x0 N s H ex).env.locals := Nat.le_refl _
 have stk : ∀ b ∈ frs X.stack, b < s.heap.objs.size := fun b hb => by
  obtain ⟨_, o, ho, _⟩ := I.stack.mem hb
  exact Heap.lt_size ho
 refine ⟨⟨I.ok.mod, C.kind, I.ok.glob, I.ok.blt, hL, fun x y c h1 h2 => ?_, fun x hx => ?_, fun x c h e => ?_, I.ok.hd, I.ok.frames, .inl rfl, fun b hb => ?_, fun b o e => I.bs b o e, ?_, fun b o e hb => ?_, fun b hb => ?_, I.stack, I.stkFree⟩,
  rfl, I.bare, Un.kept hk, ⟨m, hn, fun i x v e1 e2 e3 => ?_⟩, fun x c e => ?_, I.hok.fresh (Nat.le_refl _), fun x c e => ?_, fun p hp => ?_, I.hok.kept hk, ?_⟩
 ·rcases sub x c h1 with ⟨a1, a2⟩ | a <;> rcases sub y c h2 with ⟨b1, b2⟩ | b
  ·rw [a1, b1]
  ·exact absurd (a2 ▸ cl y c b : s.heap.objs.size + 1 < s.heap.objs.size) (Nat.not_lt.mpr (Nat.le_succ _))
  ·exact absurd (b2 ▸ cl x c a : s.heap.objs.size + 1 < s.heap.objs.size) (Nat.not_lt.mpr (Nat.le_succ _))
  ·exact I.ok.inj x y c a b
 ·have hx' : (relabel scope X.env).names.lookup x = some .cell \/ (relabel scope X.env).names.lookup x = some .free := hx
  show ∃ c, ((x0, s.heap.objs.size + 1) :: Zm X.env scope.names []).lookup x = some c
  rcases YO hx' with z | z
  ·obtain ⟨c, hc⟩ := Yg X.env scope.names [] x (.inr z)
   exact ZA (List.mem_cons_of_mem _ hc)
  ·have e : x = x0 := C.cell _ z rfl
   rw [e]
   exact ZA List.mem_cons_self
 ·have hx : x = x0 := by simpa using (show (x == x0) = true from h)
  rcases sub x c e with ⟨_, a2⟩ | a
  ·rw [a2]; exact Nat.le_succ _
  ·subst hx
   have e' : ((x, s.heap.objs.size + 1) :: Zm X.env scope.names []).lookup x = some c := e
   have hb : (x == x) = true := by simp
   rw [List.lookup_cons, hb] at e'
   cases e'
   exact Nat.le_succ _
 ·obtain ⟨f, lt⟩ := hex b hb
  refine ⟨Nat.ne_of_lt lt, fun x c e => ?_⟩
  rcases sub x c e with ⟨_, a2⟩ | a
  ·rw [a2]; exact fun z => absurd (z ▸ lt : s.heap.objs.size + 1 < s.heap.objs.size) (Nat.not_lt.mpr (Nat.le_succ _))
  ·exact f.2.2.2.2.1 x c a
 ·exact Nat.le_trans I.ok.bsz I.sz
 ·obtain ⟨f, lt⟩ := hex b hb
  rcases f.2.2.2.1 with z | z
  ·exact I.ok.noex b o e z
  ·exact absurd (Nat.lt_of_lt_of_le (Heap.lt_size e) (Nat.le_trans I.ok.bsz z)) (Nat.lt_irrefl _)
 ·obtain ⟨f, lt⟩ := hex b hb
  intro z
  rcases List.mem_cons.mp (I.stkSub b z) with e | e
  ·exact f.2.1 e
  ·exact f.2.2.1 e
 ·-- the names
  have hi : nv <= i := by
   rcases Nat.lt_or_ge i nv with z | z
   ·unfold sig at e2
    rw [List.getElem?_append_left (by simpa using z), List.getElem?_replicate] at e2
    split at e2 <;> cases e2
   ·exact z
  obtain ⟨k, rfl⟩ := Nat.exists_eq_add_of_le hi
  unfold sig at e2
  rw [List.getElem?_append_right (by simp), List.getElem?_map] at e2
  have ek : nv + k - (List.replicate nv (none : Option V)).length = k := by simp
  rw [ek] at e2
  cases ec : cap[k]? with
  | none => rw [ec] at e2; cases e2
  | some j =>
   rw [ec] at e2
   have e2' : σ.getD j none = some v := by simpa using e2
   obtain ⟨c1, c2, c3, c4⟩ := C.caps k j x ec e1
   obtain ⟨m0, _, hl⟩ := I.loc
   have vis : Vis X.env.scope x := c3.elim (fun z => .inr (.inl z)) fun z => .inr (.inr z)
   obtain ⟨u, ru, lk⟩ := hl j x v c1 (getD_some e2') vis
   refine ⟨u, ru, .inr ⟨c2, ?_⟩⟩
   rcases lk with ⟨z, _⟩ | ⟨_, c, ec', o, ho, hd⟩
   ·rcases c3 with c3 | c3 <;> (rw [c3] at z; cases z)
   ·have hm : (x, NameKind.free) ∈ scope.names := by
     rcases YO c2 with z | z
     ·exact z
     ·exact absurd (C.cell _ z rfl) c4
    obtain ⟨c', hc'⟩ := Yg X.env scope.names [] x (.inr hm)
    obtain ⟨c'', hc''⟩ := ZA hc'
    have hq : ((x0, s.heap.objs.size + 1) :: Zm X.env scope.names []).lookup x = some c'' := by
     rw [List.lookup_cons]
     have : (x == x0) = false := by simpa using c4
     rw [this]
     exact hc''
    rcases sub x c'' hq with ⟨a1, _⟩ | this
    ·exact absurd a1 c4
    ·rw [ec'] at this
     cases this
     exact ⟨c, hq, o, hk c o ho, hd⟩
 ·rcases sub x c e with ⟨_, a2⟩ | a
  ·rw [a2]; exact ⟨none, hcl⟩
  ·obtain ⟨v, o, ho, hd⟩ := I.cell x c a
   exact ⟨v, o, hk c o ho, hd⟩
 ·rcases sub x c e with ⟨_, a2⟩ | a
  ·rw [a2]; exact I.hok.fresh (Nat.le_succ _)
  ·exact I.freeC x c a
 ·exact absurd (show p ∈ ([] : List (Addr × Obj)) from hp) (by simp)
 ·show (sig nv cap σ).length = N.length
  unfold sig
  rw [C.len]
  simp
theorem CompKk.stop {H' : Hp} {s' : Shared} {σ' : L2.St} {pl : List (Addr × Obj)} (I : Inv X pins σ H s) (hex : ∀ b ∈ ex, FpOk X pins H b) (J : Inv (cxK X scope x0 N s H ex) pl σ' H' s') : Inv X pins σ H' s' :=
 I.call' J.os J.base J.hok J.bare fun b hb => by
  obtain ⟨f0, f1, f2, f3, f4, f5⟩ := hex b hb
  exact ⟨f3, f1, f4, f5⟩
theorem inv_pnK {s₀ : Shared} {H₀ : Hp} {E : Value -> Shared -> Prop} (I : Inv (cxK X scope x0 N s₀ H₀ ex) pins σ H s) : Inv ((cxK X scope x0 N s₀ H₀ ex pins).wish E) [] σ H s :=
 ⟨⟨I.ok.mod, I.ok.kind, I.ok.glob, I.ok.blt, I.ok.above, I.ok.inj, I.ok.has, I.ok.cab, I.ok.hd, I.ok.frames, I.ok.stk, I.ok.exf, I.ok.bs, I.ok.bsz, I.ok.noex, I.ok.exfs, I.ok.funs, I.ok.frf⟩, I.os, I.bare, I.base, I.loc, I.cell, I.free, I.freeC,
  fun p hp => I.pin p (show p ∈ [] ++ pins by simpa using (show p ∈ pins ++ [] from hp)), I.hok, I.len⟩
theorem inv_npK {s₀ : Shared} {H₀ : Hp} {pn : List (Addr × Obj)} {E : Value -> Shared -> Prop} (I : Inv ((cxK X scope x0 N s₀ H₀ ex pn).wish E) pins σ H s) : Inv (cxK X scope x0 N s₀ H₀ ex) (pn ++ pins) σ H s :=
 ⟨⟨I.ok.mod, I.ok.kind, I.ok.glob, I.ok.blt, I.ok.above, I.ok.inj, I.ok.has, I.ok.cab, I.ok.hd, I.ok.frames, I.ok.stk, I.ok.exf, I.ok.bs, I.ok.bsz, I.ok.noex, I.ok.exfs, I.ok.funs, I.ok.frf⟩, I.os, I.bare, I.base, I.loc, I.cell, I.free, I.freeC,
  fun p hp => I.pin p (show p ∈ pn ++ pins from by simpa using (show p ∈ [] ++ (pn ++ pins) from hp)), I.hok, I.len⟩
end
section
variable {X : Cx} {scope : Scope} {x0 : Str} {N : List Str} {nv : Nat} {cap : List Nat}
abbrev cxKT (xz : Cx -> Value -> Shared -> Prop) (X : Cx) (scope : Scope) (x0 : Str) (N : List Str) (s₀ : Shared) (H₀ : Hp) (ex : List Addr) (pn : List (Addr × Obj)) : Cx := (cxK X scope x0 N s₀ H₀ ex pn).wish (xz (cxK X scope x0 N s₀ H₀ ex pn))
theorem WP {xz : Cx -> Value -> Shared -> Prop} {W : Str -> Hp -> Prop} {tg elt iter : Expr} {ifs : List Expr} {pos : Pos} {st : PyData -> List Sl -> Res (List Sl)} {dc : DT} {de : DE} {pins : List (Addr × Obj)} {σ : L2.St} {H2 : Hp} {s3 s4 : Shared} {P : Pv} {G : List Sl} {J : It} {fp : List Addr} {itA D : Addr} {tn : Nat -> Heap -> Prop} {ts : List PyData} {r : Res (List PyData)} {R : Result -> Shared -> Prop} {m : Str -> Option Value}
  (C : CompKk X scope x0 N nv cap) (hc : X.calm = true) (hk : Xa nv st)
  (hg : ∀ s₀ H₀ ex pn, GV (cxKT xz X scope x0 N s₀ H₀ ex pn) tg st) (ht : ∀ s₀ H₀ ex pn, (∀ b ∈ ex, ∃ o, (b, o) ∈ pn) -> CT (cxKT xz X scope x0 N s₀ H₀ ex pn) W ifs dc) (he : ∀ s₀ H₀ ex pn, (∀ b ∈ ex, ∃ o, (b, o) ∈ pn) -> EV (cxKT xz X scope x0 N s₀ H₀ ex pn) W elt de)
  (h2 : Hol X.K H2 P σ G) (hD : H2 D = none) (I3 : Inv X pins σ (upd H2 D (.lst [])) s3) (T : Turn X.prog X.w X.K tg J fp itA tn) (hf : ∀ b ∈ fp, FpOk X pins (upd H2 D (.lst [])) b /\ b < s3.heap.objs.size) (y : Yld X.K J ts H2 P) (hlen : ts.length <= 16777216)
  (hall : Zk st dc de (List.replicate nv .emp ++ capS cap G) ts = r) (hr : r ≠ .stuck) (hW : ∀ c, r = .exc c -> ∀ H', Same H2 H' -> W c H')
  (hn : s4.heap.Ns s3.heap.objs.size m) (hkp : ∀ b o, s3.heap.get? b = some o -> s4.heap.get? b = some o) (hcl : s4.heap.IsCell (s3.heap.objs.size + 1) none) (e4 : ∃ h' t, s4 = { s3 with heap := h', toks := t }) (tn0 : tn 0 s4.heap)
  (fin : ∀ s' H' σ' vs all, r = .ok all -> Inv (cxK X scope x0 N s3 (upd H2 D (.lst [])) fp) [] σ' H' s' -> H' D = some (.lst vs) -> Same H2 H' -> Rls X.K H' (P.fbd D) all vs -> R (.ok .next) s')
  (finx : ∀ pn e s', (∀ b ∈ fp, ∃ o, (b, o) ∈ pn) -> xz (cxK X scope x0 N s3 (upd H2 D (.lst [])) fp pn) e s' -> notedBy (model X.prog X.w) X.A (compEnvC scope ((x0, s3.heap.objs.size + 1) :: Zm X.env scope.names []) s3.heap.objs.size X.env) (fun e s' => R (.error e) s') e s') :
  codeAny (model X.prog X.w) X.A (.compStart (.ListComp elt [⟨tg, iter, ifs, 0⟩] scope pos) 0 (.ref itA) (.ref D) (compEnvC scope ((x0, s3.heap.objs.size + 1) :: Zm X.env scope.names []) s3.heap.objs.size X.env)) R s4 := by
 obtain ⟨h4, t4, rfl⟩ := e4
 have J4 := C.start (t := t4) I3 hf hn hkp hcl
 -- what no element may hold
 have trc : ∀ H', Same H2 H' -> (∃ vs, H' D = some (.lst vs)) -> Tr H2 P H' ⟨fun _ => none, fun a => ¬ Off P a \/ a = D⟩ := fun H' s _ a o e n q => ⟨s.kp a o e n, fun _ z => (by cases z), fun z => z.elim (fun z => z q) fun z => by rw [z, hD] at e; cases e⟩
 have offc : ∀ H', Same H2 H' -> (∃ vs, H' D = some (.lst vs)) -> ∀ p, H' p = none -> Off ⟨fun _ => none, fun a => ¬ Off P a \/ a = D⟩ p := fun H' s ⟨vs, hv⟩ p hp => ⟨fun _ z => (by cases z), fun z => z.elim (fun z => z (h2.off_new (s.free hp))) fun z => by rw [z, hv] at hp; cases hp⟩
 have fbc : ∀ H', Same H2 H' -> (∃ vs, H' D = some (.lst vs)) -> ∀ a, (¬ Off P a \/ a = D) -> H' a ≠ none := fun H' s hv a z hn => (offc H' s hv a hn).2 z
 have hCe : ∀ i, i < nv -> ∀ x, (List.replicate nv Sl.emp ++ capS cap G)[i]? = some x -> x = .emp := fun i hi x e => by
  rw [List.getElem?_append_left (by simpa using hi), List.getElem?_replicate, if_pos hi] at e
  cases e
  rfl
 have hCo : ∀ (i : Nat) xs, (List.replicate nv Sl.emp ++ capS cap G)[i]? ≠ some (.own xs) := fun i xs e => by
  by_cases hi : i < nv
  ·have := hCe i hi _ e; cases this
  ·rw [List.getElem?_append_right (by simpa using hi)] at e
   unfold capS at e
   rw [List.getElem?_map] at e
   cases ec : cap[i - (List.replicate nv Sl.emp).length]? with
   | none => rw [ec] at e; cases e
   | some j =>
    rw [ec] at e
    simp only [Option.map_some, Option.some.injEq] at e
    cases eg : G[j]? with
    | none => rw [eg] at e; cases e
    | some x => rw [eg] at e; cases x <;> cases e
 have fpo : ∀ H', (∀ b ∈ fp, H' b = none) -> ∀ b ∈ fp, FpOk (cxK X scope x0 N s3 (upd H2 D (.lst [])) fp) [] H' b := fun H' hz b hb => by
  obtain ⟨f, lt⟩ := hf b hb
  refine ⟨hz b hb, Nat.ne_of_lt lt, fun z => ?_, .inl hb, fun x c e => (C.sub I3.ok x c e).elim (fun z => by rw [z.2]; exact fun w => absurd (w ▸ lt : s3.heap.objs.size + 1 < s3.heap.objs.size) (Nat.not_lt.mpr (Nat.le_succ _))) fun z => f.2.2.2.2.1 x c z, fun p hp => absurd (show p ∈ ([] : List (Addr × Obj)) from hp) (by simp)⟩
  rcases List.mem_cons.mp (I3.stkSub b z) with e | e
  ·exact f.2.1 e
  ·exact f.2.2.1 e
 have up0 : Same H2 (upd H2 D (.lst [])) := Zu hD
 -- the loop
 have loop : ∀ s5 : Shared, s5 = { s3 with heap := h4, toks := t4 } -> codeAny (model X.prog X.w) X.A (.compLoop (.ListComp elt [⟨tg, iter, ifs, 0⟩] scope pos) 0 (.ref itA) (.ref D) (compEnvC scope ((x0, s3.heap.objs.size + 1) :: Zm X.env scope.names []) s3.heap.objs.size X.env)) R s5 := by
  rintro s5 rfl
  refine Y3 (fun n s => ∃ i σ' H' vs ys, n = ts.length - i /\ i <= ts.length /\ Inv (cxK X scope x0 N s3 (upd H2 D (.lst [])) fp) [] σ' H' s /\ tn i s.heap /\ (∀ b ∈ fp, H' b = none) /\ Same H2 H' /\ H' D = some (.lst vs) /\
   Rls X.K H' ⟨fun _ => none, fun a => ¬ Off P a \/ a = D⟩ ys vs /\ Hol X.K H' ⟨fun _ => none, fun a => ¬ Off P a \/ a = D⟩ σ' (List.replicate nv .emp ++ capS cap G) /\ ((Zk st dc de (List.replicate nv .emp ++ capS cap G) (ts.drop i)).bind fun zs => .ok (ys ++ zs)) = r /\ ys.length <= i) ?_ ts.length
   ⟨0, _, _, [], [], rfl, Nat.zero_le _, J4, tn0, fun b hb => (hf b hb).1.1, up0, Zi, Zq.mpr rfl, WL h2 (trc _ up0 ⟨_, Zi⟩) (fun _ => rfl) (fbc _ up0 ⟨_, Zi⟩) (up0.tab _ h2.tab), by rw [List.drop_zero, hall]; cases r <;> rfl, Nat.le_refl _⟩
  rintro n s ⟨i, σ', H', vs, ys, rfl, hi, Ji, tni, fpn, sm, hDv, rys, hol, ecl, hyl⟩
  obtain ⟨y1, y2⟩ := y H' ⟨fun _ => none, fun a => ¬ Off P a \/ a = D⟩ (trc H' sm ⟨vs, hDv⟩) (offc H' sm ⟨vs, hDv⟩) i
  by_cases hlt : i < ts.length
  ·have et : ts[i]? = some ts[i] := by simp [hlt]
   obtain ⟨go, yl⟩ := y1 _ et
   rw [List.drop_eq_getElem_cons hlt] at ecl
   unfold Zk at ecl
   -- the turn's own data
   obtain ⟨G1, eG⟩ : ∃ G1, st ts[i] (List.replicate nv .emp ++ capS cap G) = .ok G1 := by
    rcases Yu (st ts[i] (List.replicate nv .emp ++ capS cap G)) with ⟨G1, h⟩ | h
    ·exact ⟨G1, Wg h⟩
    ·rw [h] at ecl; exact absurd ecl.symm hr
   rw [eG, show noX (Res.ok G1 : Res (List Sl)) = .ok G1 from rfl, Res.bind_ok] at ecl
   obtain ⟨kl, ke⟩ := hk _ _ _ eG
   refine wpAny_mono (T.item (cxK X scope x0 N s3 (upd H2 D (.lst [])) fp) rfl rfl rfl hc i [] s σ' H' (fun _ _ => False) Ji (fpo H' fpn) tni go) (fun r' s1 hr' => ?_) fun _ _ z => z.elim
   obtain ⟨u, rfl, hr'⟩ := hr'
   refine wpAny_mono hr' (fun _ s2 hr2 => ?_) fun _ _ z => z.elim
   obtain ⟨x, H5, J5, r5, y5, tn5, fr5⟩ := hr2
   obtain ⟨sm5, rl5⟩ := yl x H5 y5
   have J5' : Inv (cxKT xz X scope x0 N s3 (upd H2 D (.lst [])) fp (Zl fp s2.heap)) [] σ' H5 s2 := inv_pnK (J5.pinned (fpo H5 fr5) (T.obj _ _ tn5))
   have pnn : ∀ b ∈ fp, ∃ o, (b, o) ∈ Zl fp s2.heap := fun b hb => by
    obtain ⟨o, e, _⟩ := T.obj _ _ tn5 b hb
    exact ⟨o, Z6 hb e⟩
   have finx' := fun e s' => finx (Zl fp s2.heap) e s' pnn
   obtain ⟨g, pg, gp⟩ := hg s3 (upd H2 D (.lst [])) fp (Zl fp s2.heap)
   have hol5 := hol.same sm5
   refine wpAny_mono (pg _ s2 σ' H5 x u (fun σ6 H6 => H6 = H5 /\ ∃ P6, Go H5 ⟨fun _ => none, fun a => ¬ Off P a \/ a = D⟩ H5 P6 /\ Hol X.K H5 P6 σ6 G1) J5' r5 (gp ts[i] x σ' H5 _ _ _ hol5 rl5 ⟨G1, eG, fun σ6 P6 g6 h6 => ⟨rfl, P6, g6, h6⟩⟩)) (fun _ s6 h6 => ?_) finx'
   obtain ⟨σ6, H6, J6, rfl, P6, g6, hol6⟩ := h6
   -- on to the next turn
   have fr6 : ∀ {H8 : Hp} {s8 : Shared}, Inv (cxKT xz X scope x0 N s3 (upd H2 D (.lst [])) fp (Zl fp s2.heap)) [] σ6 H8 s8 -> ∀ b ∈ fp, H8 b = none := fun {H8 s8} J8 b hb => by
    obtain ⟨o, e⟩ := pnn b hb
    exact (J8.pin (b, o) (List.mem_append_left _ e)).2.1
   have next : ∀ {H8 : Hp} {s8 : Shared} {ys' : List PyData} {vs' : List V}, Inv (cxKT xz X scope x0 N s3 (upd H2 D (.lst [])) fp (Zl fp s2.heap)) [] σ6 H8 s8 -> Same H2 H8 -> H8 D = some (.lst vs') -> (∀ b, b ≠ D -> ∀ o, H6 b = some o -> Nt o -> H8 b = some o) ->
     Rls X.K H8 ⟨fun _ => none, fun a => ¬ Off P a \/ a = D⟩ ys' vs' -> ((Zk st dc de (List.replicate nv .emp ++ capS cap G) (ts.drop (i + 1))).bind fun zs => .ok (ys' ++ zs)) = r -> ys'.length <= i + 1 ->
     ∃ m, m < ts.length - i /\ ∃ i σ' H' vs ys, m = ts.length - i /\ i <= ts.length /\ Inv (cxK X scope x0 N s3 (upd H2 D (.lst [])) fp) [] σ' H' s8 /\ tn i s8.heap /\ (∀ b ∈ fp, H' b = none) /\ Same H2 H' /\ H' D = some (.lst vs) /\
      Rls X.K H' ⟨fun _ => none, fun a => ¬ Off P a \/ a = D⟩ ys vs /\ Hol X.K H' ⟨fun _ => none, fun a => ¬ Off P a \/ a = D⟩ σ' (List.replicate nv .emp ++ capS cap G) /\ ((Zk st dc de (List.replicate nv .emp ++ capS cap G) (ts.drop i)).bind fun zs => .ok (ys ++ zs)) = r /\ ys.length <= i := by
    intro H8 s8 ys' vs' J8 sm8 hD8 kp8 rys8 ecl8 hyl8
    refine ⟨ts.length - (i + 1), by omega, i + 1, σ6, H8, vs', ys', rfl, hlt, Inv.unpinned (pins := []) (pl := Zl fp s2.heap) (by simpa using inv_npK J8), ?_, fr6 J8, sm8, hD8, rys8, ?_, ecl8, hyl8⟩
    ·exact T.keep _ _ _ tn5 fun b hb o e => (J8.pin (b, o) (List.mem_append_left _ (Z6 hb e))).1
    ·have hF : Hol X.K H6 P6.bare σ6 (List.replicate nv .emp ++ capS cap G) := Y0 hCe hCo hol6 kl ke
     have ep : P6.bare = ⟨fun _ => none, fun a => ¬ Off P a \/ a = D⟩ := by
      unfold Pv.bare
      rw [g6.fbe]
     rw [ep] at hF
     have tr8 : Tr H6 ⟨fun _ => none, fun a => ¬ Off P a \/ a = D⟩ H8 ⟨fun _ => none, fun a => ¬ Off P a \/ a = D⟩ := fun a o e n q => ⟨kp8 a (fun z => q.2 (Or.inr z)) o e n, q⟩
     refine ⟨fun j x e => ?_, fun _ _ _ z => (by cases z), fun _ _ z => (by cases z), fbc H8 sm8 ⟨vs', hD8⟩, fun _ _ z => (by cases z), hF.len, sm8.tab _ h2.tab⟩
     have z := hF.sl j x e
     cases x with
     | emp => trivial
     | val t => obtain ⟨v, e1, r1⟩ := z; exact ⟨v, e1, Rl.go tr8 t v r1⟩
     | own xs => exact absurd e (hCo j xs)
   have sm6 : Same H2 H6 := sm.trans sm5
   -- behind the test
   have after : ∀ k s7 H7, Inv (cxKT xz X scope x0 N s3 (upd H2 D (.lst [])) fp (Zl fp s2.heap)) [] σ6 H7 s7 -> Same H6 H7 -> dc G1 = .ok k -> (if k = true then wpAny (model X.prog X.w) X.A (eval elt (compEnvC scope ((x0, s3.heap.objs.size + 1) :: Zm X.env scope.names []) s3.heap.objs.size X.env)) (fun x s₄ =>
      wpAny (model X.prog X.w) X.A (call (.builtin "list.append") [.ref D, x]) (fun _ s₅ => ∃ m, m < ts.length - i /\ ∃ i σ' H' vs ys, m = ts.length - i /\ i <= ts.length /\ Inv (cxK X scope x0 N s3 (upd H2 D (.lst [])) fp) [] σ' H' s₅ /\ tn i s₅.heap /\ (∀ b ∈ fp, H' b = none) /\ Same H2 H' /\ H' D = some (.lst vs) /\
      Rls X.K H' ⟨fun _ => none, fun a => ¬ Off P a \/ a = D⟩ ys vs /\ Hol X.K H' ⟨fun _ => none, fun a => ¬ Off P a \/ a = D⟩ σ' (List.replicate nv .emp ++ capS cap G) /\ ((Zk st dc de (List.replicate nv .emp ++ capS cap G) (ts.drop i)).bind fun zs => .ok (ys ++ zs)) = r /\ ys.length <= i) (notedBy (model X.prog X.w) X.A (compEnvC scope ((x0, s3.heap.objs.size + 1) :: Zm X.env scope.names []) s3.heap.objs.size X.env) fun e s' => R (.error e) s') s₄) (notedBy (model X.prog X.w) X.A (compEnvC scope ((x0, s3.heap.objs.size + 1) :: Zm X.env scope.names []) s3.heap.objs.size X.env) fun e s' => R (.error e) s') s7
     else ∃ m, m < ts.length - i /\ ∃ i σ' H' vs ys, m = ts.length - i /\ i <= ts.length /\ Inv (cxK X scope x0 N s3 (upd H2 D (.lst [])) fp) [] σ' H' s7 /\ tn i s7.heap /\ (∀ b ∈ fp, H' b = none) /\ Same H2 H' /\ H' D = some (.lst vs) /\
      Rls X.K H' ⟨fun _ => none, fun a => ¬ Off P a \/ a = D⟩ ys vs /\ Hol X.K H' ⟨fun _ => none, fun a => ¬ Off P a \/ a = D⟩ σ' (List.replicate nv .emp ++ capS cap G) /\ ((Zk st dc de (List.replicate nv .emp ++ capS cap G) (ts.drop i)).bind fun zs => .ok (ys ++ zs)) = r /\ ys.length <= i) := by
    intro k s7 H7 J7 sm7 eK
    rw [eK, Res.bind_ok] at ecl
    have sm27 : Same H2 H7 := sm6.trans sm7
    have hD7 : H7 D = some (.lst vs) := sm7.kp _ _ (sm5.kp _ _ hDv ZN) ZN
    have r7 : Rls X.K H7 ⟨fun _ => none, fun a => ¬ Off P a \/ a = D⟩ ys vs := Rls.go (.same (sm5.trans sm7)) ys vs rys
    cases k with
    | false =>
     rw [if_neg Bool.false_ne_true] at ecl ⊢
     exact next J7 sm27 hD7 (fun b _ o e n => sm7.kp b o e n) r7 ecl (by omega)
    | true =>
     rw [if_pos rfl] at ecl ⊢
     cases eY : de G1 with
     | stuck => rw [eY] at ecl; exact absurd ecl.symm hr
     | exc c =>
      rw [eY] at ecl
      refine wpAny_mono (he s3 (upd H2 D (.lst [])) fp (Zl fp s2.heap) pnn _ s7 σ6 H7 (fun _ _ => False) J7 ⟨G1, P6, hol6.same sm7, by rw [eY]; exact fun H8 s8 => hW c ecl.symm H8 (sm27.trans s8)⟩) (fun xv s8 h8 => ?_) finx'
      obtain ⟨_, _, _, _, z⟩ := h8
      exact z.elim
     | ok yv =>
      rw [eY, Res.bind_ok] at ecl
      refine wpAny_mono (he s3 (upd H2 D (.lst [])) fp (Zl fp s2.heap) pnn _ s7 σ6 H7 (fun v H8 => Same H7 H8 /\ Rl X.K H8 P6 yv v) J7 ⟨G1, P6, hol6.same sm7, by rw [eY]; exact fun v H8 s r => ⟨s, r⟩⟩) (fun xv s8 h8 => ?_) finx'
      obtain ⟨v8, H8, J8, r8, sm8, rl8⟩ := h8
      have hD8 : H8 D = some (.lst vs) := sm8.kp _ _ hD7 ZN
      have lv := rys.length
      have tr6 : Tr H8 P6 H8 ⟨fun _ => none, fun a => ¬ Off P a \/ a = D⟩ := fun a o e _ q => ⟨e, fun _ z => (by cases z), by rw [<- g6.fbe]; exact q.2⟩
      refine wpAny_mono (Xi (X := cxKT xz X scope x0 N s3 (upd H2 D (.lst [])) fp (Zl fp s2.heap)) _ s8 σ6 H8 (.ref D) [v8] (.ref D) [xv] (fun w H9 => H9 = upd H8 D (.lst (vs ++ [v8]))) J8 rfl (.cons r8 .nil) ⟨D, vs, v8, rfl, rfl, hD8, by rw [sizeLine_eq]; omega, rfl⟩) (fun _ s9 h9 => ?_) finx'
      obtain ⟨_, H9, J9, _, rfl⟩ := h9
      have trD : Tr H8 ⟨fun _ => none, fun a => ¬ Off P a \/ a = D⟩ (upd H8 D (.lst (vs ++ [v8]))) ⟨fun _ => none, fun a => ¬ Off P a \/ a = D⟩ := fun a o e _ q => ⟨by rw [Zf (fun z => q.2 (Or.inr z))]; exact e, q⟩
      have smD : Same H2 (upd H8 D (.lst (vs ++ [v8]))) := (sm27.trans sm8).updL hD hD8
      refine next J9 smD Zi (fun b hb o e n => by rw [Zf hb]; exact sm8.kp b o (sm7.kp b o e n) n) (Rls.append (Rls.go trD ys vs (Rls.go (.same sm8) ys vs r7)) (Zj.mpr ⟨v8, [], rfl, Rl.go trD yv v8 (Rl.go tr6 yv v8 rl8), Zq.mpr rfl⟩)) ?_ (by simp; omega)
      rw [<- ecl]
      cases Zk st dc de (List.replicate nv .emp ++ capS cap G) (ts.drop (i + 1)) <;> simp
   rcases ht s3 (upd H2 D (.lst [])) fp (Zl fp s2.heap) pnn with ⟨rfl, rfl⟩ | ⟨cx, rfl, tvc⟩
   ·exact wpAny_tests_nil (after true s6 H6 J6 (Same.refl _) rfl)
   ·cases eK : dc G1 with
    | stuck => rw [eK] at ecl; exact absurd ecl.symm hr
    | exc c =>
     rw [eK] at ecl
     refine wpAny_tests_one (wpAny_mono (tvc _ s6 σ6 H6 (fun _ _ => False) J6 ⟨G1, P6, hol6, by rw [eK]; exact fun H7 s => hW c ecl.symm H7 (sm6.trans s)⟩) (fun b s7 h7 => ?_) finx')
     obtain ⟨_, _, z⟩ := h7
     exact z.elim
    | ok k =>
     refine wpAny_tests_one (wpAny_mono (tvc _ s6 σ6 H6 (fun b H7 => b = k /\ Same H6 H7) J6 ⟨G1, P6, hol6, by rw [eK]; exact fun H7 s => ⟨rfl, s⟩⟩) (fun b s7 h7 => ?_) finx')
     obtain ⟨H7, J7, rfl, sm7⟩ := h7
     exact after b s7 H7 J7 sm7 eK
  ·have ei : i = ts.length := by omega
   subst ei
   rw [List.drop_length] at ecl
   have ecl' : r = .ok ys := by rw [<- ecl]; simp [Zk]
   refine wpAny_mono (T.done (cxK X scope x0 N s3 (upd H2 D (.lst [])) fp) rfl rfl rfl hc _ [] s σ' H' (fun _ _ => False) Ji (fpo H' fpn) tni (y2 (Nat.le_refl _))) (fun r' s1 hr' => ?_) fun _ _ z => z.elim
   obtain ⟨rfl, J1⟩ := hr'
   have trf : Tr H' ⟨fun _ => none, fun a => ¬ Off P a \/ a = D⟩ H' (P.fbd D) := fun a o e _ q => by
    have o1 : Off P a := Classical.byContradiction fun z => q.2 (Or.inl z)
    exact ⟨e, o1.1, fun z => z.elim o1.2 fun z => q.2 (Or.inr z)⟩
   exact fin s1 H' σ' vs ys ecl' J1 hDv sm (Rls.go trf ys vs rys)
 exact codeAny_compStart_list (loop _ rfl) (T.self _ 0 _ _ _ tn0 (loop _ rfl))
end
def Vj (X : Cx) (scope : Scope) (x0 : Str) (N : List Str) (xz : Cx -> Value -> Shared -> Prop) : Prop :=
 ∀ (pins : List (Addr × Obj)) (σ : L2.St) (H3 : Hp) (s3 : Shared) (fp : List Addr) (pn : List (Addr × Obj)) (e : Value) (s' : Shared), Inv X pins σ H3 s3 -> (∀ b ∈ fp, FpOk X pins H3 b /\ b < s3.heap.objs.size) -> (∀ b ∈ fp, ∃ o, (b, o) ∈ pn) ->
  xz (cxK X scope x0 N s3 H3 fp pn) e s' -> notedBy (model X.prog X.w) X.A (compEnvC scope ((x0, s3.heap.objs.size + 1) :: Zm X.env scope.names []) s3.heap.objs.size X.env) (fun x s' => ∃ m, s'.heap.Ns s3.heap.objs.size m /\ ∀ h', Heap.SameBut s3.heap.objs.size s'.heap h' -> ∀ cenv : Env, cenv.locals = s3.heap.objs.size ->
   wpAny (model X.prog X.w) X.A (PySem.passOn "comprehension.variables-let-go" x cenv : Sem Value) (fun _ _ => False) X.xe { s' with heap := h' }) e s'
theorem Ur {X : Cx} {scope : Scope} {x0 : Str} {N : List Str} : Vj X scope x0 N (fun _ _ _ => False) := fun _ _ _ _ _ _ _ _ _ _ _ h => h.elim
section
variable {X : Cx} {W : Str -> Hp -> Prop} {fl : Bool} {scope : Scope} {x0 : Str} {N : List Str} {nv : Nat} {cap : List Nat} {tg elt iter : Expr} {ifs : List Expr} {pos : Pos} {st : PyData -> List Sl -> Res (List Sl)} {it : DA} {dc : DT} {de : DE} {xz : Cx -> Value -> Shared -> Prop}
theorem Us {pins : List (Addr × Obj)} {σ : L2.St} {H : Hp} {s : Shared} {P : Pv} {G : List Sl} {use : Option (Value -> Sem Unit)} {Q : Value -> Shared -> Prop} {pos' : Pos}
  (C : CompKk X scope x0 N nv cap) (hc : X.calm = true) (hk : Xa nv st) (hi : IV X W tg iter it)
  (hX : Vj X scope x0 N xz) (hg : ∀ s₀ H₀ ex pn, GV (cxKT xz X scope x0 N s₀ H₀ ex pn) tg st) (ht : ∀ s₀ H₀ ex pn, (∀ b ∈ ex, ∃ o, (b, o) ∈ pn) -> CT (cxKT xz X scope x0 N s₀ H₀ ex pn) W ifs dc) (he : ∀ s₀ H₀ ex pn, (∀ b ∈ ex, ∃ o, (b, o) ∈ pn) -> EV (cxKT xz X scope x0 N s₀ H₀ ex pn) W elt de)
  (I : Inv X pins σ H s) (h : Hol X.K H P σ G)
  (hx : ∀ c, it G = .exc c -> ∀ H', Same H H' -> W c H') (hs0 : it G ≠ .stuck)
  (fin : ∀ ts, it G = .ok ts -> ts.length <= 16777216 /\ Zk st dc de (List.replicate nv .emp ++ capS cap G) ts ≠ .stuck /\ (∀ c, Zk st dc de (List.replicate nv .emp ++ capS cap G) ts = .exc c -> ∀ H', Same H H' -> W c H') /\ ∀ all, Zk st dc de (List.replicate nv .emp ++ capS cap G) ts = .ok all ->
   ∀ D vs H' s' c, Inv X pins σ H' s' -> FpOk X pins H' c -> (∃ m, s'.heap.Ns c m) -> (X.env.locals ≠ c /\ ∀ x a, X.env.cells.lookup x = some a -> a ≠ c) -> Same H H' -> H D = none -> H' D = some (.lst vs) -> Rls X.K H' (P.fbd D) all vs ->
    compPost (model X.prog X.w) X.A X.xe use Q (.ref D) c (.ok .next) s')
  (hs : ∀ x, foldedSetIterable iter X.env x = pure x := by intro _; rfl) :
  wpAny (model X.prog X.w) X.A (comprehension (.ListComp elt [⟨tg, iter, ifs, 0⟩] scope pos) scope X.env pos' (newList []) false (eval iter X.env) use) Q X.xe s := by
 refine wpAny_comprehension_free rfl hs (Yp (C.has I.ok)) C.kind C.names (wpAny_mono (hi pins s σ H (fun J H' => Same H H' /\ ∃ ts, it G = .ok ts /\ Yld X.K J ts H' P) I ⟨G, P, h, ?_⟩) (fun v s1 h1 => wpAny_mono h1 (fun itv s2 h2 => ?_) fun _ _ z => z) fun _ _ z => z)
 ·cases e : it G with
  | ok ts => exact fun J H' s y => ⟨s, ts, rfl, y⟩
  | exc c => exact hx c e
  | stuck => exact absurd e hs0
 obtain ⟨itA, fp, tn, J, H2, rfl, I2, T, tn0, f2, sm2, ts, ets, y⟩ := h2
 obtain ⟨hlen, hns, hex, fin⟩ := fin ts ets
 have hD : H2 s2.heap.objs.size = none := I2.hok.fresh (Nat.le_refl _)
 refine wpAny_newObj_type (newEnvK C.one C.pone (fun h₁ hns₁ kp hcl => ?_))
 have I3 : Inv X pins σ (upd H2 s2.heap.objs.size (.lst [])) { s2 with heap := s2.heap.push { cls := .type "list", dict := none, data := .seq ([] : List Value).toArray } } :=
  I2.laid (t' := s2.toks) (fun b u e => Heap.get?_push_of_some _ e) (Nat.le_refl _) ⟨by show 0 <= sizeLine; exact Nat.zero_le _, [], 0, .nil, Heap.get?_push_size _ rfl⟩
 have sz : (s2.heap.push { cls := .type "list", dict := none, data := .seq ([] : List Value).toArray }).objs.size = s2.heap.objs.size + 1 := Heap.size_push _ _
 have hf3 : ∀ b ∈ fp, FpOk X pins (upd H2 s2.heap.objs.size (.lst [])) b /\ b < (s2.heap.push { cls := .type "list", dict := none, data := .seq ([] : List Value).toArray }).objs.size := fun b hb => by
  obtain ⟨o, ho, _⟩ := T.obj 0 _ tn0 b hb
  have lt := Heap.lt_size ho
  obtain ⟨a1, a2⟩ := f2 b hb
  exact ⟨⟨by rw [Zf (Nat.ne_of_lt lt)]; exact a1, a2⟩, by rw [sz]; exact Nat.lt_succ_of_lt lt⟩
 have tn3 : tn 0 h₁ := T.keep 0 _ _ tn0 fun b _ o e => kp b o (Heap.get?_push_of_some _ e)
 refine WP (s3 := { s2 with heap := s2.heap.push { cls := .type "list", dict := none, data := .seq ([] : List Value).toArray } }) (D := s2.heap.objs.size) C hc hk hg ht he (h.same sm2) hD I3 T hf3 y hlen rfl hns (fun c ec H' sm => hex c ec H' (sm2.trans sm)) hns₁ kp hcl ⟨h₁, _, rfl⟩ tn3 (fun s' H' σ' vs all hall J' hl sm r => ?_) fun pn e s' pnn hx => hX pins σ _ _ fp pn e s' I3 hf3 pnn hx
 have IX := CompKk.stop I3 (fun b hb => (hf3 b hb).1) J'
 have fo : FpOk X pins H' (s2.heap.push { cls := .type "list", dict := none, data := .seq ([] : List Value).toArray }).objs.size := I3.fpOk (Nat.le_refl _) J'.free
 obtain ⟨m, hm, _⟩ := J'.loc
 exact fin all hall _ vs H' s' _ IX fo ⟨m, hm⟩ ⟨Ne.symm fo.2.1, fun x a e => fo.2.2.2.2.1 x a e⟩ (sm2.trans sm) (sm2.free hD) hl r
theorem Vn {i : Nat} {x : Str} {pos' : Pos} {d : DS} (C : CompKk X scope x0 N nv cap) (hc : X.calm = true) (hk : Xa nv st) (hi : IV X W tg iter it)
  (hX : Vj X scope x0 N xz) (hg : ∀ s₀ H₀ ex pn, GV (cxKT xz X scope x0 N s₀ H₀ ex pn) tg st) (ht : ∀ s₀ H₀ ex pn, (∀ b ∈ ex, ∃ o, (b, o) ∈ pn) -> CT (cxKT xz X scope x0 N s₀ H₀ ex pn) W ifs dc) (he : ∀ s₀ H₀ ex pn, (∀ b ∈ ex, ∃ o, (b, o) ∈ pn) -> EV (cxKT xz X scope x0 N s₀ H₀ ex pn) W elt de)
  (hN : X.N.Nodup) (hix : X.N[i]? = some x) (hx : Loc X.env.scope x) {spos : Pos} (hsw : swapsWith (.ListComp elt [⟨tg, iter, ifs, 0⟩] scope pos) (some (.Name x pos')) spos.line X.env = pure true)
  (hs : ∀ x, foldedSetIterable iter X.env x = pure x) (hf : X.fn x = true \/ X.env.scope.names.lookup x = some .local)
  (hd : ∀ D σ H, tFS X.K W fl d D σ H -> ∃ G P, Hol X.K H P σ G /\ (∀ c, it G = .exc c -> ∀ H', Same H H' -> W c H') /\ it G ≠ .stuck /\ ∀ ts, it G = .ok ts -> ts.length <= 16777216 /\ Zk st dc de (List.replicate nv .emp ++ capS cap G) ts ≠ .stuck /\ (∀ c, Zk st dc de (List.replicate nv .emp ++ capS cap G) ts = .exc c -> ∀ H', Same H H' -> W c H') /\ ∀ all, Zk st dc de (List.replicate nv .emp ++ capS cap G) ts = .ok all ->
   ∀ p vs H', Same H H' -> H p = none -> H' p = some (.lst vs) -> Rls X.K H' (P.fbd p) all vs -> D.nx (σ.set i (some (.ref p))) H') : SV X W fl (.Assign [.Name x pos'] (.ListComp elt [⟨tg, iter, ifs, 0⟩] scope pos) spos) d := by
 intro pins s σ H D I hq
 obtain ⟨G, P, h, q1, q2, q3⟩ := hd D σ H hq
 rw [exec_Assign_Name_used _ _ _ _ hsw]
 refine wpAny_bind (wpAny_standAt (wpAny_bind ?_))
 show wpAny _ X.A (do let _ <- comprehension (.ListComp elt [⟨tg, iter, ifs, 0⟩] scope pos) scope X.env _ (newList []) false (eval iter X.env) (some (assign (.Name x pos') X.env))) _ _ s
 refine wpAny_bind (wpAny_mono (Us (use := some (assign (.Name x pos') X.env)) (Q := fun _ s' => SP X pins D .next s') C hc hk hi hX hg ht he I h q1 q2 (fun ts ets => ?_) hs) (fun _ s' hq => wpAny_pure (wpAny_pure hq)) fun _ _ e => e)
 obtain ⟨hl, n1, n2, q4⟩ := q3 ts ets
 refine ⟨hl, n1, n2, fun all hall p vs H' s' c IX fo hm hne sm hp hl r => ?_⟩
 obtain ⟨m, hm⟩ := hm
 show wpAny _ X.A (assign (.Name x pos') X.env (.ref p)) _ _ _
 refine wpAny_assign_Name (Xe IX hN hix hx (v := .ref p) rfl (fun s'' I'' ch => ?_) hf)
 obtain ⟨a, hsb, ha⟩ := ch
 have hca : c ≠ a := by
  rcases ha with rfl | ha
  ·exact Ne.symm hne.1
  ·exact Ne.symm (hne.2 x a ha)
 refine ⟨m, hm.sameBut hsb hca, fun h' hs' => ⟨_, H', atC I'' fo hs', q4 all hall p vs H' sm hp hl r⟩⟩
theorem ss_setCK {i : Nat} {x : Str} {is : List Nat} {pos' spos : Pos} (C : CompKk X scope x0 N nv cap) (hc : X.calm = true) (hk : Xa nv st) (hi : IV X W tg iter it)
  (hX : Vj X scope x0 N xz) (hg : ∀ s₀ H₀ ex pn, GV (cxKT xz X scope x0 N s₀ H₀ ex pn) tg st) (ht : ∀ s₀ H₀ ex pn, (∀ b ∈ ex, ∃ o, (b, o) ∈ pn) -> CT (cxKT xz X scope x0 N s₀ H₀ ex pn) W ifs dc) (he : ∀ s₀ H₀ ex pn, (∀ b ∈ ex, ∃ o, (b, o) ∈ pn) -> EV (cxKT xz X scope x0 N s₀ H₀ ex pn) W elt de)
  (hN : X.N.Nodup) (hix : X.N[i]? = some x) (hx : Loc X.env.scope x) (hsw : swapsWith (.ListComp elt [⟨tg, iter, ifs, 0⟩] scope pos) (some (.Name x pos')) spos.line X.env = pure true := by rfl)
  (hs : ∀ x, foldedSetIterable iter X.env x = pure x := by intro _; rfl) (hf : X.fn x = true \/ X.env.scope.names.lookup x = some .local := by first | exact .inl rfl | exact .inr rfl | assumption) :
  SV X W fl (.Assign [.Name x pos'] (.ListComp elt [⟨tg, iter, ifs, 0⟩] scope pos) spos) (dSet i is (dL (Y2 nv cap st it dc de))) :=
 Vn C hc hk hi hX hg ht he hN hix hx hsw hs hf fun D σ H ⟨G, P, h, q⟩ => by
  unfold dSet dL Y2 at q
  obtain ⟨P1, h1, g⟩ := h.frz is
  refine ⟨frz is G, P1, h1, ?_⟩
  cases e : it (frz is G) with
  | stuck => rw [e] at q; exact q.elim
  | exc c => rw [e] at q; exact ⟨fun c' ec H' s => by cases ec; exact q H' P1 (g.trans (.same s)), (by intro z; cases z), fun ts z => by cases z⟩
  | ok ts =>
   refine ⟨fun c' ec => (by cases ec), (by intro z; cases z), fun ts' z => ?_⟩
   cases z
   rw [e, Res.bind_ok] at q
   split at q
   ·rename_i hl
    refine ⟨hl, ?_⟩
    cases e2 : Zk st dc de (List.replicate nv .emp ++ capS cap (frz is G)) ts with
    | stuck => rw [e2] at q; exact q.elim
    | exc c => rw [e2] at q; exact ⟨fun z => (by cases z), fun c' z H' s => by cases z; exact q H' P1 (g.trans (.same s)), fun all z => by cases z⟩
    | ok all =>
     rw [e2] at q
     refine ⟨fun z => (by cases z), fun c z => (by cases z), fun all' z p vs H' s hp hl r => ?_⟩
     cases z
     have h2 := (h1.same s).setVal i (VQ h1 s hp hl r)
     exact q _ H' _ (g.trans ((Go.same s).trans .del)) h2
   ·exact q.elim
end
def Uw (scope : Scope) (env : Env) (N0 N : List Str) (nv : Nat) (cap : List Nat) (x0 : Str) : Bool :=
 (List.range cap.length).all fun i => match (cap[i]? : Option Nat), (N[nv + i]? : Option Str) with
  | some j, some x => N0[j]? == some x && cf ((relabel scope env).names.lookup x) && cf (env.kindOf x) && (x != x0)
  | _, _ => true
def Ve (scope : Scope) (env : Env) (N0 N : List Str) (nv : Nat) (cap : List Nat) (x0 : Str) : Bool :=
 (scope.names.all fun y => y.2 != .cell || y.1 == x0) && (scope.kind == .function) && (scope.names.all fun y => y.2 != .local || scope.names.lookup y.1 == some .local)
  && (scope.names.all fun y => y.2 != .free || (cf (env.kindOf y.1) && y.1 != x0)) && (N.length == nv + cap.length) && Uw scope env N0 N nv cap x0
theorem compokK {X : Cx} {scope : Scope} {x0 : Str} {N : List Str} {nv : Nat} {cap : List Nat} (h1 : ∀ (n : Nat) (cl : List (Str × Addr)), cellsFrom n scope.names cl = (x0, n) :: cl) (h2 : ∀ h : Heap, pushCells h scope.names = h.push { cls := .type "cell", data := .cell none }) (h : Ve scope X.env X.N N nv cap x0 = true) : CompKk X scope x0 N nv cap := by
 unfold Ve at h
 simp only [Bool.and_eq_true, List.all_eq_true] at h
 obtain ⟨⟨⟨⟨⟨k1, k2⟩, k3⟩, k4⟩, k5⟩, k6⟩ := h
 refine ⟨h1, h2, fun y hy e => ?_, by simpa using k2, fun y hy e => ?_, fun y hy e => ?_, by simpa using k5, fun i j x hc hx => ?_⟩
 ·have := k1 y hy
  rw [e] at this
  simpa using this
 ·have := k3 y hy
  rw [e] at this
  simpa using this
 ·have := k4 y hy
  rw [e] at this
  have q : cf (X.env.kindOf y.1) = true /\ (y.1 != x0) = true := by simpa using this
  exact ⟨Vy q.1, by simpa using q.2⟩
 ·unfold Uw at k6
  rw [List.all_eq_true] at k6
  have hi : i < cap.length := (List.getElem?_eq_some_iff.mp hc).1
  have := k6 i (List.mem_range.mpr hi)
  rw [hc, hx] at this
  simp only [Bool.and_eq_true] at this
  exact ⟨by simpa using this.1.1.1, Vy this.1.1.2, Vy this.1.2, by simpa using this.2⟩
end Fx
namespace Fx
open PySem PySem.Spec PyProof.Rows L2
section
variable {X : Cx} {W : Str -> Hp -> Prop} {a : Expr} {da : DE} {pos : Pos}
theorem Wc {K : PySem.W.Frag} {H : Hp} {P : Pv} : ∀ {ks : List Int} {vs : List V}, Rls K H P (ks.map .int) vs -> vs = ks.map V.int
 | [], vs, h => Zq.mp h
 | k :: ks, vs, h => by
  obtain ⟨v, r, rfl, a, q⟩ := Zj.mp h
  rw [Zo.mp a, Wc q]
  rfl
end
end Fx
namespace Fx
open PySem PySem.Spec PyProof.Rows L2
structure Frs (K : PySem.W.Frag) (H2 : Hp) (D : Addr) (H' : Hp) (Q : Pv) (ys : List PyData) (vs : List V) : Prop where
 it : ∀ (j : Nat) (y : PyData) (v : V), ys[j]? = some y -> vs[j]? = some v -> ∃ a ts ws, y = .list ts /\ v = .ref a /\ H2 a = none /\ a ≠ D /\ H' a = some (.lst ws) /\ Rls K H' Q ts ws
 inj : ∀ (j1 j2 : Nat) (a : Addr), vs[j1]? = some (.ref a) -> vs[j2]? = some (.ref a) -> j1 = j2
 len : ys.length = vs.length
section
variable {K : PySem.W.Frag} {H2 H' H8 : Hp} {D p : Addr} {Q : Pv} {ys : List PyData} {vs ws : List V} {ts : List PyData}
theorem Frs.nil : Frs K H2 D H' Q [] [] := ⟨fun j y v e => by simp at e, fun j1 j2 a e => by simp at e, rfl⟩
theorem Frs.same (f : Frs K H2 D H' Q ys vs) (s : Same H' H8) : Frs K H2 D H8 Q ys vs :=
 ⟨fun j y v e1 e2 => let ⟨a, ts, ws, h1, h2, h3, h4, h5, h6⟩ := f.it j y v e1 e2; ⟨a, ts, ws, h1, h2, h3, h4, s.kp _ _ h5 ZN, Rls.go (.same s) ts ws h6⟩, f.inj, f.len⟩
theorem Frs.at (f : Frs K H2 D H' Q ys vs) {j : Nat} {a : Addr} (h : vs[j]? = some (.ref a)) : ∃ ws, H' a = some (.lst ws) := by
 have hl : j < ys.length := by rw [f.len]; exact (List.getElem?_eq_some_iff.mp h).1
 obtain ⟨a', ts, ws, h1, h2, h3, h4, h5, h6⟩ := f.it j ys[j] (.ref a) (by simp [hl]) h
 cases h2
 exact ⟨ws, h5⟩
theorem Frs.snoc (f : Frs K H2 D H' Q ys vs) (hn : ∀ (j : Nat) (a : Addr), vs[j]? = some (.ref a) -> a ≠ p) (h2 : H2 p = none) (hD : p ≠ D) (hl : H' p = some (.lst ws)) (r : Rls K H' Q ts ws) : Frs K H2 D H' Q (ys ++ [.list ts]) (vs ++ [.ref p]) := by
 have hln := f.len
 refine ⟨fun j y v e1 e2 => ?_, fun j1 j2 a e1 e2 => ?_, by simp [hln]⟩
 ·rw [List.getElem?_append] at e1 e2
  split at e1
  ·rw [if_pos (by omega)] at e2
   exact f.it j y v e1 e2
  ·rw [if_neg (by omega)] at e2
   have hj : j - ys.length = 0 := by
    have := (List.getElem?_eq_some_iff.mp e1).1
    simp at this; omega
   have hj2 : j - vs.length = 0 := by omega
   rw [hj] at e1; rw [hj2] at e2
   simp at e1 e2
   exact ⟨p, ts, ws, e1.symm, e2.symm, h2, hD, hl, r⟩
 ·rw [List.getElem?_append] at e1 e2
  split at e1
  ·split at e2
   ·exact f.inj j1 j2 a e1 e2
   ·have hj : j2 - vs.length = 0 := by
     have := (List.getElem?_eq_some_iff.mp e2).1
     simp at this; omega
    rw [hj] at e2
    simp at e2
    exact absurd e2.symm (hn j1 a e1)
  ·split at e2
   ·have hj : j1 - vs.length = 0 := by
     have := (List.getElem?_eq_some_iff.mp e1).1
     simp at this; omega
    rw [hj] at e1
    simp at e1
    exact absurd e1.symm (hn j2 a e2)
   ·have a1 := (List.getElem?_eq_some_iff.mp e1).1
    have a2 := (List.getElem?_eq_some_iff.mp e2).1
    simp at a1 a2
    omega
theorem Frs.updD {o : HO} (f : Frs K H2 D H' Q ys vs) (tr : Tr H' Q (upd H' D o) Q) : Frs K H2 D (upd H' D o) Q ys vs :=
 ⟨fun j y v e1 e2 => let ⟨a, ts, ws, h1, h2, h3, h4, h5, h6⟩ := f.it j y v e1 e2; ⟨a, ts, ws, h1, h2, h3, h4, by rw [Zf h4]; exact h5, Rls.go tr ts ws h6⟩, f.inj, f.len⟩
end
section
variable {X : Cx} {scope : Scope} {N : List Str} {nv : Nat} {cap : List Nat}
theorem WQ {xz : Cx -> Value -> Shared -> Prop} {W : Str -> Hp -> Prop} {tg elt iter : Expr} {ifs : List Expr} {pos : Pos} {st : PyData -> List Sl -> Res (List Sl)} {dc : DT} {doe : DA} {pins : List (Addr × Obj)} {σ : L2.St} {H2 : Hp} {s3 s4 : Shared} {P : Pv} {G : List Sl} {J : It} {fp : List Addr} {itA D : Addr} {tn : Nat -> Heap -> Prop} {ts : List PyData} {r : Res (List PyData)} {R : Result -> Shared -> Prop} {m : Str -> Option Value}
  (C : CompOk X scope N nv cap) (hc : X.calm = true) (hk : Xa nv st)
  (hg : ∀ s₀ H₀ ex pn, GV (cxT xz X scope N s₀ H₀ ex pn) tg st) (ht : ∀ s₀ H₀ ex pn, (∀ b ∈ ex, ∃ o, (b, o) ∈ pn) -> CT (cxT xz X scope N s₀ H₀ ex pn) W ifs dc) (he : ∀ s₀ H₀ ex pn, (∀ b ∈ ex, ∃ o, (b, o) ∈ pn) -> OV (cxT xz X scope N s₀ H₀ ex pn) W elt doe)
  (h2 : Hol X.K H2 P σ G) (hD : H2 D = none) (I3 : Inv X pins σ (upd H2 D (.lst [])) s3) (T : Turn X.prog X.w X.K tg J fp itA tn) (hf : ∀ b ∈ fp, FpOk X pins (upd H2 D (.lst [])) b /\ b < s3.heap.objs.size) (y : Yld X.K J ts H2 P) (hlen : ts.length <= 16777216)
  (hall : Zk st dc (dL doe) (List.replicate nv .emp ++ capS cap G) ts = r) (hr : r ≠ .stuck) (hW : ∀ c, r = .exc c -> ∀ H', Same H2 H' -> W c H')
  (hn : s4.heap.Ns s3.heap.objs.size m) (hkp : ∀ b o, s3.heap.get? b = some o -> s4.heap.get? b = some o) (e4 : ∃ h' t, s4 = { s3 with heap := h', toks := t }) (tn0 : tn 0 s4.heap)
  (fin : ∀ s' H' σ' vs all, r = .ok all -> Inv (cxC X scope N s3 (upd H2 D (.lst [])) fp) [] σ' H' s' -> H' D = some (.lst vs) -> Same H2 H' -> Rls X.K H' (P.fbd D) all vs -> Frs X.K H2 D H' ⟨fun _ => none, fun a => ¬ Off P a \/ a = D⟩ all vs -> R (.ok .next) s')
  (finx : ∀ pn e s', (∀ b ∈ fp, ∃ o, (b, o) ∈ pn) -> xz (cxC X scope N s3 (upd H2 D (.lst [])) fp pn) e s' -> notedBy (model X.prog X.w) X.A (compEnvC scope (Zm X.env scope.names []) s3.heap.objs.size X.env) (fun e s' => R (.error e) s') e s') :
  codeAny (model X.prog X.w) X.A (.compStart (.ListComp elt [⟨tg, iter, ifs, 0⟩] scope pos) 0 (.ref itA) (.ref D) (compEnvC scope (Zm X.env scope.names []) s3.heap.objs.size X.env)) R s4 := by
 obtain ⟨h4, t4, rfl⟩ := e4
 have J4 := C.start (t := t4) I3 hf hn hkp
 -- what no element may hold
 have trc : ∀ H', Same H2 H' -> (∃ vs, H' D = some (.lst vs)) -> Tr H2 P H' ⟨fun _ => none, fun a => ¬ Off P a \/ a = D⟩ := fun H' s _ a o e n q => ⟨s.kp a o e n, fun _ z => (by cases z), fun z => z.elim (fun z => z q) fun z => by rw [z, hD] at e; cases e⟩
 have offc : ∀ H', Same H2 H' -> (∃ vs, H' D = some (.lst vs)) -> ∀ p, H' p = none -> Off ⟨fun _ => none, fun a => ¬ Off P a \/ a = D⟩ p := fun H' s ⟨vs, hv⟩ p hp => ⟨fun _ z => (by cases z), fun z => z.elim (fun z => z (h2.off_new (s.free hp))) fun z => by rw [z, hv] at hp; cases hp⟩
 have fbc : ∀ H', Same H2 H' -> (∃ vs, H' D = some (.lst vs)) -> ∀ a, (¬ Off P a \/ a = D) -> H' a ≠ none := fun H' s hv a z hn => (offc H' s hv a hn).2 z
 have hCe : ∀ i, i < nv -> ∀ x, (List.replicate nv Sl.emp ++ capS cap G)[i]? = some x -> x = .emp := fun i hi x e => by
  rw [List.getElem?_append_left (by simpa using hi), List.getElem?_replicate, if_pos hi] at e
  cases e
  rfl
 have hCo : ∀ (i : Nat) xs, (List.replicate nv Sl.emp ++ capS cap G)[i]? ≠ some (.own xs) := fun i xs e => by
  by_cases hi : i < nv
  ·have := hCe i hi _ e; cases this
  ·rw [List.getElem?_append_right (by simpa using hi)] at e
   unfold capS at e
   rw [List.getElem?_map] at e
   cases ec : cap[i - (List.replicate nv Sl.emp).length]? with
   | none => rw [ec] at e; cases e
   | some j =>
    rw [ec] at e
    simp only [Option.map_some, Option.some.injEq] at e
    cases eg : G[j]? with
    | none => rw [eg] at e; cases e
    | some x => rw [eg] at e; cases x <;> cases e
 have fpo : ∀ H', (∀ b ∈ fp, H' b = none) -> ∀ b ∈ fp, FpOk (cxC X scope N s3 (upd H2 D (.lst [])) fp) [] H' b := fun H' hz b hb => by
  obtain ⟨f, lt⟩ := hf b hb
  refine ⟨hz b hb, Nat.ne_of_lt lt, fun z => ?_, .inl hb, fun x c e => f.2.2.2.2.1 x c (Yf X.env scope.names [] (C.has I3.ok) (fun x c e => by cases e) x c e), fun p hp => absurd (show p ∈ ([] : List (Addr × Obj)) from hp) (by simp)⟩
  rcases List.mem_cons.mp (I3.stkSub b z) with e | e
  ·exact f.2.1 e
  ·exact f.2.2.1 e
 have up0 : Same H2 (upd H2 D (.lst [])) := Zu hD
 -- the loop
 have loop : ∀ s5 : Shared, s5 = { s3 with heap := h4, toks := t4 } -> codeAny (model X.prog X.w) X.A (.compLoop (.ListComp elt [⟨tg, iter, ifs, 0⟩] scope pos) 0 (.ref itA) (.ref D) (compEnvC scope (Zm X.env scope.names []) s3.heap.objs.size X.env)) R s5 := by
  rintro s5 rfl
  refine Y3 (fun n s => ∃ i σ' H' vs ys, n = ts.length - i /\ i <= ts.length /\ Inv (cxC X scope N s3 (upd H2 D (.lst [])) fp) [] σ' H' s /\ tn i s.heap /\ (∀ b ∈ fp, H' b = none) /\ Same H2 H' /\ H' D = some (.lst vs) /\
   Rls X.K H' ⟨fun _ => none, fun a => ¬ Off P a \/ a = D⟩ ys vs /\ Frs X.K H2 D H' ⟨fun _ => none, fun a => ¬ Off P a \/ a = D⟩ ys vs /\ Hol X.K H' ⟨fun _ => none, fun a => ¬ Off P a \/ a = D⟩ σ' (List.replicate nv .emp ++ capS cap G) /\ ((Zk st dc (dL doe) (List.replicate nv .emp ++ capS cap G) (ts.drop i)).bind fun zs => .ok (ys ++ zs)) = r /\ ys.length <= i) ?_ ts.length
   ⟨0, _, _, [], [], rfl, Nat.zero_le _, J4, tn0, fun b hb => (hf b hb).1.1, up0, Zi, Zq.mpr rfl, .nil, WL h2 (trc _ up0 ⟨_, Zi⟩) (fun _ => rfl) (fbc _ up0 ⟨_, Zi⟩) (up0.tab _ h2.tab), by rw [List.drop_zero, hall]; cases r <;> rfl, Nat.le_refl _⟩
  rintro n s ⟨i, σ', H', vs, ys, rfl, hi, Ji, tni, fpn, sm, hDv, rys, frs, hol, ecl, hyl⟩
  obtain ⟨y1, y2⟩ := y H' ⟨fun _ => none, fun a => ¬ Off P a \/ a = D⟩ (trc H' sm ⟨vs, hDv⟩) (offc H' sm ⟨vs, hDv⟩) i
  by_cases hlt : i < ts.length
  ·have et : ts[i]? = some ts[i] := by simp [hlt]
   obtain ⟨go, yl⟩ := y1 _ et
   rw [List.drop_eq_getElem_cons hlt] at ecl
   unfold Zk at ecl
   -- the turn's own data
   obtain ⟨G1, eG⟩ : ∃ G1, st ts[i] (List.replicate nv .emp ++ capS cap G) = .ok G1 := by
    rcases Yu (st ts[i] (List.replicate nv .emp ++ capS cap G)) with ⟨G1, h⟩ | h
    ·exact ⟨G1, Wg h⟩
    ·rw [h] at ecl; exact absurd ecl.symm hr
   rw [eG, show noX (Res.ok G1 : Res (List Sl)) = .ok G1 from rfl, Res.bind_ok] at ecl
   obtain ⟨kl, ke⟩ := hk _ _ _ eG
   refine wpAny_mono (T.item (cxC X scope N s3 (upd H2 D (.lst [])) fp) rfl rfl rfl hc i [] s σ' H' (fun _ _ => False) Ji (fpo H' fpn) tni go) (fun r' s1 hr' => ?_) fun _ _ z => z.elim
   obtain ⟨u, rfl, hr'⟩ := hr'
   refine wpAny_mono hr' (fun _ s2 hr2 => ?_) fun _ _ z => z.elim
   obtain ⟨x, H5, J5, r5, y5, tn5, fr5⟩ := hr2
   obtain ⟨sm5, rl5⟩ := yl x H5 y5
   have J5' : Inv (cxT xz X scope N s3 (upd H2 D (.lst [])) fp (Zl fp s2.heap)) [] σ' H5 s2 := inv_pn (J5.pinned (fpo H5 fr5) (T.obj _ _ tn5))
   have pnn : ∀ b ∈ fp, ∃ o, (b, o) ∈ Zl fp s2.heap := fun b hb => by
    obtain ⟨o, e, _⟩ := T.obj _ _ tn5 b hb
    exact ⟨o, Z6 hb e⟩
   have finx' := fun e s' => finx (Zl fp s2.heap) e s' pnn
   obtain ⟨g, pg, gp⟩ := hg s3 (upd H2 D (.lst [])) fp (Zl fp s2.heap)
   have hol5 := hol.same sm5
   refine wpAny_mono (pg _ s2 σ' H5 x u (fun σ6 H6 => H6 = H5 /\ ∃ P6, Go H5 ⟨fun _ => none, fun a => ¬ Off P a \/ a = D⟩ H5 P6 /\ Hol X.K H5 P6 σ6 G1) J5' r5 (gp ts[i] x σ' H5 _ _ _ hol5 rl5 ⟨G1, eG, fun σ6 P6 g6 h6 => ⟨rfl, P6, g6, h6⟩⟩)) (fun _ s6 h6 => ?_) finx'
   obtain ⟨σ6, H6, J6, rfl, P6, g6, hol6⟩ := h6
   -- on to the next turn
   have fr6 : ∀ {H8 : Hp} {s8 : Shared}, Inv (cxT xz X scope N s3 (upd H2 D (.lst [])) fp (Zl fp s2.heap)) [] σ6 H8 s8 -> ∀ b ∈ fp, H8 b = none := fun {H8 s8} J8 b hb => by
    obtain ⟨o, e⟩ := pnn b hb
    exact (J8.pin (b, o) (List.mem_append_left _ e)).2.1
   have next : ∀ {H8 : Hp} {s8 : Shared} {ys' : List PyData} {vs' : List V}, Inv (cxT xz X scope N s3 (upd H2 D (.lst [])) fp (Zl fp s2.heap)) [] σ6 H8 s8 -> Same H2 H8 -> H8 D = some (.lst vs') -> (∀ b, b ≠ D -> ∀ o, H6 b = some o -> Nt o -> H8 b = some o) ->
     Rls X.K H8 ⟨fun _ => none, fun a => ¬ Off P a \/ a = D⟩ ys' vs' -> Frs X.K H2 D H8 ⟨fun _ => none, fun a => ¬ Off P a \/ a = D⟩ ys' vs' -> ((Zk st dc (dL doe) (List.replicate nv .emp ++ capS cap G) (ts.drop (i + 1))).bind fun zs => .ok (ys' ++ zs)) = r -> ys'.length <= i + 1 ->
     ∃ m, m < ts.length - i /\ ∃ i σ' H' vs ys, m = ts.length - i /\ i <= ts.length /\ Inv (cxC X scope N s3 (upd H2 D (.lst [])) fp) [] σ' H' s8 /\ tn i s8.heap /\ (∀ b ∈ fp, H' b = none) /\ Same H2 H' /\ H' D = some (.lst vs) /\
      Rls X.K H' ⟨fun _ => none, fun a => ¬ Off P a \/ a = D⟩ ys vs /\ Frs X.K H2 D H' ⟨fun _ => none, fun a => ¬ Off P a \/ a = D⟩ ys vs /\ Hol X.K H' ⟨fun _ => none, fun a => ¬ Off P a \/ a = D⟩ σ' (List.replicate nv .emp ++ capS cap G) /\ ((Zk st dc (dL doe) (List.replicate nv .emp ++ capS cap G) (ts.drop i)).bind fun zs => .ok (ys ++ zs)) = r /\ ys.length <= i := by
    intro H8 s8 ys' vs' J8 sm8 hD8 kp8 rys8 frs8 ecl8 hyl8
    refine ⟨ts.length - (i + 1), by omega, i + 1, σ6, H8, vs', ys', rfl, hlt, Inv.unpinned (pins := []) (pl := Zl fp s2.heap) (by simpa using V9 J8), ?_, fr6 J8, sm8, hD8, rys8, frs8, ?_, ecl8, hyl8⟩
    ·exact T.keep _ _ _ tn5 fun b hb o e => (J8.pin (b, o) (List.mem_append_left _ (Z6 hb e))).1
    ·have hF : Hol X.K H6 P6.bare σ6 (List.replicate nv .emp ++ capS cap G) := Y0 hCe hCo hol6 kl ke
     have ep : P6.bare = ⟨fun _ => none, fun a => ¬ Off P a \/ a = D⟩ := by
      unfold Pv.bare
      rw [g6.fbe]
     rw [ep] at hF
     have tr8 : Tr H6 ⟨fun _ => none, fun a => ¬ Off P a \/ a = D⟩ H8 ⟨fun _ => none, fun a => ¬ Off P a \/ a = D⟩ := fun a o e n q => ⟨kp8 a (fun z => q.2 (Or.inr z)) o e n, q⟩
     refine ⟨fun j x e => ?_, fun _ _ _ z => (by cases z), fun _ _ z => (by cases z), fbc H8 sm8 ⟨vs', hD8⟩, fun _ _ z => (by cases z), hF.len, sm8.tab _ h2.tab⟩
     have z := hF.sl j x e
     cases x with
     | emp => trivial
     | val t => obtain ⟨v, e1, r1⟩ := z; exact ⟨v, e1, Rl.go tr8 t v r1⟩
     | own xs => exact absurd e (hCo j xs)
   have sm6 : Same H2 H6 := sm.trans sm5
   -- behind the test
   have after : ∀ k s7 H7, Inv (cxT xz X scope N s3 (upd H2 D (.lst [])) fp (Zl fp s2.heap)) [] σ6 H7 s7 -> Same H6 H7 -> dc G1 = .ok k -> (if k = true then wpAny (model X.prog X.w) X.A (eval elt (compEnvC scope (Zm X.env scope.names []) s3.heap.objs.size X.env)) (fun x s₄ =>
      wpAny (model X.prog X.w) X.A (call (.builtin "list.append") [.ref D, x]) (fun _ s₅ => ∃ m, m < ts.length - i /\ ∃ i σ' H' vs ys, m = ts.length - i /\ i <= ts.length /\ Inv (cxC X scope N s3 (upd H2 D (.lst [])) fp) [] σ' H' s₅ /\ tn i s₅.heap /\ (∀ b ∈ fp, H' b = none) /\ Same H2 H' /\ H' D = some (.lst vs) /\
      Rls X.K H' ⟨fun _ => none, fun a => ¬ Off P a \/ a = D⟩ ys vs /\ Frs X.K H2 D H' ⟨fun _ => none, fun a => ¬ Off P a \/ a = D⟩ ys vs /\ Hol X.K H' ⟨fun _ => none, fun a => ¬ Off P a \/ a = D⟩ σ' (List.replicate nv .emp ++ capS cap G) /\ ((Zk st dc (dL doe) (List.replicate nv .emp ++ capS cap G) (ts.drop i)).bind fun zs => .ok (ys ++ zs)) = r /\ ys.length <= i) (notedBy (model X.prog X.w) X.A (compEnvC scope (Zm X.env scope.names []) s3.heap.objs.size X.env) fun e s' => R (.error e) s') s₄) (notedBy (model X.prog X.w) X.A (compEnvC scope (Zm X.env scope.names []) s3.heap.objs.size X.env) fun e s' => R (.error e) s') s7
     else ∃ m, m < ts.length - i /\ ∃ i σ' H' vs ys, m = ts.length - i /\ i <= ts.length /\ Inv (cxC X scope N s3 (upd H2 D (.lst [])) fp) [] σ' H' s7 /\ tn i s7.heap /\ (∀ b ∈ fp, H' b = none) /\ Same H2 H' /\ H' D = some (.lst vs) /\
      Rls X.K H' ⟨fun _ => none, fun a => ¬ Off P a \/ a = D⟩ ys vs /\ Frs X.K H2 D H' ⟨fun _ => none, fun a => ¬ Off P a \/ a = D⟩ ys vs /\ Hol X.K H' ⟨fun _ => none, fun a => ¬ Off P a \/ a = D⟩ σ' (List.replicate nv .emp ++ capS cap G) /\ ((Zk st dc (dL doe) (List.replicate nv .emp ++ capS cap G) (ts.drop i)).bind fun zs => .ok (ys ++ zs)) = r /\ ys.length <= i) := by
    intro k s7 H7 J7 sm7 eK
    rw [eK, Res.bind_ok] at ecl
    have sm27 : Same H2 H7 := sm6.trans sm7
    have hD7 : H7 D = some (.lst vs) := sm7.kp _ _ (sm5.kp _ _ hDv ZN) ZN
    have r7 : Rls X.K H7 ⟨fun _ => none, fun a => ¬ Off P a \/ a = D⟩ ys vs := Rls.go (.same (sm5.trans sm7)) ys vs rys
    cases k with
    | false =>
     rw [if_neg Bool.false_ne_true] at ecl ⊢
     exact next J7 sm27 hD7 (fun b _ o e n => sm7.kp b o e n) r7 (frs.same (sm5.trans sm7)) ecl (by omega)
    | true =>
     rw [if_pos rfl] at ecl ⊢
     have edL : dL doe G1 = (doe G1).bind fun xs => .ok (.list xs) := rfl
     rw [edL] at ecl
     cases eY : doe G1 with
     | stuck => rw [eY] at ecl; exact absurd ecl.symm hr
     | exc c =>
      rw [eY] at ecl
      refine wpAny_mono (he s3 (upd H2 D (.lst [])) fp (Zl fp s2.heap) pnn _ s7 σ6 H7 (fun _ _ => False) J7 ⟨G1, P6, hol6.same sm7, by rw [eY]; exact fun H8 s8 => hW c ecl.symm H8 (sm27.trans s8)⟩) (fun xv s8 h8 => ?_) finx'
      obtain ⟨_, _, _, _, z⟩ := h8
      exact z.elim
     | ok ts7 =>
      rw [eY, Res.bind_ok, Res.bind_ok] at ecl
      refine wpAny_mono (he s3 (upd H2 D (.lst [])) fp (Zl fp s2.heap) pnn _ s7 σ6 H7 (fun v H8 => ∃ p ws, v = .ref p /\ Same H7 H8 /\ H7 p = none /\ H8 p = some (.lst ws) /\ Rls X.K H8 (P6.fbd p) ts7 ws) J7 ⟨G1, P6, hol6.same sm7, by rw [eY]; exact fun p ws H8 s hp hl r => ⟨p, ws, rfl, s, hp, hl, r⟩⟩) (fun xv s8 h8 => ?_) finx'
      obtain ⟨v8, H8, J8, r8, p8, ws8, rfl, sm8, hp8, hl8, rr8⟩ := h8
      have rl8 : Rl X.K H8 P6 (.list ts7) (.ref p8) := VQ (hol6.same sm7) sm8 hp8 hl8 rr8
      have hD8 : H8 D = some (.lst vs) := sm8.kp _ _ hD7 ZN
      have lv := rys.length
      have tr6 : Tr H8 P6 H8 ⟨fun _ => none, fun a => ¬ Off P a \/ a = D⟩ := fun a o e _ q => ⟨e, fun _ z => (by cases z), by rw [<- g6.fbe]; exact q.2⟩
      refine wpAny_mono (Xi (X := cxT xz X scope N s3 (upd H2 D (.lst [])) fp (Zl fp s2.heap)) _ s8 σ6 H8 (.ref D) [.ref p8] (.ref D) [xv] (fun w H9 => H9 = upd H8 D (.lst (vs ++ [V.ref p8]))) J8 rfl (.cons r8 .nil) ⟨D, vs, V.ref p8, rfl, rfl, hD8, by rw [sizeLine_eq]; omega, rfl⟩) (fun _ s9 h9 => ?_) finx'
      obtain ⟨_, H9, J9, _, rfl⟩ := h9
      have trD : Tr H8 ⟨fun _ => none, fun a => ¬ Off P a \/ a = D⟩ (upd H8 D (.lst (vs ++ [V.ref p8]))) ⟨fun _ => none, fun a => ¬ Off P a \/ a = D⟩ := fun a o e _ q => ⟨by rw [Zf (fun z => q.2 (Or.inr z))]; exact e, q⟩
      have smD : Same H2 (upd H8 D (.lst (vs ++ [V.ref p8]))) := (sm27.trans sm8).updL hD hD8
      refine next J9 smD Zi (fun b hb o e n => by rw [Zf hb]; exact sm8.kp b o (sm7.kp b o e n) n) (Rls.append (Rls.go trD ys vs (Rls.go (.same sm8) ys vs r7)) (Zj.mpr ⟨V.ref p8, [], rfl, Rl.go trD (.list ts7) (.ref p8) (Rl.go tr6 (.list ts7) (.ref p8) rl8), Zq.mpr rfl⟩)) (((frs.same (sm5.trans (sm7.trans sm8))).snoc (fun j a hj => ?_) (sm27.free hp8) (fun z => by rw [z, hD7] at hp8; cases hp8) hl8 (Rls.go (show Tr H8 (P6.fbd p8) H8 ⟨fun _ => none, fun a => ¬ Off P a \/ a = D⟩ from fun a o e n q => ⟨e, fun _ z => (by cases z), fun z => q.2 (Or.inl (by rw [g6.fbe]; exact z))⟩) ts7 ws8 rr8)).updD trD) ?_ (by simp; omega)
      ·obtain ⟨ws, hw⟩ := (frs.same (sm5.trans sm7)).at hj
       exact fun z => by rw [z, hp8] at hw; cases hw
      rw [<- ecl]
      cases Zk st dc (dL doe) (List.replicate nv .emp ++ capS cap G) (ts.drop (i + 1)) <;> simp
   rcases ht s3 (upd H2 D (.lst [])) fp (Zl fp s2.heap) pnn with ⟨rfl, rfl⟩ | ⟨cx, rfl, tvc⟩
   ·exact wpAny_tests_nil (after true s6 H6 J6 (Same.refl _) rfl)
   ·cases eK : dc G1 with
    | stuck => rw [eK] at ecl; exact absurd ecl.symm hr
    | exc c =>
     rw [eK] at ecl
     refine wpAny_tests_one (wpAny_mono (tvc _ s6 σ6 H6 (fun _ _ => False) J6 ⟨G1, P6, hol6, by rw [eK]; exact fun H7 s => hW c ecl.symm H7 (sm6.trans s)⟩) (fun b s7 h7 => ?_) finx')
     obtain ⟨_, _, z⟩ := h7
     exact z.elim
    | ok k =>
     refine wpAny_tests_one (wpAny_mono (tvc _ s6 σ6 H6 (fun b H7 => b = k /\ Same H6 H7) J6 ⟨G1, P6, hol6, by rw [eK]; exact fun H7 s => ⟨rfl, s⟩⟩) (fun b s7 h7 => ?_) finx')
     obtain ⟨H7, J7, rfl, sm7⟩ := h7
     exact after b s7 H7 J7 sm7 eK
  ·have ei : i = ts.length := by omega
   subst ei
   rw [List.drop_length] at ecl
   have ecl' : r = .ok ys := by rw [<- ecl]; simp [Zk]
   refine wpAny_mono (T.done (cxC X scope N s3 (upd H2 D (.lst [])) fp) rfl rfl rfl hc _ [] s σ' H' (fun _ _ => False) Ji (fpo H' fpn) tni (y2 (Nat.le_refl _))) (fun r' s1 hr' => ?_) fun _ _ z => z.elim
   obtain ⟨rfl, J1⟩ := hr'
   have trf : Tr H' ⟨fun _ => none, fun a => ¬ Off P a \/ a = D⟩ H' (P.fbd D) := fun a o e _ q => by
    have o1 : Off P a := Classical.byContradiction fun z => q.2 (Or.inl z)
    exact ⟨e, o1.1, fun z => z.elim o1.2 fun z => q.2 (Or.inr z)⟩
   exact fin s1 H' σ' vs ys ecl' J1 hDv sm (Rls.go trf ys vs rys) frs
 exact codeAny_compStart_list (loop _ rfl) (T.self _ 0 _ _ _ tn0 (loop _ rfl))
end
section
variable {X : Cx} {W : Str -> Hp -> Prop} {fl : Bool} {scope : Scope} {N : List Str} {nv : Nat} {cap : List Nat} {tg elt iter : Expr} {ifs : List Expr} {pos : Pos} {st : PyData -> List Sl -> Res (List Sl)} {it : DA} {dc : DT} {doe : DA} {xz : Cx -> Value -> Shared -> Prop}
theorem Ut {pins : List (Addr × Obj)} {σ : L2.St} {H : Hp} {s : Shared} {P : Pv} {G : List Sl} {use : Option (Value -> Sem Unit)} {Q : Value -> Shared -> Prop} {pos' : Pos}
  (C : CompOk X scope N nv cap) (hc : X.calm = true) (hk : Xa nv st) (hi : IV X W tg iter it)
  (hX : WR X scope N xz) (hg : ∀ s₀ H₀ ex pn, GV (cxT xz X scope N s₀ H₀ ex pn) tg st) (ht : ∀ s₀ H₀ ex pn, (∀ b ∈ ex, ∃ o, (b, o) ∈ pn) -> CT (cxT xz X scope N s₀ H₀ ex pn) W ifs dc) (he : ∀ s₀ H₀ ex pn, (∀ b ∈ ex, ∃ o, (b, o) ∈ pn) -> OV (cxT xz X scope N s₀ H₀ ex pn) W elt doe)
  (I : Inv X pins σ H s) (h : Hol X.K H P σ G)
  (hx : ∀ c, it G = .exc c -> ∀ H', Same H H' -> W c H') (hs0 : it G ≠ .stuck)
  (fin : ∀ ts, it G = .ok ts -> ts.length <= 16777216 /\ Zk st dc (dL doe) (List.replicate nv .emp ++ capS cap G) ts ≠ .stuck /\ (∀ c, Zk st dc (dL doe) (List.replicate nv .emp ++ capS cap G) ts = .exc c -> ∀ H', Same H H' -> W c H') /\ ∀ all, Zk st dc (dL doe) (List.replicate nv .emp ++ capS cap G) ts = .ok all ->
   ∀ D vs H' s' c, Inv X pins σ H' s' -> FpOk X pins H' c -> (∃ m, s'.heap.Ns c m) -> (X.env.locals ≠ c /\ ∀ x a, X.env.cells.lookup x = some a -> a ≠ c) -> Same H H' -> H D = none -> H' D = some (.lst vs) -> Rls X.K H' (P.fbd D) all vs -> Frs X.K H D H' ⟨fun _ => none, fun a => ¬ Off P a \/ a = D⟩ all vs ->
    compPost (model X.prog X.w) X.A X.xe use Q (.ref D) c (.ok .next) s')
  (hs : ∀ x, foldedSetIterable iter X.env x = pure x := by intro _; rfl) :
  wpAny (model X.prog X.w) X.A (comprehension (.ListComp elt [⟨tg, iter, ifs, 0⟩] scope pos) scope X.env pos' (newList []) false (eval iter X.env) use) Q X.xe s := by
 refine wpAny_comprehension_free rfl hs (Yp (C.has I.ok)) C.kind C.names (wpAny_mono (hi pins s σ H (fun J H' => Same H H' /\ ∃ ts, it G = .ok ts /\ Yld X.K J ts H' P) I ⟨G, P, h, ?_⟩) (fun v s1 h1 => wpAny_mono h1 (fun itv s2 h2 => ?_) fun _ _ z => z) fun _ _ z => z)
 ·cases e : it G with
  | ok ts => exact fun J H' s y => ⟨s, ts, rfl, y⟩
  | exc c => exact hx c e
  | stuck => exact absurd e hs0
 obtain ⟨itA, fp, tn, J, H2, rfl, I2, T, tn0, f2, sm2, ts, ets, y⟩ := h2
 obtain ⟨hlen, hns, hex, fin⟩ := fin ts ets
 have hD : H2 s2.heap.objs.size = none := I2.hok.fresh (Nat.le_refl _)
 refine wpAny_newObj_type (wpAny_newFunctionEnv C.cell (by intro y hy; simp at hy) (fun h₁ hns₁ hsb₁ => ?_) C.kind)
 have I3 : Inv X pins σ (upd H2 s2.heap.objs.size (.lst [])) { s2 with heap := s2.heap.push { cls := .type "list", dict := none, data := .seq ([] : List Value).toArray } } :=
  I2.laid (t' := s2.toks) (fun b u e => Heap.get?_push_of_some _ e) (Nat.le_refl _) ⟨by show 0 <= sizeLine; exact Nat.zero_le _, [], 0, .nil, Heap.get?_push_size _ rfl⟩
 have sz : (s2.heap.push { cls := .type "list", dict := none, data := .seq ([] : List Value).toArray }).objs.size = s2.heap.objs.size + 1 := Heap.size_push _ _
 have hf3 : ∀ b ∈ fp, FpOk X pins (upd H2 s2.heap.objs.size (.lst [])) b /\ b < (s2.heap.push { cls := .type "list", dict := none, data := .seq ([] : List Value).toArray }).objs.size := fun b hb => by
  obtain ⟨o, ho, _⟩ := T.obj 0 _ tn0 b hb
  have lt := Heap.lt_size ho
  obtain ⟨a1, a2⟩ := f2 b hb
  exact ⟨⟨by rw [Zf (Nat.ne_of_lt lt)]; exact a1, a2⟩, by rw [sz]; exact Nat.lt_succ_of_lt lt⟩
 have kp : ∀ b o, (s2.heap.push { cls := .type "list", dict := none, data := .seq ([] : List Value).toArray }).get? b = some o -> h₁.get? b = some o := fun b o e =>
  hsb₁.extBut b o (Nat.ne_of_lt (Heap.lt_size e)) (Heap.get?_push_of_some _ e)
 have tn3 : tn 0 h₁ := T.keep 0 _ _ tn0 fun b _ o e => kp b o (Heap.get?_push_of_some _ e)
 refine WQ (s3 := { s2 with heap := s2.heap.push { cls := .type "list", dict := none, data := .seq ([] : List Value).toArray } }) (D := s2.heap.objs.size) C hc hk hg ht he (h.same sm2) hD I3 T hf3 y hlen rfl hns (fun c ec H' sm => hex c ec H' (sm2.trans sm)) hns₁ kp ⟨h₁, _, rfl⟩ tn3 (fun s' H' σ' vs all hall J' hl sm r frs => ?_) fun pn e s' pnn hx => hX pins σ _ _ fp pn e s' I3 hf3 pnn hx
 have IX := CompOk.stop I3 (fun b hb => (hf3 b hb).1) J'
 have fo : FpOk X pins H' (s2.heap.push { cls := .type "list", dict := none, data := .seq ([] : List Value).toArray }).objs.size := I3.fpOk (Nat.le_refl _) J'.free
 obtain ⟨m, hm, _⟩ := J'.loc
 exact fin all hall _ vs H' s' _ IX fo ⟨m, hm⟩ ⟨Ne.symm fo.2.1, fun x a e => fo.2.2.2.2.1 x a e⟩ (sm2.trans sm) (sm2.free hD) hl r ⟨fun j y v e1 e2 => let ⟨a, ts, ws, h1, h2, h3, h4, h5, h6⟩ := frs.it j y v e1 e2; ⟨a, ts, ws, h1, h2, sm2.free h3, h4, h5, h6⟩, frs.inj, frs.len⟩
theorem Vo {i : Nat} {x : Str} {pos' : Pos} {tS : TS} (C : CompOk X scope N nv cap) (hc : X.calm = true) (hk : Xa nv st) (hi : IV X W tg iter it)
  (hX : WR X scope N xz) (hg : ∀ s₀ H₀ ex pn, GV (cxT xz X scope N s₀ H₀ ex pn) tg st) (ht : ∀ s₀ H₀ ex pn, (∀ b ∈ ex, ∃ o, (b, o) ∈ pn) -> CT (cxT xz X scope N s₀ H₀ ex pn) W ifs dc) (he : ∀ s₀ H₀ ex pn, (∀ b ∈ ex, ∃ o, (b, o) ∈ pn) -> OV (cxT xz X scope N s₀ H₀ ex pn) W elt doe)
  (hN : X.N.Nodup) (hix : X.N[i]? = some x) (hx : Loc X.env.scope x) {spos : Pos} (hsw : swapsWith (.ListComp elt [⟨tg, iter, ifs, 0⟩] scope pos) (some (.Name x pos')) spos.line X.env = pure true)
  (hs : ∀ x, foldedSetIterable iter X.env x = pure x) (hf : X.fn x = true \/ X.env.scope.names.lookup x = some .local)
  (hd : ∀ D σ H, tS D σ H -> ∃ G P, Hol X.K H P σ G /\ (∀ c, it G = .exc c -> ∀ H', Same H H' -> W c H') /\ it G ≠ .stuck /\ ∀ ts, it G = .ok ts -> ts.length <= 16777216 /\ Zk st dc (dL doe) (List.replicate nv .emp ++ capS cap G) ts ≠ .stuck /\ (∀ c, Zk st dc (dL doe) (List.replicate nv .emp ++ capS cap G) ts = .exc c -> ∀ H', Same H H' -> W c H') /\ ∀ all, Zk st dc (dL doe) (List.replicate nv .emp ++ capS cap G) ts = .ok all ->
   ∀ p vs H', Same H H' -> H p = none -> H' p = some (.lst vs) -> Rls X.K H' (P.fbd p) all vs -> Frs X.K H p H' ⟨fun _ => none, fun a => ¬ Off P a \/ a = p⟩ all vs -> D.nx (σ.set i (some (.ref p))) H') : PS X (.Assign [.Name x pos'] (.ListComp elt [⟨tg, iter, ifs, 0⟩] scope pos) spos) tS := by
 intro pins s σ H D I hq
 obtain ⟨G, P, h, q1, q2, q3⟩ := hd D σ H hq
 rw [exec_Assign_Name_used _ _ _ _ hsw]
 refine wpAny_bind (wpAny_standAt (wpAny_bind ?_))
 show wpAny _ X.A (do let _ <- comprehension (.ListComp elt [⟨tg, iter, ifs, 0⟩] scope pos) scope X.env _ (newList []) false (eval iter X.env) (some (assign (.Name x pos') X.env))) _ _ s
 refine wpAny_bind (wpAny_mono (Ut (use := some (assign (.Name x pos') X.env)) (Q := fun _ s' => SP X pins D .next s') C hc hk hi hX hg ht he I h q1 q2 (fun ts ets => ?_) hs) (fun _ s' hq => wpAny_pure (wpAny_pure hq)) fun _ _ e => e)
 obtain ⟨hl, n1, n2, q4⟩ := q3 ts ets
 refine ⟨hl, n1, n2, fun all hall p vs H' s' c IX fo hm hne sm hp hl r frs => ?_⟩
 obtain ⟨m, hm⟩ := hm
 show wpAny _ X.A (assign (.Name x pos') X.env (.ref p)) _ _ _
 refine wpAny_assign_Name (Xe IX hN hix hx (v := .ref p) rfl (fun s'' I'' ch => ?_) hf)
 obtain ⟨a, hsb, ha⟩ := ch
 have hca : c ≠ a := by
  rcases ha with rfl | ha
  ·exact Ne.symm hne.1
  ·exact Ne.symm (hne.2 x a ha)
 refine ⟨m, hm.sameBut hsb hca, fun h' hs' => ⟨_, H', atC I'' fo hs', q4 all hall p vs H' sm hp hl r frs⟩⟩
end
def il (ks : List Int) : PyData := .list (ks.map .int)
def isI : PyData -> Bool
 | .int _ => true
 | _ => false
def isIL : PyData -> Bool
 | .list xs => xs.all isI
 | _ => false
theorem isI_ok : ∀ {xs : List PyData}, xs.all isI = true -> ∃ ks : List Int, xs = ks.map .int
 | [], _ => ⟨[], rfl⟩
 | x :: xs, h => by
  rw [List.all_cons, Bool.and_eq_true] at h
  obtain ⟨ks, rfl⟩ := isI_ok h.2
  cases x <;> try (cases h.1)
  rename_i k
  exact ⟨k :: ks, rfl⟩
theorem V6 : ∀ {xs : List PyData}, xs.all isIL = true -> ∃ kss : List (List Int), xs = kss.map il
 | [], _ => ⟨[], rfl⟩
 | x :: xs, h => by
  rw [List.all_cons, Bool.and_eq_true] at h
  obtain ⟨kss, rfl⟩ := V6 h.2
  cases x <;> try (cases h.1)
  rename_i ys
  obtain ⟨ks, rfl⟩ := isI_ok (xs := ys) h.1
  exact ⟨ks :: kss, rfl⟩
def Nst (H0 H : Hp) (P : Pv) (i : Nat) (kss : List (List Int)) : Prop :=
 ∃ (p : Addr) (as : List Addr), P.own i = some p /\ H p = some (.lst (as.map V.ref)) /\ as.length = kss.length /\ (∀ (j1 j2 : Nat) (a : Addr), as[j1]? = some a -> as[j2]? = some a -> j1 = j2) /\
  ∀ (j : Nat) (a : Addr) (ks : List Int), as[j]? = some a -> kss[j]? = some ks -> H0 a = none /\ a ≠ p /\ Off P a /\ H a = some (.lst (ks.map V.int))
def tN (K : PySem.W.Frag) (W : Str -> Hp -> Prop) (fl : Bool) (i : Nat) (d : DS) : TS := fun D σ H => ∃ G P H0 P0 kss, Go H0 P0 H P /\ Hol K H P σ G /\ G[i]? = some (.own (kss.map il)) /\ Nst H0 H P i kss /\ Z2 K W fl H0 P0 (d G) D
theorem Nst.same {H0 H H' : Hp} {P : Pv} {i : Nat} {kss : List (List Int)} (n : Nst H0 H P i kss) (s : Same H H') : Nst H0 H' P i kss := by
 obtain ⟨p, as, h1, h2, h3, h4, h5⟩ := n
 exact ⟨p, as, h1, s.kp _ _ h2 ZN, h3, h4, fun j a ks e1 e2 => let ⟨a1, a2, a3, a4⟩ := h5 j a ks e1 e2; ⟨a1, a2, a3, s.kp _ _ a4 ZN⟩⟩
theorem Nst.del {H0 H : Hp} {P : Pv} {i j : Nat} {kss : List (List Int)} (n : Nst H0 H P i kss) (hj : i ≠ j) : Nst H0 H (P.del j) i kss := by
 obtain ⟨p, as, h1, h2, h3, h4, h5⟩ := n
 refine ⟨p, as, ?_, h2, h3, h4, fun j' a ks e1 e2 => let ⟨a1, a2, a3, a4⟩ := h5 j' a ks e1 e2; ⟨a1, a2, ⟨fun k z => ?_, a3.2⟩, a4⟩⟩
 ·show (if i = j then none else P.own i) = _
  rw [if_neg hj]; exact h1
 ·have z' : (if k = j then none else P.own k) = some a := z
  split at z'
  ·cases z'
  ·exact a3.1 k z'
section
variable {X : Cx} {W : Str -> Hp -> Prop} {fl : Bool} {i : Nat} {c e k1 k2 : Expr} {pos : Pos} {rest x : List Stmt}
theorem pss_or {ss : List Stmt} {t u : TS} (h1 : PSs X ss t) (h2 : PSs X ss u) : PSs X ss (fun D σ H => t D σ H \/ u D σ H) := fun pins s σ H D I q => q.elim (h1 pins s σ H D I) (h2 pins s σ H D I)
def dIfN (dc : DT) (a b : DS) : DS := fun G => (dc (frzA G)).bind fun k => if k then a G else b G
theorem V1 {dc : DT} {dx dS dN : DS} (hc : TV X W c dc) (hx : SVs X W fl x dx) (hS : SVs X W fl rest dS) (hN : PSs X rest (tN X.K W fl i dN)) : PSs X (.If c x [] pos :: rest) (tN X.K W fl i (dIfN dc (dSeq dx dS) dN)) :=
 Yi (Yz (ps_if hc hx XR) (pss_or hS hN)) fun D σ H ⟨G, P, H0, P0, kss, g0, h, ei, n, q⟩ => by
  unfold dIfN at q
  obtain ⟨h', g⟩ := h.frzA
  obtain ⟨q1, q2, q3⟩ := Uy q
  refine YK h' (fun c e H' s => q1 c e H' P.bare ((g0.trans g).trans (.same s))) q2 fun k H1 ek s1 _ => ?_
  have q4 := q3 k ek
  have g1 : Go H0 P0 H1 P := g0.trans (.same s1)
  cases k with
  | true =>
   refine iteT ⟨G, P, h.same s1, ?_⟩
   rw [if_pos rfl] at q4
   unfold dSeq at q4
   cases e : dx G with
   | stuck => rw [e] at q4; exact q4.elim
   | exc c => rw [e] at q4; exact fun H' P' g' => q4 H' P' (g1.trans g')
   | ok o =>
    rw [e, Res.bind_ok] at q4
    cases o with
    | nx G1 => exact fun σ' H' P' g' h' => .inl ⟨G1, P', h', Z2.up q4 (g1.trans g')⟩
    | rt t => exact Z2.up (r := .ok (.rt t)) q4 g1
    | bk G1 => exact Z2.up (r := .ok (.bk G1)) q4 g1
    | ct G1 => exact Z2.up (r := .ok (.ct G1)) q4 g1
  | false =>
   refine iteF (.inr ⟨G, P, H0, P0, kss, g1, h.same s1, ei, n.same s1, ?_⟩)
   rw [if_neg Bool.false_ne_true] at q4
   exact q4
theorem nv_ifN {dc : DT} {dx dS : DS} (hc : TV X W c dc) (hx : PSs X x (tN X.K W fl i dx)) (hS : SVs X W fl rest dS) : PSs X (.If c x [] pos :: rest) (tN X.K W fl i (dIfN dc (dSeq dx dS) dS)) :=
 Yi (Yz (ps_if hc hx XR) hS) fun D σ H ⟨G, P, H0, P0, kss, g0, h, ei, n, q⟩ => by
  unfold dIfN at q
  obtain ⟨h', g⟩ := h.frzA
  obtain ⟨q1, q2, q3⟩ := Uy q
  refine YK h' (fun c e H' s => q1 c e H' P.bare ((g0.trans g).trans (.same s))) q2 fun k H1 ek s1 _ => ?_
  have q4 := q3 k ek
  have g1 : Go H0 P0 H1 P := g0.trans (.same s1)
  cases k with
  | true =>
   refine iteT ⟨G, P, H0, P0, kss, g1, h.same s1, ei, n.same s1, ?_⟩
   rw [if_pos rfl] at q4
   unfold dSeq at q4
   cases e : dx G with
   | stuck => rw [e] at q4; exact q4.elim
   | exc c => rw [e] at q4; exact q4
   | ok o =>
    rw [e, Res.bind_ok] at q4
    cases o with
    | nx G1 => exact fun σ' H' P' g' h' => ⟨G1, P', h', Z2.up q4 g'⟩
    | rt t => exact q4
    | bk G1 => exact q4
    | ct G1 => exact q4
  | false =>
   refine iteF ⟨G, P, h.same s1, ?_⟩
   rw [if_neg Bool.false_ne_true] at q4
   exact Z2.up q4 g1
theorem nv_set {j : Nat} {y : Str} {da : DE} {dN : DS} {pos' : Pos} (hij : i ≠ j) (hN : X.N.Nodup) (hj : X.N[j]? = some y) (hy : Loc X.env.scope y) (he : EV X W e da) (hr : PSs X rest (tN X.K W fl i dN)) (hs : swapsWith e (some (.Name y pos')) pos.line X.env = pure false := by rfl) (hf : X.fn y = true \/ X.env.scope.names.lookup y = some .local := by first | exact .inl rfl | exact .inr rfl | assumption) :
  PSs X (.Assign [.Name y pos'] e pos :: rest) (tN X.K W fl i (fun G => (da G).bind fun t => dN (G.set j (.val t)))) :=
 Yi (Yz (ps_set hN hj hy he hs hf) hr) fun D σ H ⟨G, P, H0, P0, kss, g0, h, ei, n, q⟩ => by
  obtain ⟨q1, q2, q3⟩ := YW q
  refine Zp h (fun c e H' s => q1 c e H' P (g0.trans (.same s))) q2 fun t v H1 et s1 h1 r => ?_
  exact ⟨G.set j (.val t), P.del j, H0, P0, kss, (g0.trans (.same s1)).trans .del, h1.setVal j r, by rw [List.getElem?_set_ne (Ne.symm hij)]; exact ei, (n.same s1).del hij, q3 t et⟩
end
mutual
theorem Rl.scal {K : PySem.W.Frag} {H : Hp} {P : Pv} {a : Addr} {us : List V} {o : HO} (ha : H a = some (.lst us)) : ∀ (t : PyData) (v : V), Zy t = true -> Rl K H P t v -> Rl K (upd H a o) P t v
 | .none, v, _, h => by simpa only [Rl] using h
 | .bool b, v, _, h => by simpa only [Rl] using h
 | .int i, v, _, h => by simpa only [Rl] using h
 | .str x, v, _, h => by simpa only [Rl] using h
 | .list xs, v, s, h => by simp at s
 | .tuple xs, v, s, h => by
  simp only [Rl] at h ⊢
  obtain ⟨b, vs, e, st, r⟩ := h
  refine ⟨b, vs, e, ?_, Rls.scal ha xs vs (by simpa using s) r⟩
  rcases st with ⟨rd, off⟩ | m
  ·refine .inl ⟨?_, off⟩
   rcases rd with rd | ⟨ob, rd⟩
   ·exact .inl (by rw [Zf (fun z => by rw [z, ha] at rd; cases rd)]; exact rd)
   ·exact .inr ⟨ob, by rw [Zf (fun z => by rw [z, ha] at rd; cases rd)]; exact rd⟩
  ·exact .inr m
 | .dict xs, v, s, h => by simp at s
theorem Rls.scal {K : PySem.W.Frag} {H : Hp} {P : Pv} {a : Addr} {us : List V} {o : HO} (ha : H a = some (.lst us)) : ∀ (ts : List PyData) (vs : List V), ZX ts = true -> Rls K H P ts vs -> Rls K (upd H a o) P ts vs
 | [], vs, _, h => by simpa only [Rls] using h
 | x :: xs, vs, s, h => by
  simp only [Rls] at h ⊢
  obtain ⟨v, r, e, q, t⟩ := h
  rw [Y5, Bool.and_eq_true] at s
  exact ⟨v, r, e, Rl.scal ha x v s.1 q, Rls.scal ha xs r s.2 t⟩
end
theorem W1 {K : PySem.W.Frag} {H : Hp} {P : Pv} : ∀ (ts : List PyData) (vs : List V), ts.length = vs.length -> (∀ (j : Nat) (t : PyData) (v : V), ts[j]? = some t -> vs[j]? = some v -> Rl K H P t v) -> Rls K H P ts vs
 | [], [], _, _ => Zq.mpr rfl
 | t :: ts, v :: vs, hl, h => Zj.mpr ⟨v, vs, rfl, h 0 t v rfl rfl, W1 ts vs (by simpa using hl) fun j t' v' e1 e2 => h (j + 1) t' v' (by simpa using e1) (by simpa using e2)⟩
 | [], _ :: _, hl, _ => by simp at hl
 | _ :: _, [], hl, _ => by simp at hl
def keep1 : Sl -> Sl
 | .val t => if Zy t then .val t else .emp
 | _ => .emp
def WH (G : List Sl) : List Sl := G.map keep1
def Vp (i : Nat) (G : List Sl) (y1 : PyData) : Option (List PyData × Nat × List PyData) :=
 match G[i]?, y1 with
 | some (.own xs), .int j1 => match ixP xs.length j1 with
  | some m => match xs[m]? with
   | some (.list ys) => some (xs, m, ys)
   | _ => none
  | none => none
 | _, _ => none
def Uq (i : Nat) (dk1 dk2 da : DE) : DS := fun G => (da G).bind fun t => (dk1 G).bind fun y1 => match Vp i G y1 with
 | some (xs, m, ys) => (dk2 G).bind fun y2 => match y2 with
  | .int j2 => match ixP ys.length j2 with
   | some n => if Zy t then .ok (.nx ((WH G).set i (.own (xs.set m (.list (ys.set n t)))))) else .stuck
   | none => .stuck
  | _ => .stuck
 | none => .stuck
theorem pickN_ok {i : Nat} {G : List Sl} {y1 : PyData} {kss : List (List Int)} {xs ys : List PyData} {m : Nat} (ei : G[i]? = some (.own (kss.map il))) (h : Vp i G y1 = some (xs, m, ys)) : xs = kss.map il /\ ∃ j1 ks, y1 = .int j1 /\ ixP kss.length j1 = some m /\ kss[m]? = some ks /\ ys = ks.map .int := by
 unfold Vp at h
 rw [ei] at h
 cases y1 <;> try (cases h)
 rename_i j1
 simp only at h
 cases em : ixP (kss.map il).length j1 with
 | none => rw [em] at h; cases h
 | some m' =>
  rw [em] at h
  simp only at h
  cases ek : kss[m']? with
  | none => rw [List.getElem?_map, ek] at h; cases h
  | some ks =>
   rw [List.getElem?_map, ek] at h
   cases h
   exact ⟨rfl, j1, ks, rfl, by simpa using em, ek, rfl⟩
section
variable {X : Cx} {W : Str -> Hp -> Prop} {fl : Bool} {i : Nat} {e k1 k2 : Expr} {pos : Pos}
theorem nest_hol {K : PySem.W.Frag} {H0 H : Hp} {P0 P : Pv} {σ : L2.St} {G : List Sl} {kss : List (List Int)} {ks : List Int} {m n : Nat} {t : PyData} {v : V} {p : Addr} {as : List Addr} {a : Addr} (g : Go H0 P0 H P) (h : Hol K H P σ G) (ei : G[i]? = some (.own (kss.map il)))
  (o1 : P.own i = some p) (o2 : H p = some (.lst (as.map V.ref))) (o3 : as.length = kss.length) (o4 : ∀ (j1 j2 : Nat) (a : Addr), as[j1]? = some a -> as[j2]? = some a -> j1 = j2)
  (o5 : ∀ (j : Nat) (a : Addr) (ks : List Int), as[j]? = some a -> kss[j]? = some ks -> H0 a = none /\ a ≠ p /\ Off P a /\ H a = some (.lst (ks.map V.int)))
  (ea : as[m]? = some a) (ek : kss[m]? = some ks) (st : Zy t = true) (r : Rl K H P t v) (hn : n < ks.length) :
  ∃ P', Go H0 P0 (upd H a (.lst ((ks.map V.int).set n v))) P' /\ Hol K (upd H a (.lst ((ks.map V.int).set n v))) P' σ ((WH G).set i (.own ((kss.map il).set m (.list ((ks.map PyData.int).set n t))))) := by
 obtain ⟨a1, a2, a3, a4⟩ := o5 m a ks ea ek
 let P' : Pv := ⟨fun j => if j = i then some p else none, P.fb⟩
 have offP : ∀ b, Off P b -> Off P' b := fun b q => by
  refine ⟨fun j z => ?_, q.2⟩
  have z' : (if j = i then some p else none) = some b := z
  split at z'
  ·exact q.1 i (by rw [o1]; exact z')
  ·cases z'
 have ev : σ.getD i none = some (.ref p) := by
  obtain ⟨p', vs', ev, ep, _, _⟩ := h.sl i _ ei
  rw [o1] at ep; cases ep
  exact ev
 have hil : i < G.length := (List.getElem?_eq_some_iff.mp ei).1
 refine ⟨P', ⟨fun b o e nt no => ?_, g.fbe, fun {b} z => ?_, fun K' tk => ?_, fun b ps e => ?_⟩, ⟨fun j s q => ?_, fun j1 j2 b z1 z2 => ?_, fun j b z => ?_, fun b z => ?_, fun j b z => ?_, by rw [h.len]; simp [WH], ?_⟩⟩
 ·obtain ⟨c1, c2⟩ := g.mv b o e nt no
  have hb : b ≠ a := fun z => by rw [z, a1] at e; cases e
  refine ⟨by rw [Zf hb]; exact c1, fun j z => ?_⟩
  have z' : (if j = i then some p else none) = some b := z
  split at z'
  ·exact c2 i (by rw [o1]; exact z')
  ·cases z'
 ·by_cases hb : b = a
  ·rw [hb]; exact a1
  ·rw [Zf hb] at z; exact g.free z
 ·exact Ys.mono (g.tab K' tk) fun b o e nl => by
   rw [Zf (fun z => by rw [z, a4] at e; cases e; exact nl _ rfl)]; exact e
 ·obtain ⟨qs, e2⟩ := g.tbk b ps e
  exact ⟨qs, by rw [Zf (fun z => by rw [z, a4] at e2; cases e2)]; exact e2⟩
 ·by_cases hj : j = i
  ·subst hj
   rw [List.getElem?_set_self (by simpa [WH] using hil)] at q
   cases q
   refine ⟨p, as.map V.ref, ev, if_pos rfl, by rw [Zf (Ne.symm a2)]; exact o2, W1 _ _ (by simp [o3]) fun j' t' v' e1 e2 => ?_⟩
   rw [List.getElem?_map] at e2
   cases ea' : as[j']? with
   | none => rw [ea'] at e2; cases e2
   | some b =>
    rw [ea'] at e2
    cases e2
    by_cases hm : j' = m
    ·subst hm
     rw [ea] at ea'; cases ea'
     rw [List.getElem?_set_self (by simpa using (List.getElem?_eq_some_iff.mp ek).1)] at e1
     cases e1
     refine Zw.mpr ⟨a, _, rfl, .off Zi (offP a a3), ?_⟩
     refine W1 _ _ (by simp) fun l t2 v2 e3 e4 => ?_
     by_cases hl : l = n
     ·subst hl
      rw [List.getElem?_set_self (by simpa using hn)] at e3 e4
      cases e3; cases e4
      exact Rl.go (fun b o e _ q => ⟨e, offP b q⟩) t v (Rl.scal a4 t v st r)
     ·rw [List.getElem?_set_ne (Ne.symm hl), List.getElem?_map] at e3 e4
      cases e5 : ks[l]? with
      | none => rw [e5] at e3; cases e3
      | some k =>
       rw [e5] at e3 e4
       cases e3; cases e4
       exact Zo.mpr rfl
    ·rw [List.getElem?_set_ne (Ne.symm hm), List.getElem?_map] at e1
     cases ek' : kss[j']? with
     | none => rw [ek'] at e1; cases e1
     | some ks' =>
      rw [ek'] at e1
      cases e1
      obtain ⟨b1, b2, b3, b4⟩ := o5 j' b ks' ea' ek'
      have hb : b ≠ a := fun z => hm (o4 j' m a (z ▸ ea') ea)
      refine Zw.mpr ⟨b, ks'.map V.int, rfl, .off (by rw [Zf hb]; exact b4) (offP b b3), ?_⟩
      refine W1 _ _ (by simp) fun l t2 v2 e3 e4 => ?_
      rw [List.getElem?_map] at e3 e4
      cases e5 : ks'[l]? with
      | none => rw [e5] at e3; cases e3
      | some k =>
       rw [e5] at e3 e4
       cases e3; cases e4
       exact Zo.mpr rfl
  ·rw [List.getElem?_set_ne (Ne.symm hj)] at q
   unfold WH at q
   rw [List.getElem?_map] at q
   cases eg : G[j]? with
   | none => rw [eg] at q; cases q
   | some s0 =>
    rw [eg] at q
    cases q
    cases s0 with
    | emp => trivial
    | own xs => trivial
    | val t0 =>
     show SlOk K _ P' j _ (if Zy t0 = true then .val t0 else .emp)
     split
     ·rename_i hs0
      obtain ⟨v0, e0, r0⟩ := h.sl j _ eg
      exact ⟨v0, e0, Rl.go (fun b o e _ q => ⟨e, offP b q⟩) t0 v0 (Rl.scal a4 t0 v0 hs0 r0)⟩
     ·trivial
 ·have z1' : (if j1 = i then some p else none) = some b := z1
  have z2' : (if j2 = i then some p else none) = some b := z2
  split at z1'
  ·split at z2'
   ·rename_i w1 w2; rw [w1, w2]
   ·cases z2'
  ·cases z1'
 ·have z' : (if j = i then some p else none) = some b := z
  split at z'
  ·rename_i w; rw [w]; exact ⟨_, List.getElem?_set_self (by simpa [WH] using hil)⟩
  ·cases z'
 ·intro w
  by_cases hb : b = a
  ·exact a3.2 (hb ▸ z)
  ·rw [Zf hb] at w; exact h.fbd b z w
 ·have z' : (if j = i then some p else none) = some b := z
  split at z'
  ·exact h.nfb i b (by rw [o1]; exact z')
  ·cases z'
 ·exact Ys.mono h.tab fun b o e nl => by
   rw [Zf (fun z => by rw [z, a4] at e; cases e; exact nl _ rfl)]; exact e
theorem nv_nest {x : Str} {da dk1 dk2 : DE} {p1 p2 p3 : Pos} (hi : X.N[i]? = some x) (hk1 : EV X W k1 dk1) (hs1 : X5 k1) (hk2 : EV X W k2 dk2) (he : EV X W e da) (hv : Vis X.env.scope x := by first | exact Or.inl rfl | exact Or.inr (Or.inl rfl) | exact Or.inr (Or.inr rfl)) (hd : (x == ("__debug__" : Str)) = false := by decide)
  (hcd : (x == ("__classdict__" : Str)) = false := by decide)
  (ha : ∀ v, assign (.Subscript (.Subscript (.Name x p1) k1 p2) k2 p3) X.env v = (do
   let ov <- holding [v] (eval (.Subscript (.Name x p1) k1 p2) X.env)
   let iv <- holding [v, ov] (eval k2 X.env)
   standAt p3
   holding [v, ov, iv] (setItem ov iv v)
   release [v, ov, iv] []) := by intro _; rfl)
  (hs : swapsWithSole [.Subscript (.Subscript (.Name x p1) k1 p2) k2 p3] e pos.line X.env = pure false := by rfl) (hw : swappedStores [.Subscript (.Subscript (.Name x p1) k1 p2) k2 p3] e X.env = pure none := by rfl)
  (h1 : (assignEach [.Subscript (.Subscript (.Name x p1) k1 p2) k2 p3] X.env).map (·.2) = [assign (.Subscript (.Subscript (.Name x p1) k1 p2) k2 p3) X.env] := by rfl) :
  PSs X [.Assign [.Subscript (.Subscript (.Name x p1) k1 p2) k2 p3] e pos] (tN X.K W fl i (Uq i dk1 dk2 da)) :=
 Yi (Yz (ps_asg he (pg_sub (pe_ix WI (W2 hi hv hd hcd) hk1 hs1) hk2 WX ha) hs hw h1) XR) fun D σ H ⟨G, P, H0, P0, kss, g0, h, ei, n, q⟩ => by
  unfold Uq at q
  obtain ⟨q1, q2, q3⟩ := YW q
  refine Zp h (fun c e H' s => q1 c e H' P (g0.trans (.same s))) q2 fun t v H1 et s1 h1 r => ?_
  obtain ⟨q4, q5, q6⟩ := YW (q3 t et)
  obtain ⟨p', vs', ev, ep, eh, rs⟩ := h1.sl i _ ei
  refine ⟨.ref p', getD_some ev, ?_⟩
  refine Zp h1 (fun c e H' s => q4 c e H' P ((g0.trans (.same s1)).trans (.same s))) q5 fun y1 v1 H2 e1 s2 h2 r1 => ?_
  have q7 := q6 y1 e1
  cases epk : Vp i G y1 with
  | none => rw [epk] at q7; exact q7.elim
  | some z =>
   obtain ⟨xs, m, ys⟩ := z
   rw [epk] at q7
   obtain ⟨rfl, j1, ks, rfl, em, ek, rfl⟩ := pickN_ok ei epk
   obtain ⟨p, as, o1, o2, o3, o4, o5⟩ := n.same (s1.trans s2)
   rw [o1] at ep; cases ep
   have hm : m < as.length := by rw [o3]; exact (List.getElem?_eq_some_iff.mp ek).1
   have ea : as[m]? = some as[m] := by simp [hm]
   refine ⟨p', as.map V.ref, j1, .ref as[m], rfl, Zo.mp r1, SqL.of o2, ?_, ?_⟩
   ·unfold atI
    rw [List.length_map, o3, <- W7, em]
    simp [hm]
   ·obtain ⟨q8, q9, q10⟩ := YW q7
    refine Zp h2 (fun c e H' s => q8 c e H' P ((g0.trans (.same (s1.trans s2))).trans (.same s))) q9 fun y2 v2 H3 e2 s3 h3 r2 => ?_
    have q11 := q10 y2 e2
    cases y2 <;> try exact q11.elim
    rename_i j2
    simp only at q11
    cases en : ixP (ks.map PyData.int).length j2 with
    | none => rw [en] at q11; exact q11.elim
    | some n' =>
     rw [en] at q11
     simp only at q11
     split at q11
     ·rename_i hst
      have hn' : n' < ks.length := by
       have := (WK (W7 _ _ ▸ en)).2.1
       simpa using this
      obtain ⟨b1, b2, b3, b4⟩ := o5 m as[m] ks ea ek
      obtain ⟨P', gg, hh⟩ := nest_hol ((g0.trans (.same (s1.trans s2))).trans (.same s3)) h3 ei o1 (s3.kp _ _ o2 ZN) o3 o4 (fun j a ks e1 e2 => let ⟨c1, c2, c3, c4⟩ := o5 j a ks e1 e2; ⟨c1, c2, c3, s3.kp _ _ c4 ZN⟩) ea ek hst (Rl.go (.same (s2.trans s3)) t v r) hn'
      refine ⟨as[m], ks.map V.int, j2, n', rfl, Zo.mp r2, s3.kp _ _ b4 ZN, ?_, q11 σ _ P' gg hh⟩
      rw [List.length_map] at en ⊢
      exact en
     ·exact q11.elim
theorem nv_fresh {scope : Scope} {N : List Str} {nv : Nat} {cap : List Nat} {tg elt iter : Expr} {ifs : List Expr} {st : PyData -> List Sl -> Res (List Sl)} {it doe : DA} {dc : DT} {xz : Cx -> Value -> Shared -> Prop} {x : Str} {pos' spos : Pos} {rest : List Stmt} {dN : DS} (C : CompOk X scope N nv cap) (hc : X.calm = true) (hk : Xa nv st) (hi : IV X W tg iter it)
  (hX : WR X scope N xz) (hg : ∀ s₀ H₀ ex pn, GV (cxT xz X scope N s₀ H₀ ex pn) tg st) (ht : ∀ s₀ H₀ ex pn, (∀ b ∈ ex, ∃ o, (b, o) ∈ pn) -> CT (cxT xz X scope N s₀ H₀ ex pn) W ifs dc) (he : ∀ s₀ H₀ ex pn, (∀ b ∈ ex, ∃ o, (b, o) ∈ pn) -> OV (cxT xz X scope N s₀ H₀ ex pn) W elt doe)
  (hN : X.N.Nodup) (hix : X.N[i]? = some x) (hx : Loc X.env.scope x) (hr : PSs X rest (tN X.K W fl i dN)) (hsw : swapsWith (.ListComp elt [⟨tg, iter, ifs, 0⟩] scope pos) (some (.Name x pos')) spos.line X.env = pure true := by rfl)
  (hs : ∀ x, foldedSetIterable iter X.env x = pure x := by intro _; rfl) (hf : X.fn x = true \/ X.env.scope.names.lookup x = some .local := by first | exact .inl rfl | exact .inr rfl | assumption) :
  PSs X (.Assign [.Name x pos'] (.ListComp elt [⟨tg, iter, ifs, 0⟩] scope pos) spos :: rest) (tFS X.K W fl (fun G => (it G).bind fun ts => if ts.length <= 16777216 then (Zk st dc (dL doe) (List.replicate nv .emp ++ capS cap G) ts).bind fun all => if all.all isIL = true /\ i < G.length then dN (G.set i (.own all)) else .stuck else .stuck)) :=
 Yi (Yz (Vo (tS := fun D σ H => ∃ G P, Hol X.K H P σ G /\ (∀ c, it G = .exc c -> ∀ H', Same H H' -> W c H') /\ it G ≠ .stuck /\ ∀ ts, it G = .ok ts -> ts.length <= 16777216 /\ Zk st dc (dL doe) (List.replicate nv .emp ++ capS cap G) ts ≠ .stuck /\ (∀ c, Zk st dc (dL doe) (List.replicate nv .emp ++ capS cap G) ts = .exc c -> ∀ H', Same H H' -> W c H') /\ ∀ all, Zk st dc (dL doe) (List.replicate nv .emp ++ capS cap G) ts = .ok all ->
   ∀ p vs H', Same H H' -> H p = none -> H' p = some (.lst vs) -> Rls X.K H' (P.fbd p) all vs -> Frs X.K H p H' ⟨fun _ => none, fun a => ¬ Off P a \/ a = p⟩ all vs -> D.nx (σ.set i (some (.ref p))) H') C hc hk hi hX hg ht he hN hix hx hsw hs hf fun D σ H q => q) hr) fun D σ H ⟨G, P, h, q⟩ => by
  refine ⟨G, P, h, ?_⟩
  dsimp only at q
  cases e : it G with
  | stuck => rw [e] at q; exact q.elim
  | exc c => rw [e] at q; exact ⟨fun c' ec H' s => by cases ec; exact q H' P (.same s), (by intro z; cases z), fun ts z => by cases z⟩
  | ok ts =>
   refine ⟨fun c' ec => (by cases ec), (by intro z; cases z), fun ts' z => ?_⟩
   cases z
   rw [e, Res.bind_ok] at q
   split at q
   ·rename_i hl
    refine ⟨hl, ?_⟩
    cases e2 : Zk st dc (dL doe) (List.replicate nv .emp ++ capS cap G) ts with
    | stuck => rw [e2] at q; exact q.elim
    | exc c => rw [e2] at q; exact ⟨fun z => (by cases z), fun c' z H' s => by cases z; exact q H' P (.same s), fun all z => by cases z⟩
    | ok all =>
     rw [e2, Res.bind_ok] at q
     refine ⟨fun z => (by cases z), fun c z => (by cases z), fun all' z p vs H' s hp hl r frs => ?_⟩
     cases z
     split at q
     ·rename_i hcond
      obtain ⟨kss, rfl⟩ := V6 hcond.1
      obtain ⟨h2, g2⟩ := h.own' hcond.2 s hp hl r
      have hlen := frs.len
      rw [List.length_map] at hlen
      have hrefs : ∃ as : List Addr, vs = as.map V.ref := by
       have : ∀ v ∈ vs, ∃ a, v = V.ref a := fun v hv => by
        obtain ⟨j, hj, rfl⟩ := List.getElem_of_mem hv
        have hjk : j < kss.length := by omega
        obtain ⟨a, ts', ws, _, h2, _⟩ := frs.it j (il kss[j]) vs[j] (by simp [hjk]) (by simp [hj])
        exact ⟨a, h2⟩
       clear frs hl r hlen h2 g2
       induction vs with
       | nil => exact ⟨[], rfl⟩
       | cons v vs ih =>
        obtain ⟨a, rfl⟩ := this v List.mem_cons_self
        obtain ⟨as, rfl⟩ := ih fun v hv => this v (List.mem_cons_of_mem _ hv)
        exact ⟨a :: as, rfl⟩
      obtain ⟨as, rfl⟩ := hrefs
      refine ⟨G.set i (.own (kss.map il)), P.put i p, H, P, kss, g2, h2, List.getElem?_set_self hcond.2, ⟨p, as, if_pos rfl, hl, by simpa using hlen.symm, fun j1 j2 a e1 e2 => frs.inj j1 j2 a (by rw [List.getElem?_map, e1]; rfl) (by rw [List.getElem?_map, e2]; rfl), fun j a ks e1 e2 => ?_⟩, q⟩
      obtain ⟨a', ts', ws, w1, w2, w3, w4, w5, w6⟩ := frs.it j (il ks) (.ref a) (by rw [List.getElem?_map, e2]; rfl) (by rw [List.getElem?_map, e1]; rfl)
      cases w2
      cases w1
      have := Wc w6
      subst this
      have of := h.off_new w3
      refine ⟨w3, w4, ⟨fun k z => ?_, of.2⟩, w5⟩
      have z' : (if k = i then some p else P.own k) = some a := z
      split at z'
      ·cases z'; exact w4 rfl
      ·exact of.1 k z'
     ·exact q.elim
   ·exact q.elim
end
theorem Xd {X : Cx} {W : Str -> Hp -> Prop} {fl : Bool} {ss : List Stmt} : SVs X W fl ss dNev := fun _ _ _ _ _ _ ⟨_, _, _, q⟩ => q.elim
end Fx
namespace K17
open PySem Fx
open Lw
def XD : DS :=
  (dRet (d1 fAll (dL (Y2 1 [] (Ya 0) (iSeq (dVar 0)) tT (Yr Zx (Zh (dVar 0) dNil))))))
def YV : DS :=
  dSeq (dIf (tOr (tNot (tV (d1 (fIs isList) (dVar 0)))) (tOr (tV (d2 fLt (d1 fLen (dVar 0)) (dC (.int 1)))) (tV (d2 fGt (d1 fLen (dVar 0)) (dC (.int 4))))))
  (dRet (dC (.bool false)))
  XZ)
  XD
def ZL : DF := runQ 1 1 YV
def Yv : DS :=
  (dIf (tNot (tV (d1 fAll (dL (Y2 1 [0] (Ya 0) (iSeq (dVar 0)) tT (d2 fEq (d1 fLen (dVar 0)) (d1 fLen (d2 fIx (dVar 1) (dC (.int 0))))))))))
  (Wp "NoTable" (Zh (dC (.str (PySem.Str.ofString "the rows of a table are alike long"))) dNil))
  XZ)
def Z9 : DS :=
  dSeq (dIf (tNot (tV (d1 fAll (dL (Y2 1 [] (Ya 0) (iSeq (dVar 0)) tT (Yr ZL (Zh (dVar 0) dNil)))))))
  (Wp "NoTable" (Zh (dC (.str (PySem.Str.ofString "a row is a list of 1 to 4 whole numbers of at most 12 figures"))) dNil))
  XZ)
  Yv
def ZH : DS :=
  dSeq (dIf (tOr (tNot (tV (d1 (fIs isList) (dVar 0)))) (tOr (tV (d2 fLt (d1 fLen (dVar 0)) (dC (.int 1)))) (tV (d2 fGt (d1 fLen (dVar 0)) (dC (.int 4))))))
  (Wp "NoTable" (Zh (dC (.str (PySem.Str.ofString "a table is a list of 1 to 4 rows"))) dNil))
  XZ)
  Z9
def Ze : DF := runF 1 1 ZH
def Uf : DS :=
  dNev
def Ug : DS :=
  dSeq dNev
  Uf
def Uh : DS :=
  dSeq (X0 (Yr Ze (Zh (dVar 0) dNil)))
  Ug
def Y1 : DF := runF 2 1 Uh
def Zs : DS :=
  (dRet (dVar 4))
def Y4 (n : Int) : DT := (tV (d2 fEq (dVar 1) (dC (.int n))))
def b_3 : DS := (Xm 4 [] (dVar 3) (d1 Uc (dIxN 4 (dVar 3))))
def b_4 : DS := (Xm 4 [] (dVar 3) (d2 fIx (dLst (Zh (d2 fAdd (dIxN 4 (dVar 3)) (dLst (Zh (dC (.int 1)) dNil))) (Zh (dL (oCut (dIxN 4 (dVar 3)) (pAt (dC (.int 1))) pNo)) dNil))) (d2 fMod (dVar 2) (dC (.int 2)))))
def d_odd : DE := (dLst (Zh (dC (.bool true)) (Zh (dC (.str (PySem.Str.ofString "1"))) (Zh (dC .none) (Zh (d2 fPow (dC (.int 10)) (dC (.int 12))) (Zh (d1 fNeg (d2 fPow (dC (.int 10)) (dC (.int 12)))) (Zh (dTup (Zh (dC (.int 1)) (Zh (dC (.int 1)) dNil))) dNil)))))))
def b_5 : DS := fun G => (d_odd G).bind fun t => Uq 4 (dVar 3) (d2 fMod (d2 fDiv (dVar 2) (dC (.int 6))) (d1 fLen (dIxN 4 (dVar 3)))) (d2 fIx (dVar 5) (d2 fMod (dVar 2) (dC (.int 6)))) (G.set 5 (.val t))
def s_7 : DS := dSeq (dIf (Y4 5) dNev XZ) Zs
def s_6 : DS := dSeq (dIf (Y4 4) b_4 XZ) s_7
def n_7 : DS := dIfN (Y4 5) (dSeq b_5 Zs) Zs
def n_6 : DS := dIfN (Y4 4) (dSeq b_4 s_7) n_7
def n_5 : DS := dIfN (Y4 3) (dSeq b_3 s_6) n_6
def n_4 : DS := dIfN (Y4 2) (dSeq (dRet (d2 fIx (dLst (Zh (dL (Y2 1 [] (Ya 0) (iSeq (dVar 4)) tT (dLst dNil))) (Zh (dL (Y2 1 [] (Ya 0) (iSeq (dVar 4)) tT (dLst (Zh (dC (.int 1)) (Zh (dC (.int 1)) (Zh (dC (.int 1)) (Zh (dC (.int 1)) (Zh (dC (.int 1)) dNil)))))))) dNil))) (d2 fMod (dVar 2) (dC (.int 2))))) dNev) n_5
def n_3 : DS := dIfN (Y4 1) (dSeq (dRet (d2 fIx (dLst (Zh (dLst dNil) (Zh (dL (Y2 1 [] (Ya 0) (iRng (dC (.int 5))) tT (dLst (Zh (dC (.int 1)) dNil)))) dNil))) (d2 fMod (dVar 2) (dC (.int 2))))) dNev) n_4
def n_2 : DS := dIfN (Y4 0) (dSeq (dRet (d2 fIx (dLst (Zh (dC .none) (Zh (d1 Uc (dVar 4)) (Zh (dC (.str (PySem.Str.ofString "1"))) dNil)))) (d2 fMod (dVar 2) (dC (.int 3))))) dNev) n_3
def ZJ : DS := fun G => ((iSeq (dVar 0)) G).bind fun ts => if ts.length <= 16777216 then (Zk (Ya 0) tT (dL (Vq (dVar 0))) (List.replicate 1 .emp ++ capS [] G) ts).bind fun all => if all.all isIL = true /\ 4 < G.length then n_2 (G.set 4 (.own all)) else .stuck else .stuck
def Y8 : DS :=
  dSeq (dSet 3 [] (d2 fMod (d2 fDiv (dVar 2) (dC (.int 11))) (d1 fLen (dVar 0))))
  ZJ
def Zr : DF := runQ 6 3 Y8
def Ui : DS :=
  (dRet (d2 fEq (dVar 5) (dC (.int 2))))
def Uj : DS :=
  dSeq (dTryA 6 (X0 (XF Y1 (Zh (dVar 4) dNil))) (subs ["NoTable"])
  (dSet 5 [] (d2 fAdd (dVar 5) (d1 fInt (d1 fIsX (dVar 6))))))
  Ui
def Uk : DS :=
  dSeq (dTry (X0 (XF Y1 (Zh (dVar 4) dNil))) (subs ["NoTable"])
  (dSet 5 [] (d2 fAdd (dVar 5) (dC (.int 1)))))
  Uj
def Ul : DS :=
  dSeq (dSet 5 [] (dC (.int 0)))
  Uk
def Um : DS :=
  dSeq (dSet 4 [] (Yr Zr (Zh (dVar 3) (Zh (d2 fMod (Yr Zb (Zh (dVar 0) (Zh (dC (.int 2)) dNil))) (dC (.int 6))) (Zh (Yr Zb (Zh (dVar 0) (Zh (dC (.int 3)) dNil))) dNil)))))
  Ul
def Uo : DS :=
  dSeq (dSet 3 [] (dL (Y2 1 [2, 0] (Ya 0) (iRng (dVar 1)) tT (dL (Y2 1 [2, 0] (Ya 0) (iRng (dVar 1)) tT (d2 fSub (d2 fMod (Yr Zb (Zh (dVar 1) (Zh (d2 fAdd (d2 fAdd (dC (.int 5)) (dVar 2)) (dVar 0)) dNil))) (dC (.int 9))) (dC (.int 4))))))))
  Um
def Up : DS :=
  dSeq (dSet 2 [] (d2 fAdd (dC (.int 1)) (d2 fMod (Yr Zb (Zh (dVar 0) (Zh (dC (.int 1)) dNil))) (dC (.int 4)))))
  Uo
def d_law : DS :=
  dSeq (dSet 1 [] (d2 fAdd (dC (.int 2)) (d2 fMod (Yr Zb (Zh (dVar 0) (Zh (dC (.int 0)) dNil))) (dC (.int 3)))))
  Up
def Ub : DF := runQ 7 1 d_law
end K17
namespace K17
open PySem Fx
open Lw
theorem Xk (i j : Int) : fEq (.int i) (.int j) = .ok (.bool (decide (i = j))) := by simp [fEq]
theorem atH (x : PyData) (xs : List PyData) : atP (x :: xs) 0 = some x := by
 have : ixP (x :: xs).length 0 = some 0 := by
  unfold ixP
  rw [if_pos (by decide), if_pos (by simp)]
  rfl
 unfold atP
 rw [this]
 rfl
theorem Wq (e : DE) (C : List Sl) (f : PyData -> Bool) : ∀ (xs : List PyData), (∀ x ∈ xs, e (.val x :: C) = .ok (.bool (f x))) -> Zk (Ya 0) tT e (.emp :: C) xs = .ok (xs.map fun x => .bool (f x))
 | [], _ => rfl
 | x :: xs, h => by
  have e1 := h x List.mem_cons_self
  have e2 := Wq e C f xs fun x hx => h x (List.mem_cons_of_mem _ hx)
  unfold Zk
  simp [e1, e2]
theorem UB (f : PyData -> Bool) : ∀ (xs : List PyData), allT (xs.map fun x => .bool (f x)) = .ok (xs.all f)
 | [] => rfl
 | x :: xs => by simp [allT, UB f xs]
theorem row_b {xs : List PyData} (f : PyData -> Bool) (hl : xs.length <= 1000) (h : ∀ x ∈ xs, Zx [x] = .ok (.bool (f x))) : ZL [.list xs] = .ok (.bool (decide (1 <= xs.length) && decide (xs.length <= 4) && xs.all f)) := by
 by_cases h1 : (xs.length : Int) < 1
 ·have : ¬ 1 <= xs.length := by omega
  simp [ZL, YV, runQ, runF, h1, this]
 ·by_cases h2 : (4 : Int) < (xs.length : Int)
  ·have : ¬ xs.length <= 4 := by omega
   simp [ZL, YV, runQ, runF, h1, h2, this]
  ·have e := Wq (Yr Zx (Zh (dVar 0) dNil)) [] f xs fun x hx => by simp [h x hx]
   have a := UB f xs
   have l : xs.length <= 16777216 := by omega
   have t1 : 1 <= xs.length := by omega
   have t2 : xs.length <= 4 := by omega
   simp [ZL, YV, XD, runQ, runF, h1, h2, l, e, a, t1, t2]
theorem row_kind {t : PyData} (h : fIs isList t = .ok (.bool false)) : ZL [t] = .ok (.bool false) := by
 simp [ZL, YV, runQ, runF, h, -fIs]
def YM : PyData -> Bool
 | .int i => decide (i.natAbs <= 999999999999)
 | _ => false
theorem num_b {x : PyData} (h : noD x = true) : Zx [x] = .ok (.bool (YM x)) := by
 have w := WS x h
 cases x with
 | int i =>
  by_cases hs : i.natAbs <= 999999999999
  ·rw [isnum_ok hs]; simp [YM, hs]
  ·have w' : ZV [.int i] = .ok (.bool true) := w
   have : ¬ (if i < 0 then -i else i) <= 999999999999 := by split <;> omega
   simp [Zx, Ym, runQ, runF, w', this, YM, hs]
 | _ => simp [Zx, Ym, runQ, runF, w, YM]
def rowB : PyData -> Bool
 | .list xs => decide (1 <= xs.length) && decide (xs.length <= 4) && xs.all YM
 | _ => false
def WC : PyData -> Prop
 | .list xs => xs.length <= 1000 /\ ∀ x ∈ xs, noD x = true
 | .dict _ => False
 | _ => True
theorem W8 {t : PyData} (h : WC t) : ZL [t] = .ok (.bool (rowB t)) := by
 cases t with
 | list xs => exact row_b YM h.1 fun x hx => num_b (h.2 x hx)
 | dict xs => exact h.elim
 | _ => exact row_kind rfl
theorem WO {t : PyData} (h : fIs isList t = .ok (.bool false)) : Ze [t] = .exc "NoTable" := by
 simp [Ze, ZH, runF, h, -fIs]
theorem X3 {xs : List PyData} (h : xs.length < 1 \/ 4 < xs.length) : Ze [.list xs] = .exc "NoTable" := by
 by_cases h1 : (xs.length : Int) < 1
 ·simp [Ze, ZH, runF, h1]
 ·have h2 : (4 : Int) < (xs.length : Int) := by omega
  simp [Ze, ZH, runF, h1, h2]
theorem Vc {xs : List PyData} (hx : ∀ x ∈ xs, WC x) (hn : ∃ x ∈ xs, rowB x = false) : Ze [.list xs] = .exc "NoTable" := by
 by_cases hl : xs.length < 1 \/ 4 < xs.length
 ·exact X3 hl
 ·have h1 : ¬ (xs.length : Int) < 1 := by omega
  have h2 : ¬ (4 : Int) < (xs.length : Int) := by omega
  have e := Wq (Yr ZL (Zh (dVar 0) dNil)) [] rowB xs fun x hm => by simp [W8 (hx x hm)]
  have a := UB rowB xs
  have af : xs.all rowB = false := by
   obtain ⟨x, hm, hf⟩ := hn
   cases q : xs.all rowB with
   | false => rfl
   | true => rw [List.all_eq_true.mp q x hm] at hf; cases hf
  have l : xs.length <= 16777216 := by omega
  rw [af] at a
  simp [Ze, ZH, Z9, runF, h1, h2, l, e, a]
theorem ct_len {x0 : List PyData} {xs : List PyData} (hx : ∀ x ∈ .list x0 :: xs, WC x /\ ∃ ys, x = .list ys) (hn : ∃ ys, .list ys ∈ xs /\ ys.length ≠ x0.length) : Ze [.list (.list x0 :: xs)] = .exc "NoTable" := by
 by_cases hb : ∃ x ∈ .list x0 :: xs, rowB x = false
 ·exact Vc (fun x hm => (hx x hm).1) hb
 ·by_cases hl : 4 < xs.length + 1
  ·exact X3 (.inr hl)
  ·have h1 : ¬ ((xs.length : Int) + 1 < 1) := by omega
   have h2 : ¬ ((4 : Int) < (xs.length : Int) + 1) := by omega
   have e := Wq (Yr ZL (Zh (dVar 0) dNil)) [] rowB (.list x0 :: xs) fun x hm => by simp [W8 (hx x hm).1]
   have a := UB rowB (.list x0 :: xs)
   have af : (.list x0 :: xs).all rowB = true := List.all_eq_true.mpr fun x hm => by
    cases q : rowB x with
    | true => rfl
    | false => exact absurd ⟨x, hm, q⟩ hb
   rw [af] at a
   let lenB : PyData -> Bool := fun x => match x with
    | .list ys => decide (ys.length = x0.length)
    | _ => false
   have e2 := Wq (d2 fEq (d1 fLen (dVar 0)) (d1 fLen (d2 fIx (dVar 1) (dC (.int 0))))) [.val (.list (.list x0 :: xs))] lenB (.list x0 :: xs) fun x hm => by
    obtain ⟨_, ys, rfl⟩ := hx x hm
    have q : decide ((ys.length : Int) = (x0.length : Int)) = decide (ys.length = x0.length) := by
     rw [decide_eq_decide]; omega
    simp only [d2, d1, dVar, dC, List.getElem?_cons_zero, List.getElem?_cons_succ, Res.bind_ok, fLen, fIx, atH, ofO, Xk, q]
    rfl
   have a2 := UB lenB (.list x0 :: xs)
   have af2 : (.list x0 :: xs).all lenB = false := by
    obtain ⟨ys, hm, hne⟩ := hn
    cases q : (.list x0 :: xs).all lenB with
    | false => rfl
    | true =>
     have := List.all_eq_true.mp q (.list ys) (List.mem_cons_of_mem _ hm)
     simp [lenB] at this
     exact absurd this hne
   rw [af2] at a2
   have l : xs.length + 1 <= 16777216 := by omega
   have l2 : xs.length <= 16777215 := by omega
   generalize hL : (PyData.list x0 :: xs) = L at *
   have ll : L.length = xs.length + 1 := by rw [<- hL]; rfl
   have h1' : ¬ ((L.length : Int) < 1) := by omega
   have h2' : ¬ ((4 : Int) < (L.length : Int)) := by omega
   have l' : L.length <= 16777216 := by omega
   simp [Ze, ZH, Z9, Yv, runF, h1', h2', l', e, a, e2, a2]
theorem V3 {t : PyData} (h : Ze [t] = .exc "NoTable") : Y1 [t] = .exc "NoTable" := by
 simp [Y1, Uh, runF, h]
abbrev Tab := List (List Int)
def rowT (r : List Int) : PyData := .list (r.map .int)
def tabT (T : Tab) : List PyData := T.map rowT
structure TabOk' (T : Tab) (R C : Nat) : Prop where
 r : T.length = R
 r2 : 2 <= R
 r4 : R <= 4
 c1 : 1 <= C
 c4 : C <= 4
 w : ∀ r ∈ T, r.length = C
theorem V2 (i : Int) : noD (.int i) = true := by simp [noD]
theorem VO {r : List Int} (h : r.length <= 1000) : WC (rowT r) := ⟨by simpa using h, fun x hx => by
 obtain ⟨i, _, rfl⟩ := List.mem_map.mp hx
 exact V2 i⟩
section
variable {T : Tab} {R C : Nat}
theorem XH (h : TabOk' T R C) : (tabT T).length = R := by simp [tabT, h.r]
theorem all_ok (h : TabOk' T R C) : ∀ x ∈ tabT T, WC x := fun x hx => by
 obtain ⟨r, hr, rfl⟩ := List.mem_map.mp hx
 exact VO (by rw [h.w r hr]; have := h.c4; omega)
theorem VI (h : TabOk' T R C) {p : Nat} (hp : p < R) {t : PyData} (ht : WC t) (hb : rowB t = false) : Ze [.list ((tabT T).set p t)] = .exc "NoTable" := by
 refine Vc (fun x hx => ?_) ⟨t, List.mem_set (by rw [XH h]; exact hp) t, hb⟩
 rcases List.mem_or_eq_of_mem_set hx with hx | rfl
 ·exact all_ok h x hx
 ·exact ht
theorem VH (h : TabOk' T R C) {p : Nat} (hp : p < R) {r : List Int} (hr : r.length <= 1000) (hne : r.length ≠ C) : Ze [.list ((tabT T).set p (rowT r))] = .exc "NoTable" := by
 have r2 := h.r2
 have hT := h.r
 match T, h, hT with
 | r0 :: r1 :: T', h, hT =>
  have w0 := h.w r0 List.mem_cons_self
  have w1 := h.w r1 (List.mem_cons_of_mem _ List.mem_cons_self)
  have ok : ∀ (L : Tab), (∀ q ∈ L, q.length <= 1000) -> ∀ x ∈ tabT L, WC x /\ ∃ ys, x = .list ys := fun L hL x hx => by
   obtain ⟨q, hq, rfl⟩ := List.mem_map.mp hx
   exact ⟨VO (hL q hq), _, rfl⟩
  have c4 := h.c4
  have e : (tabT (r0 :: r1 :: T')).set p (rowT r) = tabT ((r0 :: r1 :: T').set p r) := by simp [tabT, List.map_set]
  have hL : ∀ q ∈ (r0 :: r1 :: T').set p r, q.length <= 1000 := fun q hq => by
   rcases List.mem_or_eq_of_mem_set hq with hq | rfl
   ·rw [h.w q hq]; omega
   ·exact hr
  rw [e]
  cases p with
  | zero =>
   refine ct_len (x0 := r.map .int) (xs := tabT (r1 :: T')) (ok _ hL) ⟨r1.map .int, List.mem_cons_self, by simp [w1]; omega⟩
  | succ p =>
   have hp' : p < (r1 :: T').length := by simp at hT ⊢; omega
   refine ct_len (x0 := r0.map .int) (xs := tabT ((r1 :: T').set p r)) (ok _ hL) ⟨r.map .int, List.mem_map.mpr ⟨r, List.mem_set hp' r, rfl⟩, by simp [w0]; omega⟩
 | [], h, hT => simp at hT; omega
 | [_], h, hT => simp at hT; omega
theorem WJ {n m : Nat} (h : m < n) : ixP n (m : Int) = some m := by
 unfold ixP
 rw [if_pos (by omega), if_pos (by omega)]
 simp
theorem VJ {a b c d t : PyData} {xs : List PyData} {p : Nat} (h : p < xs.length) : YD 4 [.val a, .val b, .val c, .val d, .own xs, .emp] t (.int p) = .ok (.nx [.val a, .val b, .val c, .val d, .own (xs.set p t), .emp]) := by
 simp [YD, WJ h]
theorem at_row (h : p < T.length) : atP (tabT T) (p : Int) = some (rowT T[p]) := atP_map h
theorem ret_ok {a b c d s : Sl} {xs : List PyData} : Zs [a, b, c, d, .own xs, s] = .ok (.rt (.list xs)) := by
 simp [Zs]
theorem cut_one (xs : List PyData) : cutT xs (some 1) none = xs.drop 1 := by
 unfold cutT
 simp only [sIxT]
 rw [if_neg (by decide)]
 cases xs with
 | nil => rfl
 | cons x xs => simp
theorem odd_b {r : Nat} (h : r < 6) : ∃ u, atP [.bool true, .str "1", .none, .int (10 ^ 12), .int (-(10 ^ 12)), .tuple [.int 1, .int 1]] (r : Int) = some u /\ noD u = true /\ YM u = false /\ Zy u = true := by
 rcases (show r = 0 \/ r = 1 \/ r = 2 \/ r = 3 \/ r = 4 \/ r = 5 by omega) with rfl | rfl | rfl | rfl | rfl | rfl
 ·exact ⟨_, rfl, by simp [noD], rfl, by simp⟩
 ·exact ⟨_, rfl, by simp [noD], rfl, by simp⟩
 ·exact ⟨_, rfl, by simp [noD], rfl, by simp⟩
 ·exact ⟨_, rfl, by simp [noD], by decide, by simp⟩
 ·exact ⟨_, rfl, by simp [noD], by decide, by simp⟩
 ·exact ⟨_, rfl, by simp [noD], rfl, by simp⟩
theorem copy_ok (T : Tab) : Zk (Ya 0) tT (dL (Vq (dVar 0))) [.emp] (tabT T) = .ok (tabT T) :=
 Yo (st := Ya 0) (e := dL (Vq (dVar 0))) (C := [.emp]) rowT rowT T fun r _ => ⟨[.val (rowT r)], rfl, by simp [rowT]⟩
theorem all_IL (T : Tab) : (tabT T).all isIL = true := by
 rw [List.all_eq_true]
 intro x hx
 obtain ⟨r, _, rfl⟩ := List.mem_map.mp hx
 show (r.map PyData.int).all isI = true
 rw [List.all_eq_true]
 intro y hy
 obtain ⟨k, _, rfl⟩ := List.mem_map.mp hy
 rfl
theorem nest_ok {a b c : PyData} {p n : Nat} {u : PyData} {cc : Int} (hp : p < T.length) (hn : n < T[p].length) (hs : Zy u = true) (hc : c = .int cc) (m6 : ∃ r : Nat, Int.fmod cc 6 = (r : Int) /\ atP [.bool true, .str "1", .none, .int (10 ^ 12), .int (-(10 ^ 12)), .tuple [.int 1, .int 1]] (r : Int) = some u) (mn : Int.fmod (Int.fdiv cc 6) (T[p].length : Int) = (n : Int)) :
  ∃ G', b_5 [.val a, .val b, .val c, .val (.int p), .own (tabT T), .emp] = .ok (.nx G') /\ Zs G' = .ok (.rt (.list ((tabT T).set p (.list ((T[p].map PyData.int).set n u))))) := by
 subst hc
 obtain ⟨r, er, eu⟩ := m6
 have hr := at_row hp
 have hpl : p < (tabT T).length := by simpa [tabT] using hp
 have pk : Vp 4 [.val a, .val b, .val (.int cc), .val (.int p), .own (tabT T), .val (.list [.bool true, .str "1", .none, .int (10 ^ 12), .int (-(10 ^ 12)), .tuple [.int 1, .int 1]])] (.int p) = some (tabT T, p, T[p].map .int) := by
  have e2 : (tabT T)[p]? = some (.list (T[p].map .int)) := by simp [tabT, hp, rowT]
  simp [Vp, WJ hpl, e2]
 have d6 : WM 6 = true := by decide
 have hne : ¬ (T[p].length : Int) = 0 := by omega
 have hne2 : ¬ T[p] = [] := fun z => by rw [z] at hn; simp at hn
 have ix : ixP (T[p].map PyData.int).length (n : Int) = some n := WJ (by simpa using hn)
 have ed : d_odd [.val a, .val b, .val (.int cc), .val (.int p), .own (tabT T), .emp] = .ok (.list [.bool true, .str "1", .none, .int (10 ^ 12), .int (-(10 ^ 12)), .tuple [.int 1, .int 1]]) := by
  simp [d_odd]
 have lr : (T[p].map PyData.int).length = T[p].length := by simp
 let G5 : List Sl := [.val a, .val b, .val (.int cc), .val (.int p), .own (tabT T), .val (.list [.bool true, .str "1", .none, .int (10 ^ 12), .int (-(10 ^ 12)), .tuple [.int 1, .int 1]])]
 have ea : (d2 fIx (dVar 5) (d2 fMod (dVar 2) (dC (.int 6)))) G5 = .ok u := by
  show ((Res.ok (PyData.list [.bool true, .str "1", .none, .int (10 ^ 12), .int (-(10 ^ 12)), .tuple [.int 1, .int 1]])).bind fun x => ((Res.ok (PyData.int cc)).bind fun x => (Res.ok (PyData.int 6)).bind fun y => fMod x y).bind fun y => fIx x y) = _
  simp only [Res.bind_ok, fMod]
  rw [if_neg (by decide), er]
  simp only [Res.bind_ok, fIx, eu, ofO]
 have e1 : (dVar 3) G5 = .ok (.int p) := rfl
 have e2 : (d2 fMod (d2 fDiv (dVar 2) (dC (.int 6))) (d1 fLen (dIxN 4 (dVar 3)))) G5 = .ok (.int n) := by
  have x1 : (dIxN 4 (dVar 3)) G5 = .ok (.list (T[p].map .int)) := by
   show (Res.ok (PyData.int p)).bind (fun y => fIx (.list (tabT T)) y) = _
   simp only [Res.bind_ok, fIx, hr, ofO]
   rfl
  show ((Res.ok (PyData.int cc)).bind fun x => (Res.ok (PyData.int 6)).bind fun y => fDiv x y).bind (fun x => (((dIxN 4 (dVar 3)) G5).bind fLen).bind fun y => fMod x y) = _
  rw [x1]
  simp only [Res.bind_ok, fDiv, d6, if_true, fLen, lr, fMod, hne, if_false, mn]
 refine ⟨(WH G5).set 4 (.own ((tabT T).set p (.list ((T[p].map PyData.int).set n u)))), ?_, ret_ok⟩
 unfold b_5
 rw [ed, Res.bind_ok]
 show Uq 4 _ _ _ G5 = _
 unfold Uq
 rw [ea, Res.bind_ok, e1, Res.bind_ok, pk]
 simp only
 rw [e2, Res.bind_ok]
 simp only
 rw [ix]
 simp only
 rw [if_pos hs]
theorem way_t {a c d : PyData} {xs : List PyData} (n w : Int) : Y4 n (frzA [.val a, .val (.int w), .val c, .val d, .own xs, .emp]) = .ok (decide (w = n)) := by
 simp [Y4, Xk]
theorem ifN {a c d : PyData} {xs : List PyData} {n w : Int} {x y : DS} : dIfN (Y4 n) x y [.val a, .val (.int w), .val c, .val d, .own xs, .emp] = if w = n then x [.val a, .val (.int w), .val c, .val d, .own xs, .emp] else y [.val a, .val (.int w), .val c, .val d, .own xs, .emp] := by
 unfold dIfN
 rw [way_t, Res.bind_ok]
 by_cases h : w = n <;> simp [h]
theorem Z4 {w c : Int} {p : Nat} (h : TabOk' T R C) (mp : Int.fmod (Int.fdiv c 11) (R : Int) = (p : Int)) {t : PyData} (ht : n_2 [.val (.list (tabT T)), .val (.int w), .val (.int c), .val (.int p), .own (tabT T), .emp] = .ok (.rt t)) : Zr [.list (tabT T), .int w, .int c] = .ok t := by
 have hl := XH h
 have r2 := h.r2
 have r4 := h.r4
 have d11 : WM 11 = true := by decide
 have hne : ¬ (R : Int) = 0 := by omega
 have hne2 : ¬ R = 0 := by omega
 have hl2 : R <= 16777216 := by omega
 have cp := copy_ok T
 have il := all_IL T
 have e1 : ZJ [.val (.list (tabT T)), .val (.int w), .val (.int c), .val (.int p), .emp, .emp] = .ok (.rt t) := by
  unfold ZJ
  generalize tabT T = L at *
  show (Res.ok L).bind _ = _
  rw [Res.bind_ok, if_pos (by rw [hl]; exact hl2)]
  show (Zk (Ya 0) tT (dL (Vq (dVar 0))) [.emp] L).bind _ = _
  rw [cp, Res.bind_ok, if_pos ⟨il, by simp⟩]
  exact ht
 have hd : Y8 = dSeq (dSet 3 [] (d2 fMod (d2 fDiv (dVar 2) (dC (.int 11))) (d1 fLen (dVar 0)))) ZJ := rfl
 generalize tabT T = L at *
 generalize ZJ = D1 at *
 simp [Zr, hd, runQ, runF, d11, hl, hne, hne2, mp, e1]
theorem VG (h : TabOk' T R C) (w : Nat) (hw : w < 6) (c : Int) : ∃ t, Zr [.list (tabT T), .int w, .int c] = .ok t /\ Ze [t] = .exc "NoTable" := by
 have r2 := h.r2
 have r4 := h.r4
 have c1 := h.c1
 have c4 := h.c4
 have hl := XH h
 obtain ⟨p, mp, hp⟩ : ∃ r : Nat, Int.fmod (Int.fdiv c 11) (R : Int) = (r : Int) /\ r < R := YF (n := R) (by omega)
 have hpT : p < T.length := by rw [h.r]; exact hp
 have hpl : p < (tabT T).length := by rw [hl]; exact hp
 have hrl : T[p].length = C := h.w _ (List.getElem_mem hpT)
 have hat := at_row hpT
 have own : ∀ (w : Int) (t : PyData), YD 4 [.val (.list (tabT T)), .val (.int w), .val (.int c), .val (.int p), .own (tabT T), .emp] t (.int p) = .ok (.nx [.val (.list (tabT T)), .val (.int w), .val (.int c), .val (.int p), .own ((tabT T).set p t), .emp]) := fun w t => VJ hpl
 rcases (show w = 0 \/ w = 1 \/ w = 2 \/ w = 3 \/ w = 4 \/ w = 5 by omega) with rfl | rfl | rfl | rfl | rfl | rfl
 ·obtain ⟨r3, m3, h3⟩ : ∃ r : Nat, Int.fmod c 3 = (r : Int) /\ r < 3 := YF (n := 3) (by decide)
  have top : ∀ t, atP [.none, .tuple (tabT T), .str "1"] (r3 : Int) = some t -> Zr [.list (tabT T), .int (0 : Nat), .int c] = .ok t := fun t ht => Z4 h mp (by
   unfold n_2
   rw [ifN, if_pos (by rfl)]
   generalize tabT T = L at *
   simp [m3, ht])
  rcases (show r3 = 0 \/ r3 = 1 \/ r3 = 2 by omega) with rfl | rfl | rfl
  ·exact ⟨_, top _ rfl, WO rfl⟩
  ·exact ⟨_, top _ rfl, WO rfl⟩
  ·exact ⟨_, top _ rfl, WO rfl⟩
 ·obtain ⟨r3, m3, h3⟩ : ∃ r : Nat, Int.fmod c 2 = (r : Int) /\ r < 2 := YF (n := 2) (by decide)
  have e := Yo (st := Ya 0) (e := (dLst (Zh (dC (.int 1)) dNil))) (C := [.emp]) (fun t : Nat => PyData.int (t : Int)) (fun _ => .list [.int 1]) (List.range 5) fun t ht => ⟨[.val (.int (t : Int))], rfl, by simp⟩
  rw [<- XQ] at e
  have r5 : WD 5 = true := by decide
  have l5 : (rngT 0 5).length <= 16777216 := by decide
  have top : ∀ t, atP [.list [], .list ((List.range 5).map fun _ => .list [.int 1])] (r3 : Int) = some t -> Zr [.list (tabT T), .int (1 : Nat), .int c] = .ok t := fun t ht => Z4 h mp (by
   unfold n_2
   rw [ifN, if_neg (by decide)]
   unfold n_3
   rw [ifN, if_pos (by rfl)]
   generalize tabT T = L at *
   generalize ((List.range 5).map fun _ => PyData.list [.int 1]) = L5 at *
   simp [m3, r5, l5, e, ht])
  rcases (show r3 = 0 \/ r3 = 1 by omega) with rfl | rfl
  ·exact ⟨_, top _ rfl, X3 (.inl (by simp))⟩
  ·exact ⟨_, top _ rfl, X3 (.inr (by simp))⟩
 ·obtain ⟨r3, m3, h3⟩ : ∃ r : Nat, Int.fmod c 2 = (r : Int) /\ r < 2 := YF (n := 2) (by decide)
  have ea := Yo (st := Ya 0) (e := (dLst dNil)) (C := [.emp]) rowT (fun _ => PyData.list []) T fun r _ => ⟨[.val (rowT r)], rfl, by simp⟩
  have eb := Yo (st := Ya 0) (e := (dLst (Zh (dC (.int 1)) (Zh (dC (.int 1)) (Zh (dC (.int 1)) (Zh (dC (.int 1)) (Zh (dC (.int 1)) dNil))))))) (C := [.emp]) rowT (fun _ => PyData.list [.int 1, .int 1, .int 1, .int 1, .int 1]) T fun r _ => ⟨[.val (rowT r)], rfl, by simp⟩
  change Zk _ _ _ _ (tabT T) = _ at ea eb
  have l9 : (tabT T).length <= 16777216 := by omega
  have top : ∀ t, atP [.list (T.map fun _ => .list []), .list (T.map fun _ => .list [.int 1, .int 1, .int 1, .int 1, .int 1])] (r3 : Int) = some t -> Zr [.list (tabT T), .int (2 : Nat), .int c] = .ok t := fun t ht => Z4 h mp (by
   unfold n_2
   rw [ifN, if_neg (by decide)]
   unfold n_3
   rw [ifN, if_neg (by decide)]
   unfold n_4
   rw [ifN, if_pos (by rfl)]
   generalize tabT T = L at *
   generalize (T.map fun _ => PyData.list []) = L5 at *
   generalize (T.map fun _ => PyData.list [.int 1, .int 1, .int 1, .int 1, .int 1]) = L6 at *
   simp [m3, l9, ea, eb, ht])
  have hne : ∃ r, r ∈ T := ⟨T[p], List.getElem_mem hpT⟩
  obtain ⟨r0, hr0⟩ := hne
  rcases (show r3 = 0 \/ r3 = 1 by omega) with rfl | rfl
  ·refine ⟨_, top _ rfl, Vc (fun x hx => ?_) ⟨.list [], List.mem_map.mpr ⟨r0, hr0, rfl⟩, rfl⟩⟩
   obtain ⟨_, _, rfl⟩ := List.mem_map.mp hx
   exact ⟨by simp, fun y hy => absurd hy List.not_mem_nil⟩
  ·refine ⟨_, top _ rfl, Vc (fun x hx => ?_) ⟨.list [.int 1, .int 1, .int 1, .int 1, .int 1], List.mem_map.mpr ⟨r0, hr0, rfl⟩, rfl⟩⟩
   obtain ⟨_, _, rfl⟩ := List.mem_map.mp hx
   exact ⟨by simp, fun y hy => by
    simp at hy
    rw [hy]; rfl⟩
 ·refine ⟨.list ((tabT T).set p (.tuple (T[p].map .int))), Z4 h mp ?_, VI h hp trivial rfl⟩
  unfold n_2
  rw [ifN, if_neg (by decide)]
  unfold n_3
  rw [ifN, if_neg (by decide)]
  unfold n_4
  rw [ifN, if_neg (by decide)]
  unfold n_5
  rw [ifN, if_pos (by rfl)]
  have o3 := own 3 (.tuple (T[p].map .int))
  simp only [rowT] at hat
  generalize tabT T = L at *
  generalize T[p].map PyData.int = Q at *
  simp [b_3, hat, o3, s_6, s_7, Y4, Xk, Zs, -YD]
 ·obtain ⟨r3, m3, h3⟩ : ∃ r : Nat, Int.fmod c 2 = (r : Int) /\ r < 2 := YF (n := 2) (by decide)
  have hl7 : T[p].length + 1 <= 16777216 := by omega
  have hl8 : T[p].length <= 16777215 := by omega
  have top : ∀ t, atP [.list (T[p].map .int ++ [.int 1]), .list ((T[p].map PyData.int).drop 1)] (r3 : Int) = some t -> Zr [.list (tabT T), .int (4 : Nat), .int c] = .ok (.list ((tabT T).set p t)) := fun t ht => Z4 h mp (by
   unfold n_2
   rw [ifN, if_neg (by decide)]
   unfold n_3
   rw [ifN, if_neg (by decide)]
   unfold n_4
   rw [ifN, if_neg (by decide)]
   unfold n_5
   rw [ifN, if_neg (by decide)]
   unfold n_6
   rw [ifN, if_pos (by rfl)]
   have o4 := own 4 t
   have ct := cut_one (T[p].map PyData.int)
   have lq : (T[p].map PyData.int).length = C := by simp [hrl]
   have l1 : C <= 16777215 := by omega
   simp only [rowT] at hat
   generalize tabT T = L at *
   generalize T[p].map PyData.int = Q at *
   generalize Q.drop 1 = Q1 at *
   simp [b_4, hat, lq, l1, ct, m3, ht, o4, s_7, Y4, Xk, Zs, -YD])
  rcases (show r3 = 0 \/ r3 = 1 by omega) with rfl | rfl
  ·have e : PyData.list (T[p].map .int ++ [.int 1]) = rowT (T[p] ++ [1]) := by simp [rowT]
   refine ⟨_, top _ rfl, ?_⟩
   rw [e]
   exact VH h hp (by simp; omega) (by simp [hrl])
  ·have e : PyData.list ((T[p].map PyData.int).drop 1) = rowT (T[p].drop 1) := by simp [rowT]
   refine ⟨_, top _ rfl, ?_⟩
   rw [e]
   exact VH h hp (by simp; omega) (by simp [hrl]; omega)
 ·obtain ⟨r6, m6, h6⟩ : ∃ r : Nat, Int.fmod c 6 = (r : Int) /\ r < 6 := YF (n := 6) (by decide)
  obtain ⟨u, eu, hu1, hu2, hu3⟩ := odd_b h6
  obtain ⟨n, mn, hn⟩ : ∃ r : Nat, Int.fmod (Int.fdiv c 6) (T[p].length : Int) = (r : Int) /\ r < T[p].length := YF (n := T[p].length) (by omega)
  obtain ⟨G', g1, g2⟩ := nest_ok (T := T) (a := .list (tabT T)) (b := .int 5) (c := .int c) (p := p) (n := n) (u := u) (cc := c) hpT hn hu3 rfl ⟨r6, m6, eu⟩ mn
  refine ⟨_, Z4 (w := 5) h mp (t := .list ((tabT T).set p (.list ((T[p].map PyData.int).set n u)))) ?_, VI h hp ⟨by simp; omega, fun x hx => ?_⟩ ?_⟩
  ·unfold n_2
   rw [ifN, if_neg (by decide)]
   unfold n_3
   rw [ifN, if_neg (by decide)]
   unfold n_4
   rw [ifN, if_neg (by decide)]
   unfold n_5
   rw [ifN, if_neg (by decide)]
   unfold n_6
   rw [ifN, if_neg (by decide)]
   unfold n_7
   rw [ifN, if_pos (by rfl)]
   unfold dSeq
   rw [g1, Res.bind_ok]
   exact g2
  ·rcases List.mem_or_eq_of_mem_set hx with hx | rfl
   ·obtain ⟨k, _, rfl⟩ := List.mem_map.mp hx
    exact V2 k
   ·exact hu1
  ·show (decide _ && decide _ && _) = false
   have : ((T[p].map PyData.int).set n u).all YM = false := by
    cases q : ((T[p].map PyData.int).set n u).all YM with
    | false => rfl
    | true =>
     rw [List.all_eq_true.mp q u (List.mem_set (by simpa using hn) u)] at hu2
     cases hu2
   rw [this]
   simp
theorem cells (ns : List Int) : ∃ c : Nat -> Int, ∀ k : Nat, Zb [.list (ns.map .int), .int k] = .ok (.int (c k)) :=
 ⟨fun k => Classical.choose (Uv ns k (by omega)), fun k => Classical.choose_spec (Uv ns k (by omega))⟩
theorem law_ok (ns : List Int) (_hl : ns.length <= 63) : Ub [.list (ns.map .int)] = .ok (.bool true) := by
 obtain ⟨c, hc⟩ := cells ns
 obtain ⟨m, mm, hm⟩ : ∃ r : Nat, Int.fmod (c 0) 3 = (r : Int) /\ r < 3 := YF (n := 3) (by decide)
 obtain ⟨k, mk, hk⟩ : ∃ r : Nat, Int.fmod (c 1) 4 = (r : Int) /\ r < 4 := YF (n := 4) (by decide)
 obtain ⟨w, mw, hw⟩ : ∃ r : Nat, Int.fmod (c 2) 6 = (r : Int) /\ r < 6 := YF (n := 6) (by decide)
 have c0 : Zb [.list (ns.map .int), .int 0] = .ok (.int (c 0)) := hc 0
 have c1 : Zb [.list (ns.map .int), .int 1] = .ok (.int (c 1)) := hc 1
 have c2 : Zb [.list (ns.map .int), .int 2] = .ok (.int (c 2)) := hc 2
 have c3 : Zb [.list (ns.map .int), .int 3] = .ok (.int (c 3)) := hc 3
 let row (j : Nat) : List Int := (List.range (1 + k)).map fun i => Int.fmod (c (5 + j + i)) 9 - 4
 have hr1 : WD (1 + (k : Int)) = true := Wb (n := 1 + k) (by omega)
 have hr2 : WD (2 + (m : Int)) = true := Wb (n := 2 + m) (by omega)
 have t1 : (1 + (k : Int)).toNat = 1 + k := by omega
 have t2 : (2 + (m : Int)).toNat = 2 + m := by omega
 have l1 : (rngT 0 (1 + k)).length <= 16777216 := by rw [WY]; omega
 have l2 : (rngT 0 (2 + m)).length <= 16777216 := by rw [WY]; omega
 have ei : ∀ j : Nat, Zk (Ya 0) tT (d2 fSub (d2 fMod (Yr Zb (Zh (dVar 1) (Zh (d2 fAdd (d2 fAdd (dC (.int 5)) (dVar 2)) (dVar 0)) dNil))) (dC (.int 9))) (dC (.int 4))) [.emp, .val (.list (ns.map .int)), .val (.int j)] (rngT 0 (1 + k)) = .ok ((row j).map .int) := fun j => by
  have e := Yo (st := Ya 0) (e := (d2 fSub (d2 fMod (Yr Zb (Zh (dVar 1) (Zh (d2 fAdd (d2 fAdd (dC (.int 5)) (dVar 2)) (dVar 0)) dNil))) (dC (.int 9))) (dC (.int 4)))) (C := [.emp, .val (.list (ns.map .int)), .val (.int j)]) (fun t : Nat => PyData.int (t : Int)) (fun i => PyData.int (Int.fmod (c (5 + j + i)) 9 - 4)) (List.range (1 + k)) fun i _ => ⟨[.val (.int i), .val (.list (ns.map .int)), .val (.int j)], rfl, by
   have q := hc (5 + j + i)
   rw [show ((5 + j + i : Nat) : Int) = 5 + (j : Int) + (i : Int) by omega] at q
   simp [q]⟩
  rw [<- XQ] at e
  rw [e]
  simp [row, List.map_map, Function.comp_def]
 have eo := Yo (st := Ya 0) (e := (dL (Y2 1 [2, 0] (Ya 0) (iRng (dVar 1)) tT (d2 fSub (d2 fMod (Yr Zb (Zh (dVar 1) (Zh (d2 fAdd (d2 fAdd (dC (.int 5)) (dVar 2)) (dVar 0)) dNil))) (dC (.int 9))) (dC (.int 4)))))) (C := [.emp, .val (.int (1 + (k : Int))), .val (.list (ns.map .int))]) (fun t : Nat => PyData.int (t : Int)) (fun j => rowT (row j)) (List.range (2 + m)) fun j _ => ⟨[.val (.int j), .val (.int (1 + (k : Int))), .val (.list (ns.map .int))], rfl, by
  have q := ei j
  simp only [rowT]
  generalize (row j).map PyData.int = z at *
  simp [hr1, t1, l1, q]⟩
 rw [<- XQ] at eo
 have eo' : ((List.range (2 + m)).map fun j => rowT (row j)) = tabT ((List.range (2 + m)).map row) := by
  simp [tabT, List.map_map, Function.comp_def]
 rw [eo'] at eo
 have hT : TabOk' ((List.range (2 + m)).map row) (2 + m) (1 + k) := ⟨by simp, by omega, by omega, by omega, by omega, fun r hr => by
  obtain ⟨j, _, rfl⟩ := List.mem_map.mp hr
  simp [row]⟩
 obtain ⟨t, e1, e2⟩ := VG hT w hw (c 3)
 have e3 := V3 e2
 have s1 : subs ["NoTable"] "NoTable" = true := by decide
 generalize tabT ((List.range (2 + m)).map row) = z at *
 simp [Ub, d_law, Up, Uo, Um, Ul, Uk, Uj, Ui, runQ, runF, c0, c1, c2, c3, mm, mk, mw, hr1, hr2, t1, t2, l1, l2, eo, e1, e3, s1, Xk, -subs]
end
end K17
namespace K17
open PySem PySem.Spec PyProof.Rows L2 Fx
open Lw
variable {P : Program} {w : World} {K : PySem.W.Frag} {mg : Str -> Option Value} {base : Heap} {k : Nat} {fa : Addr} {fd : FuncData}
set_option maxHeartbeats 0
set_option smartUnfolding false
def top (i : Nat) : Stmt := PySem.Challenge.pw_limitdesk_k17_tables_refused.main.body.getD i (.Pass ⟨0, 0, 0, 0⟩)
abbrev Z5 : Stmt := top 1
theorem WB : FnScope ["value"] ["value"] (Zd Z5) := ⟨rfl, rfl, rfl, by decide +kernel, rfl, by decide +kernel, by decide +kernel⟩
theorem WG (F : Fun K "is_whole" "is_whole" Z5 fa fd) (hm : mg "is_whole" = some (.ref fa)) (b : Yx K fd ["value"] []) (z_isinstance : mg "isinstance" = none) (z_int : mg "int" = none) (z_bool : mg "bool" = none) :
  Fx.Cle P w K mg base (k + 1) "is_whole" 1 ZV := by
 exact Ws F hm b WB rfl rfl fun cdv A outer s H E hr =>
  (ZD (Yb (Fx.ev_and (YU Fx.kit_int (show bootBuiltins "int" = some (.type "int") by decide +kernel) rfl z_isinstance rfl z_int (Za 0)) (Fx.ev_one (Fx.ev_not (YU Fx.kit_bool (show bootBuiltins "bool" = some (.type "bool") by decide +kernel) rfl z_isinstance rfl z_bool (Za 0)))))))
abbrev ZS : Stmt := top 28
theorem Wa : FnScope ["value"] ["value"] (Zd ZS) := ⟨rfl, rfl, rfl, by decide +kernel, rfl, by decide +kernel, by decide +kernel⟩
theorem Wf (F : Fun K "is_number" "is_number" ZS fa fd) (hm : mg "is_number" = some (.ref fa)) (b : Yx K fd ["value"] []) (z_abs : mg "abs" = none) (g_GREATEST_NUMBER : ∃ t, mg "GREATEST_NUMBER" = some (.int 999999999999 t)) (C_is_whole : Fx.Cle P w K mg base k "is_whole" 1 ZV) :
  Fx.Cle P w K mg base (k + 1) "is_number" 1 Zx := by
 obtain ⟨t_GREATEST_NUMBER, g_GREATEST_NUMBER⟩ := g_GREATEST_NUMBER; exact Ws F hm b Wa rfl rfl fun cdv A outer s H E hr =>
  (ZD (Yb (Fx.ev_and (Yd (Fx.Cle.cal C_is_whole) hr rfl (Zc (Za 0) Zv)) (Fx.ev_one (Ud Fx.op_leF (Fx.ev_abs rfl z_abs (Za 0)) (XY rfl g_GREATEST_NUMBER) (ZR _))))))
abbrev Yy : Stmt := top 39
theorem VM : FnScope ["value"] ["value"] (Zd Yy) := ⟨rfl, rfl, rfl, by decide +kernel, rfl, by decide +kernel, by decide +kernel⟩
theorem VZ (F : Fun K "is_row" "is_row" Yy fa fd) (hm : mg "is_row" = some (.ref fa)) (b : Yx K fd ["value"] []) (z_isinstance : mg "isinstance" = none) (z_list : mg "list" = none) (z_len : mg "len" = none) (z_all : mg "all" = none) (g_MOST_COLUMNS : ∃ t, mg "MOST_COLUMNS" = some (.int 4 t)) (C_is_number : Fx.Cle P w K mg base k "is_number" 1 Zx) :
  Fx.Cle P w K mg base (k + 1) "is_row" 1 ZL := by
 obtain ⟨t_MOST_COLUMNS, g_MOST_COLUMNS⟩ := g_MOST_COLUMNS; exact Ws F hm b VM rfl rfl fun cdv A outer s H E hr =>
  (ZB (XL (Fx.tv_w (Fx.tw_or (WU (WT (YU W6 (show bootBuiltins "list" = some (.type "list") by decide +kernel) rfl z_isinstance rfl z_list (Za 0)) (fun _ => rfl))) (Fx.tw_or (Z7 VX (YG rfl z_len (Za 0)) Zg (ZR _)) (Fx.tw_or1 (Z7 Fx.op_gtF (YG rfl z_len (Za 0)) (XY rfl g_MOST_COLUMNS) (ZR _))))))
  (ZD (Yb Fx.ev_bl))
  YL)
  (ZD (Yb (Ue rfl z_all (YT (YH (N := ["number"]) (nv := 1) (cap := []) (Y9 rfl) rfl (ZO (by decide)) (Xy (Za 0)) YB (fun _ _ _ _ => (Yk (i := 0) (show List.Nodup (["number"] : List Str) from by decide +kernel) rfl (Or.inl rfl))) (fun _ _ _ _ _ => Yn) (fun _ _ _ _ _ => (Yd (Fx.Cle.cal C_is_number) hr rfl (Zc (Za 0) Zv)))))))))
abbrev ZF : Stmt := top 40
theorem Xq : FnScope ["table"] ["table"] (Zd ZF) := ⟨rfl, rfl, rfl, by decide +kernel, rfl, by decide +kernel, by decide +kernel⟩
theorem Xs {cl : Str -> Value} {X_NoTable : Addr} (F : Fun K "check_table" "check_table" ZF fa fd) (hm : mg "check_table" = some (.ref fa)) (b : Yx K fd ["table"] []) (z_isinstance : mg "isinstance" = none) (z_list : mg "list" = none) (z_len : mg "len" = none) (z_all : mg "all" = none) (g_MOST_ROWS : ∃ t, mg "MOST_ROWS" = some (.int 4 t)) (c_NoTable : Fx.XCls K mg "NoTable" X_NoTable) (e_NoTable : cl "NoTable" = .ref X_NoTable) (C_is_row : Fx.Cle P w K mg base k "is_row" 1 ZL) :
  Fx.Clx P w K mg base cl (k + 1) "check_table" 1 Ze := by
 obtain ⟨t_MOST_ROWS, g_MOST_ROWS⟩ := g_MOST_ROWS; exact Fx.clx_of F hm b Xq rfl rfl fun cdv A outer s H E W hr =>
  (ZB (XL (Fx.tv_w (Fx.tw_or (WU (WT (YU W6 (show bootBuiltins "list" = some (.type "list") by decide +kernel) rfl z_isinstance rfl z_list (Za 0)) (fun _ => rfl))) (Fx.tw_or (Z7 VX (YG rfl z_len (Za 0)) Zg (ZR _)) (Fx.tw_or1 (Z7 Fx.op_gtF (YG rfl z_len (Za 0)) (XY rfl g_MOST_ROWS) (ZR _))))))
  (ZD (XJ Z0.pin c_NoTable e_NoTable (Zc Wo Zv) rfl))
  YL)
  (ZB (XL (WU (WT (Ue rfl z_all (YT (YH (N := ["row"]) (nv := 1) (cap := []) (Y9 rfl) rfl (ZO (by decide)) (Xy (Za 0)) (Vd Z0) (fun _ _ _ _ => (Yk (i := 0) (show List.Nodup (["row"] : List Str) from by decide +kernel) rfl (Or.inl rfl))) (fun _ _ _ _ hp1 => Yn) (fun _ _ _ _ hp1 => (Yd (Fx.Cle.cal C_is_row) hr rfl (Zc (Za 0) Zv)))))) (fun _ => rfl)))
  (ZD (XJ Z0.pin c_NoTable e_NoTable (Zc Wo Zv) rfl))
  YL)
  (ZD (XL (WU (WT (Ue rfl z_all (YT (YH (N := ["row", "table"]) (nv := 1) (cap := [0]) (Y9 rfl) rfl (ZO (by decide)) (Xy (Za 0)) (Vd Z0) (fun _ _ _ _ => (Yk (i := 0) (show List.Nodup (["row", "table"] : List Str) from by decide +kernel) rfl (Or.inl rfl))) (fun _ _ _ _ hp1 => Yn) (fun _ _ _ _ hp1 => (Ud (Yq hr.units) (YG rfl z_len (Za 0)) (YG rfl z_len (XX (Za 1) Zg (fun _ _ => rfl))) (ZR _)))))) (fun _ => rfl)))
  (ZD (XJ Z0.pin c_NoTable e_NoTable (Zc Wo Zv) rfl))
  YL))))
abbrev YX : Stmt := top 44
theorem sc_match : FnScope ["table", "told"] ["table"] (Zd YX) := ⟨rfl, rfl, rfl, by decide +kernel, rfl, by decide +kernel, by decide +kernel⟩
theorem ok_match {cl : Str -> Value} (F : Fun K "match" "match" YX fa fd) (hm : mg "match" = some (.ref fa)) (b : Yx K fd ["table"] []) (C_check_table : Fx.Clx P w K mg base cl k "check_table" 1 Ze) :
  Fx.Clx P w K mg base cl (k + 1) "match" 1 Y1 := by
 exact Fx.clx_of F hm b sc_match rfl rfl fun cdv A outer s H E W hr =>
  (ZB (Fx.ss_drop (Yd (Fx.Clx.cal Z0.pin C_check_table) hr rfl (Zc (Za 0) Zv)))
  (ZB WW
  (ZD WW)))
abbrev ZE : Stmt := top 46
theorem Xp : FnScope ["_law_script", "_law_k"] ["_law_script", "_law_k"] (Zd ZE) := ⟨rfl, rfl, rfl, by decide +kernel, rfl, by decide +kernel, by decide +kernel⟩
theorem Xr (F : Fun K "_law_cell_at" "_law_cell_at" ZE fa fd) (hm : mg "_law_cell_at" = some (.ref fa)) (b : Yx K fd ["_law_script", "_law_k"] []) (z_len : mg "len" = none) :
  Fx.Cle P w K mg base (k + 1) "_law_cell_at" 2 Zb := by
 exact Ws F hm b Xp rfl rfl fun cdv A outer s H E hr =>
  (ZB (XL (Z7 VX (Za 1) (YG rfl z_len (Za 0)) (ZR _))
  (ZD (Yb (XX (Za 0) (Za 1) (fun _ _ => rfl))))
  YL)
  (ZB (XL (Z7 (Yq hr.units) (Za 0) (Ye Zv) (ZR _))
  (ZD (Yb Zg))
  YL)
  (ZD (Yb (ZQ Yj (ZQ Fx.op_mulF (XX (Za 0) (ZQ ZU (Za 1) (YG rfl z_len (Za 0))) (fun _ _ => rfl)) Zg) (Za 1))))))
abbrev ZM : Stmt := top 47
theorem ZZ : FnScope ["_law_table", "_law_way", "_law_cell", "_law_at", "_law_made", "_law_odd"] ["_law_table", "_law_way", "_law_cell"] (Zd ZM) := ⟨rfl, rfl, rfl, by decide +kernel, rfl, by decide +kernel, by decide +kernel⟩
theorem XS (F : Fun K "_law_spoilt" "_law_spoilt" ZM fa fd) (hm : mg "_law_spoilt" = some (.ref fa)) (b : Yx K fd ["_law_table", "_law_way", "_law_cell"] []) (z_len : mg "len" = none) (z_list : mg "list" = none) (z_tuple : mg "tuple" = none) (z_range : mg "range" = none) :
  Fx.Cle P w K mg base (k + 1) "_law_spoilt" 3 Zr := by
 exact Ws F hm b ZZ rfl rfl fun cdv A outer s H E hr =>
  (ZB (Xf (i := 3) ZZ.nd rfl (Or.inl rfl) (ZQ ZU (ZQ VY (Za 2) Zg) (YG rfl z_len (Za 0))))
  (Fx.nv_fresh (N := ["_law_row"]) (nv := 1) (cap := []) (i := 4) (Y9 rfl) rfl (ZO (by decide)) (Xy (Za 0)) YB (fun _ _ _ _ => (Yk (i := 0) (show List.Nodup (["_law_row"] : List Str) from by decide +kernel) rfl (Or.inl rfl))) (fun _ _ _ _ _ => Yn) (fun _ _ _ _ _ => (Fx.ov_list rfl z_list (Za 0))) ZZ.nd rfl (Or.inl rfl)
  (V1 (i := 4) (Z7 (Yq hr.units) (Za 1) Zg (ZR _))
  (ZD (Yb (XX (Ye (Zc Fx.ev_non (Zc (Va rfl z_tuple (Za 4)) (Zc Wo Zv)))) (ZQ ZU (Za 2) Zg) (fun _ _ => rfl)))) Xd
  (V1 (i := 4) (Z7 (Yq hr.units) (Za 1) Zg (ZR _))
  (ZD (Yb (XX (Ye (Zc (Ye Zv) (Zc (YT (YH (N := ["_law_k"]) (nv := 1) (cap := []) (Y9 rfl) rfl (ZO (by decide)) (XV rfl z_range Zg) YB (fun _ _ _ _ => (Yk (i := 0) (show List.Nodup (["_law_k"] : List Str) from by decide +kernel) rfl (Or.inl rfl))) (fun _ _ _ _ _ => Yn) (fun _ _ _ _ _ => (Ye (Zc Zg Zv))))) Zv))) (ZQ ZU (Za 2) Zg) (fun _ _ => rfl)))) Xd
  (V1 (i := 4) (Z7 (Yq hr.units) (Za 1) Zg (ZR _))
  (ZD (Yb (XX (Ye (Zc (YT (YH (N := ["_law_row"]) (nv := 1) (cap := []) (Y9 rfl) rfl (ZO (by decide)) (Xy (Za 4)) YB (fun _ _ _ _ => (Yk (i := 0) (show List.Nodup (["_law_row"] : List Str) from by decide +kernel) rfl (Or.inl rfl))) (fun _ _ _ _ _ => Yn) (fun _ _ _ _ _ => (Ye Zv)))) (Zc (YT (YH (N := ["_law_row"]) (nv := 1) (cap := []) (Y9 rfl) rfl (ZO (by decide)) (Xy (Za 4)) YB (fun _ _ _ _ => (Yk (i := 0) (show List.Nodup (["_law_row"] : List Str) from by decide +kernel) rfl (Or.inl rfl))) (fun _ _ _ _ _ => Yn) (fun _ _ _ _ _ => (Ye (Zc Zg (Zc Zg (Zc Zg (Zc Zg (Zc Zg Zv))))))))) Zv))) (ZQ ZU (Za 2) Zg) (fun _ _ => rfl)))) Xd
  (V1 (i := 4) (Z7 (Yq hr.units) (Za 1) Zg (ZR _))
  (ZD (XI (i := 4) rfl (Za 3) (Va rfl z_tuple (XB (i := 4) rfl (Za 3) (fun _ _ => rfl)))))
  (ZB (XL (Z7 (Yq hr.units) (Za 1) Zg (ZR _)) (ZD (XI (i := 4) rfl (Za 3) (XX (Ye (Zc (ZQ Yj (XB (i := 4) rfl (Za 3) (fun _ _ => rfl)) (Ye (Zc Zg Zv))) (Zc (YT (Fx.ov_cut (XB (i := 4) rfl (Za 3) (fun _ _ => rfl)) (Fx.pv_at Zg) Fx.pv_no)) Zv))) (ZQ ZU (Za 2) Zg) (fun _ _ => rfl)))) YL) (ZB (XL (Z7 (Yq hr.units) (Za 1) Zg (ZR _)) Xd YL) (ZD (Yb (Za 4)))))
  (V1 (i := 4) (Z7 (Yq hr.units) (Za 1) Zg (ZR _))
  (ZD (XI (i := 4) rfl (Za 3) (XX (Ye (Zc (ZQ Yj (XB (i := 4) rfl (Za 3) (fun _ _ => rfl)) (Ye (Zc Zg Zv))) (Zc (YT (Fx.ov_cut (XB (i := 4) rfl (Za 3) (fun _ _ => rfl)) (Fx.pv_at Zg) Fx.pv_no)) Zv))) (ZQ ZU (Za 2) Zg) (fun _ _ => rfl))))
  (ZB (XL (Z7 (Yq hr.units) (Za 1) Zg (ZR _)) Xd YL) (ZD (Yb (Za 4))))
  (Fx.nv_ifN (i := 4) (Z7 (Yq hr.units) (Za 1) Zg (ZR _))
  (Fx.nv_set (i := 4) (j := 5) (by decide) ZZ.nd rfl (Or.inl rfl) (Ye (Zc Fx.ev_bl (Zc Wo (Zc Fx.ev_non (Zc (ZQ VW Zg Zg) (Zc (Fx.ev_neg (ZQ VW Zg Zg)) (Zc (Fx.ev_tup (Zc Zg (Zc Zg Zv))) Zv)))))))
  (Fx.nv_nest (i := 4) rfl (Za 3) (fun _ _ => rfl) (ZQ ZU (ZQ VY (Za 2) Zg) (YG rfl z_len (XB (i := 4) rfl (Za 3) (fun _ _ => rfl)))) (XX (Za 5) (ZQ ZU (Za 2) Zg) (fun _ _ => rfl))))
  (ZD (Yb (Za 4)))))))))))
abbrev XN : Stmt := top 48
theorem YN : FnScope ["_law_script", "_law_rows", "_law_columns", "_law_table", "_law_bad", "_law_refused", "e"] ["_law_script"] (Zd XN) := ⟨rfl, rfl, rfl, by decide +kernel, rfl, by decide +kernel, by decide +kernel⟩
theorem law_fn {cl : Str -> Value} {X_NoTable : Addr} {X_LimitError : Addr} (F : Fun K "law" "law" XN fa fd) (z_range : mg "range" = none) (z_int : mg "int" = none) (z_isinstance : mg "isinstance" = none) (z_ValueError : mg "ValueError" = none) (c_NoTable : Fx.XCls K mg "NoTable" X_NoTable) (c_LimitError : Fx.XCls K mg "LimitError" X_LimitError) (e_NoTable : cl "NoTable" = .ref X_NoTable) (e_LimitError : cl "LimitError" = .ref X_LimitError) (u_NoTable_NoTable : PySem.W.subIn K (.ref X_NoTable) (.ref X_NoTable) = some true) (u_NoTable_LimitError : PySem.W.subIn K (.ref X_NoTable) (.ref X_LimitError) = some true) (u_NoTable_ValueError : PySem.W.subIn K (.ref X_NoTable) (.type "ValueError") = some true) (C_law_cell_at : Fx.Cle P w K mg base k "_law_cell_at" 2 Zb) (C_law_spoilt : Fx.Cle P w K mg base k "_law_spoilt" 3 Zr) (C_match : Fx.Clx P w K mg base cl k "match" 1 Y1) :
  FnOk P w K mg base CX0 (k + 1) fa fd ["_law_script"] (Fx.spF K none 1 Ub) := by
 exact Fx.fn_ok F YN rfl fun cdv A outer s H E hr =>
  (ZB (Xf (i := 1) YN.nd rfl (Or.inl rfl) (ZQ Yj Zg (ZQ ZU (Yd (Fx.Cle.cal C_law_cell_at) hr rfl (Zc (Za 0) (Zc Zg Zv))) Zg)))
  (ZB (Xf (i := 2) YN.nd rfl (Or.inr rfl) (ZQ Yj Zg (ZQ ZU (Yd (Fx.Cle.cal C_law_cell_at) hr rfl (Zc (Za 0) (Zc Zg Zv))) Zg)))
  (ZB (Fx.ss_setCK (N := ["_law_k", "_law_columns", "_law_script"]) (nv := 1) (cap := [2, 0]) (i := 3) (Fx.compokK (x0 := "_law_k") (fun _ _ => rfl) (fun _ => rfl) rfl) rfl (ZO (by decide)) (XV rfl z_range (Za 1)) Ur (fun _ _ _ _ => (Yk (i := 0) (show List.Nodup (["_law_k", "_law_columns", "_law_script"] : List Str) from by decide +kernel) rfl (Or.inr rfl))) (fun _ _ _ _ _ => Yn) (fun _ _ _ _ _ => (YT (YH (N := ["_law_j", "_law_script", "_law_k"]) (nv := 1) (cap := [2, 0]) (Y9 rfl) rfl (ZO (by decide)) (XV rfl z_range (Za 1)) YB (fun _ _ _ _ => (Yk (i := 0) (show List.Nodup (["_law_j", "_law_script", "_law_k"] : List Str) from by decide +kernel) rfl (Or.inl rfl))) (fun _ _ _ _ _ => Yn) (fun _ _ _ _ _ => (ZQ Fx.op_subF (ZQ ZU (Yd (Fx.Cle.cal C_law_cell_at) hr rfl (Zc (Za 1) (Zc (ZQ Yj (ZQ Yj Zg (Za 2)) (Za 0)) Zv))) Zg) Zg))))) YN.nd rfl (Or.inl rfl))
  (ZB (Xf (i := 4) YN.nd rfl (Or.inl rfl) (Yd (Fx.Cle.cal C_law_spoilt) hr rfl (Zc (Za 3) (Zc (ZQ ZU (Yd (Fx.Cle.cal C_law_cell_at) hr rfl (Zc (Za 0) (Zc Zg Zv))) Zg) (Zc (Yd (Fx.Cle.cal C_law_cell_at) hr rfl (Zc (Za 0) (Zc Zg Zv))) Zv)))))
  (ZB (Xf (i := 5) YN.nd rfl (Or.inl rfl) Zg)
  (ZB (Fx.ss_try (Fx.InFrame.wish Z0) C_match hr rfl (Zc (Za 4) Zv) c_NoTable rfl (Xn e_NoTable u_NoTable_NoTable XG) (fun _ =>
  (ZD (Xf (i := 5) YN.nd rfl (Or.inl rfl) (ZQ Yj (Za 5) Zg)))))
  (ZB (Fx.ss_tryA (i := 6) (Fx.InFrame.wish Z0) C_match hr rfl (Zc (Za 4) Zv) c_LimitError rfl (Xn e_NoTable u_NoTable_LimitError XG) (Fx.ve_cons e_NoTable u_NoTable_ValueError Fx.ve_nil) YN.nd rfl rfl (fun _ =>
  (ZD (Xf (i := 5) YN.nd rfl (Or.inl rfl) (ZQ Yj (Za 5) (Fx.ev_intc rfl z_int (Fx.ev_isx rfl z_isinstance rfl z_ValueError (Za 6))))))))
  (ZD (Yb (Ud (Yq hr.units) (Za 5) Zg (ZR _)))))))))))
theorem all_mk {l : PySem.W.OpenLaw} {w : World} {K : PySem.W.Frag} {h : Heap} {mg : Str -> Option Value} {fa : Addr} (X : K.In h) (G : h.Ns mainGlobals mg) (hfa : mg "law" = some (.ref fa))
  {f0 f1 f2 f3 f4 f5 f6 f7 : Addr} {od0 an0 od1 an1 od2 an2 od3 an3 od4 an4 od5 an5 od6 an6 od7 an7 : Option Addr} {sl0 sl1 sl2 sl3 sl4 sl5 sl6 sl7 : Array (Option Value)} {oc0 kV0 dc0 pm0 cd0 ct0 oc1 kV1 dc1 pm1 cd1 ct1 oc2 kV2 dc2 pm2 cd2 ct2 oc3 kV3 dc3 pm3 cd3 ct3 oc4 kV4 dc4 pm4 cd4 ct4 oc5 kV5 dc5 pm5 cd5 ct5 oc6 kV6 dc6 pm6 cd6 ct6 oc7 kV7 dc7 pm7 cd7 ct7 : Value}
  {tg_GREATEST_NUMBER : Tok}
  {tg_MOST_COLUMNS : Tok}
  {tg_MOST_ROWS : Tok}
  {X_NoTable : Addr}
  {X_LimitError : Addr}
  (a0 : PySem.W.nsIn K mainGlobals "is_whole" = some (some (.ref f0))) (l0 : K.lookup f0 = some ⟨oc0, od0, .func (PySem.W.fnOf "is_whole" "is_whole" (ZW Z5) (ZC Z5) (Zd Z5) .none kV0 dc0 pm0 an0 cd0 ct0), sl0⟩) (c0 : PySem.W.codeIn K cd0 "is_whole" = true) (k0 : PySem.W.keepIn K (.ref f0) = true)
  (a1 : PySem.W.nsIn K mainGlobals "is_number" = some (some (.ref f1))) (l1 : K.lookup f1 = some ⟨oc1, od1, .func (PySem.W.fnOf "is_number" "is_number" (ZW ZS) (ZC ZS) (Zd ZS) .none kV1 dc1 pm1 an1 cd1 ct1), sl1⟩) (c1 : PySem.W.codeIn K cd1 "is_number" = true) (k1 : PySem.W.keepIn K (.ref f1) = true)
  (a2 : PySem.W.nsIn K mainGlobals "is_row" = some (some (.ref f2))) (l2 : K.lookup f2 = some ⟨oc2, od2, .func (PySem.W.fnOf "is_row" "is_row" (ZW Yy) (ZC Yy) (Zd Yy) .none kV2 dc2 pm2 an2 cd2 ct2), sl2⟩) (c2 : PySem.W.codeIn K cd2 "is_row" = true) (k2 : PySem.W.keepIn K (.ref f2) = true)
  (a3 : PySem.W.nsIn K mainGlobals "check_table" = some (some (.ref f3))) (l3 : K.lookup f3 = some ⟨oc3, od3, .func (PySem.W.fnOf "check_table" "check_table" (ZW ZF) (ZC ZF) (Zd ZF) .none kV3 dc3 pm3 an3 cd3 ct3), sl3⟩) (c3 : PySem.W.codeIn K cd3 "check_table" = true) (k3 : PySem.W.keepIn K (.ref f3) = true)
  (a4 : PySem.W.nsIn K mainGlobals "match" = some (some (.ref f4))) (l4 : K.lookup f4 = some ⟨oc4, od4, .func (PySem.W.fnOf "match" "match" (ZW YX) (ZC YX) (Zd YX) .none kV4 dc4 pm4 an4 cd4 ct4), sl4⟩) (c4 : PySem.W.codeIn K cd4 "match" = true) (k4 : PySem.W.keepIn K (.ref f4) = true)
  (a5 : PySem.W.nsIn K mainGlobals "_law_cell_at" = some (some (.ref f5))) (l5 : K.lookup f5 = some ⟨oc5, od5, .func (PySem.W.fnOf "_law_cell_at" "_law_cell_at" (ZW ZE) (ZC ZE) (Zd ZE) .none kV5 dc5 pm5 an5 cd5 ct5), sl5⟩) (c5 : PySem.W.codeIn K cd5 "_law_cell_at" = true) (k5 : PySem.W.keepIn K (.ref f5) = true)
  (a6 : PySem.W.nsIn K mainGlobals "_law_spoilt" = some (some (.ref f6))) (l6 : K.lookup f6 = some ⟨oc6, od6, .func (PySem.W.fnOf "_law_spoilt" "_law_spoilt" (ZW ZM) (ZC ZM) (Zd ZM) .none kV6 dc6 pm6 an6 cd6 ct6), sl6⟩) (c6 : PySem.W.codeIn K cd6 "_law_spoilt" = true) (k6 : PySem.W.keepIn K (.ref f6) = true)
  (a7 : PySem.W.nsIn K mainGlobals "law" = some (some (.ref f7))) (l7 : K.lookup f7 = some ⟨oc7, od7, .func (PySem.W.fnOf "law" "law" (ZW XN) (ZC XN) (Zd XN) .none kV7 dc7 pm7 an7 cd7 ct7), sl7⟩) (c7 : PySem.W.codeIn K cd7 "law" = true) (k7 : PySem.W.keepIn K (.ref f7) = true)
  (z_isinstance : PySem.W.nsIn K mainGlobals "isinstance" = some none)
  (z_int : PySem.W.nsIn K mainGlobals "int" = some none)
  (z_bool : PySem.W.nsIn K mainGlobals "bool" = some none)
  (z_abs : PySem.W.nsIn K mainGlobals "abs" = some none)
  (z_list : PySem.W.nsIn K mainGlobals "list" = some none)
  (z_len : PySem.W.nsIn K mainGlobals "len" = some none)
  (z_all : PySem.W.nsIn K mainGlobals "all" = some none)
  (z_tuple : PySem.W.nsIn K mainGlobals "tuple" = some none)
  (z_range : PySem.W.nsIn K mainGlobals "range" = some none)
  (z_ValueError : PySem.W.nsIn K mainGlobals "ValueError" = some none)
  (g_GREATEST_NUMBER : PySem.W.nsIn K mainGlobals "GREATEST_NUMBER" = some (some (.int 999999999999 tg_GREATEST_NUMBER)))
  (g_MOST_COLUMNS : PySem.W.nsIn K mainGlobals "MOST_COLUMNS" = some (some (.int 4 tg_MOST_COLUMNS)))
  (g_MOST_ROWS : PySem.W.nsIn K mainGlobals "MOST_ROWS" = some (some (.int 4 tg_MOST_ROWS)))
  (x_NoTable : PySem.W.nsIn K mainGlobals "NoTable" = some (some (.ref X_NoTable))) (q_NoTable : PySem.W.excIn K X_NoTable [.type "ValueError", .type "Exception", .type "BaseException", .type "object"] "ValueError.__new__" = true)
  (x_LimitError : PySem.W.nsIn K mainGlobals "LimitError" = some (some (.ref X_LimitError))) (q_LimitError : PySem.W.excIn K X_LimitError [.type "ValueError", .type "Exception", .type "BaseException", .type "object"] "ValueError.__new__" = true)
  (u_NoTable_NoTable : PySem.W.subIn K (.ref X_NoTable) (.ref X_NoTable) = some true)
  (u_NoTable_LimitError : PySem.W.subIn K (.ref X_NoTable) (.ref X_LimitError) = some true)
  (u_NoTable_ValueError : PySem.W.subIn K (.ref X_NoTable) (.type "ValueError") = some true) :
  ∃ fd : FuncData, (∀ (s : Shared) (v : Value), BindsTo s fd ⟨[v], []⟩ [("_law_script", v)]) /\ ∀ base : Heap, K.In base -> base.Ns mainGlobals mg -> FnOk l.prog w K mg base CX0 6 fa fd ["_law_script"] (Fx.spF K none 1 Ub) := by
 have e := hfa.symm.trans (PySem.W.mg_of X G a7)
 cases e
 have F0 := Y7 (st := Z5) l0 c0 k0
 have b0 := F0.binds (ps := ["value"]) fun _ _ _ _ _ _ us hl => match us, hl with | [_], _ => rfl
 have F1 := Y7 (st := ZS) l1 c1 k1
 have b1 := F1.binds (ps := ["value"]) fun _ _ _ _ _ _ us hl => match us, hl with | [_], _ => rfl
 have F2 := Y7 (st := Yy) l2 c2 k2
 have b2 := F2.binds (ps := ["value"]) fun _ _ _ _ _ _ us hl => match us, hl with | [_], _ => rfl
 have F3 := Y7 (st := ZF) l3 c3 k3
 have b3 := F3.binds (ps := ["table"]) fun _ _ _ _ _ _ us hl => match us, hl with | [_], _ => rfl
 have F4 := Y7 (st := YX) l4 c4 k4
 have b4 := F4.binds (ps := ["table"]) fun _ _ _ _ _ _ us hl => match us, hl with | [_], _ => rfl
 have F5 := Y7 (st := ZE) l5 c5 k5
 have b5 := F5.binds (ps := ["_law_script", "_law_k"]) fun _ _ _ _ _ _ us hl => match us, hl with | [_, _], _ => rfl
 have F6 := Y7 (st := ZM) l6 c6 k6
 have b6 := F6.binds (ps := ["_law_table", "_law_way", "_law_cell"]) fun _ _ _ _ _ _ us hl => match us, hl with | [_, _, _], _ => rfl
 have F7 := Y7 (st := XN) l7 c7 k7
 have b7 := F7.binds (ps := ["_law_script"]) fun _ _ _ _ _ _ us hl => match us, hl with | [_], _ => rfl
 have m_isinstance := PySem.W.mg_none_of X G z_isinstance
 have m_int := PySem.W.mg_none_of X G z_int
 have m_bool := PySem.W.mg_none_of X G z_bool
 have m_abs := PySem.W.mg_none_of X G z_abs
 have m_list := PySem.W.mg_none_of X G z_list
 have m_len := PySem.W.mg_none_of X G z_len
 have m_all := PySem.W.mg_none_of X G z_all
 have m_tuple := PySem.W.mg_none_of X G z_tuple
 have m_range := PySem.W.mg_none_of X G z_range
 have m_ValueError := PySem.W.mg_none_of X G z_ValueError
 have n_GREATEST_NUMBER := PySem.W.mg_of X G g_GREATEST_NUMBER
 have n_MOST_COLUMNS := PySem.W.mg_of X G g_MOST_COLUMNS
 have n_MOST_ROWS := PySem.W.mg_of X G g_MOST_ROWS
 obtain ⟨cl, hcl⟩ : ∃ cl : Str -> Value, cl "NoTable" = .ref X_NoTable /\ cl "LimitError" = .ref X_LimitError /\ True := ⟨fun c => if c = "NoTable" then .ref X_NoTable else if c = "LimitError" then .ref X_LimitError else .none, (if_pos rfl), ((if_neg (by decide)).trans (if_pos rfl)), trivial⟩
 obtain ⟨e_NoTable, hcl⟩ := hcl
 obtain ⟨e_LimitError, hcl⟩ := hcl
 have c_NoTable : Fx.XCls K mg "NoTable" X_NoTable := ⟨PySem.W.mg_of X G x_NoTable, q_NoTable⟩
 have c_LimitError : Fx.XCls K mg "LimitError" X_LimitError := ⟨PySem.W.mg_of X G x_LimitError, q_LimitError⟩
 refine ⟨PySem.W.fnOf "law" "law" (ZW XN) (ZC XN) (Zd XN) .none kV7 dc7 pm7 an7 cd7 ct7, fun s v => .of_eq rfl, fun base _ _ => ?_⟩
 have R_is_whole := WG (P := l.prog) (w := w) (base := base) (k := 0) F0 (PySem.W.mg_of X G a0) b0 m_isinstance m_int m_bool
 have R_is_number := Wf (P := l.prog) (w := w) (base := base) (k := 1) F1 (PySem.W.mg_of X G a1) b1 m_abs ⟨_, n_GREATEST_NUMBER⟩ (R_is_whole.mono (by decide))
 have R_is_row := VZ (P := l.prog) (w := w) (base := base) (k := 2) F2 (PySem.W.mg_of X G a2) b2 m_isinstance m_list m_len m_all ⟨_, n_MOST_COLUMNS⟩ (R_is_number.mono (by decide))
 have R_check_table := Xs (P := l.prog) (w := w) (base := base) (k := 3) (cl := cl) F3 (PySem.W.mg_of X G a3) b3 m_isinstance m_list m_len m_all ⟨_, n_MOST_ROWS⟩ c_NoTable e_NoTable (R_is_row.mono (by decide))
 have R_match := ok_match (P := l.prog) (w := w) (base := base) (k := 4) (cl := cl) F4 (PySem.W.mg_of X G a4) b4 (R_check_table.mono (by decide))
 have R_law_cell_at := Xr (P := l.prog) (w := w) (base := base) (k := 0) F5 (PySem.W.mg_of X G a5) b5 m_len
 have R_law_spoilt := XS (P := l.prog) (w := w) (base := base) (k := 0) F6 (PySem.W.mg_of X G a6) b6 m_len m_list m_tuple m_range
 exact law_fn F7 m_range m_int m_isinstance m_ValueError c_NoTable c_LimitError e_NoTable e_LimitError u_NoTable_NoTable u_NoTable_LimitError u_NoTable_ValueError (R_law_cell_at.mono (by decide)) (R_law_spoilt.mono (by decide)) (R_match.mono (by decide))
end K17
namespace K17
open PySem PySem.Spec PyProof.Rows L2 Fx
open Lw
theorem walk {l : PySem.W.OpenLaw} {q : Program} {loose : List Str} {XP : (Str -> Option Value) -> Heap -> Prop} {YP : World -> Heap -> Prop} {d : DefRec} {K : Params -> PySem.W.Frag} (hn : l.most = some 63) (hdf : d.params.defaults = [])
  (hrec : ∃ d0, (recsOf q).find? (fun e => e.name == ("raising_column" : Str)) = some d0) (hY : ∀ (w : World) (h : Heap), YP w h -> (K w.params).In h)
  (hT : ∀ P : Params, (PySem.W.tabIn (K P) "raising_column").isSome = true) (hno : ∀ P : Params, PySem.W.noTabs (K P) = true)
  (F : ∀ (w : World) (mg : Str -> Option Value) (fa : Addr) (h : Heap), (K w.params).In h -> h.Ns mainGlobals mg -> mg d.name = some (.ref fa) ->
   ∃ fd : FuncData, (∀ (s : Shared) (u : Value), BindsTo s fd ⟨[u], []⟩ [("_law_script", u)]) /\ ∀ base : Heap, (K w.params).In base -> base.Ns mainGlobals mg -> FnOk l.prog w (K w.params) mg base CX0 6 fa fd ["_law_script"] (Fx.spF (K w.params) none 1 Ub)) :
  PySem.W.WalkO q loose XP YP l.row.toRowW d [] (fun f vs => PySem.call f vs) :=
 let ⟨_, h0⟩ := hrec
 Fx.walk_T (n := 63) (k := 6) (x := "_law_script") (x0 := "raising_column") hn (by decide) hdf ⟨rfl, by decide, by decide⟩ (List.mem_singleton.mpr rfl) h0 hY (fun w mg fa h KX G hm =>
  let ⟨fd, b, z⟩ := F w mg fa h KX G hm
  let ⟨⟨c, T⟩, t⟩ := Option.isSome_iff_exists.mp (hT w.params)
  ⟨fd, c, T, t, hno w.params, b, fun base X1 X2 _ _ => z base X1 X2⟩) (fun ns hl => law_ok ns hl)
end K17
open PySem PySem.W PyProof.Rows
namespace PySem.W.Fast
def tw12042232473630381764:=0
def tw9140243245152173000:=0
def tw1418205977060209195:=0
def tw12369642964034639521:=0
def tw17106671189580368273:=0
def tw16857238098734239209:=0
def tw2115781427437497350:=0
def tw11690590844833226194:=0
def tw11159823035359801693:=0
def tw11056098114585968250:=0
def tw7470766709835374730:=0
def tw17932264521051594611:=0
def tw11867757142595825729:=0
def tw4630894616014289806:=0
def tw2524215367615023869:=0
def tw9107638685069541407:=0
def tw16440989773213488525:=0
def tw235802161851267335:=0
def tw5922472865277577880:=0
def tw9980407937116946810:=0
def tw5207482682837312847:=0
def tw13215866177077792586:=0
def tw8934009451214945920:=0
def tw1379384627386691575:=0
def tw9233929047045490903:=0
def tw7042702740088391327:=0
def tw11758663746715263528:=0
def tw11494936757295139881:=0
def tw1073809319898249921:=0
def tw16103350478002084158:=0
def tw3892740571102458306:=0
def tw10329382896115957950:=0
def tw7358318854275909799:=0
def tw16001538259801363463:=0
def tw6533314352099189199:=0
def tw7607016615260406783:=0
def tw17152579510640230049:=0
def tw5525455783003934512:=0
def tw12532128884429921388:=0
def tw13765607432018451787:=0
def tw9041680880496778282:=0
def tw8371847484557894373:=0
def tw5295494410411104586:=0
def tw10226466250317713794:=0
def tw11051414867480167719:=0
def tw12070822187925194442:=0
def tw17473785780304944862:=0
def tw11862393740985886837:=0
def tw9416673492580192637:=0
def tw18327492476763237124:=0
def tw15252492282614270258:=0
def tw18249627736179391194:=0
def tw4642521626708260506:=0
def tw8890600572191065415:=0
def tw9413664136948962878:=0
def tw2707999312837256607:=0
def tw13308140521622738922:=0
def tw9172397458303102144:=0
def tw10227503680577182451:=0
def tw3797740499954744650:=0
def tw8854842481077963558:=0
def tw9372445970127646283:=0
def tw5219167974328857822:=0
def tw4015510714173613262:=0
def tw13040736457929162708:=0
def tw17447714359569911279:=0
def tw1822752485552188352:=0
def tw13617620834223451511:=0
def tw9291479387546139069:=0
def tw3677323982853988591:=0
def tw643360428930462627:=0
def tw12564844651487465895:=0
def tw9272242413175621883:=0
def tw6024062089140816401:=0
def tw13484826493199799840:=0
def tw16860228705530265045:=0
def tw4514914682143493582:=0
def tw8111087424148308944:=0
def tw7311935679245033451:=0
def tw17577125145022460682:=0
def tw8019908102965363701:=0
def tw13306725463880656761:=0
def tw17671164522412551649:=0
def tw320030725852002277:=0
def tw9630536079469940424:=0
def tw15510548646250024597:=0
def tw10224347302654779646:=0
def tw6550245717566276792:=0
def tw8206825277248082973:=0
def tw4170144409486534616:=0
def tw6037417507392590223:=0
def tw17875698557006611437:=0
def tw13586768597817687530:=0
def tw1811555150038235772:=0
def tw8382230903954484281:=0
def tw3206804722535088999:=0
def tw9578531293004773214:=0
def tw18042836797369327218:=0
def tw11430775407642341001:=0
def tw12227318500539388080:=0
def tw13552583186776130647:=0
def tw2918996033692154461:=0
def tw16461837873583675530:=0
def tw17308280086643886448:=0
def tw15399858453673939382:=0
def tw196324275622437284:=0
def tw7781474445981092820:=0
def tw9800960508268200758:=0
def tw15669506500449507804:=0
def tw1916546658291360304:=0
def tw16469811929972068415:=0
def tw13533037926118890820:=0
def tw5845385875677864923:=0
def tw12898877518466696214:=0
def tw13683040910135732282:=0
def tw18321402992645656055:=0
def tw2376824100161113653:=0
def tw3599753643659465899:=0
def tw4746662396326574976:=0
def tw8900533848172653470:=0
def tw8327654385794731141:=0
def tw17234836701797466385:=0
def tw9009257668372570842:=0
def tw11163410213710161911:=0
def tw4033992769495100748:=0
def tw210417624532622175:=0
def tw14355145447648026150:=0
def tw17898844135114117491:=0
def tw3542133981175230037:=0
def tw16423585583046223012:=0
def tw5710355349548343193:=0
def tw8116761848841421589:=0
def tw1430224191711263959:=0
def tw10195753392838019677:=0
def tw10558569895368803519:=0
def tw991983789508354294:=0
def tw8124179955176634686:=0
def tw7625438038617550424:=0
def tw10092651131619248909:=0
def tw4683502814891404768:=0
def tw14045157816387393883:=0
def tw7603611192120243925:=0
def tw7209865945516678765:=0
def tw16265046939189465569:=0
def tw11448871976497608757:=0
def tw12621659195218778742:=0
def tw9122290854856957040:=0
def tw9144224464970934726:=0
def tw9843634838902217531:=0
def tw10587663830316804012:=0
def tw15343620663223714178:=0
def tw3067746236056280955:=0
def tw1810462416459898787:=0
def tw1765657880157326408:=0
def tw10433902864012433976:=0
def tw5181432803358139495:=0
def tw8362214070466709917:=0
def tw13718046321208528857:=0
def tw3511541757164217568:=0
def tw3160055478545791935:=0
def tw958520476957444727:=0
def tw1734407124556145972:=0
def tw14616097871594440588:=0
def tw7444229669916619033:=0
def tw9450982708381092290:=0
def tw7250481439548555300:=0
def tw16170995100201051906:=0
def tw12679345567862830046:=0
def tw7899943018796455969:=0
def tw6454044284448119467:=0
def tw929296829368788828:=0
def tw16361832989413638833:=0
def tw15937051899770568934:=0
def tw13909071454202134801:=0
def tw1432774138342022421:=0
def tw6278101599498797180:=0
def tw15576514846225666140:=0
def tw7947819040461539068:=0
def tw10154611268736053091:=0
def tw2543616368848043899:=0
def tw3144991205511655331:=0
def tw7341636992572168822:=0
def tw2460187857932818430:=0
def tw6030891770147290736:=0
def tw9143126316778574217:=0
def tw12431052081739662104:=0
def tw1152518102011021605:=0
def tw9173576156019001388:=0
def tw3917275183199678353:=0
def tw10782310928661260563:=0
def tw11331819113567822686:=0
def tw4232803285487658224:=0
def tw5654587331351047624:=0
def tw7126551658541389595:=0
def tw5180028571879048528:=0
def tw902726293042642899:=0
def tw5846339511539523501:=0
def tw3410222107641256447:=0
def tw14407257327280657136:=0
def tw5919470292099737688:=0
def tw6918429497677962238:=0
def tw854177170908999678:=0
def tw13395181243297968320:=0
def tw12204156985753825092:=0
def tw1453159669465934419:=0
def tw12310966851683960486:=0
def tw5232650962042849687:=0
def tw12881941204304311885:=0
def tw18012830757956501979:=0
def tw1366327430016790063:=0
def tw17300939014692624184:=0
def tw16470164715963051460:=0
def tw3448370619063255344:=0
def tw7086066286478404769:=0
def tw12817123334173532637:=0
def tw14116122676424205520:=0
def tw4704205838849012022:=0
def tw8781227264628054708:=0
def tw1382769304054872618:=0
def tw12549965487323374493:=0
def tw15259143736041747257:=0
def tw750818443490451032:=0
def tw5378464909743236906:=0
def tw5782072528062551487:=0
def tw15200520212302592501:=0
def tw467435464753033139:=0
def tw13911381543424756521:=0
def tw7138576818971164131:=0
def tw12967834842676846399:=0
def tw10230229251517003001:=0
def tw11766175595005397839:=0
def tw9149310037020527193:=0
def tw8475294043552287852:=0
def tw5357075098000385616:=0
def tw893540694257833239:=0
def tw1432773614067486020:=0
def tw11889871270719966707:=0
def tw3897699238958778499:=0
def tw12656298805008991619:=0
def tw14878308453524239062:=0
def tw2007887056103298558:=0
def tw6617104448387395454:=0
def tw5056404973912583792:=0
def tw1377643412127021890:=0
def tw8629588329412560304:=0
def tw7986747067196493117:=0
def tw3040302460452996871:=0
def tw4804412298839935884:=0
def tw9762218355573770987:=0
def tw2750294348597372894:=0
def tw4400014615673656699:=0
def tw7640030359884365062:=0
def tw16293593238728367340:=0
def tw4439542299875342919:=0
def tw7462657885483408534:=0
def tw15052622207205290980:=0
def tw6160755362144605116:=0
def tw9858912246059110824:=0
def tw6702332344341196210:=0
def tw13161198332967546004:=0
def tw8790763793975740595:=0
def tw12940243207036921825:=0
def tw10982345805725421745:=0
def tw266082024514841379:=0
end PySem.W.Fast
set_option maxRecDepth 100000 in
set_option maxHeartbeats 0 in
theorem PySem.Challenge.cw_limitdesk_k17_tables_refused_holds : PySem.Challenge.rw_limitdesk_k17_tables_refused.Holds := by
 w_on; o_law; k_head; (case hw => w_witness2)
 k_fill
 refine K17.walk (l := PySem.Challenge.rw_limitdesk_k17_tables_refused) rfl rfl ⟨_, rfl⟩ (fun w h Y => PySem.W.km_in_of Y) (fun P => by kernel_rfl) (fun P => by kernel_rfl) ?F
 case F =>
  intro w mg fa h KX G hmg
  refine' K17.all_mk KX G hmg ?a0 ?l0 ?c0 ?k0 ?a1 ?l1 ?c1 ?k1 ?a2 ?l2 ?c2 ?k2 ?a3 ?l3 ?c3 ?k3 ?a4 ?l4 ?c4 ?k4 ?a5 ?l5 ?c5 ?k5 ?a6 ?l6 ?c6 ?k6 ?a7 ?l7 ?c7 ?k7 ?z_isinstance ?z_int ?z_bool ?z_abs ?z_list ?z_len ?z_all ?z_tuple ?z_range ?z_ValueError ?g_GREATEST_NUMBER ?g_MOST_COLUMNS ?g_MOST_ROWS ?x_NoTable ?q_NoTable ?x_LimitError ?q_LimitError ?u_NoTable_NoTable ?u_NoTable_LimitError ?u_NoTable_ValueError
  (case a0 => k_is)
  (case l0 => k_is)
  (case c0 => k_is)
  (case k0 => k_is)
  (case a1 => k_is)
  (case l1 => k_is)
  (case c1 => k_is)
  (case k1 => k_is)
  (case a2 => k_is)
  (case l2 => k_is)
  (case c2 => k_is)
  (case k2 => k_is)
  (case a3 => k_is)
  (case l3 => k_is)
  (case c3 => k_is)
  (case k3 => k_is)
  (case a4 => k_is)
  (case l4 => k_is)
  (case c4 => k_is)
  (case k4 => k_is)
  (case a5 => k_is)
  (case l5 => k_is)
  (case c5 => k_is)
  (case k5 => k_is)
  (case a6 => k_is)
  (case l6 => k_is)
  (case c6 => k_is)
  (case k6 => k_is)
  (case a7 => k_is)
  (case l7 => k_is)
  (case c7 => k_is)
  (case k7 => k_is)
  (case z_isinstance => k_is)
  (case z_int => k_is)
  (case z_bool => k_is)
  (case z_abs => k_is)
  (case z_list => k_is)
  (case z_len => k_is)
  (case z_all => k_is)
  (case z_tuple => k_is)
  (case z_range => k_is)
  (case z_ValueError => k_is)
  (case g_GREATEST_NUMBER => k_is)
  (case g_MOST_COLUMNS => k_is)
  (case g_MOST_ROWS => k_is)
  (case x_NoTable => k_is)
  (case q_NoTable => k_exc)
  (case x_LimitError => k_is)
  (case q_LimitError => k_exc)
  (case u_NoTable_NoTable => k_is)
  (case u_NoTable_LimitError => k_is)
  (case u_NoTable_ValueError => k_is)
#print axioms PySem.Challenge.cw_limitdesk_k17_tables_refused_holds
