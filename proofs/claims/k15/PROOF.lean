import PyProof.Rows.All
import Wide.All
import OpenK.AllK
import Wide.FinOn
import Lean
import PyProof.EqAt
import PyProof.EqKinds
import PyProof.EqLayable
import PyProof.TupleCall
import PyProof.P3Statements
import PySem.Challenge.RW_limitdesk_k15_mixes_refused
set_option Elab.async false
set_option linter.all false
set_option maxRecDepth 100000
namespace L2
open PySem PySem.Spec PyProof.Rows
abbrev Key := Sum Int Str
def keyIs : Key -> Value -> Bool
 | .inl k, v => Value.isInt k v
 | .inr x, v => Value.isStrOf x v
def keyH (w : World) : Key -> Int
 | .inl k => hashInt k
 | .inr x => hashStr w x
theorem ZK : ∀ {k : Key} {v : Value}, keyIs k v = true -> (∃ i t, k = Sum.inl i /\ v = Value.int i t) \/ (∃ x t, k = Sum.inr x /\ v = Value.str x t)
 | .inl i, v, h => by
  obtain ⟨t, e⟩ := Value.isInt_shape (k := i) (v := v) h
  exact .inl ⟨i, t, rfl, e⟩
 | .inr x, v, h => by
  obtain ⟨t, e⟩ := Value.isStrOf_shape (x := x) (v := v) h
  exact .inr ⟨x, t, rfl, e⟩
theorem key_ll (a b : Int) : decide ((Sum.inl a : Key) = Sum.inl b) = (a == b) := by
 by_cases e : a = b
 ·subst e; simp
 ·have h : ¬ (Sum.inl a : Key) = Sum.inl b := fun q => e (Sum.inl.inj q)
  rw [decide_eq_false h]
  exact (beq_eq_false_iff_ne.mpr e).symm
theorem key_rr (a b : Str) : decide ((Sum.inr a : Key) = Sum.inr b) = decide (a = b) := by
 by_cases e : a = b
 ·subst e; simp
 ·have h : ¬ (Sum.inr a : Key) = Sum.inr b := fun q => e (Sum.inr.inj q)
  rw [decide_eq_false h, decide_eq_false e]
theorem key_lr (a : Int) (b : Str) : decide ((Sum.inl a : Key) = Sum.inr b) = false := decide_eq_false (fun q => nomatch q)
theorem key_rl (a : Str) (b : Int) : decide ((Sum.inr a : Key) = Sum.inl b) = false := decide_eq_false (fun q => nomatch q)
def WB (prog : Program) (w : World) : PySem.KeyKind prog w Key where
 is := keyIs
 hash := keyH w
 inj := fun v a b ha hb => by
  rcases ZK ha with ⟨i, t, rfl, rfl⟩ | ⟨x, t, rfl, rfl⟩
  ·rcases ZK hb with ⟨j, u, rfl, e⟩ | ⟨y, u, rfl, e⟩
   ·injection e with e1 _; rw [e1]
   ·exact nomatch e
  ·rcases ZK hb with ⟨j, u, rfl, e⟩ | ⟨y, u, rfl, e⟩
   ·exact nomatch e
   ·injection e with e1 _; rw [e1]
 byValue := fun k v h => by
  rcases ZK h with ⟨i, t, rfl, rfl⟩ | ⟨x, t, rfl, rfl⟩ <;> rfl
 pyHash := fun hv h => by
  rcases ZK hv with ⟨i, t, rfl, rfl⟩ | ⟨x, t, rfl, rfl⟩
  ·exact wpAny_pyHash_int h
  ·exact wpAny_pyHash_str h
 eqBool := fun hu hv h => by
  rcases ZK hu with ⟨i, t, rfl, rfl⟩ | ⟨x, t, rfl, rfl⟩
  ·rcases ZK hv with ⟨j, u, rfl, rfl⟩ | ⟨y, u, rfl, rfl⟩
   ·rw [key_ll] at h; exact wpAny_eqBool_int h
   ·rw [key_lr] at h; exact SeqAt.EqAt.int_str i t y u _ _ _ _ h
  ·rcases ZK hv with ⟨j, u, rfl, rfl⟩ | ⟨y, u, rfl, rfl⟩
   ·rw [key_rl] at h; exact SeqAt.EqAt.str_int x t j u _ _ _ _ h
   ·rw [key_rr] at h; exact wpAny_eqBool_str h
 «strs» := fun k x t v h => by
  rcases ZK h with ⟨i, u, rfl, e⟩ | ⟨y, u, rfl, e⟩
  ·exact nomatch e
  ·injection e with e1 _
   subst e1
   cases v <;> rfl
theorem mixKind_is (prog : Program) (w : World) (k : Key) (v : Value) : (WB prog w).is k v = keyIs k v := rfl
end L2
namespace L2
open PySem PySem.Spec PyProof.Rows
inductive V where
 | non | bl (b : Bool) | int (i : Int) | str (x : Str) | byt (b : Array UInt8) | flt (b : UInt64) | ref (a : Addr) | ty (n : String)
 deriving DecidableEq
def RelV : V -> Value -> Prop
 | .non, u => u = Value.none
 | .bl b, u => u = Value.bool b
 | .int i, u => ∃ t, u = Value.int i t
 | .str x, u => ∃ t, u = Value.str x t
 | .byt b, u => ∃ t, u = Value.bytes b t
 | .flt b, u => ∃ t, u = Value.float b t
 | .ref a, u => u = Value.ref a
 | .ty n, u => u = Value.type n
abbrev Vals : List V -> List Value -> Prop := Paired RelV
theorem Vals.length {xs : List V} {us : List Value} (r : Vals xs us) : xs.length = us.length := Paired.length r
theorem Vals.get : ∀ {xs : List V} {us : List Value} {i : Nat} {x : V}, Vals xs us -> xs[i]? = some x -> ∃ u, us[i]? = some u /\ RelV x u
 | _, _, _, _, .nil, e => by simp at e
 | _, _, 0, _, .cons r _, e => by simp at e; subst e; exact ⟨_, rfl, r⟩
 | _, _, i + 1, x, .cons _ t, e => by
  obtain ⟨u, h1, h2⟩ := Vals.get (i := i) (x := x) t (by simpa using e)
  exact ⟨u, by simpa using h1, h2⟩
theorem Vals.set {x : V} {u : Value} (r : RelV x u) : ∀ {xs : List V} {us : List Value} (i : Nat), Vals xs us -> Vals (xs.set i x) (us.set i u)
 | _, _, _, .nil => .nil
 | _, _, 0, .cons _ t => .cons r t
 | _, _, i + 1, .cons q t => .cons q (Vals.set r i t)
theorem Vals.append : ∀ {xs ys : List V} {us ws : List Value}, Vals xs us -> Vals ys ws -> Vals (xs ++ ys) (us ++ ws)
 | _, _, _, _, .nil, s => s
 | _, _, _, _, .cons r t, s => .cons r (Vals.append t s)
def RelO : Option V -> Option Value -> Prop
 | some v, some u => RelV v u
 | none, none => True
 | _, _ => False
def KV {κ : Type} : List (κ × V) -> List (κ × Value) -> Prop := Paired fun (p : κ × V) (q : κ × Value) => p.1 = q.1 /\ RelV p.2 q.2
def kV : Key -> V
 | .inl i => .int i
 | .inr x => .str x
inductive HO where
 /-- a list -/
 | lst (xs : List V)
 /-- a tuple (never changes) -/
 | tup (xs : List V)
 /-- a dict whose keys are ints and texts; one whose keys are tuples of ints and texts (the empty one is both) -/
 | dK (kvs : List (Key × V)) | dT (kvs : List (List Key × V))
 /-- a set of ints: its members, its size -/
 | set (S : Int -> Bool) (n : Nat)
 /-- an instance of the class at C, its dict at dx, its attributes -/
 | ins (C dx : Addr) (fs : List (Str × V))
 /-- the dict of the instance at x -/
 | own (x : Addr)
 /-- the dict of an exception -/
 | xd (fs : List (Str × V))
 /-- a bound method, f of x -/
 | met (f x : Addr)
 /-- a range object lo, lo + 1, .. below hi -/
 | rng (lo hi : Int)
 /-- a thing that is known to the object (the script; a dict while a loop walks it): read, never written while it is so -/
 | frz (o : Obj) (u : HO)
 /-- a code object's table -/
 | tbl (ps : Array Value)
 /-- any other thing, by what is true of its one object (a def of one's own: SetO a S n := HO.ext fun h => ..) -/
 | ext (φ : Heap -> Prop)
abbrev Hp := Addr -> Option HO
def upd (H : Hp) (a : Addr) (o : HO) : Hp := fun b => if b = a then some o else H b
theorem Zr {H : Hp} {a : Addr} {o : HO} : upd H a o a = some o := by unfold upd; rw [if_pos rfl]
theorem Zn {H : Hp} {a b : Addr} {o : HO} (h : b ≠ a) : upd H a o b = H b := by unfold upd; rw [if_neg h]
theorem Zw {H : Hp} {a b : Addr} {o : HO} (h : H a = some o) (h' : H b = none) : a ≠ b := by
 intro e; subst e; rw [h] at h'; cases h'
section
variable (P : Program) (w : World)
def Xe (H : Hp) (h : Heap) (a : Addr) : HO -> Prop
 | .lst xs => xs.length <= sizeLine /\ ∃ (its : List Value) (n : Nat), Vals xs its /\ h.get? a = some { cls := .type "list", data := .seq its.toArray n }
 | .tup xs => xs.length <= sizeLine /\ ∃ its : List Value, Vals xs its /\ IsTup h a its.toArray
 | .dK kvs => kvs.length <= sizeLine /\ (a == sysModules) = false /\ ∃ vs, KV kvs vs /\ h.DictOf (WB P w) a vs
 | .dT kvs => kvs.length <= sizeLine /\ (a == sysModules) = false /\ ∃ xs : List (List Key × Addr × Value),
   Paired (fun (p : List Key × V) (q : List Key × Addr × Value) => p.1 = q.1 /\ H q.2.1 = some (.tup (p.1.map kV)) /\ RelV p.2 q.2.2) kvs xs /\
   ∃ o es ep, h.get? a = some o /\ o.ExactDict /\ o.data = .dict es ep /\ es.toList = xs.map (entryOfKey (tupleKind (WB P w))) /\ (xs.map (·.1)).Nodup
 | .set S n => h.SetOf (intKind P w) a S n
 | .ins C dx fs => H dx = some (.own a) /\ fs.length <= 1000 /\ dx ≠ a /\ h.get? a = some (PySem.W.instObj C dx) /\
   ∃ mA, h.Ns1 dx mA /\ (∀ f, RelO (fs.lookup f) (mA f)) /\ PySem.Within mA (fs.map (·.1))
 | .own _ => ∃ o, h.get? a = some o
 | .xd fs => ∃ mA, h.Ns1 a mA /\ ∀ f, RelO (fs.lookup f) (mA f)
 | .rng lo hi => ∃ t u v, h.get? a = some { cls := .type "range", data := .fields #[.int lo t, .int hi u, .int 1 v] }
 | .frz o u => h.get? a = some o /\ Xe H h a u
 | .tbl ps => h.get? a = some { cls := .none, data := .fields ps }
 | .met f x => h.get? a = some (PySem.W.methodObj (.ref f) (.ref x))
 | .ext φ => φ h /\ (∃ o, h.get? a = some o) /\ ∀ h1 h2 : Heap, φ h1 -> (∀ o, h1.get? a = some o -> h2.get? a = some o) -> φ h2
def HOk (H : Hp) (h : Heap) : Prop := ∀ a o, H a = some o -> Xe P w H h a o
end
section
variable {P : Program} {w : World} {H H' : Hp} {h h' : Heap} {a : Addr} {o : HO}
theorem Xe.lt (x : Xe P w H h a o) : a < h.objs.size := by
 cases o with
 | lst xs => obtain ⟨_, _, _, _, e⟩ := x; exact Heap.lt_size e
 | tup xs => obtain ⟨_, _, _, p⟩ := x; exact p.lt
 | dK kvs => obtain ⟨_, _, _, _, o, _, _, e, _⟩ := x; exact Heap.lt_size e
 | dT kvs => obtain ⟨_, _, _, _, o, _, _, e, _⟩ := x; exact Heap.lt_size e
 | set S n => obtain ⟨o, _, _, _, e, _⟩ := x; exact Heap.lt_size e
 | ins C dx fs => obtain ⟨_, _, _, e, _⟩ := x; exact Heap.lt_size e
 | own y => obtain ⟨_, e⟩ := x; exact Heap.lt_size e
 | xd fs => obtain ⟨_, ⟨_, _, _, e, _⟩, _⟩ := x; exact Heap.lt_size e
 | rng lo hi => obtain ⟨_, _, _, e⟩ := x; exact Heap.lt_size e
 | frz ob u => obtain ⟨e, _⟩ := x; exact Heap.lt_size e
 | tbl ps => exact Heap.lt_size (show h.get? a = some _ from x)
 | met f y => exact Heap.lt_size (show h.get? a = some _ from x)
 | ext φ => obtain ⟨_, ⟨_, e⟩, _⟩ := x; exact Heap.lt_size e
theorem Paired.mapP {α β : Type} {F G : α -> β -> Prop} : ∀ {l₁ : List α} {l₂ : List β}, Paired F l₁ l₂ -> (∀ a b, F a b -> G a b) -> Paired G l₁ l₂
 | _, _, .nil, _ => .nil
 | _, _, .cons r t, f => .cons (f _ _ r) (Paired.mapP t f)
theorem Xe.stay (x : Xe P w H h a o) (k : ∀ b u, (b = a \/ H b = some (.own a)) -> h.get? b = some u -> h'.get? b = some u)
  (ho : ∀ b, H b = some (.own a) -> H' b = some (.own a)) (ht : ∀ b xs, H b = some (.tup xs) -> H' b = some (.tup xs)) : Xe P w H' h' a o := by
 induction o with
 | lst xs => obtain ⟨z, its, n, r, e⟩ := x; exact ⟨z, its, n, r, k _ _ (.inl rfl) e⟩
 | tup xs => obtain ⟨z, its, r, ob, e, c⟩ := x; exact ⟨z, its, r, ob, k _ _ (.inl rfl) e, c⟩
 | dK kvs => obtain ⟨z, y, vs, r, ob, es, ep, e, c⟩ := x; exact ⟨z, y, vs, r, ob, es, ep, k _ _ (.inl rfl) e, c⟩
 | dT kvs =>
  obtain ⟨z, y, xs, r, ob, es, ep, e, c⟩ := x
  exact ⟨z, y, xs, Paired.mapP r fun p q z => ⟨z.1, ht _ _ z.2.1, z.2.2⟩, ob, es, ep, k _ _ (.inl rfl) e, c⟩
 | set S n => obtain ⟨ob, es, ep, t, e, c⟩ := x; exact ⟨ob, es, ep, t, k _ _ (.inl rfl) e, c⟩
 | ins C dx fs =>
  obtain ⟨d, z, ne, e, mA, ⟨od, es, ep, e2, c⟩, r⟩ := x
  exact ⟨ho _ d, z, ne, k _ _ (.inl rfl) e, mA, ⟨od, es, ep, k _ _ (.inr d) e2, c⟩, r⟩
 | own y => obtain ⟨ob, e⟩ := x; exact ⟨ob, k _ _ (.inl rfl) e⟩
 | xd fs => obtain ⟨mA, ⟨od, es, ep, e, c⟩, r⟩ := x; exact ⟨mA, ⟨od, es, ep, k _ _ (.inl rfl) e, c⟩, r⟩
 | rng lo hi => obtain ⟨t, u, v, e⟩ := x; exact ⟨t, u, v, k _ _ (.inl rfl) e⟩
 | frz ob u ih => obtain ⟨e, q⟩ := x; exact ⟨k _ _ (.inl rfl) e, ih q⟩
 | tbl ps =>
  have e : h.get? a = some { cls := .none, data := .fields ps } := x
  show h'.get? a = some { cls := .none, data := .fields ps }
  exact k a _ (.inl rfl) e
 | met f y =>
  have e : h.get? a = some (PySem.W.methodObj (.ref f) (.ref y)) := x
  show h'.get? a = some (PySem.W.methodObj (.ref f) (.ref y))
  exact k a _ (.inl rfl) e
 | ext φ => obtain ⟨p, ⟨o, e⟩, st⟩ := x; exact ⟨st _ _ p fun o q => k _ _ (.inl rfl) q, ⟨o, k _ _ (.inl rfl) e⟩, st⟩
theorem HOk.lt (x : HOk P w H h) (e : H a = some o) : a < h.objs.size := (x a o e).lt
theorem HOk.fresh (x : HOk P w H h) (e : h.objs.size <= a) : H a = none := by
 cases q : H a with
 | none => rfl
 | some u => exact absurd (Nat.lt_of_lt_of_le (x.lt q) e) (Nat.lt_irrefl _)
theorem HOk.kept (x : HOk P w H h) (k : ∀ b u, h.get? b = some u -> h'.get? b = some u) : HOk P w H h' := fun a o e =>
 (x a o e).stay (fun b u _ q => k b u q) (fun _ q => q) fun _ _ q => q
theorem HOk.laid (x : HOk P w H h) (k : ∀ b u, h.get? b = some u -> h'.get? b = some u) (hp : h.objs.size <= a) (new : Xe P w (upd H a o) h' a o) : HOk P w (upd H a o) h' := fun b u e => by
 have hn := x.fresh hp
 by_cases hb : b = a
 ·subst hb; rw [Zr] at e; cases e; exact new
 ·rw [Zn hb] at e
  exact (x b u e).stay (fun c v _ q => k c v q) (fun c q => by rw [Zn (Zw q hn)]; exact q) fun c xs q => by rw [Zn (Zw q hn)]; exact q
end
def Rd (H : Hp) (a : Addr) (u : HO) : Prop := H a = some u \/ ∃ o, H a = some (.frz o u)
theorem Rd.ok {P : Program} {w : World} {H : Hp} {h : Heap} {a : Addr} {u : HO} (r : Rd H a u) (x : HOk P w H h) : Xe P w H h a u := by
 rcases r with r | ⟨o, r⟩
 ·exact x a u r
 ·obtain ⟨_, q⟩ := x a _ r
  exact q
def Mut : Option HO -> Prop
 | some (.lst _) => True
 | some (.dK _) => True
 | some (.dT _) => True
 | some (.set _ _) => True
 | some (.ins _ _ _) => True
 | some (.ext _) => True
 | _ => False
section
variable {P : Program} {w : World} {H : Hp} {h h' : Heap} {x e : Addr} {o' : HO}
theorem HOk.write (ok : HOk P w H h) (mu : Mut (H x)) (he : e = x \/ H e = some (.own x)) (k : ∀ b u, b ≠ e -> h.get? b = some u -> h'.get? b = some u) (heo : ∃ u, h'.get? e = some u)
  (new : Xe P w (upd H x o') h' x o') : HOk P w (upd H x o') h' := fun b u q => by
 have nown : ∀ c y, H c = some (.own y) -> c ≠ x := fun c y r z => by subst z; rw [r] at mu; exact mu
 have ntup : ∀ c xs, H c = some (.tup xs) -> c ≠ x := fun c xs r z => by subst z; rw [r] at mu; exact mu
 by_cases hb : b = x
 ·subst hb; rw [Zr] at q; cases q; exact new
 ·rw [Zn hb] at q
  by_cases hbe : b = e
  ·have q' : H b = some (.own x) := by
    rcases he with z | z
    ·exact absurd (hbe.trans z) hb
    ·rw [hbe]; exact z
   rw [q] at q'; cases q'
   obtain ⟨v, hv⟩ := heo
   exact ⟨v, by rw [hbe]; exact hv⟩
  ·refine (ok b u q).stay (fun c v hc r => k c v ?_ r) (fun c r => by rw [Zn (nown c b r)]; exact r) fun c xs r => by rw [Zn (ntup c xs r)]; exact r
   rcases hc with rfl | hc
   ·exact hbe
   ·rintro rfl
    rcases he with z | z
    ·exact nown c b hc z
    ·rw [hc] at z; cases z; exact hb rfl
end
structure Un (fs ex : List Addr) (H H' : Hp) (h h' : Heap) : Prop where
 keep : ∀ b o, h.get? b = some o -> H b = none -> b ∉ fs -> b ∉ ex -> h'.get? b = some o
 slot : ∀ b o, h.get? b = some o -> H b = none -> b ∈ fs -> b ∉ ex -> ∃ sl, h'.get? b = some { o with slots := sl }
 free : ∀ b o, h.get? b = some o -> H b = none -> b ∉ ex -> H' b = none
 there : ∀ b o, h.get? b = some o -> b ∉ ex -> ∃ o', h'.get? b = some o'
 tups : ∀ b xs, H b = some (.tup xs) -> H' b = some (.tup xs)
 frzs : ∀ b o u, H b = some (.frz o u) -> H' b = some (.frz o u)
 tbls : ∀ b ps, H b = some (.tbl ps) -> ∃ more, H' b = some (.tbl (ps ++ more))
section
variable {fs fs' ex ex' : List Addr} {H H1 H2 : Hp} {h h1 h2 h' : Heap} {a x e : Addr} {o : HO}
theorem Un.any (u : Un fs ex H H1 h h1) {b : Addr} {ob : Obj} (q : h.get? b = some ob) (n : H b = none) (hx : b ∉ ex) : ∃ sl, h1.get? b = some { ob with slots := sl } := by
 by_cases hb : b ∈ fs
 ·exact u.slot b ob q n hb hx
 ·exact ⟨ob.slots, u.keep b ob q n hb hx⟩
theorem Un.kept (k : ∀ b u, h.get? b = some u -> h'.get? b = some u) : Un fs ex H H h h' :=
 ⟨fun b ob q _ _ _ => k b ob q, fun b ob q _ _ _ => ⟨ob.slots, k b ob q⟩, fun _ _ _ n _ => n, fun b ob q _ => ⟨ob, k b ob q⟩, fun _ _ q => q, fun _ _ _ q => q, fun _ ps q => ⟨#[], by rw [q]; simp⟩⟩
theorem Un.refl : Un fs ex H H h h := Un.kept fun _ _ q => q
theorem Un.laid (k : ∀ b u, h.get? b = some u -> h'.get? b = some u) (hp : h.objs.size <= a) (hn : H a = none) : Un fs ex H (upd H a o) h h' where
 keep := fun b u q _ _ _ => k b u q
 slot := fun b u q _ _ _ => ⟨u.slots, k b u q⟩
 free := fun b u q n _ => by rw [Zn (Nat.ne_of_lt (Nat.lt_of_lt_of_le (Heap.lt_size q) hp))]; exact n
 there := fun b u q _ => ⟨u, k b u q⟩
 tups := fun b xs q => by rw [Zn (Zw q hn)]; exact q
 frzs := fun b u xs q => by rw [Zn (Zw q hn)]; exact q
 tbls := fun b ps q => ⟨#[], by rw [Zn (Zw q hn), q]; simp⟩
theorem Un.write (mu : Mut (H x)) (he : e = x \/ H e = some (.own x)) (k : ∀ b u, b ≠ e -> h.get? b = some u -> h'.get? b = some u) (heo : ∃ u, h'.get? e = some u) : Un fs ex H (upd H x o) h h' := by
 have hx : ∀ b, H b = none -> b ≠ x := fun b n z => by subst z; rw [n] at mu; exact mu
 have hb : ∀ b, H b = none -> b ≠ e := fun b n z => by
  subst z
  rcases he with r | r
  ·exact hx b n r
  ·rw [n] at r; cases r
 have hm : ∀ b u, H b = some u -> ¬ Mut (some u) -> b ≠ x := fun b u q nm z => by subst z; rw [q] at mu; exact nm mu
 refine ⟨fun b u q n _ _ => k b u (hb b n) q, fun b u q n _ _ => ⟨u.slots, k b u (hb b n) q⟩, fun b u q n _ => by rw [Zn (hx b n)]; exact n, fun b u q _ => ?_,
  fun b xs q => by rw [Zn (hm b _ q fun z => z)]; exact q, fun b u xs q => by rw [Zn (hm b _ q fun z => z)]; exact q, fun b ps q => ⟨#[], by rw [Zn (hm b _ q fun z => z), q]; simp⟩⟩
 by_cases hbe : b = e
 ·subst hbe; exact heo
 ·exact ⟨u, k b u hbe q⟩
end
def trk (h : Heap) (H : Hp) : List Addr := (List.range h.objs.size).filter fun a => (H a).isSome
def hidT (h : Heap) (H : Hp) : Heap := PySem.W.hideAll h (trk h H)
theorem US (h : Heap) (H : Hp) : (hidT h H).objs.size = h.objs.size := PySem.W.hideAll_size _ _
theorem hidT_get {h : Heap} {H : Hp} {b : Addr} {o : Obj} (e : h.get? b = some o) (n : H b = none) : (hidT h H).get? b = some o :=
 PySem.W.hideAll_get _ e fun hm => by
  have q : (H b).isSome = true := (List.mem_filter.mp hm).2
  rw [n] at q; simp at q
theorem of_hidT {h : Heap} {H : Hp} {b : Addr} {o : Obj} (e : (hidT h H).get? b = some o) : h.get? b = some o /\ H b = none := by
 have e' : h.get? b = some o := PySem.W.of_hideAll (trk h H) e
 refine ⟨e', ?_⟩
 cases q : H b with
 | none => rfl
 | some x =>
  have hm : b ∈ trk h H := List.mem_filter.mpr ⟨List.mem_range.mpr (Heap.lt_size e'), by simp [q]⟩
  have z : (hidT h H).get? b = none := PySem.W.hideAll_none (trk h H) hm
  rw [z] at e; cases e
end L2
namespace L2
open PySem PySem.Spec PyProof.Rows
structure Mod (K : PySem.W.Frag) (mg : Str -> Option Value) (base : Heap) : Prop where
 kin : K.In base
 glob : base.Ns mainGlobals mg
 blt : ∃ mb, base.Ns builtinsNs mb /\ ∀ x : Str, x ≠ "__name__" -> mb x = bootBuiltins x
 nolimit : base.NoLimit
structure Cx where
 prog : Program
 w : World
 K : PySem.W.Frag
 mg : Str -> Option Value
 base : Heap
 A : Around
 N : List Str
 s₀ : Shared
 H₀ : Hp
 env : Env
 outer : List Env
 stack : List Env
 ex : List Addr
 fn : Str -> Bool
 calm : Bool
 pn : List (Addr × Obj)
 xe : Value -> Shared -> Prop
def frs (l : List Env) : List Addr := l.filterMap (·.frame)
abbrev Cx.fs (X : Cx) : List Addr := frs X.outer
def Vis (sc : Scope) (x : Str) : Prop := sc.names.lookup x = some .local \/ sc.names.lookup x = some .cell \/ sc.names.lookup x = some .free
def Loc (sc : Scope) (x : Str) : Prop := sc.names.lookup x = some .local \/ sc.names.lookup x = some .cell
def Look (env : Env) (h : Heap) (m : Str -> Option Value) (x : Str) (u : Value) : Prop :=
 (env.kindOf x = some .local /\ m x = some u) \/ ((env.kindOf x = some .cell \/ env.kindOf x = some .free) /\ ∃ c, env.cells.lookup x = some c /\ h.IsCell c (some u))
structure Cx.Ok (X : Cx) : Prop where
 mod : Mod X.K X.mg X.base
 kind : X.env.scope.kind = .function
 glob : X.env.globals = mainGlobals
 blt : X.env.builtins = builtinsNs
 above : X.s₀.heap.objs.size <= X.env.locals
 inj : ∀ x y c, X.env.cells.lookup x = some c -> X.env.cells.lookup y = some c -> x = y
 has : ∀ x, (X.env.kindOf x = some .cell \/ X.env.kindOf x = some .free) -> ∃ c, X.env.cells.lookup x = some c
 cab : ∀ x c, X.fn x = true -> X.env.cells.lookup x = some c -> X.s₀.heap.objs.size <= c
 hd : X.calm = true -> X.A.handled = none
 frames : X.A.frames = some X.stack
 stk : X.stack = X.outer \/ (X.stack = X.env :: X.outer /\ X.env.frame = some X.env.locals)
 exf : ∀ b ∈ X.ex, b ≠ X.env.locals /\ ∀ x c, X.env.cells.lookup x = some c -> c ≠ b
 bs : ∀ b o, X.base.get? b = some o -> X.s₀.heap.get? b = some o /\ X.H₀ b = none
 bsz : X.base.objs.size <= X.s₀.heap.objs.size
 noex : ∀ b o, X.base.get? b = some o -> b ∉ X.ex
 exfs : ∀ b ∈ X.ex, b ∉ X.fs
 funs : X.s₀.heap.FunFrames X.base X.outer
 frf : ∀ b ∈ X.fs, X.H₀ b = none
structure Inv (X : Cx) (pins : List (Addr × Obj)) (σ : List (Option V)) (H : Hp) (s : Shared) : Prop where
 ok : X.Ok
 os : s.os = X.s₀.os
 bare : AllBare s.gens
 base : Un X.fs X.ex X.H₀ H X.s₀.heap s.heap
 loc : ∃ m, s.heap.Ns X.env.locals m /\ ∀ (i : Nat) (x : Str) (v : V), X.N[i]? = some x -> σ[i]? = some (some v) -> Vis X.env.scope x -> ∃ u, RelV v u /\ Look X.env s.heap m x u
 cell : ∀ x c, X.env.cells.lookup x = some c -> ∃ v, s.heap.IsCell c v
 free : H X.env.locals = none
 freeC : ∀ x c, X.env.cells.lookup x = some c -> H c = none
 pin : ∀ p ∈ X.pn ++ pins, s.heap.get? p.1 = some p.2 /\ H p.1 = none /\ p.1 ≠ X.env.locals /\ p.1 ∉ X.fs /\ ∀ v, p.2.data ≠ .cell v
 hok : HOk X.prog X.w H s.heap
 len : σ.length = X.N.length
section
variable {X : Cx} {pins : List (Addr × Obj)} {σ : List (Option V)} {H H' : Hp} {s : Shared} {h' : Heap}
theorem Cx.Ok.nofr (ok : X.Ok) {b : Addr} {o : Obj} (e : X.base.get? b = some o) : b ∉ X.fs := fun hb => by
 have := (ok.funs.mem hb).1
 rw [e] at this; cases this
theorem Inv.bs (I : Inv X pins σ H s) : ∀ b o, X.base.get? b = some o -> s.heap.get? b = some o /\ H b = none := fun b o e =>
 ⟨I.base.keep b o (I.ok.bs b o e).1 (I.ok.bs b o e).2 (I.ok.nofr e) (I.ok.noex b o e), I.base.free b o (I.ok.bs b o e).1 (I.ok.bs b o e).2 (I.ok.noex b o e)⟩
theorem Inv.bk (I : Inv X pins σ H s) : ∀ b o, X.base.get? b = some o -> s.heap.get? b = some o := fun b o e => (I.bs b o e).1
theorem Inv.mod (I : Inv X pins σ H s) : Mod X.K X.mg X.base := I.ok.mod
theorem Inv.kIn (I : Inv X pins σ H s) : X.K.In s.heap := I.ok.mod.kin.keeps I.bk
theorem Inv.lt (I : Inv X pins σ H s) : X.env.locals < s.heap.objs.size := let ⟨_, hn, _⟩ := I.loc; hn.lt
theorem Inv.sz (I : Inv X pins σ H s) : X.s₀.heap.objs.size <= s.heap.objs.size := Nat.le_trans I.ok.above (Nat.le_of_lt I.lt)
theorem Inv.nofs (I : Inv X pins σ H s) {a : Addr} (h : s.heap.objs.size <= a) : a ∉ X.fs := fun hb => by
 obtain ⟨_, o, ho, _⟩ := I.ok.funs.mem hb
 exact absurd (Nat.lt_of_lt_of_le (Heap.lt_size ho) (Nat.le_trans I.sz h)) (Nat.lt_irrefl _)
theorem Inv.cne (I : Inv X pins σ H s) : ∀ x c, X.env.cells.lookup x = some c -> c ≠ X.env.locals := fun x c e z => by
 obtain ⟨v, o, ho, hd⟩ := I.cell x c e
 obtain ⟨m, ⟨o', es, ep, ho', hd', _⟩, _⟩ := I.loc
 rw [z, ho'] at ho; cases ho; rw [hd'] at hd; cases hd
theorem Inv.funs (I : Inv X pins σ H s) : s.heap.FunFrames X.base X.outer := by
 have all : ∀ (l : List Env), (∀ b ∈ frs l, b ∈ X.fs) -> X.s₀.heap.FunFrames X.base l -> s.heap.FunFrames X.base l := by
  intro l
  induction l with
  | nil => intro _ _; trivial
  | cons env r ih =>
   intro hs hl
   obtain ⟨hk, ⟨L, o, hf, hn, ho, hd⟩, hr⟩ := hl
   have hL : L ∈ X.fs := hs L (by unfold frs; rw [List.filterMap_cons, hf]; exact List.mem_cons_self)
   obtain ⟨sl, e⟩ := I.base.slot L o ho (I.ok.frf L hL) hL fun z => I.ok.exfs L z hL
   exact ⟨hk, ⟨L, _, hf, hn, e, hd⟩, ih (fun b hb => hs b (by unfold frs; rw [List.filterMap_cons, hf]; exact List.mem_cons_of_mem _ hb)) hr⟩
 exact all X.outer (fun _ hb => hb) I.ok.funs
theorem Inv.stack (I : Inv X pins σ H s) : s.heap.FunFrames X.base X.stack := by
 rcases I.ok.stk with e | ⟨e, hf⟩
 ·rw [e]; exact I.funs
 ·rw [e]
  obtain ⟨m, hn, _⟩ := I.loc
  refine .cons (by rw [I.ok.kind]; decide) hf hn ?_ I.funs
  exact Heap.get?_none_of_le (Nat.le_trans I.ok.bsz I.ok.above)
theorem Inv.stkSub (I : Inv X pins σ H s) : ∀ b ∈ frs X.stack, b ∈ X.env.locals :: X.fs := fun b hb => by
 rcases I.ok.stk with e | ⟨e, hf⟩
 ·rw [e] at hb; exact List.mem_cons_of_mem _ hb
 ·rw [e] at hb
  unfold frs at hb
  rw [List.filterMap_cons, hf] at hb
  exact hb
theorem Inv.stkFree (I : Inv X pins σ H s) : ∀ b ∈ frs X.stack, H b = none := fun b hb => by
 rcases List.mem_cons.mp (I.stkSub b hb) with e | hb
 ·rw [e]; exact I.free
 ·obtain ⟨_, o, ho, _⟩ := I.ok.funs.mem hb
  exact I.base.free b o ho (I.ok.frf b hb) fun z => I.ok.exfs b z hb
theorem Inv.step {g' : Array GenState} {t' : Nat} {d' : Drawn} {ch : List Addr} (I : Inv X pins σ H s)
  (hch : ∀ b ∈ ch, (b ∈ X.ex \/ X.s₀.heap.objs.size <= b) /\ b ≠ X.env.locals /\ (∀ x c, X.env.cells.lookup x = some c -> c ≠ b) /\ ∀ p ∈ X.pn ++ pins, p.1 ≠ b)
  (keep : ∀ b o, b ≠ X.env.locals -> b ∉ X.fs -> b ∉ ch -> s.heap.get? b = some o -> H b = none -> h'.get? b = some o)
  (slot : ∀ b o, b ≠ X.env.locals -> b ∈ X.fs -> b ∉ ch -> s.heap.get? b = some o -> H b = none -> ∃ sl, h'.get? b = some { o with slots := sl }) (free : ∀ b o, b ∉ ch -> s.heap.get? b = some o -> H b = none -> H' b = none)
  (there : ∀ b o, b ∉ ch -> s.heap.get? b = some o -> ∃ o', h'.get? b = some o')
  (tups : ∀ b xs, H b = some (.tup xs) -> H' b = some (.tup xs)) (frzs : ∀ b o u, H b = some (.frz o u) -> H' b = some (.frz o u)) (tbls : ∀ b ps, H b = some (.tbl ps) -> ∃ more, H' b = some (.tbl (ps ++ more)))
  (ns : ∀ m, s.heap.Ns X.env.locals m -> h'.Ns X.env.locals m) (hok : HOk X.prog X.w H' h') (hg : AllBare g') :
  Inv X pins σ H' { s with heap := h', gens := g', drawn := d', toks := t' } := by
 have neL : ∀ b o, X.s₀.heap.get? b = some o -> b ≠ X.env.locals := fun b o e => Nat.ne_of_lt (Nat.lt_of_lt_of_le (Heap.lt_size e) I.ok.above)
 have neC : ∀ b o, X.s₀.heap.get? b = some o -> b ∉ X.ex -> b ∉ ch := fun b o e hx hb => by
  rcases (hch b hb).1 with z | z
  ·exact hx z
  ·exact absurd (Nat.lt_of_lt_of_le (Heap.lt_size e) z) (Nat.lt_irrefl _)
 have cellK : ∀ x c, X.env.cells.lookup x = some c -> ∀ v, s.heap.IsCell c v -> h'.IsCell c v := fun x c e v ⟨o, ho, hd⟩ => by
  have nch : c ∉ ch := fun z => (hch c z).2.2.1 x c e rfl
  by_cases hc : c ∈ X.fs
  ·obtain ⟨sl, q⟩ := slot c o (I.cne x c e) hc nch ho (I.freeC x c e)
   exact ⟨_, q, hd⟩
  ·exact ⟨o, keep c o (I.cne x c e) hc nch ho (I.freeC x c e), hd⟩
 refine ⟨I.ok, I.os, hg, ⟨fun b o e n hb hx => ?_, fun b o e n hb hx => ?_, fun b o e n hx => ?_, fun b o e hx => ?_, fun b xs e => tups b xs (I.base.tups b xs e), fun b o xs e => frzs b o xs (I.base.frzs b o xs e), fun b ps e => ?_⟩, ?_, fun x c e => ?_, ?_, fun x c e => ?_, fun p hp => ?_, hok, I.len⟩
 ·exact keep b o (neL b o e) hb (neC b o e hx) (I.base.keep b o e n hb hx) (I.base.free b o e n hx)
 ·obtain ⟨sl, e1⟩ := I.base.slot b o e n hb hx
  obtain ⟨sl', e2⟩ := slot b _ (neL b o e) hb (neC b o e hx) e1 (I.base.free b o e n hx)
  exact ⟨sl', e2⟩
 ·obtain ⟨o', e1⟩ := I.base.there b o e hx
  exact free b o' (neC b o e hx) e1 (I.base.free b o e n hx)
 ·obtain ⟨o', e1⟩ := I.base.there b o e hx
  exact there b o' (neC b o e hx) e1
 ·obtain ⟨m1, e1⟩ := I.base.tbls b ps e
  obtain ⟨m2, e2⟩ := tbls b _ e1
  exact ⟨m1 ++ m2, by rw [e2, Array.append_assoc]⟩
 ·obtain ⟨m, hn, hl⟩ := I.loc
  refine ⟨m, ns m hn, fun i x v e1 e2 e3 => ?_⟩
  obtain ⟨u, r, l⟩ := hl i x v e1 e2 e3
  refine ⟨u, r, ?_⟩
  rcases l with l | ⟨k, c, e, z⟩
  ·exact .inl l
  ·exact .inr ⟨k, c, e, cellK x c e _ z⟩
 ·obtain ⟨v, z⟩ := I.cell x c e
  exact ⟨v, cellK x c e v z⟩
 ·obtain ⟨m, ⟨o, _, _, ho, _⟩, _⟩ := I.loc
  exact free _ o (fun z => (hch _ z).2.1 rfl) ho I.free
 ·obtain ⟨v, o, ho, hd⟩ := I.cell x c e
  exact free c o (fun z => (hch c z).2.2.1 x c e rfl) ho (I.freeC x c e)
 ·obtain ⟨e, n, ne, nf, d⟩ := I.pin p hp
  have nch : p.1 ∉ ch := fun z => (hch p.1 z).2.2.2 p hp rfl
  exact ⟨keep p.1 p.2 ne nf nch e n, free p.1 p.2 nch e n, ne, nf, d⟩
theorem Inv.un {t' : Nat} (I : Inv X pins σ H s) (u : Un X.fs [] H H' s.heap h') (hok : HOk X.prog X.w H' h') : Inv X pins σ H' { s with heap := h', toks := t' } := by
 obtain ⟨m, ⟨o, es, ep, ho, r⟩, _⟩ := id I.loc
 obtain ⟨sl, hL⟩ := u.any ho I.free (by simp)
 exact I.step (g' := s.gens) (d' := s.drawn) (ch := []) (fun _ z => nomatch z) (fun b o _ hb _ e n => u.keep b o e n hb (by simp)) (fun b o _ hb _ e n => u.slot b o e n hb (by simp)) (fun b o _ e n => u.free b o e n (by simp)) (fun b o _ e => u.there b o e (by simp)) u.tups u.frzs u.tbls (fun m' hm => by
  obtain ⟨o', es', ep', ho', r'⟩ := hm
  rw [ho] at ho'; cases ho'
  exact ⟨_, es', ep', hL, r'⟩) hok I.bare
theorem Inv.call {g' : Array GenState} {t' : Nat} {d' : Drawn} {ch : List Addr} (I : Inv X pins σ H s) (u : Un (frs X.stack) ch H H' s.heap h') (hok : HOk X.prog X.w H' h') (hg : AllBare g')
  (hch : ∀ b ∈ ch, (b ∈ X.ex \/ X.s₀.heap.objs.size <= b) /\ b ≠ X.env.locals /\ (∀ x c, X.env.cells.lookup x = some c -> c ≠ b) /\ ∀ p ∈ X.pn ++ pins, p.1 ≠ b) :
  Inv X pins σ H' { s with heap := h', gens := g', drawn := d', toks := t' } := by
 obtain ⟨m, ⟨o, es, ep, ho, r⟩, _⟩ := id I.loc
 obtain ⟨sl, hL⟩ := u.any ho I.free fun z => (hch _ z).2.1 rfl
 exact I.step (ch := ch) hch (fun b o hL hb hc e n => u.keep b o e n (fun z => (List.mem_cons.mp (I.stkSub b z)).elim hL hb) hc) (fun b o _ _ hc e n => u.any e n hc) (fun b o hc e n => u.free b o e n hc) (fun b o hc e => u.there b o e hc) u.tups u.frzs u.tbls (fun m' hm => by
  obtain ⟨o', es', ep', ho', r'⟩ := hm
  rw [ho] at ho'; cases ho'
  exact ⟨_, es', ep', hL, r'⟩) hok hg
theorem Inv.turned {t' : Nat} {it : Addr} (I : Inv X pins σ H s) (k : ∀ b o, b ≠ it -> s.heap.get? b = some o -> h'.get? b = some o) (hn : H it = none) (hL : it ≠ X.env.locals)
  (h1 : it ∈ X.ex \/ X.s₀.heap.objs.size <= it) (h2 : ∀ x c, X.env.cells.lookup x = some c -> c ≠ it) (h3 : ∀ p ∈ X.pn ++ pins, p.1 ≠ it) : Inv X pins σ H { s with heap := h', toks := t' } := by
 have nit : ∀ b u, H b = some u -> b ≠ it := fun b u e z => by rw [z, hn] at e; cases e
 refine I.step (g' := s.gens) (d' := s.drawn) (ch := [it]) (fun b hb => ?_) (fun b o _ _ hc e _ => k b o (fun z => hc (by simp [z])) e) (fun b o _ _ hc e _ => ⟨o.slots, k b o (fun z => hc (by simp [z])) e⟩) (fun _ _ _ _ n => n)
  (fun b o hc e => ⟨o, k b o (fun z => hc (by simp [z])) e⟩) (fun _ _ e => e) (fun _ _ _ e => e) (fun b ps e => ⟨#[], by rw [e]; simp⟩) (fun m hm => ?_) (fun b u e => ?_) I.bare
 ·have e : b = it := by simpa using hb
  subst e
  exact ⟨h1, hL, h2, h3⟩
 ·obtain ⟨o, es, ep, ho, r⟩ := hm
  exact ⟨o, es, ep, k _ o (Ne.symm hL) ho, r⟩
 ·refine (I.hok b u e).stay (fun c v hc q => k c v ?_ q) (fun _ q => q) fun _ _ q => q
  rcases hc with z | z
  ·rw [z]; exact nit b u e
  ·exact nit c _ z
theorem Inv.tok (I : Inv X pins σ H s) (t : Nat) : Inv X pins σ H { s with toks := t } := I.un (h' := s.heap) (t' := t) Un.refl I.hok
theorem Inv.kept {t' : Nat} (I : Inv X pins σ H s) (k : ∀ b u, s.heap.get? b = some u -> h'.get? b = some u) : Inv X pins σ H { s with heap := h', toks := t' } := I.un (Un.kept k) (I.hok.kept k)
theorem Inv.laid {a : Addr} {o : HO} {t' : Nat} (I : Inv X pins σ H s) (k : ∀ b u, s.heap.get? b = some u -> h'.get? b = some u) (hp : s.heap.objs.size <= a) (new : Xe X.prog X.w (upd H a o) h' a o) :
  Inv X pins σ (upd H a o) { s with heap := h', toks := t' } := I.un (Un.laid k hp (I.hok.fresh hp)) (I.hok.laid k hp new)
theorem Inv.write {x e : Addr} {o : HO} {t' : Nat} (I : Inv X pins σ H s) (mu : Mut (H x)) (he : e = x \/ H e = some (.own x)) (k : ∀ b u, b ≠ e -> s.heap.get? b = some u -> h'.get? b = some u) (heo : ∃ u, h'.get? e = some u)
  (new : Xe X.prog X.w (upd H x o) h' x o) : Inv X pins σ (upd H x o) { s with heap := h', toks := t' } := I.un (Un.write mu he k heo) (I.hok.write mu he k heo new)
theorem Inv.pins_of {pins' : List (Addr × Obj)} (I : Inv X pins σ H s) (h : ∀ p ∈ pins', s.heap.get? p.1 = some p.2 /\ H p.1 = none /\ p.1 ≠ X.env.locals /\ p.1 ∉ X.fs /\ ∀ v, p.2.data ≠ .cell v) : Inv X pins' σ H s :=
 ⟨I.ok, I.os, I.bare, I.base, I.loc, I.cell, I.free, I.freeC, fun p hp => (List.mem_append.mp hp).elim (fun z => I.pin p (List.mem_append_left _ z)) (h p), I.hok, I.len⟩
theorem WA {N : List Str} (hN : N.Nodup) {i j : Nat} {x : Str} (a : N[i]? = some x) (b : N[j]? = some x) : i = j := by
 obtain ⟨h1, e1⟩ := List.getElem?_eq_some_iff.mp a
 obtain ⟨h2, e2⟩ := List.getElem?_eq_some_iff.mp b
 exact (List.getElem_inj hN).mp (e1.trans e2.symm)
theorem XV {M : Model} {A : Around} {E : Value -> Shared -> Prop} {i : Nat} {x : Str} {v : V} {u : Value} {Q : Unit -> Shared -> Prop} (I : Inv X pins σ H s) (hN : X.N.Nodup) (hi : X.N[i]? = some x) (hx : Loc X.env.scope x) (r : RelV v u)
  (h : ∀ s', Inv X pins (σ.set i (some v)) H s' -> (∃ a, Heap.SameBut a s.heap s'.heap /\ (a = X.env.locals \/ X.env.cells.lookup x = some a)) -> Q () s') (hf : X.fn x = true \/ X.env.scope.names.lookup x = some .local := by first | exact .inl rfl | exact .inr rfl | assumption) : wpAny M A (storeName X.env x u) Q E s := by
 obtain ⟨m, hn, hl⟩ := id I.loc
 have hcls : (X.env.scope.kind == .class || (X.env.scope.kind == .module && X.env.locals != X.env.globals)) = false := by rw [I.ok.kind]; rfl
 have hiσ : i < σ.length := by rw [I.len]; exact (List.getElem?_eq_some_iff.mp hi).1
 have cne := I.cne
 have tracked : ∀ {a : Addr} {h' : Heap}, (∃ o, s.heap.get? a = some o /\ H a = none) -> Heap.SameBut a s.heap h' -> HOk X.prog X.w H h' := fun {a h'} ha hs b ob e => by
  obtain ⟨_, _, hfree⟩ := ha
  refine (I.hok b ob e).stay (fun c w' hc q => (hs.2 c ?_).trans q) (fun _ q => q) fun _ _ q => q
  rintro rfl
  rcases hc with rfl | hc
  ·rw [hfree] at e; cases e
  ·rw [hfree] at hc; cases hc
 rcases hx with hk | hk
 ·refine wpAny_storeName_local hk hn (fun h' hn' hs => ?_) hcls
  obtain ⟨oL, _, _, hoL, _⟩ := id hn
  refine h _ ⟨I.ok, I.os, I.bare, ⟨fun b o e n hb hx => ?_, fun b o e n hb hx => ?_, I.base.free, fun b o e hx => ?_, I.base.tups, I.base.frzs, I.base.tbls⟩, ⟨_, hn', fun j y v' e1 e2 e3 => ?_⟩, fun y c e => ?_, I.free, I.freeC, fun p hp => ?_, tracked ⟨oL, hoL, I.free⟩ hs, by simpa using I.len⟩ ⟨_, hs, .inl rfl⟩
  ·exact (hs.2 b (Nat.ne_of_lt (Nat.lt_of_lt_of_le (Heap.lt_size e) I.ok.above))).trans (I.base.keep b o e n hb hx)
  ·obtain ⟨sl, e1⟩ := I.base.slot b o e n hb hx
   exact ⟨sl, (hs.2 b (Nat.ne_of_lt (Nat.lt_of_lt_of_le (Heap.lt_size e) I.ok.above))).trans e1⟩
  ·obtain ⟨o', e1⟩ := I.base.there b o e hx
   exact ⟨o', (hs.2 b (Nat.ne_of_lt (Nat.lt_of_lt_of_le (Heap.lt_size e) I.ok.above))).trans e1⟩
  ·by_cases hj : j = i
   ·subst hj
    rw [hi] at e1; cases e1
    rw [List.getElem?_set_self hiσ] at e2
    cases e2
    exact ⟨u, r, .inl ⟨hk, by simp⟩⟩
   ·rw [List.getElem?_set_ne (Ne.symm hj)] at e2
    obtain ⟨u', r', q⟩ := hl j y v' e1 e2 e3
    refine ⟨u', r', ?_⟩
    rcases q with ⟨k, e⟩ | ⟨k, c, e, z⟩
    ·refine .inl ⟨k, ?_⟩
     have : y ≠ x := fun e => hj (WA hN e1 (e ▸ hi))
     simp [this, e]
    ·exact .inr ⟨k, c, e, z.sameBut hs (cne y c e)⟩
  ·obtain ⟨w', z⟩ := I.cell y c e
   exact ⟨w', z.sameBut hs (cne y c e)⟩
  ·obtain ⟨e, n, ne, nf, d⟩ := I.pin p hp
   exact ⟨(hs.2 p.1 ne).trans e, n, ne, nf, d⟩
 ·have hfn : X.fn x = true := by
   rcases hf with z | z
   ·exact z
   ·rw [z] at hk; cases hk
  obtain ⟨c, hc⟩ := I.ok.has x (.inl hk)
  obtain ⟨w', z⟩ := I.cell x c hc
  refine wpAny_storeName_cell I.ok.kind hk hc z (fun h' hc' hs => ?_)
  obtain ⟨oc, hoc, hocd⟩ := id z
  refine h { s with heap := h' } ⟨I.ok, I.os, I.bare, ⟨fun b o e n hb hx => ?_, fun b o e n hb hx => ?_, I.base.free, fun b o e hx => ?_, I.base.tups, I.base.frzs, I.base.tbls⟩, ⟨m, hn.sameBut hs (Ne.symm (cne x c hc)), fun j y v' e1 e2 e3 => ?_⟩, fun y c' e => ?_, I.free, I.freeC, fun p hp => ?_, tracked ⟨oc, hoc, I.freeC x c hc⟩ hs, by simpa using I.len⟩ ⟨c, hs, .inr hc⟩
  ·exact (hs.2 b (Nat.ne_of_lt (Nat.lt_of_lt_of_le (Heap.lt_size e) (I.ok.cab x c hfn hc)))).trans (I.base.keep b o e n hb hx)
  ·obtain ⟨sl, e1⟩ := I.base.slot b o e n hb hx
   exact ⟨sl, (hs.2 b (Nat.ne_of_lt (Nat.lt_of_lt_of_le (Heap.lt_size e) (I.ok.cab x c hfn hc)))).trans e1⟩
  ·obtain ⟨o', e1⟩ := I.base.there b o e hx
   exact ⟨o', (hs.2 b (Nat.ne_of_lt (Nat.lt_of_lt_of_le (Heap.lt_size e) (I.ok.cab x c hfn hc)))).trans e1⟩
  ·by_cases hj : j = i
   ·subst hj
    rw [hi] at e1; cases e1
    rw [List.getElem?_set_self hiσ] at e2
    cases e2
    exact ⟨u, r, .inr ⟨.inl hk, c, hc, hc'⟩⟩
   ·rw [List.getElem?_set_ne (Ne.symm hj)] at e2
    obtain ⟨u', r', q⟩ := hl j y v' e1 e2 e3
    refine ⟨u', r', ?_⟩
    rcases q with q | ⟨k, c', e, z'⟩
    ·exact .inl q
    ·refine .inr ⟨k, c', e, z'.sameBut hs ?_⟩
     rintro rfl
     exact hj (WA hN e1 (I.ok.inj _ _ _ e hc ▸ hi))
  ·by_cases hcc : c' = c
   ·subst hcc; exact ⟨_, hc'⟩
   ·obtain ⟨w2, z2⟩ := I.cell y c' e
    exact ⟨w2, z2.sameBut hs hcc⟩
  ·obtain ⟨e, n, ne, nf, d⟩ := I.pin p hp
   refine ⟨(hs.2 p.1 ?_).trans e, n, ne, nf, d⟩
   intro q
   rw [q, hoc] at e
   have q' : oc = p.2 := Option.some.inj e
   exact d w' (by rw [<- q']; exact hocd)
theorem XR {M : Model} {A : Around} {E : Value -> Shared -> Prop} {i : Nat} {x : Str} {v : V} {u : Value} {Q : Unit -> Shared -> Prop} (I : Inv X pins σ H s) (hN : X.N.Nodup) (hi : X.N[i]? = some x) (hx : Loc X.env.scope x) (r : RelV v u)
  (h : ∀ s', Inv X pins (σ.set i (some v)) H s' -> Q () s') (hf : X.fn x = true \/ X.env.scope.names.lookup x = some .local := by first | exact .inl rfl | exact .inr rfl | assumption) : wpAny M A (storeName X.env x u) Q E s :=
 XV I hN hi hx r (fun s' I' _ => h s' I') hf
theorem Inv.call' {s' : Shared} {ch : List Addr} (I : Inv X pins σ H s) (ho : s'.os = s.os) (u : Un (frs X.stack) ch H H' s.heap s'.heap) (hok : HOk X.prog X.w H' s'.heap) (hg : AllBare s'.gens)
  (hch : ∀ b ∈ ch, (b ∈ X.ex \/ X.s₀.heap.objs.size <= b) /\ b ≠ X.env.locals /\ (∀ x c, X.env.cells.lookup x = some c -> c ≠ b) /\ ∀ p ∈ X.pn ++ pins, p.1 ≠ b) : Inv X pins σ H' s' := by
 obtain ⟨h', g', d', t', o'⟩ := s'
 have e : o' = s.os := ho
 subst e
 exact I.call (g' := g') (t' := t') (d' := d') u hok hg hch
end
abbrev XK := Value -> Option Addr -> Hp -> Prop
abbrev St := List (Option V)
abbrev VK := V -> Hp -> Prop
abbrev TE := St -> Hp -> VK -> Prop
abbrev TT := St -> Hp -> (Bool -> Hp -> Prop) -> Prop
abbrev TA := St -> Hp -> (List V -> Hp -> Prop) -> Prop
structure Ends where
 nx : St -> Hp -> Prop
 rt : VK
 bk : St -> Hp -> Prop := fun _ _ => False
 ct : St -> Hp -> Prop := fun _ _ => False
abbrev TS := Ends -> St -> Hp -> Prop
def EP (X : Cx) (pins : List (Addr × Obj)) (σ : St) (Q : VK) (u : Value) (s' : Shared) : Prop := ∃ v H', Inv X pins σ H' s' /\ RelV v u /\ Q v H'
def TP (X : Cx) (pins : List (Addr × Obj)) (σ : St) (Q : Bool -> Hp -> Prop) (b : Bool) (s' : Shared) : Prop := ∃ H', Inv X pins σ H' s' /\ Q b H'
def AP (X : Cx) (pins : List (Addr × Obj)) (σ : St) (Q : List V -> Hp -> Prop) (us : List Value) (s' : Shared) : Prop := ∃ vs H', Inv X pins σ H' s' /\ Vals vs us /\ Q vs H'
def SP (X : Cx) (pins : List (Addr × Obj)) (D : Ends) (f : Flow) (s' : Shared) : Prop :=
 match f with
 | .next => ∃ σ' H', Inv X pins σ' H' s' /\ D.nx σ' H'
 | .brk => ∃ σ' H', Inv X pins σ' H' s' /\ D.bk σ' H'
 | .cont => ∃ σ' H', Inv X pins σ' H' s' /\ D.ct σ' H'
 | .ret u => ∃ v σ' H', Inv X pins σ' H' s' /\ RelV v u /\ D.rt v H'
def PE (X : Cx) (e : Expr) (t : TE) : Prop :=
 ∀ (pins : List (Addr × Obj)) (s : Shared) (σ : St) (H : Hp) (Q : VK), Inv X pins σ H s -> t σ H Q -> wpAny (model X.prog X.w) X.A (eval e X.env) (EP X pins σ Q) X.xe s
def PT (X : Cx) (e : Expr) (t : TT) : Prop :=
 ∀ (pins : List (Addr × Obj)) (s : Shared) (σ : St) (H : Hp) (Q : Bool -> Hp -> Prop), Inv X pins σ H s -> t σ H Q -> wpAny (model X.prog X.w) X.A (isTrue e X.env (eval e X.env)) (TP X pins σ Q) X.xe s
def PW (X : Cx) (e : Expr) (t : TT) : Prop :=
 ∀ (whole : Sem Value) (pins : List (Addr × Obj)) (s : Shared) (σ : St) (H : Hp) (Q : Bool -> Hp -> Prop), Inv X pins σ H s -> t σ H Q -> wpAny (model X.prog X.w) X.A (isTrue e X.env whole) (TP X pins σ Q) X.xe s
theorem PW.pt {X : Cx} {e : Expr} {t : TT} (h : PW X e t) : PT X e t := h _
def PA (X : Cx) (es : List Expr) (t : TA) : Prop :=
 ∀ (pos : Pos) (pins : List (Addr × Obj)) (s : Shared) (σ : St) (H : Hp) (Q : List V -> Hp -> Prop), Inv X pins σ H s -> t σ H Q -> wpAny (model X.prog X.w) X.A (spliced (backTo pos (starEach es X.env))) (AP X pins σ Q) X.xe s
def PS (X : Cx) (st : Stmt) (t : TS) : Prop :=
 ∀ (pins : List (Addr × Obj)) (s : Shared) (σ : St) (H : Hp) (D : Ends), Inv X pins σ H s -> t D σ H -> wpAny (model X.prog X.w) X.A (exec st X.env) (SP X pins D) X.xe s
def PSs (X : Cx) (st : List Stmt) (t : TS) : Prop :=
 ∀ (pins : List (Addr × Obj)) (s : Shared) (σ : St) (H : Hp) (D : Ends), Inv X pins σ H s -> t D σ H -> wpAny (model X.prog X.w) X.A (execs st X.env) (SP X pins D) X.xe s
theorem thn {α : Type} {t : Sem α} {Q Q' : α -> Shared -> Prop} {M : Model} {A : Around} {E : Value -> Shared -> Prop} {s : Shared} (h : wpAny M A t Q E s) (hQ : ∀ a s, Q a s -> Q' a s) : wpAny M A t Q' E s := wpAny_mono h hQ fun _ _ x => x
end L2
namespace L2
open PySem PySem.Spec PyProof.Rows
section
variable {X : Cx}
def tVar (i : Nat) : TE := fun σ H Q => ∃ v, σ[i]? = some (some v) /\ Q v H
def tC (v : V) : TE := fun _ H Q => Q v H
theorem VC {i : Nat} {x : Str} {pos : Pos} (hN : X.N[i]? = some x) (hv : Vis X.env.scope x) (hd : (x == ("__debug__" : Str)) = false := by decide) (hcd : (x == ("__classdict__" : Str)) = false := by decide) : PE X (.Name x pos) (tVar i) := by
 intro pins s σ H Q I h
 obtain ⟨v, e, h⟩ := h
 obtain ⟨m, hn, hl⟩ := I.loc
 obtain ⟨u, r, l⟩ := hl i x v hN e hv
 have fin : EP X pins σ Q u s := ⟨v, H, I, r, h⟩
 rcases l with ⟨hk, hm⟩ | ⟨hk, c, hc, hcell⟩
 ·exact wpAny_Name (wpAny_loadName_local I.ok.kind hk hn hm fin) hd
 ·rcases hk with hk | hk
  ·exact wpAny_Name (wpAny_loadName_cell I.ok.kind hk hc hcell fin) hd
  ·exact wpAny_Name (wpAny_loadName_free I.ok.kind hk hc hcell fin hcd) hd
theorem pe_int {i j pos} : PE X (.Constant (.int i) j pos) (tC (.int i)) := fun _ _ _ H _ I h => wpAny_Constant_int ⟨.int i, H, I.tok _, ⟨_, rfl⟩, h⟩
theorem pe_bl {b j pos} : PE X (.Constant (.bool b) j pos) (tC (.bl b)) := fun _ _ _ H _ I h => Constant_bool ⟨.bl b, H, I, rfl, h⟩
theorem pe_non {j pos} : PE X (.Constant .none j pos) (tC .non) := fun _ _ _ H _ I h => Constant_none ⟨.non, H, I, rfl, h⟩
theorem pe_str {x j pos} : PE X (.Constant (.str x) j pos) (tC (.str x)) := fun _ _ _ H _ I h => Calls.Constant_str ⟨.str x, H, I.tok _, ⟨_, rfl⟩, h⟩
def Gl (X : Cx) (x : Str) : Prop := X.env.kindOf x = some .globalImplicit
theorem XD {E : Value -> Shared -> Prop} {pins : List (Addr × Obj)} {s : Shared} {σ : St} {H : Hp} {x : Str} {u : Value} {pos : Pos} {Q : Value -> Shared -> Prop} (I : Inv X pins σ H s) (hg : Gl X x) (hm : X.mg x = some u) (h : Q u s)
  (hd : (x == ("__debug__" : Str)) = false := by decide) : wpAny (model X.prog X.w) X.A (eval (.Name x pos) X.env) Q E s :=
 Calls.Name_function_global I.ok.kind hg (Calls.loadGlobal_global (by rw [I.ok.glob]; exact I.mod.glob.keeps I.bk) hm h) hd
theorem VI {E : Value -> Shared -> Prop} {pins : List (Addr × Obj)} {s : Shared} {σ : St} {H : Hp} {x : Str} {u : Value} {pos : Pos} {Q : Value -> Shared -> Prop} (I : Inv X pins σ H s) (hg : Gl X x) (hm : X.mg x = none) (hv : bootBuiltins x = some u) (h : Q u s)
  (hn : x ≠ "__name__" := by decide) (hd : (x == ("__debug__" : Str)) = false := by decide) : wpAny (model X.prog X.w) X.A (eval (.Name x pos) X.env) Q E s := by
 obtain ⟨mb, h1, h2⟩ := I.mod.blt
 exact Calls.Name_function_global I.ok.kind hg (Calls.loadGlobal_builtin (by rw [I.ok.glob]; exact I.mod.glob.keeps I.bk) hm (by rw [I.ok.blt]; exact h1.keeps I.bk) ((h2 x hn).trans hv) h) hd
theorem pe_glob {x : Str} {v : V} {u : Value} {pos : Pos} (hg : Gl X x) (hm : X.mg x = some u) (r : RelV v u) (hd : (x == ("__debug__" : Str)) = false := by decide) : PE X (.Name x pos) (tC v) :=
 fun _ _ _ H _ I h => XD I hg hm ⟨v, H, I, r, h⟩ hd
theorem UE {x : Str} {v : V} {u : Value} {pos : Pos} (hg : Gl X x) (hm : X.mg x = none) (hv : bootBuiltins x = some u) (r : RelV v u) (hn : x ≠ "__name__" := by decide) (hd : (x == ("__debug__" : Str)) = false := by decide) : PE X (.Name x pos) (tC v) :=
 fun _ _ _ H _ I h => VI I hg hm hv ⟨v, H, I, r, h⟩ hn hd
variable {a b : Expr} {ta tb : TE} {pos : Pos}
variable {tA tB' : TT} {rest : List Expr}
def tOr (t u : TT) : TT := fun σ H Q => t σ H fun c H1 => if c = true then Q true H1 else u σ H1 Q
def tNot (t : TT) : TT := fun σ H Q => t σ H fun c H1 => Q (!c) H1
theorem pw_or1 (ha : PT X a tA) : PW X (.BoolOp .Or [a] pos) tA := by
 intro wh pins s σ H Q I h
 refine isTrue_or (thn (ha pins s σ H Q I h) fun c s1 e => ?_)
 cases c with
 | false => exact isTrue_or_nil e
 | true => exact e
theorem pw_or (ha : PT X a tA) (hb : PW X (.BoolOp .Or (b :: rest) pos) tB') : PW X (.BoolOp .Or (a :: b :: rest) pos) (tOr tA tB') := by
 intro wh pins s σ H Q I h
 refine isTrue_or (thn (ha pins s σ H _ I h) fun c s1 ⟨H1, I1, q1⟩ => ?_)
 cases c with
 | true => exact ⟨H1, I1, q1⟩
 | false => exact hb wh pins s1 σ H1 Q I1 q1
theorem pt_not (ha : PT X a tA) : PT X (.UnaryOp .Not a pos) (tNot tA) := by
 intro pins s σ H Q I h
 exact isTrue_not (ha pins s σ H (fun c H1 => Q (!c) H1) I h)
def tAndV (ta tb : TE) : TE := fun σ H Q => ta σ H fun x H1 => ∃ c, x = .bl c /\ if c = true then tb σ H1 Q else Q (.bl false) H1
def tNotV (ta : TE) : TE := fun σ H Q => ta σ H fun x H1 => ∃ c, x = .bl c /\ Q (.bl (!c)) H1
theorem pe_one {op} {t : TE} (h : PE X a t) : PE X (.BoolOp op [a] pos) t := fun pins s σ H Q I hw => BoolOp_one (h pins s σ H Q I hw)
theorem pe_and (ha : PE X a ta) (hb : PE X (.BoolOp .And (b :: rest) pos) tb) : PE X (.BoolOp .And (a :: b :: rest) pos) (tAndV ta tb) := by
 intro pins s σ H Q I h
 refine BoolOp_and (thn (ha pins s σ H _ I h) fun v s1 ⟨x, H1, I1, r1, q1⟩ => ?_)
 obtain ⟨c, rfl, q1⟩ := q1
 cases r1
 refine wpAny_truthy_bool ?_
 cases c with
 | true => exact hb pins s1 σ H1 Q I1 q1
 | false => exact ⟨.bl false, H1, I1, rfl, q1⟩
theorem pe_not (ha : PE X a ta) : PE X (.UnaryOp .Not a pos) (tNotV ta) := by
 intro pins s σ H Q I h
 refine UnaryOp_ (thn (ha pins s σ H _ I h) fun v s1 ⟨x, H1, I1, r1, q1⟩ => ?_)
 obtain ⟨c, rfl, q1⟩ := q1
 cases r1
 exact not_of (wpAny_truthy_bool ⟨.bl (!c), H1, I1, rfl, q1⟩)
end
end L2
namespace L2
open PySem PySem.Spec PyProof.Rows
def SqL (K : PySem.W.Frag) (H : Hp) (a : Addr) (xs : List V) : Prop :=
 Rd H a (.lst xs) \/
  ∃ (o : Obj) (its : Array Value) (n : Nat), K.lookup a = some o /\ o.cls = .type "list" /\ o.dict = none /\ o.data = .seq its n /\ its.size <= sizeLine /\ Vals xs its.toList
def SqT (K : PySem.W.Frag) (H : Hp) (a : Addr) (xs : List V) : Prop :=
 Rd H a (.tup xs) \/
  ∃ (o : Obj) (its : Array Value) (n : Nat), K.lookup a = some o /\ o.cls = .type "tuple" /\ o.data = .seq its n /\ its.size <= sizeLine /\ Vals xs its.toList
def absV : Value -> Option V
 | .none => some .non
 | .bool b => some (.bl b)
 | .int i _ => some (.int i)
 | .str x _ => some (.str x)
 | .bytes b _ => some (.byt b)
 | .float b _ => some (.flt b)
 | .ref a => some (.ref a)
 | .type n => some (.ty n)
 | _ => none
theorem RelV.abs {x : V} {u : Value} (r : RelV x u) : absV u = some x := by
 cases x with
 | non => cases r; rfl
 | bl _ => cases r; rfl
 | int _ => obtain ⟨t, rfl⟩ := r; rfl
 | str _ => obtain ⟨t, rfl⟩ := r; rfl
 | byt _ => obtain ⟨t, rfl⟩ := r; rfl
 | flt _ => obtain ⟨t, rfl⟩ := r; rfl
 | ref _ => cases r; rfl
 | ty _ => cases r; rfl
theorem RelV.inj {x y : V} {u : Value} (r : RelV x u) (q : RelV y u) : x = y := Option.some.inj (r.abs.symm.trans q.abs)
theorem Vals.inj : ∀ {xs ys : List V} {us : List Value}, Vals xs us -> Vals ys us -> xs = ys
 | _, _, _, .nil, .nil => rfl
 | _, _, _, .cons r t, .cons r' t' => by rw [r.inj r', Vals.inj t t']
section
variable {X : Cx} {pins : List (Addr × Obj)} {σ : St} {H : Hp} {s : Shared} {a : Addr} {xs ys : List V}
theorem SqL.of {K : PySem.W.Frag} (h : H a = some (.lst xs)) : SqL K H a xs := .inl (.inl h)
theorem Inv.list (I : Inv X pins σ H s) (h : SqL X.K H a xs) : ∃ its : List Value, Vals xs its /\ PlainL s.heap a its.toArray /\ xs.length <= sizeLine := by
 rcases h with h | ⟨o, its, n, hk, hc, hd, hs, hz, r⟩
 ·obtain ⟨z, its, n, r, e⟩ := h.ok I.hok
  exact ⟨its, r, ⟨_, n, e, rfl, rfl, rfl⟩, z⟩
 ·refine ⟨its.toList, r, ⟨o, n, I.kIn a o hk, hc, hd, by simpa using hs⟩, ?_⟩
  have e := r.length
  simp only [Array.length_toList] at e
  omega
theorem Inv.tuple (I : Inv X pins σ H s) (h : SqT X.K H a xs) : ∃ its : List Value, Vals xs its /\ IsTup s.heap a its.toArray /\ xs.length <= sizeLine := by
 rcases h with h | ⟨o, its, n, hk, hc, hs, hz, r⟩
 ·obtain ⟨z, its, r, p⟩ := h.ok I.hok
  exact ⟨its, r, p, z⟩
 ·refine ⟨its.toList, r, ⟨o, I.kIn a o hk, hc, n, by simpa using hs⟩, ?_⟩
  have e := r.length
  simp only [Array.length_toList] at e
  omega
theorem Inv.list_inj (I : Inv X pins σ H s) (h : SqL X.K H a xs) (h' : SqL X.K H a ys) : xs = ys := by
 obtain ⟨its, r, ⟨o, n, e, _, _, d⟩, _⟩ := I.list h
 obtain ⟨its', r', ⟨o', n', e', _, _, d'⟩, _⟩ := I.list h'
 rw [e] at e'; cases e'
 rw [d] at d'
 injection d' with d1 _
 have : its = its' := by simpa using congrArg Array.toList d1
 subst this
 exact r.inj r'
theorem Inv.tuple_inj (I : Inv X pins σ H s) (h : SqT X.K H a xs) (h' : SqT X.K H a ys) : xs = ys := by
 obtain ⟨its, r, ⟨o, e, _, n, d⟩, _⟩ := I.tuple h
 obtain ⟨its', r', ⟨o', e', _, n', d'⟩, _⟩ := I.tuple h'
 rw [e] at e'; cases e'
 rw [d] at d'
 injection d' with d1 _
 have : its = its' := by simpa using congrArg Array.toList d1
 subst this
 exact r.inj r'
end
abbrev Cx.wish (X : Cx) (E : Value -> Shared -> Prop) : Cx := { X with xe := E }
abbrev Cx.nox (X : Cx) : Cx := X.wish fun _ _ => False
theorem Cx.Ok.wish {X : Cx} (ok : X.Ok) (E : Value -> Shared -> Prop) : (X.wish E).Ok :=
 ⟨ok.mod, ok.kind, ok.glob, ok.blt, ok.above, ok.inj, ok.has, ok.cab, ok.hd, ok.frames, ok.stk, ok.exf, ok.bs, ok.bsz, ok.noex, ok.exfs, ok.funs, ok.frf⟩
theorem Cx.Ok.unwish {X : Cx} {E : Value -> Shared -> Prop} (ok : (X.wish E).Ok) : X.Ok :=
 ⟨ok.mod, ok.kind, ok.glob, ok.blt, ok.above, ok.inj, ok.has, ok.cab, ok.hd, ok.frames, ok.stk, ok.exf, ok.bs, ok.bsz, ok.noex, ok.exfs, ok.funs, ok.frf⟩
section
variable {X : Cx} {pins : List (Addr × Obj)} {σ : St} {H : Hp} {s : Shared} {E : Value -> Shared -> Prop}
theorem Inv.wish (I : Inv X pins σ H s) (E : Value -> Shared -> Prop) : Inv (X.wish E) pins σ H s := ⟨I.ok.wish E, I.os, I.bare, I.base, I.loc, I.cell, I.free, I.freeC, I.pin, I.hok, I.len⟩
theorem Inv.unwish (I : Inv (X.wish E) pins σ H s) : Inv X pins σ H s := ⟨I.ok.unwish, I.os, I.bare, I.base, I.loc, I.cell, I.free, I.freeC, I.pin, I.hok, I.len⟩
theorem SP.unwish {D : Ends} {f : Flow} {s' : Shared} (h : SP (X.wish E) pins D f s') : SP X pins D f s' := by
 cases f with
 | next => obtain ⟨σ', H', I, q⟩ := h; exact ⟨σ', H', I.unwish, q⟩
 | brk => obtain ⟨σ', H', I, q⟩ := h; exact ⟨σ', H', I.unwish, q⟩
 | cont => obtain ⟨σ', H', I, q⟩ := h; exact ⟨σ', H', I.unwish, q⟩
 | ret u => obtain ⟨v, σ', H', I, r, q⟩ := h; exact ⟨v, σ', H', I.unwish, r, q⟩
theorem PSs.nox {st : List Stmt} {t : TS} (h : PSs X.nox st t) : PSs X st t := fun pins s σ H D I hw =>
 wpAny_mono (h pins s σ H D (I.wish _) hw) (fun _ _ q => q.unwish) fun _ _ z => False.elim z
end
section
variable {X : Cx} {st : Stmt} {rest : List Stmt} {t u : TS} {e : Expr} {te : TE} {pos : Pos}
def tNext : TS := fun D σ H => D.nx σ H
def tSeq (t u : TS) : TS := fun D σ H => t { D with nx := u D } σ H
theorem pss_nil : PSs X [] tNext := fun _ _ σ H _ I h => wpAny_execs_nil ⟨σ, H, I, h⟩
theorem pss_cons (h1 : PS X st t) (h2 : PSs X rest u) : PSs X (st :: rest) (tSeq t u) := by
 intro pins s σ H D I h
 refine wpAny_execs_cons (thn (h1 pins s σ H { D with nx := u D } I h) fun f s1 q => ?_)
 cases f with
 | next =>
  obtain ⟨σ', H', I', q⟩ := q
  exact h2 pins s1 σ' H' D I' q
 | ret v => exact q
 | brk => exact q
 | cont => exact q
theorem pss_one (h1 : PS X st t) : PSs X [st] t := by
 intro pins s σ H D I h
 refine wpAny_execs_cons (thn (h1 pins s σ H D I h) fun f s1 q => ?_)
 cases f with
 | next => exact wpAny_execs_nil q
 | ret v => exact q
 | brk => exact q
 | cont => exact q
theorem Inv.quiet {pins : List (Addr × Obj)} {σ : St} {H : Hp} {s : Shared} (I : Inv X pins σ H s) : interactive X.env = false := by simp [interactive, I.ok.kind]
def tDrop (te : TE) : TS := fun D σ H => te σ H fun _ H1 => D.nx σ H1
theorem ps_expr (he : PE X e te) (hs : swapsWith e none pos.line X.env = pure false := by rfl) : PS X (.Expr e pos) (tDrop te) := by
 intro pins s σ H D I h
 exact wpAny_Expr_any (thn (he pins s σ H _ I h) fun v s1 ⟨x, H1, I1, r1, q1⟩ => ⟨σ, H1, I1, q1⟩) I.quiet hs
def tRet (te : TE) : TS := fun D σ H => te σ H D.rt
theorem ps_ret (he : PE X e te) : PS X (.Return (some e) pos) (tRet te) := by
 intro pins s σ H D I h
 exact wpAny_Return_some (thn (he pins s σ H _ I h) fun v s1 ⟨x, H1, I1, r1, q1⟩ => ⟨x, σ, H1, I1, r1, q1⟩)
def tIfS (c : TT) (t u : TS) : TS := fun D σ H => c σ H fun b H1 => if b = true then t D σ H1 else u D σ H1
theorem ps_if {c : Expr} {a b : List Stmt} {tc : TT} (hc : PT X c tc) (ha : PSs X a t) (hb : PSs X b u) : PS X (.If c a b pos) (tIfS tc t u) := by
 intro pins s σ H D I h
 refine wpAny_If (thn (hc pins s σ H _ I h) fun d s1 ⟨H1, I1, q1⟩ => ?_)
 cases d with
 | true => exact ha pins s1 σ H1 D I1 q1
 | false => exact hb pins s1 σ H1 D I1 q1
def tNever : TS := fun _ _ _ => False
theorem ps_never : PS X st tNever := fun _ _ _ _ _ _ h => h.elim
end
abbrev TG := V -> St -> Hp -> (St -> Hp -> Prop) -> Prop
def PG (X : Cx) (target : Expr) (t : TG) : Prop :=
 ∀ (pins : List (Addr × Obj)) (s : Shared) (σ : St) (H : Hp) (v : V) (u : Value) (Q : St -> Hp -> Prop), Inv X pins σ H s -> RelV v u -> t v σ H Q ->
  wpAny (model X.prog X.w) X.A (assign target X.env u) (fun _ s' => ∃ σ' H', Inv X pins σ' H' s' /\ Q σ' H') X.xe s
abbrev TSet := V -> V -> V -> Hp -> (Hp -> Prop) -> Prop
def PSet (X : Cx) (t : TSet) : Prop :=
 ∀ (pins : List (Addr × Obj)) (s : Shared) (σ : St) (H : Hp) (o i v : V) (ov iv u : Value) (Q : Hp -> Prop), Inv X pins σ H s -> RelV o ov -> RelV i iv -> RelV v u -> t o i v H Q ->
  wpAny (model X.prog X.w) X.A (setItem ov iv u) (fun _ s' => ∃ H', Inv X pins σ H' s' /\ Q H') X.xe s
section
variable {X : Cx} {pos : Pos}
def gName (i : Nat) : TG := fun v σ H Q => Q (σ.set i (some v)) H
theorem pg_name {i : Nat} {x : Str} (hN : X.N.Nodup) (hi : X.N[i]? = some x) (hx : Loc X.env.scope x) (hf : X.fn x = true \/ X.env.scope.names.lookup x = some .local := by first | exact .inl rfl | exact .inr rfl | assumption) : PG X (.Name x pos) (gName i) := by
 intro pins s σ H v u Q I r h
 exact wpAny_assign_Name (XR I hN hi hx r (fun s' I' => ⟨_, H, I', h⟩) hf)
def gSub (to ti : TE) (t : TSet) : TG := fun v σ H Q => to σ H fun o H1 => ti σ H1 fun i H2 => t o i v H2 fun H3 => Q σ H3
theorem pg_sub {o i : Expr} {to ti : TE} {t : TSet} (ho : PE X o to) (hi : PE X i ti) (hs : PSet X t)
  (ha : ∀ v, assign (.Subscript o i pos) X.env v = (do
   let ov <- holding [v] (eval o X.env)
   let iv <- holding [v, ov] (eval i X.env)
   standAt pos
   holding [v, ov, iv] (setItem ov iv v)
   release [v, ov, iv] []) := by intro _; rfl) : PG X (.Subscript o i pos) (gSub to ti t) := by
 intro pins s σ H v u Q I r h
 rw [ha]
 refine wpAny_bind (wpAny_holding (thn (ho pins s σ H _ I h) fun ov s1 ⟨x, H1, I1, r1, q1⟩ => ?_))
 refine wpAny_bind (wpAny_holding (thn (hi pins s1 σ H1 _ I1 q1) fun iv s2 ⟨y, H2, I2, r2, q2⟩ => ?_))
 refine wpAny_bind (wpAny_standAt (wpAny_bind (wpAny_holding (thn (hs pins s2 σ H2 x y v ov iv u _ I2 r1 r2 r q2) fun _ s3 ⟨H3, I3, q3⟩ => ?_))))
 exact wpAny_release ⟨σ, H3, I3, q3⟩
def tAsg (te : TE) (g : TG) : TS := fun D σ H => te σ H fun x H1 => g x σ H1 D.nx
theorem ps_asg {tg e : Expr} {te : TE} {g : TG} (he : PE X e te) (hg : PG X tg g) (hs : swapsWithSole [tg] e pos.line X.env = pure false := by rfl) (hw : swappedStores [tg] e X.env = pure none := by rfl)
  (h1 : (assignEach [tg] X.env).map (·.2) = [assign tg X.env] := by rfl) : PS X (.Assign [tg] e pos) (tAsg te g) := by
 intro pins s σ H D I h
 refine wpAny_Assign_stores (thn (he pins s σ H _ I h) fun v s1 ⟨x, H1, I1, r1, q1⟩ => ?_) hs hw
 rw [h1]
 exact thn (hg pins s1 σ H1 x v _ I1 r1 q1) fun _ s2 q => q
theorem ps_set {i : Nat} {x : Str} {e : Expr} {te : TE} {pos' : Pos} (hN : X.N.Nodup) (hi : X.N[i]? = some x) (hx : Loc X.env.scope x) (he : PE X e te) (hs : swapsWith e (some (.Name x pos')) pos.line X.env = pure false := by rfl) (hf : X.fn x = true \/ X.env.scope.names.lookup x = some .local := by first | exact .inl rfl | exact .inr rfl | assumption) :
  PS X (.Assign [.Name x pos'] e pos) (tAsg te (gName i)) := by
 intro pins s σ H D I h
 refine wpAny_Assign_Name (thn (he pins s σ H _ I h) fun v s1 ⟨y, H1, I1, r1, q1⟩ => ?_) hs
 exact XR I1 hN hi hx r1 (fun s2 I2 => ⟨_, H1, I2, q1⟩) hf
end
section
variable {X : Cx} {pos : Pos}
def tWhile (c : TT) (tb : TS) : TS := fun D σ H => ∃ W : Nat -> St -> Hp -> Prop, (∃ m, W m σ H) /\ ∀ m σ H, W m σ H ->
 c σ H fun b H1 => if b = true then ∃ N : St -> Hp -> Prop, (∀ σ' H', N σ' H' -> ∃ m', m' < m /\ W m' σ' H') /\ tb { D with nx := N, ct := N, bk := D.nx } σ H1 else D.nx σ H1
theorem ps_while {c : Expr} {body : List Stmt} {tc : TT} {tb : TS} (hp : PassesOwn (model X.prog X.w) X.A X.env X.xe) (hc : PT X c tc) (hb : PSs X body tb) : PS X (.While c body [] pos) (tWhile tc tb) := by
 intro pins s σ H D I h
 obtain ⟨W, ⟨m0, w0⟩, turn⟩ := h
 refine wpAny_While (codeAny_whileLoop (fun n s' => ∃ σ' H', Inv X pins σ' H' s' /\ W n σ' H') ?_ m0 ⟨σ, H, I, w0⟩)
 rintro n s1 ⟨σ1, H1, I1, w1⟩
 refine wpAny_passesOwn hp (thn (hc pins s1 σ1 H1 _ I1 (turn n σ1 H1 w1)) fun b s2 ⟨H2, I2, q2⟩ => ?_)
 cases b with
 | true =>
  obtain ⟨N, hN, q2⟩ := q2
  rw [if_pos rfl]
  refine wpAny_passesOwn hp (thn (hb pins s2 σ1 H2 _ I2 q2) fun f s3 q3 => ?_)
  cases f with
  | next =>
   obtain ⟨σ3, H3, I3, n3⟩ := q3
   obtain ⟨m', hm, w3⟩ := hN σ3 H3 n3
   exact ⟨m', hm, σ3, H3, I3, w3⟩
  | cont =>
   obtain ⟨σ3, H3, I3, n3⟩ := q3
   obtain ⟨m', hm, w3⟩ := hN σ3 H3 n3
   exact ⟨m', hm, σ3, H3, I3, w3⟩
  | brk => exact q3
  | ret v => exact q3
 | false =>
  rw [if_neg Bool.false_ne_true]
  exact wpAny_execs_nil ⟨σ1, H2, I2, q2⟩
end
structure It where
 go : Nat -> Hp -> Prop
 yld : Nat -> Hp -> V -> Hp -> Prop
 stop : Nat -> Hp -> Prop
def FpOk (X : Cx) (pins : List (Addr × Obj)) (H : Hp) (b : Addr) : Prop :=
 H b = none /\ b ≠ X.env.locals /\ b ∉ X.fs /\ (b ∈ X.ex \/ X.s₀.heap.objs.size <= b) /\ (∀ x c, X.env.cells.lookup x = some c -> c ≠ b) /\ ∀ p ∈ X.pn ++ pins, p.1 ≠ b
theorem Inv.fpOk {X : Cx} {pins : List (Addr × Obj)} {σ : St} {H H' : Hp} {s : Shared} {b : Addr} (I : Inv X pins σ H s) (hb : s.heap.objs.size <= b) (hn : H' b = none) : FpOk X pins H' b := by
 refine ⟨hn, Nat.ne_of_gt (Nat.lt_of_lt_of_le I.lt hb), I.nofs hb, .inr (Nat.le_trans I.sz hb), fun x c e z => ?_, fun p hp z => ?_⟩
 ·obtain ⟨v, q⟩ := I.cell x c e
  exact absurd (Nat.lt_of_lt_of_le q.lt (by rw [z]; exact hb)) (Nat.lt_irrefl _)
 ·exact absurd (Nat.lt_of_lt_of_le (Heap.lt_size (I.pin p hp).1) (by rw [z]; exact hb)) (Nat.lt_irrefl _)
structure Turn (P : Program) (w : World) (K : PySem.W.Frag) (tg : Expr) (J : It) (fp : List Addr) (it : Addr) (tn : Nat -> Heap -> Prop) : Prop where
 mem : it ∈ fp
 obj : ∀ i h, tn i h -> ∀ b ∈ fp, ∃ o, h.get? b = some o /\ ∀ v, o.data ≠ .cell v
 keep : ∀ i h h', tn i h -> (∀ b ∈ fp, ∀ o, h.get? b = some o -> h'.get? b = some o) -> tn i h'
 item : ∀ (X : Cx), X.prog = P -> X.w = w -> X.K = K -> X.calm = true -> ∀ (i : Nat) (pins : List (Addr × Obj)) (s : Shared) (σ : St) (H : Hp) (E : Value -> Shared -> Prop), Inv X pins σ H s -> (∀ b ∈ fp, FpOk X pins H b) -> tn i s.heap -> J.go i H ->
  wpAny (model P w) X.A (pyNext (.ref it)) (fun r s1 => ∃ u, r = some u /\
   wpAny (model P w) X.A (letOwnedTupleGo tg (.ref it) u) (fun _ s2 => ∃ x H', Inv X pins σ H' s2 /\ RelV x u /\ J.yld i H x H' /\ tn (i + 1) s2.heap /\ ∀ b ∈ fp, H' b = none) E s1) E s
 done : ∀ (X : Cx), X.prog = P -> X.w = w -> X.K = K -> X.calm = true -> ∀ (i : Nat) (pins : List (Addr × Obj)) (s : Shared) (σ : St) (H : Hp) (E : Value -> Shared -> Prop), Inv X pins σ H s -> (∀ b ∈ fp, FpOk X pins H b) -> tn i s.heap -> J.stop i H ->
  wpAny (model P w) X.A (pyNext (.ref it)) (fun r s1 => r = none /\ Inv X pins σ H s1) E s
 self : ∀ (A : Around) (i : Nat) (s : Shared) (Q : Value -> Shared -> Prop) (E : Value -> Shared -> Prop), tn i s.heap -> Q (.ref it) s -> wpAny (model P w) A (pyIter (.ref it)) Q E s
abbrev TI := St -> Hp -> (It -> Hp -> Prop) -> Prop
def PIE (X : Cx) (pins : List (Addr × Obj)) (σ : St) (tg : Expr) (R : It -> Hp -> Prop) (itv : Value) (s2 : Shared) : Prop :=
 ∃ (it : Addr) (fp : List Addr) (tn : Nat -> Heap -> Prop) (J : It) (H' : Hp), itv = .ref it /\ Inv X pins σ H' s2 /\ Turn X.prog X.w X.K tg J fp it tn /\ tn 0 s2.heap /\ (∀ b ∈ fp, FpOk X pins H' b) /\ R J H'
def PI (X : Cx) (tg iter : Expr) (wi : TI) : Prop :=
 ∀ (pins : List (Addr × Obj)) (s : Shared) (σ : St) (H : Hp) (R : It -> Hp -> Prop), Inv X pins σ H s -> wi σ H R ->
  wpAny (model X.prog X.w) X.A (eval iter X.env) (fun v s1 => wpAny (model X.prog X.w) X.A (pyIter v) (PIE X pins σ tg R) X.xe s1) X.xe s
theorem go_of {M : Model} {A : Around} {E : Value -> Shared -> Prop} {s : Shared} {tg : Expr} {it : Addr} {u : Value} {o : Obj} {n : String} {vs : Array Value} {Q : Unit -> Shared -> Prop} (ho : s.heap.get? it = some o) (hc : o.cls = .type n) (hd : o.data = .fields vs)
  (hn : ["enumerate", "zip", "dict_itemiterator", "dict_reverseitemiterator", "odict_iterator", "itertools.zip_longest", "itertools.pairwise"].contains n = false) (hQ : Q () s) : wpAny M A (letOwnedTupleGo tg (.ref it) u) Q E s := by
 unfold letOwnedTupleGo
 cases tg <;> first
  | exact wpAny_pure hQ
  | (cases u <;> first
    | exact wpAny_pure hQ
    | (refine wpAny_bind (wpAny_load ho ?_)
       rw [hc, hd]
       show wpAny M A (if (["enumerate", "zip", "dict_itemiterator", "dict_reverseitemiterator", "odict_iterator", "itertools.zip_longest", "itertools.pairwise"].contains n && vs[0]? == some (rawInt _)) = true then _ else _) Q E s
       rw [if_neg (by intro h; rw [hn, Bool.false_and] at h; cases h)]
       exact wpAny_pure hQ))
def Itl (K : PySem.W.Frag) (a : Addr) : It :=
 ⟨fun i H => ∃ xs x, SqL K H a xs /\ xs[i]? = some x, fun i H x H' => H' = H /\ ∀ xs, SqL K H a xs -> xs[i]? = some x, fun i H => ∃ xs, SqL K H a xs /\ xs.length <= i⟩
def Itt (K : PySem.W.Frag) (a : Addr) : It :=
 ⟨fun i H => ∃ xs x, SqT K H a xs /\ xs[i]? = some x, fun i H x H' => H' = H /\ ∀ xs, SqT K H a xs -> xs[i]? = some x, fun i H => ∃ xs, SqT K H a xs /\ xs.length <= i⟩
def Itr (lo : Int) (n : Nat) : It := ⟨fun i _ => i < n, fun i H x H' => H' = H /\ x = .int (lo + i), fun i _ => n <= i⟩
theorem Uo {P : Program} {w : World} {K : PySem.W.Frag} {tg : Expr} (a it : Addr) : Turn P w K tg (Itl K a) [it] it (fun i h => h.IsListIter it a i) where
 mem := by simp
 obj := fun i h st b hb => by
  have e : b = it := by simpa using hb
  subst e
  obtain ⟨o, e, c, d⟩ := st
  exact ⟨o, e, fun v z => by rw [d] at z; cases z⟩
 keep := fun i h h' st k => st.at fun o e => k it (by simp) o e
 item := by
  intro X hP hw hK hc i pins s σ H E I hf st hg
  subst hP hw hK
  obtain ⟨xs, x, hq, hx⟩ := hg
  obtain ⟨its, rv, p, hz⟩ := I.list hq
  obtain ⟨u, hu, ru⟩ := rv.get hx
  obtain ⟨f0, f1, f2, f3, f4, f5⟩ := hf it (by simp)
  refine wpAny_pyNext_list_item st p.isList (x := u) (by simpa using hu) fun h' st' sb => ?_
  have I1 : Inv X pins σ H { s with heap := h' } := I.turned (t' := s.toks) (fun b o hb e => (sb.2 b hb).trans e) f0 f1 f3 f4 f5
  obtain ⟨o, e, c, d⟩ := id st'
  exact ⟨u, rfl, go_of (s := { s with heap := h' }) e c d (by decide) ⟨x, H, I1, ru, ⟨rfl, fun ys hy => by rw [I.list_inj hy hq]; exact hx⟩, st', fun b hb => (hf b hb).1⟩⟩
 done := by
  intro X hP hw hK hc i pins s σ H E I hf st hg
  subst hP hw hK
  obtain ⟨xs, hq, hx⟩ := hg
  obtain ⟨its, rv, p, hz⟩ := I.list hq
  obtain ⟨f0, f1, f2, f3, f4, f5⟩ := hf it (by simp)
  have hl := rv.length
  exact wpAny_pyNext_list_end (I.ok.hd hc) st p.isList (by simp; omega) fun h' eb => ⟨rfl, I.turned (t' := s.toks) (fun b o hb e => eb b o hb e) f0 f1 f3 f4 f5⟩
 self := fun _ _ _ _ _ st h => wpAny_pyIter_listiter st h
theorem VY {P : Program} {w : World} {K : PySem.W.Frag} {tg : Expr} (a it : Addr) : Turn P w K tg (Itt K a) [it] it (fun i h => h.IsTupleIter it a i) where
 mem := by simp
 obj := fun i h st b hb => by
  have e : b = it := by simpa using hb
  subst e
  obtain ⟨o, e, c, d⟩ := st
  exact ⟨o, e, fun v z => by rw [d] at z; cases z⟩
 keep := fun i h h' st k => st.at fun o e => k it (by simp) o e
 item := by
  intro X hP hw hK hc i pins s σ H E I hf st hg
  subst hP hw hK
  obtain ⟨xs, x, hq, hx⟩ := hg
  obtain ⟨its, rv, p, hz⟩ := I.tuple hq
  obtain ⟨u, hu, ru⟩ := rv.get hx
  obtain ⟨f0, f1, f2, f3, f4, f5⟩ := hf it (by simp)
  refine wpAny_pyNext_tuple_item st (show s.heap.IsTuple a its.toArray from p) (x := u) (by simpa using hu) fun h' st' sb => ?_
  have I1 : Inv X pins σ H { s with heap := h' } := I.turned (t' := s.toks) (fun b o hb e => (sb.2 b hb).trans e) f0 f1 f3 f4 f5
  obtain ⟨o, e, c, d⟩ := id st'
  exact ⟨u, rfl, go_of (s := { s with heap := h' }) e c d (by decide) ⟨x, H, I1, ru, ⟨rfl, fun ys hy => by rw [I.tuple_inj hy hq]; exact hx⟩, st', fun b hb => (hf b hb).1⟩⟩
 done := by
  intro X hP hw hK hc i pins s σ H E I hf st hg
  subst hP hw hK
  obtain ⟨xs, hq, hx⟩ := hg
  obtain ⟨its, rv, p, hz⟩ := I.tuple hq
  obtain ⟨f0, f1, f2, f3, f4, f5⟩ := hf it (by simp)
  have hl := rv.length
  exact wpAny_pyNext_tuple_end (I.ok.hd hc) st (show s.heap.IsTuple a its.toArray from p) (by simp; omega) fun h' eb => ⟨rfl, I.turned (t' := s.toks) (fun b o hb e => eb b o hb e) f0 f1 f3 f4 f5⟩
 self := fun _ _ _ _ _ st h => wpAny_pyIter_tupleiter st h
theorem VZ {P : Program} {w : World} {K : PySem.W.Frag} {tg : Expr} (it : Addr) (lo : Int) (n : Nat) : Turn P w K tg (Itr lo n) [it] it (fun i h => IsRangeIter h it (lo + (i : Nat) * 1) ((n : Int) - (i : Nat)) 1) where
 mem := by simp
 obj := fun i h st b hb => by
  have e : b = it := by simpa using hb
  subst e
  exact ⟨_, st, fun v z => by
   have z' : Data.fields _ = Data.cell v := z
   cases z'⟩
 keep := fun i h h' st k => k it (by simp) _ st
 item := by
  intro X hP hw hK hc i pins s σ H E I hf st hg
  subst hP hw hK
  obtain ⟨f0, f1, f2, f3, f4, f5⟩ := hf it (by simp)
  have W := Walks.range (prog := X.prog) (w := X.w) (I.ok.hd hc) it lo 1 n
  refine W.item i s _ _ hg st fun v h' tk hv st' kk => ?_
  obtain ⟨t, rfl⟩ := hv
  have I1 : Inv X pins σ H { s with heap := h', toks := tk } := I.turned (fun b o hb e => kk b o (by simpa using hb) e) f0 f1 f3 f4 f5
  refine ⟨_, rfl, go_of (s := { s with heap := h', toks := tk }) (n := "range_iterator") st' rfl rfl (by decide) ⟨.int (lo + i), H, I1, ⟨t, ?_⟩, ⟨rfl, rfl⟩, st', fun b hb => (hf b hb).1⟩⟩
  rw [Int.mul_one]
 done := by
  intro X hP hw hK hc i pins s σ H E I hf st hg
  subst hP hw hK
  obtain ⟨f0, f1, f2, f3, f4, f5⟩ := hf it (by simp)
  exact wpAny_pyNext_range_end (I.ok.hd hc) st (by have : n <= i := hg; omega) fun h' eb => ⟨rfl, I.turned (t' := s.toks) (fun b o hb e => eb b o hb e) f0 f1 f3 f4 f5⟩
 self := fun _ _ _ _ _ st h => wpAny_pyIter_rangeiter st h
end L2
namespace L2
open PySem PySem.Spec PyProof.Rows
section
variable {X : Cx} {tg : Expr}
theorem range_it {pins : List (Addr × Obj)} {σ : St} {H : Hp} {s : Shared} {R : It -> Hp -> Prop} {E : Value -> Shared -> Prop} {lo hi : Int} {t u v : Tok} {tk : Nat} (I : Inv X pins σ H s) (h1 : -(2 ^ 62) <= lo) (h2 : lo < 2 ^ 62) (h3 : -(2 ^ 62) <= hi) (h4 : hi < 2 ^ 62)
  (q : R (Itr lo (hi - lo).toNat) H) : wpAny (model X.prog X.w) X.A (pyIter (.ref s.heap.objs.size)) (PIE X pins σ tg R) E { s with heap := s.heap.push { cls := .type "range", data := .fields #[.int lo t, .int hi u, .int 1 v] }, toks := tk } := by
 refine wpAny_pyIter_range (IsRange.new ..) (small_one h1 h2 h3 h4) ?_
 have I1 : Inv X pins σ H { s with heap := s.heap.push { cls := .type "range", data := .fields #[.int lo t, .int hi u, .int 1 v] }, toks := tk } := I.kept fun b o e => Heap.get?_push_of_some _ e
 refine ⟨(s.heap.push { cls := .type "range", data := .fields #[.int lo t, .int hi u, .int 1 v] }).objs.size, [(s.heap.push { cls := .type "range", data := .fields #[.int lo t, .int hi u, .int 1 v] }).objs.size], _, _, H, rfl,
  I1.kept (t' := tk) fun b o e => Heap.get?_push_of_some _ e, VZ _ lo (hi - lo).toNat, ?_, fun b hb => ?_, q⟩
 ·have e1 : lo + ((0 : Nat) : Int) * 1 = lo := by simp
  have e2 : (((hi - lo).toNat : Nat) : Int) - ((0 : Nat) : Int) = Builtin.Range.rangeSize lo hi 1 := by rw [rangeSize_one]; split <;> omega
  show IsRangeIter _ _ (lo + ((0 : Nat) : Int) * 1) ((((hi - lo).toNat : Nat) : Int) - ((0 : Nat) : Int)) 1
  rw [e1, e2]
  exact Heap.get?_push_size _ rfl
 ·have e : b = (s.heap.push { cls := .type "range", data := .fields #[.int lo t, .int hi u, .int 1 v] }).objs.size := by simpa using hb
  subst e
  exact I1.fpOk (Nat.le_refl _) (I1.hok.fresh (Nat.le_refl _))
def iRng1 (ta : TA) : TI := fun σ H R => ta σ H fun vs H1 => ∃ j : Int, vs = [.int j] /\ -(2 ^ 62) <= j /\ j < 2 ^ 62 /\ R (Itr 0 j.toNat) H1
theorem UD {a : Expr} {ta : TA} {p pos : Pos} (hg : Gl X "range") (hm : X.mg "range" = none) (ha : PA X [a] ta) (hs : starEach [a] X.env = [(false, eval a X.env)] := by rfl) : PI X tg (.Call (.Name "range" p) [a] [] pos) (iRng1 ta) := by
 intro pins s σ H R I h
 refine Call_ (VI I hg hm boot_range (PyProof.Rows.callWith_type1 (thn (ha pos pins s σ H _ I h) fun us s1 ⟨vs, H1, I1, r1, q1⟩ => ?_) hs rfl))
 obtain ⟨j, e, q1, q2, q⟩ := q1
 subst e
 cases r1 with
 | cons r rr =>
  cases rr
  obtain ⟨t, rfl⟩ := r
  exact call_range_1 (range_it I1 (by omega) (by omega) q1 q2 (by simpa using q))
def tFor (wi : TI) (g : TG) (tb : TS) : TS := fun D σ H => wi σ H fun J H1 => ∃ W : Nat -> Nat -> St -> Hp -> Prop, (∃ m, W 0 m σ H1) /\ ∀ i m σ H, W i m σ H ->
 (J.stop i H /\ D.nx σ H) \/ (J.go i H /\ ∃ N : St -> Hp -> Prop, (∀ σ' H', N σ' H' -> ∃ m', m' < m /\ W (i + 1) m' σ' H') /\ ∀ x H', J.yld i H x H' -> g x σ H' fun σ2 H2 => tb { D with nx := N, ct := N, bk := D.nx } σ2 H2)
def ZF (fp : List Addr) (h : Heap) : List (Addr × Obj) := fp.filterMap fun b => (h.get? b).map fun o => (b, o)
theorem Yw {fp : List Addr} {h : Heap} {b : Addr} {o : Obj} (hb : b ∈ fp) (e : h.get? b = some o) : (b, o) ∈ ZF fp h := List.mem_filterMap.mpr ⟨b, hb, by rw [e]; rfl⟩
theorem UI {fp : List Addr} {h : Heap} {p : Addr × Obj} (hp : p ∈ ZF fp h) : p.1 ∈ fp /\ h.get? p.1 = some p.2 := by
 obtain ⟨b, hb, e⟩ := List.mem_filterMap.mp hp
 cases q : h.get? b with
 | none => rw [q] at e; cases e
 | some o =>
  rw [q] at e
  have e' : (b, o) = p := Option.some.inj e
  subst e'
  exact ⟨hb, q⟩
theorem Inv.pinned {pins : List (Addr × Obj)} {σ : St} {H : Hp} {s : Shared} {fp : List Addr} (I : Inv X pins σ H s) (hf : ∀ b ∈ fp, FpOk X pins H b) (ho : ∀ b ∈ fp, ∃ o, s.heap.get? b = some o /\ ∀ v, o.data ≠ .cell v) : Inv X (pins ++ ZF fp s.heap) σ H s :=
 I.pins_of fun p hp => (List.mem_append.mp hp).elim (fun z => I.pin p (List.mem_append_right _ z)) fun z => by
  obtain ⟨hb, e⟩ := UI z
  obtain ⟨f0, f1, f2, _⟩ := hf p.1 hb
  obtain ⟨o, e', d⟩ := ho p.1 hb
  rw [e] at e'; cases e'
  exact ⟨e, f0, f1, f2, d⟩
theorem Inv.unpinned {pins pl : List (Addr × Obj)} {σ : St} {H : Hp} {s : Shared} (I : Inv X (pins ++ pl) σ H s) : Inv X pins σ H s := I.pins_of fun p hp => I.pin p (List.mem_append_right _ (List.mem_append_left _ hp))
theorem ps_for {iter : Expr} {body : List Stmt} {wi : TI} {g : TG} {tb : TS} {pos : Pos} (hp : PassesOwn (model X.prog X.w) X.A X.env X.xe) (hc : X.calm = true) (hi : PI X tg iter wi) (hg : PG X tg g) (hb : PSs X body tb)
  (hs : ∀ x, foldedSetIterable iter X.env x = pure x := by intro _; rfl) : PS X (.For tg iter body [] pos) (tFor wi g tb) := by
 intro pins s σ H D I h
 refine wpAny_For (thn (hi pins s σ H _ I h) fun v s1 h1 => thn h1 fun itv s2 h2 => ?_) hs
 obtain ⟨it, fp, tn, J, H2, e, I2, T, st2, f2, W, ⟨m0, w0⟩, turn⟩ := h2
 subst e
 -- what stays true of the iterator's objects through the loop
 have stat : ∀ {H' : Hp}, (∀ b ∈ fp, H' b = none) -> ∀ b ∈ fp, FpOk X pins H' b := fun hn b hb => ⟨hn b hb, (f2 b hb).2⟩
 refine codeAny_forLoop_any (fun n s' => ∃ i σ' H', Inv X pins σ' H' s' /\ tn i s'.heap /\ (∀ b ∈ fp, H' b = none) /\ W i n σ' H') ?_ m0 ⟨0, σ, H2, I2, st2, fun b hb => (f2 b hb).1, w0⟩
 rintro n s3 ⟨i, σ3, H3, I3, st3, fr3, w3⟩
 rcases turn i n σ3 H3 w3 with ⟨stop, qn⟩ | ⟨go, N, hN, step⟩
 ·refine wpAny_passesOwn hp (thn (T.done X rfl rfl rfl hc i pins s3 σ3 H3 X.xe I3 (stat fr3) st3 stop) fun r s4 ⟨hr, I4⟩ => ?_)
  subst hr
  exact wpAny_execs_nil ⟨σ3, H3, I4, qn⟩
 ·refine wpAny_passesOwn hp (thn (T.item X rfl rfl rfl hc i pins s3 σ3 H3 X.xe I3 (stat fr3) st3 go) fun r s4 ⟨u, hr, h4⟩ => ?_)
  subst hr
  refine wpAny_passesOwn hp (thn h4 fun _ s5 ⟨x, H5, I5, r5, y5, st5, fr5⟩ => ?_)
  have I5' := I5.pinned (stat fr5) (T.obj _ _ st5)
  refine wpAny_passesOwn hp (thn (hg _ s5 σ3 H5 x u _ I5' r5 (step x H5 y5)) fun _ s6 ⟨σ6, H6, I6, q6⟩ => ?_)
  refine wpAny_passesOwn hp (thn (hb _ s6 σ6 H6 _ I6 q6) fun f s7 q7 => ?_)
  have again : ∀ {σ7 : St} {H7 : Hp}, Inv X (pins ++ ZF fp s5.heap) σ7 H7 s7 -> N σ7 H7 -> ∃ m, m < n /\ ∃ i σ' H', Inv X pins σ' H' s7 /\ tn i s7.heap /\ (∀ b ∈ fp, H' b = none) /\ W i m σ' H' := fun {σ7 H7} I7 n7 => by
   obtain ⟨m', hm, w7⟩ := hN σ7 H7 n7
   refine ⟨m', hm, i + 1, σ7, H7, I7.unpinned, T.keep _ _ _ st5 fun b hb o e => (I7.pin (b, o) (List.mem_append_right _ (List.mem_append_right _ (Yw hb e)))).1, fun b hb => ?_, w7⟩
   obtain ⟨o, e, d⟩ := T.obj _ _ st5 b hb
   exact (I7.pin (b, o) (List.mem_append_right _ (List.mem_append_right _ (Yw hb e)))).2.1
  cases f with
  | next => obtain ⟨σ7, H7, I7, n7⟩ := q7; exact again I7 n7
  | cont => obtain ⟨σ7, H7, I7, n7⟩ := q7; exact again I7 n7
  | brk => obtain ⟨σ7, H7, I7, q7⟩ := q7; exact ⟨σ7, H7, I7.unpinned, q7⟩
  | ret v => obtain ⟨x7, σ7, H7, I7, r7, q7⟩ := q7; exact ⟨x7, σ7, H7, I7.unpinned, r7, q7⟩
end
end L2
namespace L2
open PySem PySem.Spec PyProof.Rows
abbrev R2 := V -> V -> Hp -> VK -> Prop
def OpR (X : Cx) (f : Value -> Value -> Sem Value) (r : R2) : Prop :=
 ∀ (pins : List (Addr × Obj)) (s : Shared) (σ : St) (H : Hp) (x y : V) (v u : Value) (Q : VK), Inv X pins σ H s -> RelV x v -> RelV y u -> r x y H Q ->
  wpAny (model X.prog X.w) X.A (f v u) (EP X pins σ Q) X.xe s
def UnR (X : Cx) (f : Value -> Sem Value) (r : V -> Hp -> VK -> Prop) : Prop :=
 ∀ (pins : List (Addr × Obj)) (s : Shared) (σ : St) (H : Hp) (x : V) (v : Value) (Q : VK), Inv X pins σ H s -> RelV x v -> r x H Q ->
  wpAny (model X.prog X.w) X.A (f v) (EP X pins σ Q) X.xe s
def Wm (X : Cx) (f : Value) (r : List V -> Hp -> VK -> Prop) : Prop :=
 ∀ (pins : List (Addr × Obj)) (s : Shared) (σ : St) (H : Hp) (xs : List V) (us : List Value) (Q : VK), Inv X pins σ H s -> Vals xs us -> r xs H Q ->
  wpAny (model X.prog X.w) X.A (call f us) (EP X pins σ Q) X.xe s
def TruR (X : Cx) (r : V -> Hp -> (Bool -> Hp -> Prop) -> Prop) : Prop :=
 ∀ (pins : List (Addr × Obj)) (s : Shared) (σ : St) (H : Hp) (x : V) (v : Value) (Q : Bool -> Hp -> Prop), Inv X pins σ H s -> RelV x v -> r x H Q ->
  wpAny (model X.prog X.w) X.A (truthy v) (TP X pins σ Q) X.xe s
def tOp (r : R2) (ta tb : TE) : TE := fun σ H Q => ta σ H fun x H1 => tb σ H1 fun y H2 => r x y H2 Q
def tUn (r : V -> Hp -> VK -> Prop) (ta : TE) : TE := fun σ H Q => ta σ H fun x H1 => r x H1 Q
def rI (C : Int -> Int -> Prop) (g : Int -> Int -> V) : R2 := fun x y H Q => ∃ i j, x = .int i /\ y = .int j /\ C i j /\ Q (g i j) H
def rI0 (g : Int -> Int -> V) : R2 := fun x y H Q => ∃ i j, x = .int i /\ y = .int j /\ Q (g i j) H
def rU (g : Int -> V) : V -> Hp -> VK -> Prop := fun x H Q => ∃ i, x = .int i /\ Q (g i) H
section
variable {X : Cx} {a b c : Expr} {ta tb tc : TE} {pos : Pos}
theorem binT (ha : PE X a ta) (hb : PE X b tb) {pins : List (Addr × Obj)} {s : Shared} {σ : St} {H : Hp} {R : V -> V -> Hp -> Prop} (I : Inv X pins σ H s)
  (h : ta σ H fun x H1 => tb σ H1 fun y H2 => R x y H2) {Q : Value -> Shared -> Prop} {f : Value -> Value -> Sem Value}
  (hf : ∀ v u s2 x y H2, Inv X pins σ H2 s2 -> RelV x v -> RelV y u -> R x y H2 -> wpAny (model X.prog X.w) X.A (f v u) Q X.xe s2) :
  wpAny (model X.prog X.w) X.A (eval a X.env) (fun v s₁ => wpAny (model X.prog X.w) X.A (eval b X.env) (fun u s₂ => wpAny (model X.prog X.w) X.A (f v u) Q X.xe s₂) X.xe s₁) X.xe s := by
 refine thn (ha pins s σ H _ I h) fun v s1 ⟨x, H1, I1, r1, q1⟩ => ?_
 refine thn (hb pins s1 σ H1 _ I1 q1) fun u s2 ⟨y, H2, I2, r2, q2⟩ => ?_
 exact hf v u s2 x y H2 I2 r1 r2 q2
theorem pe_op {op : Operator} {r : R2} (ho : OpR X (binaryOp op) r) (ha : PE X a ta) (hb : PE X b tb) : PE X (.BinOp a op b pos) (tOp r ta tb) := by
 intro pins s σ H Q I h
 exact wpAny_BinOp (binT ha hb I h fun v u s2 x y H2 I2 rx ry q => ho pins s2 σ H2 x y v u Q I2 rx ry q)
theorem pe_un {op : UnaryOp} {r : V -> Hp -> VK -> Prop} (ho : UnR X (unaryOp op) r) (ha : PE X a ta) : PE X (.UnaryOp op a pos) (tUn r ta) := by
 intro pins s σ H Q I h
 exact UnaryOp_ (thn (ha pins s σ H _ I h) fun v s1 ⟨x, H1, I1, r1, q1⟩ => ho pins s1 σ H1 x v Q I1 r1 q1)
theorem opI {f : Value -> Value -> Sem Value} {C : Int -> Int -> Prop} {g : Int -> Int -> Int}
  (rule : ∀ (i j : Int) (t u : Tok) (s : Shared) (Q : Value -> Shared -> Prop) (E : Value -> Shared -> Prop), C i j -> Q (.int (g i j) s.toks) { s with toks := s.toks + 1 } -> wpAny (model X.prog X.w) X.A (f (.int i t) (.int j u)) Q E s) :
  OpR X f (rI C fun i j => .int (g i j)) := by
 intro pins s σ H x y v u Q I rx ry h
 obtain ⟨i, j, rfl, rfl, hc, q⟩ := h
 obtain ⟨t, rfl⟩ := rx
 obtain ⟨t', rfl⟩ := ry
 exact rule i j t t' s _ _ hc ⟨.int (g i j), H, I.tok _, ⟨_, rfl⟩, q⟩
theorem opI0 {f : Value -> Value -> Sem Value} {g : Int -> Int -> Int}
  (rule : ∀ (i j : Int) (t u : Tok) (s : Shared) (Q : Value -> Shared -> Prop) (E : Value -> Shared -> Prop), Q (.int (g i j) s.toks) { s with toks := s.toks + 1 } -> wpAny (model X.prog X.w) X.A (f (.int i t) (.int j u)) Q E s) :
  OpR X f (rI0 fun i j => .int (g i j)) := by
 intro pins s σ H x y v u Q I rx ry h
 obtain ⟨i, j, rfl, rfl, q⟩ := h
 obtain ⟨t, rfl⟩ := rx
 obtain ⟨t', rfl⟩ := ry
 exact rule i j t t' s _ _ ⟨.int (g i j), H, I.tok _, ⟨_, rfl⟩, q⟩
theorem opB0 {f : Value -> Value -> Sem Value} {g : Int -> Int -> Bool}
  (rule : ∀ (i j : Int) (t u : Tok) (s : Shared) (Q : Value -> Shared -> Prop) (E : Value -> Shared -> Prop), Q (.bool (g i j)) s -> wpAny (model X.prog X.w) X.A (f (.int i t) (.int j u)) Q E s) :
  OpR X f (rI0 fun i j => .bl (g i j)) := by
 intro pins s σ H x y v u Q I rx ry h
 obtain ⟨i, j, rfl, rfl, q⟩ := h
 obtain ⟨t, rfl⟩ := rx
 obtain ⟨t', rfl⟩ := ry
 exact rule i j t t' s _ _ ⟨.bl (g i j), H, I, rfl, q⟩
theorem op_add : OpR X (binaryOp .Add) (rI0 fun i j => .int (i + j)) := opI0 fun _ _ _ _ _ _ _ q => add_int q
theorem op_sub : OpR X (binaryOp .Sub) (rI0 fun i j => .int (i - j)) := opI0 fun _ _ _ _ _ _ _ q => sub_int q
theorem op_modN : OpR X (binaryOp .Mod) (rI (fun _ j => j ≠ 0) fun i j => .int (i.fmod j)) := opI fun _ _ _ _ _ _ _ hc q => mod_int' hc q
theorem unI {f : Value -> Sem Value} {g : Int -> Int}
  (rule : ∀ (i : Int) (t : Tok) (s : Shared) (Q : Value -> Shared -> Prop) (E : Value -> Shared -> Prop), Q (.int (g i) s.toks) { s with toks := s.toks + 1 } -> wpAny (model X.prog X.w) X.A (f (.int i t)) Q E s) :
  UnR X f (rU fun i => .int (g i)) := by
 intro pins s σ H x v Q I rx h
 obtain ⟨i, rfl, q⟩ := h
 obtain ⟨t, rfl⟩ := rx
 exact rule i t s _ _ ⟨.int (g i), H, I.tok _, ⟨_, rfl⟩, q⟩
theorem un_neg : UnR X (unaryOp .USub) (rU fun i => .int (-i)) := unI fun _ _ _ _ _ q => neg_int q
end
section
variable {X : Cx} {a b c : Expr} {ta tb tc : TE} {pos : Pos}
theorem op_lt : OpR X (compareOp .Lt) (rI0 fun i j => .bl (decide (i < j))) := opB0 fun _ _ _ _ _ _ _ q => lt_int q
theorem op_gt : OpR X (compareOp .Gt) (rI0 fun i j => .bl (decide (j < i))) := opB0 fun _ _ _ _ _ _ _ q => gt_int q
theorem op_ge : OpR X (compareOp .GtE) (rI0 fun i j => .bl (decide (j <= i))) := opB0 fun _ _ _ _ _ _ _ q => ge_int q
theorem OpR.or {f : Value -> Value -> Sem Value} {r r' : R2} (h : OpR X f r) (h' : OpR X f r') : OpR X f (fun x y H Q => r x y H Q \/ r' x y H Q) := by
 intro pins s σ H x y v u Q I rx ry q
 rcases q with q | q
 ·exact h pins s σ H x y v u Q I rx ry q
 ·exact h' pins s σ H x y v u Q I rx ry q
theorem ZV (b : Expr) {op : CmpOp} (h : op ≠ .In := by decide) (h2 : op ≠ .NotIn := by decide) : behindInMarks op b = false := by
 have e1 : (op == CmpOp.In) = false := by cases op <;> first | rfl | exact absurd rfl h
 have e2 : (op == CmpOp.NotIn) = false := by cases op <;> first | rfl | exact absurd rfl h2
 cases b <;> simp [behindInMarks, e1, e2]
theorem pe_cmpR {op : CmpOp} {r : R2} (ho : OpR X (compareOp op) r) (ha : PE X a ta) (hb : PE X b tb) (hm : behindInMarks op b = false) : PE X (.Compare a [op] [b] pos) (tOp r ta tb) := by
 intro pins s σ H Q I h
 exact wpAny_Compare1 (binT ha hb I h fun v u s2 x y H2 I2 rx ry q => ho pins s2 σ H2 x y v u Q I2 rx ry q) hm
def tTest (t : TE) : TT := fun σ H Q => t σ H fun x H' => ∃ k, x = .bl k /\ Q k H'
theorem pt_cmpR {op : CmpOp} {r : R2} (ho : OpR X (compareOp op) r) (ha : PE X a ta) (hb : PE X b tb) (hm : behindInMarks op b = false) : PT X (.Compare a [op] [b] pos) (tTest (tOp r ta tb)) := by
 intro pins s σ H Q I h
 refine wpAny_isTrue_Compare1 (thn (ha pins s σ H _ I h) fun v s1 ⟨x, H1, I1, r1, q1⟩ => thn (hb pins s1 σ H1 _ I1 q1) fun u s2 ⟨y, H2, I2, r2, q2⟩ =>
  thn (ho pins s2 σ H2 x y v u _ I2 r1 r2 q2) fun c s3 ⟨z, H3, I3, r3, k, e, q3⟩ => ?_) hm
 subst e
 cases r3
 exact wpAny_truthy_bool ⟨H3, I3, q3⟩
def TruV (K : PySem.W.Frag) (x : V) (H : Hp) (k : Bool) : Prop :=
 match x with
 | .non => k = false
 | .bl b => k = b
 | .int i => k = (i != 0)
 | .str y => y.length <= sizeLine /\ k = ((y.length : Int) != 0)
 | .byt y => y.size <= sizeLine /\ k = ((y.size : Int) != 0)
 | .ref p => (∃ xs, SqL K H p xs /\ k = !xs.isEmpty) \/ (∃ xs, SqT K H p xs /\ k = !xs.isEmpty) \/ ∃ kvs, H p = some (.dK kvs) /\ k = !kvs.isEmpty
 | _ => False
theorem Ub {κ : Type} {kvs : List (κ × V)} {vs : List (κ × Value)} (r : KV kvs vs) : (!vs.isEmpty) = !kvs.isEmpty := by
 cases r <;> rfl
theorem Wo {xs : List V} {its : List Value} (r : Vals xs its) : (!its.toArray.isEmpty) = !xs.isEmpty := by
 cases r <;> simp
theorem WV : (sizeLine : Nat) < 2 ^ 63 := by rw [sizeLine_eq]; decide
theorem tru_ok : TruR X (fun x H Q => ∃ k, TruV X.K x H k /\ Q k H) := by
 intro pins s σ H x v Q I rx h
 obtain ⟨k, e, q⟩ := h
 have hl := WV
 have hs : sizeLine = 16777216 := sizeLine_eq
 cases x with
 | non =>
  cases rx
  have e' : k = false := e
  subst e'
  exact truthy_none ⟨H, I, q⟩
 | bl b =>
  cases rx
  have e' : k = b := e
  subst e'
  exact wpAny_truthy_bool ⟨H, I, q⟩
 | int i =>
  obtain ⟨t, rfl⟩ := rx
  have e' : k = (i != 0) := e
  subst e'
  exact PySem.P.truthy_int ⟨H, I, q⟩
 | str y =>
  obtain ⟨t, rfl⟩ := rx
  obtain ⟨hy, e'⟩ : y.length <= sizeLine /\ k = ((y.length : Int) != 0) := e
  subst e'
  exact PySem.P.truthy_str (by omega) ⟨H, I.tok _, q⟩
 | byt y =>
  obtain ⟨t, rfl⟩ := rx
  obtain ⟨hy, e'⟩ : y.size <= sizeLine /\ k = ((y.size : Int) != 0) := e
  subst e'
  exact PySem.W.truthy_bytes (by omega) ⟨H, I.tok _, q⟩
 | ref p =>
  cases rx
  have e' : (∃ xs, SqL X.K H p xs /\ k = !xs.isEmpty) \/ (∃ xs, SqT X.K H p xs /\ k = !xs.isEmpty) \/ ∃ kvs, H p = some (.dK kvs) /\ k = !kvs.isEmpty := e
  rcases e' with ⟨xs, hx, e'⟩ | ⟨xs, hx, e'⟩ | ⟨kvs, hx, e'⟩
  ·subst e'
   obtain ⟨its, r, pl, hz⟩ := I.list hx
   have hlen := r.length
   exact wpAny_truthy_list pl.isList (by simp only [List.size_toArray]; omega) ⟨H, I.tok _, by rw [Wo r]; exact q⟩
  ·subst e'
   obtain ⟨its, r, pl, hz⟩ := I.tuple hx
   have hlen := r.length
   exact truthy_tuple pl (by simp only [List.size_toArray]; omega) ⟨H, I.tok _, by rw [Wo r]; exact q⟩
  ·subst e'
   obtain ⟨hz, hS, vs, r, m⟩ : kvs.length <= sizeLine /\ (p == sysModules) = false /\ ∃ vs, KV kvs vs /\ s.heap.DictOf (WB X.prog X.w) p vs := I.hok p _ hx
   have hlen : kvs.length = vs.length := Paired.length r
   exact wpAny_truthy_dict hS m (by omega) ⟨H, I.tok _, by rw [Ub r]; exact q⟩
 | _ => exact (show False from e).elim
theorem pt_truth (ha : PE X a ta) (he : ∀ whole, isTrue a X.env whole = (do let v <- whole; standAt a.pos; holding [v] (truthy v))) :
  PT X a (fun σ H Q => ta σ H fun x H' => ∃ k, TruV X.K x H' k /\ Q k H') := by
 intro pins s σ H Q I h
 exact isTrue_plain (thn (ha pins s σ H _ I h) fun v s1 ⟨x, H1, I1, r1, q1⟩ => tru_ok pins s1 σ H1 x v Q I1 r1 q1) (he _)
theorem Vd {x : V} {us : List Value} (r : Vals [x] us) : ∃ u, us = [u] /\ RelV x u := by
 cases r with
 | cons r1 r2 => cases r2; exact ⟨_, rfl, r1⟩
theorem vals2 {x y : V} {us : List Value} (r : Vals [x, y] us) : ∃ u w', us = [u, w'] /\ RelV x u /\ RelV y w' := by
 cases r with
 | cons r1 r2 =>
  cases r2 with
  | cons r3 r4 => cases r4; exact ⟨_, _, rfl, r1, r3⟩
theorem call_abs : Wm X (.builtin "abs") (fun xs H Q => ∃ i, xs = [.int i] /\ Q (.int (if i < 0 then -i else i)) H) := by
 intro pins s σ H xs us Q I r h
 obtain ⟨i, rfl, q⟩ := h
 obtain ⟨u, rfl, t, rfl⟩ := Vd r
 exact call_abs_int fun u tk => ⟨.int (if i < 0 then -i else i), H, I.tok _, ⟨_, rfl⟩, q⟩
theorem Qd : Wm X (.type "int") (fun xs H Q => (∃ i, xs = [.int i] /\ Q (.int i) H) \/ ∃ k, xs = [.bl k] /\ Q (.int (if k then 1 else 0)) H) := by
 intro pins s σ H xs us Q I r h
 rcases h with ⟨i, rfl, q⟩ | ⟨k, rfl, q⟩
 ·obtain ⟨u, rfl, t, rfl⟩ := Vd r
  exact call_int_int ⟨.int i, H, I, ⟨_, rfl⟩, q⟩
 ·obtain ⟨u, rfl, r1⟩ := Vd r
  cases r1
  exact call_int_bool ⟨.int (if k then 1 else 0), H, I.tok _, ⟨_, rfl⟩, q⟩
end
end L2
namespace L2
open PySem PySem.Spec PyProof.Rows
structure Cls (K : PySem.W.Frag) (C : Addr) : Prop where
 pg : PySem.W.plainGet K C Str.empty = true
 hd : PySem.W.hasDictIn K C = true
 po : PySem.W.plainOver K C = true
 sa : PySem.W.findIn K (.ref C) "__setattr__" = some (some (.builtin "object.__setattr__"))
def NoAttr (K : PySem.W.Frag) (C : Addr) (f : Str) : Prop := PySem.W.findIn K (.ref C) f = some none
end L2
namespace L2
open PySem PySem.Spec PyProof.Rows
structure Room (k : Nat) (A : Around) : Prop where
 hd : A.handled = none
 dp : A.depth + 3 * k + 5 < recursionLimit
 un : A.units + 16 * k + 200 < cLine
theorem Room.mono {j k : Nat} {A : Around} (r : Room k A) (h : j <= k) : Room j A := ⟨r.hd, by have := r.dp; omega, by have := r.un; omega⟩
theorem Room.deeper {k : Nat} {A : Around} (r : Room (k + 1) A) (env : Env) : Room k (A.deeper env) :=
 ⟨r.hd, by have := r.dp; show A.depth + 1 + 3 * k + 5 < _; omega, by have := r.un; show A.units + 3 + 16 * k + 200 < _; omega⟩
theorem Room.depth {k : Nat} {A : Around} (r : Room k A) : A.depth < recursionLimit := by have := r.dp; omega
theorem Room.units {k : Nat} {A : Around} (r : Room k A) : A.units + 64 < cLine := by have := r.un; omega
def tNil : TA := fun _ H Q => Q [] H
def tCons (ta : TE) (tr : TA) : TA := fun σ H Q => ta σ H fun x H1 => tr σ H1 fun xs H2 => Q (x :: xs) H2
section
variable {X : Cx} {e : Expr} {es : List Expr} {te : TE} {t : TA} {pos : Pos}
theorem Y2 : PA X [] tNil := fun _ _ _ _ H Q I h => Calls.spliced_nil ⟨[], H, I, .nil, h⟩
theorem Ye (ha : PE X e te) (hr : PA X es t) (hs : starEach (e :: es) X.env = (false, eval e X.env) :: starEach es X.env := by rfl) : PA X (e :: es) (tCons te t) := by
 intro pos pins s σ H Q I h
 rw [hs]
 show wpAny _ _ (spliced ((false, eval e X.env) :: backTo pos (starEach es X.env))) _ _ s
 refine Calls.spliced_cons (thn (ha pins s σ H _ I h) fun u s1 ⟨x, H1, I1, r1, q1⟩ => ?_)
 exact thn (hr pos pins s1 σ H1 _ I1 q1) fun us s2 ⟨xs, H2, I2, r2, q2⟩ => ⟨x :: xs, H2, I2, .cons r1 r2, q2⟩
def tTup (t : TA) : TE := fun σ H Q => t σ H fun xs H1 => xs.length <= sizeLine /\ ∀ p, H1 p = none -> Q (.ref p) (upd H1 p (.tup xs))
def tLst (t : TA) : TE := fun σ H Q => t σ H fun xs H1 => xs.length <= sizeLine /\ ∀ p, H1 p = none -> Q (.ref p) (upd H1 p (.lst xs))
theorem pe_tup {x1} (h : PA X es t) : PE X (.Tuple es x1 pos) (tTup t) := by
 intro pins s σ H Q I hq
 refine wpAny_Tuple_spliced (thn (h pos pins s σ H _ I hq) fun us s1 ⟨xs, H1, I1, r, z, q⟩ => ⟨by rw [<- r.length]; exact z, ?_⟩)
 have hf : H1 s1.heap.objs.size = none := I1.hok.fresh (Nat.le_refl _)
 refine ⟨.ref s1.heap.objs.size, upd H1 s1.heap.objs.size (.tup xs), I1.laid (t' := s1.toks) (fun b u e => Heap.get?_push_of_some _ e) (Nat.le_refl _) ?_, rfl, q _ hf⟩
 exact ⟨z, us, r, ⟨_, Heap.get?_push_size _ rfl, rfl, _, rfl⟩⟩
theorem pe_lst (h : PA X es t) : PE X (.List es pos) (tLst t) := by
 intro pins s σ H Q I hq
 refine wpAny_List_spliced (thn (h pos pins s σ H _ I hq) fun us s1 ⟨xs, H1, I1, r, z, q⟩ => ⟨by rw [<- r.length]; exact z, ?_⟩)
 have hf : H1 s1.heap.objs.size = none := I1.hok.fresh (Nat.le_refl _)
 refine ⟨.ref s1.heap.objs.size, upd H1 s1.heap.objs.size (.lst xs), I1.laid (t' := s1.toks) (fun b u e => Heap.get?_push_of_some _ e) (Nat.le_refl _) ?_, rfl, q _ hf⟩
 exact ⟨z, us, 0, r, Heap.get?_push_size _ rfl⟩
end
abbrev Sp := List V -> Hp -> VK -> XK -> Prop
abbrev CXT := List Env -> Hp -> Shared -> XK -> Value -> Shared -> Prop
structure Env0 (P : Program) (w : World) (K : PySem.W.Frag) (mg : Str -> Option Value) (base : Heap) (A : Around) (outer : List Env) (s : Shared) (H : Hp) : Prop where
 frames : A.frames = some outer
 mod : Mod K mg base
 bs : ∀ b o, base.get? b = some o -> s.heap.get? b = some o /\ H b = none
 bsz : base.objs.size <= s.heap.objs.size
 funs : s.heap.FunFrames base outer
 frf : ∀ b ∈ frs outer, H b = none
 hok : HOk P w H s.heap
 bare : AllBare s.gens
def CE (outer : List Env) (P : Program) (w : World) (H : Hp) (s : Shared) (Q : VK) (u : Value) (s' : Shared) : Prop :=
 ∃ v H', s'.os = s.os /\ AllBare s'.gens /\ Un (frs outer) [] H H' s.heap s'.heap /\ HOk P w H' s'.heap /\ RelV v u /\ Q v H'
def CR (CX : CXT) (outer : List Env) (P : Program) (w : World) (H : Hp) (s : Shared) (Q : VK) (E : XK) (r : Result) (s' : Shared) : Prop :=
 match r with
 | .ok (.ret u) => CE outer P w H s Q u s'
 | .ok _ => False
 | .error e => CX outer H s E e s'
structure FnOk (P : Program) (w : World) (K : PySem.W.Frag) (mg : Str -> Option Value) (base : Heap) (CX : CXT) (k : Nat) (f : Addr) (fd : FuncData) (ps : List Str) (sp : Sp) : Prop where
 len : ∀ vs H Q E, sp vs H Q E -> vs.length = ps.length
 run : ∀ (A : Around) (outer : List Env) (s : Shared) (H : Hp) (args : Args) (us : List Value) (vs : List V) (Q : VK) (E : XK), Room k A -> Env0 P w K mg base A outer s H -> BindsTo s fd args (ps.zip us) -> Vals vs us -> sp vs H Q E ->
  codeAny (model P w) A (.call (.ref f) args) (CR CX outer P w H s Q E) s
theorem FnOk.mono {P : Program} {w : World} {K : PySem.W.Frag} {mg : Str -> Option Value} {base : Heap} {CX : CXT} {j k : Nat} {f : Addr} {fd : FuncData} {ps : List Str} {sp : Sp} (F : FnOk P w K mg base CX j f fd ps sp) (h : j <= k) :
  FnOk P w K mg base CX k f fd ps sp := ⟨F.len, fun A outer s H args us vs Q E hr => F.run A outer s H args us vs Q E (hr.mono h)⟩
section
variable {X : Cx} {pins : List (Addr × Obj)} {σ : St} {H : Hp} {s s' : Shared}
theorem Inv.env0 (I : Inv X pins σ H s) : Env0 X.prog X.w X.K X.mg X.base X.A X.stack s H :=
 ⟨I.ok.frames, I.ok.mod, I.bs, Nat.le_trans I.ok.bsz I.sz, I.stack, I.stkFree, I.hok, I.bare⟩
theorem Inv.after {Q : VK} {u : Value} (I : Inv X pins σ H s) (h : CE X.stack X.prog X.w H s Q u s') : EP X pins σ Q u s' := by
 obtain ⟨v, H', os, bare, un, hok, r, q⟩ := h
 obtain ⟨hh, g, d, t, os'⟩ := s'
 obtain rfl : os' = s.os := os
 exact ⟨v, H', I.call (h' := hh) (g' := g) (d' := d) (t' := t) (ch := []) un hok bare (fun b z => absurd z (by simp)), r, q⟩
end
def tCall (sp : Sp) (dvs : List V) (E : XK) (t : TA) : TE := fun σ H Q => t σ H fun vs H1 => sp (vs ++ dvs) H1 Q E
def YK (K : PySem.W.Frag) (fd : FuncData) (ps : List Str) (ds : List Value) : Prop :=
 ∀ (s : Shared) (us : List Value), K.In s.heap -> (us ++ ds).length = ps.length -> BindsTo s fd ⟨us, []⟩ (ps.zip (us ++ ds))
theorem YK.all {K : PySem.W.Frag} {fd : FuncData} {ps : List Str} (h : ∀ us : List Value, us.length = ps.length -> bindArgs fd ⟨us, []⟩ = pure (ps.zip us)) : YK K fd ps [] := fun s us _ hl => by
 rw [List.append_nil] at hl ⊢
 exact .of_eq (h us hl)
def VW (CX : CXT) (X : Cx) (E : XK) : Prop := ∀ (pins : List (Addr × Obj)) (σ : St) (H : Hp) (s : Shared) (e : Value) (s' : Shared), Inv X pins σ H s -> CX X.stack H s E e s' -> X.xe e s'
section
variable {X : Cx} {CX : CXT} {k : Nat} {f C : Addr} {fd : FuncData} {ps : List Str} {sp : Sp} {dvs : List V} {ds : List Value} {E : XK} {x m : Str} {p pos apos : Pos} {e o : Expr} {es : List Expr} {ta : TE} {t : TA}
theorem run_fn {pins : List (Addr × Obj)} {σ : St} {H : Hp} {s : Shared} {Q : VK} {us : List Value} {vs : List V} (F : FnOk X.prog X.w X.K X.mg X.base CX k f fd ps sp) (hr : Room k X.A) (hb : YK X.K fd ps ds) (hd : Vals dvs ds) (hx : VW CX X E)
  (I : Inv X pins σ H s) (r : Vals vs us) (h : sp (vs ++ dvs) H Q E) : wpAny (model X.prog X.w) X.A (call (.ref f) us) (EP X pins σ Q) X.xe s := by
 have r2 : Vals (vs ++ dvs) (us ++ ds) := r.append hd
 have hl : (us ++ ds).length = ps.length := by rw [<- r2.length]; exact F.len _ _ _ _ h
 refine wpAny_call (codeAny_mono (F.run X.A X.stack s H ⟨us, []⟩ (us ++ ds) (vs ++ dvs) Q E hr I.env0 (hb s us I.kIn hl) r2 h) fun r s' hq => ?_)
 cases r with
 | error e => exact hx pins σ H s e s' I hq
 | ok fl =>
  cases fl with
  | ret u => exact I.after hq
  | next => exact False.elim hq
  | brk => exact False.elim hq
  | cont => exact False.elim hq
theorem pe_call (F : FnOk X.prog X.w X.K X.mg X.base CX k f fd ps sp) (hr : Room k X.A) (hg : Gl X x) (hm : X.mg x = some (.ref f)) (hk : PySem.W.keepIn X.K (.ref f) = true) (hb : YK X.K fd ps ds) (hd : Vals dvs ds) (hx : VW CX X E)
  (ha : PA X (e :: es) t) (hdb : (x == ("__debug__" : Str)) = false := by decide) (he : starEach (e :: es) X.env = (false, eval e X.env) :: starEach es X.env := by rfl) (hpl : (backTo pos (starEach es X.env)).any (·.1) = false := by rfl) :
  PE X (.Call (.Name x p) (e :: es) [] pos) (tCall sp dvs E t) := by
 intro pins s σ H Q I h
 refine wpAny_Call_Name_kw (XD I hg hm ?_ hdb)
 refine PySem.W.callWith_K (h₀ := X.base) I.ok.mod.kin hk (thn (ha pos pins s σ H _ I h) fun us s1 ⟨vs, H1, I1, r, q⟩ => ⟨I1.kIn, ?_⟩) he hpl
 exact run_fn F hr hb hd hx I1 r q
end
structure FnScope (N P : List Str) (sc : Scope) : Prop where
 kind : sc.kind = .function
 co : sc.isCoroutine = false
 gen : sc.isGenerator = false
 nd : N.Nodup
 pre : N.take P.length = P
 par : ∀ x ∈ P, sc.names.lookup x = some .local \/ sc.names.lookup x = some .cell
 nofree : ∀ y ∈ sc.names, y.2 ≠ .free
theorem W7 {kindOf : Str -> Option NameKind} {x : Str} : ∀ {binds : List (Str × Value)} {m : Str -> Option Value}, (∀ v, (x, v) ∉ binds) -> bindL kindOf binds m x = m x
 | [], _, _ => rfl
 | (n, v) :: r, m, h => by
  unfold bindL
  rw [W7 fun w hw => h w (List.mem_cons_of_mem _ hw)]
  split
  ·have : x ≠ n := by rintro rfl; exact h v List.mem_cons_self
   simp [this]
  ·rfl
theorem Va {kindOf : Str -> Option NameKind} {x : Str} : ∀ {binds : List (Str × Value)} {m : Str -> Option Value}, (∀ v, (x, v) ∉ binds) -> bindC kindOf binds m x = m x
 | [], _, _ => rfl
 | (n, v) :: r, m, h => by
  unfold bindC
  rw [Va fun w hw => h w (List.mem_cons_of_mem _ hw)]
  split
  ·rfl
  ·have : x ≠ n := by rintro rfl; exact h v List.mem_cons_self
   simp [this]
theorem W8 {kindOf : Str -> Option NameKind} {x : Str} {v : Value} : ∀ {P : List Str} {vs : List Value} {i : Nat} {m : Str -> Option Value}, P.Nodup -> P[i]? = some x -> vs[i]? = some v -> kindOf x = some .local ->
  bindL kindOf (P.zip vs) m x = some v
 | [], _, _, _, _, h, _, _ => by simp at h
 | _ :: _, [], _, _, _, _, h, _ => by simp at h
 | p :: P, w :: vs, 0, m, nd, h1, h2, hk => by
  simp at h1 h2; subst h1; subst h2
  show bindL kindOf ((p, w) :: P.zip vs) m p = _
  unfold bindL
  rw [W7 fun v hv => (List.nodup_cons.mp nd).1 (List.of_mem_zip hv).1, if_pos hk]
  simp
 | p :: P, w :: vs, i + 1, m, nd, h1, h2, hk => by
  show bindL kindOf ((p, w) :: P.zip vs) m x = _
  unfold bindL
  exact W8 (i := i) (List.nodup_cons.mp nd).2 (by simpa using h1) (by simpa using h2) hk
theorem Vb {kindOf : Str -> Option NameKind} {x : Str} {v : Value} : ∀ {P : List Str} {vs : List Value} {i : Nat} {m : Str -> Option Value}, P.Nodup -> P[i]? = some x -> vs[i]? = some v -> kindOf x ≠ some .local ->
  bindC kindOf (P.zip vs) m x = some v
 | [], _, _, _, _, h, _, _ => by simp at h
 | _ :: _, [], _, _, _, _, h, _ => by simp at h
 | p :: P, w :: vs, 0, m, nd, h1, h2, hk => by
  simp at h1 h2; subst h1; subst h2
  show bindC kindOf ((p, w) :: P.zip vs) m p = _
  unfold bindC
  rw [Va fun v hv => (List.nodup_cons.mp nd).1 (List.of_mem_zip hv).1, if_neg hk]
  simp
 | p :: P, w :: vs, i + 1, m, nd, h1, h2, hk => by
  show bindC kindOf ((p, w) :: P.zip vs) m x = _
  unfold bindC
  exact Vb (i := i) (List.nodup_cons.mp nd).2 (by simpa using h1) (by simpa using h2) hk
def start (N : List Str) (vs : List V) : St := vs.map some ++ List.replicate (N.length - vs.length) none
def cxOf (CX : CXT) (P : Program) (w : World) (K : PySem.W.Frag) (mg : Str -> Option Value) (base : Heap) (N : List Str) (qual : Str) (scope : Scope) (f : Addr) (cd : Value) (A : Around) (outer : List Env) (s : Shared) (H : Hp) (E : XK) : Cx where
 prog := P
 w := w
 K := K
 mg := mg
 base := base
 A := A.deeper (envOfC qual scope s.heap.objs.size f cd)
 N := N
 s₀ := s
 H₀ := H
 env := envOfC qual scope s.heap.objs.size f cd
 outer := outer
 stack := envOfC qual scope s.heap.objs.size f cd :: outer
 ex := []
 calm := true
 fn := fun _ => true
 pn := []
 xe := fun e s' => wpAny (model P w) (A.deeper (envOfC qual scope s.heap.objs.size f cd)) (leaving (envOfC qual scope s.heap.objs.size f cd) e) (fun _ s'' => CX outer H s E e s'') (fun e' s'' => CX outer H s E e' s'') s'
theorem VT {sc : Scope} {n : Nat} {x : Str} (h : sc.names.lookup x = some .cell) : ∃ c, (cellsFrom n sc.names []).lookup x = some c := by
 have q := PySem.W.cellsFrom_some sc.names n [] (.inl h)
 exact Option.isSome_iff_exists.mp q
theorem UQ {CX : CXT} {P : Program} {w : World} {K : PySem.W.Frag} {mg : Str -> Option Value} {base : Heap} {N ps : List Str} {qual : Str} {scope : Scope} {f : Addr} {cd : Value} {A : Around} {outer : List Env} {s s1 : Shared} {H : Hp} {E : XK} {us : List Value} {vs : List V}
  (S : FnScope N ps scope) (hd : A.handled = none) (e0 : Env0 P w K mg base A outer s H) (hl : vs.length = ps.length) (r : Vals vs us)
  (x : InCallC s s.heap.objs.size (bindL (envOfC qual scope s.heap.objs.size f cd).kindOf (ps.zip us) fun _ => none) (cellsFrom (s.heap.objs.size + 1) scope.names []) (bindC (envOfC qual scope s.heap.objs.size f cd).kindOf (ps.zip us) fun _ => none) s1) :
  Inv (cxOf CX P w K mg base N qual scope f cd A outer s H E) [] (start N vs) H s1 := by
 have hpl : ps.length <= N.length := by have := congrArg List.length S.pre; rw [List.length_take] at this; omega
 obtain ⟨h1, tk, rfl, hk⟩ := x.done
 have noA : ∀ b : Addr, b ∉ (cxOf CX P w K mg base N qual scope f cd A outer s H E).ex := fun b z => absurd (show b ∈ ([] : List Addr) from z) (by simp)
 refine ⟨⟨e0.mod, S.kind, rfl, rfl, Nat.le_refl _, fun y z c h1 h2 => ?_, fun y hy => ?_, fun y c _ h => ?_, fun _ => hd, Around.frames_deeper e0.frames, .inr ⟨rfl, rfl⟩, fun b z => absurd z (noA b), e0.bs, e0.bsz, fun b _ _ => noA b, fun b z => absurd z (noA b), e0.funs, e0.frf⟩,
  rfl, e0.bare, Un.kept hk, ⟨_, x.toInCall.ns, fun i y v h1 h2 h3 => ?_⟩, fun y c h => ⟨_, x.cell y c h⟩, e0.hok.fresh (Nat.le_refl _), fun y c h => ?_, fun p hp => absurd (show p ∈ ([] : List (Addr × Obj)) from hp) (by simp), e0.hok.kept hk, ?_⟩
 ·exact name_of_addr x.apart (PySem.mem_of_lookup h1) (PySem.mem_of_lookup h2)
 ·have hy : scope.names.lookup y = some .cell \/ scope.names.lookup y = some .free := hy
  rcases hy with hy | hy
  ·exact VT hy
  ·exact absurd rfl (S.nofree _ (PySem.mem_of_lookup hy))
 ·exact Nat.le_of_lt (x.above y c (PySem.mem_of_lookup h))
 ·have hi : i < vs.length := by
   unfold start at h2
   by_cases hi : i < vs.length
   ·exact hi
   ·rw [List.getElem?_append_right (by simpa using hi)] at h2
    rw [List.getElem?_replicate] at h2
    split at h2 <;> cases h2
  have ha : vs[i]? = some v := by
   unfold start at h2
   rw [List.getElem?_append_left (by simpa using hi), List.getElem?_map] at h2
   cases e : vs[i]? with
   | none => rw [e] at h2; cases h2
   | some a => rw [e] at h2; cases h2; rfl
  obtain ⟨u, hu, rv⟩ := r.get ha
  have hp : ps[i]? = some y := by
   rw [<- S.pre, List.getElem?_take_of_lt (by omega)]; exact h1
  have ndP : ps.Nodup := by rw [<- S.pre]; exact S.nd.sublist (List.take_sublist _ _)
  refine ⟨u, rv, ?_⟩
  rcases S.par y (List.mem_of_getElem? hp) with k | k
  ·exact .inl ⟨k, W8 ndP hp hu k⟩
  ·obtain ⟨c, e⟩ := VT (n := s.heap.objs.size + 1) k
   refine .inr ⟨.inl k, c, e, ?_⟩
   have q := x.cell y c e
   rw [Vb ndP hp hu (by show scope.names.lookup y ≠ _; rw [k]; decide)] at q
   exact q
 ·exact e0.hok.fresh (Nat.le_of_lt (x.above y c (PySem.mem_of_lookup h)))
 ·unfold start
  show _ = N.length
  rw [List.length_append, List.length_map, List.length_replicate]
  omega
theorem fn_of {CX : CXT} {P : Program} {w : World} {K : PySem.W.Frag} {mg : Str -> Option Value} {base : Heap} {k : Nat} {f : Addr} {name qual : Str} {params : Arguments} {body : List Stmt} {scope : Scope} {dV kV doc pm cdv ct oc : Value} {an od : Option Addr}
  {osl : Array (Option Value)} {N ps : List Str} {sp : Sp} (lk : K.lookup f = some ⟨oc, od, .func (PySem.W.fnOf name qual params body scope dV kV doc pm an cdv ct), osl⟩) (hcd : PySem.W.codeIn K cdv qual = true) (S : FnScope N ps scope)
  (len : ∀ vs H Q E, sp vs H Q E -> vs.length = ps.length)
  (hbody : ∀ (A : Around) (outer : List Env) (s : Shared) (H : Hp) (vs : List V) (Q : VK) (E : XK), Room k (A.deeper (envOfC qual scope s.heap.objs.size f cdv)) -> sp vs H Q E ->
   ∃ t, PSs (cxOf CX P w K mg base N qual scope f cdv A outer s H E) body t /\ t { nx := fun _ H' => Q .non H', rt := Q } (start N vs) H) :
  FnOk P w K mg base CX (k + 1) f (PySem.W.fnOf name qual params body scope dV kV doc pm an cdv ct) ps sp := by
 refine ⟨len, fun A outer s H args us vs Q E hr e0 hb r hsp => ?_⟩
 have hl := len _ _ _ _ hsp
 have KX : K.In s.heap := e0.mod.kin.keeps fun b o e => (e0.bs b o e).1
 have lim : s.heap.NoLimit := e0.mod.nolimit.keeps fun b o e => (e0.bs b o e).1
 have hkind : ∀ y ∈ ps.zip us, scope.names.lookup y.1 = some .local \/ (scope.names.lookup y.1 = some .cell /\ ((cellsFrom (s.heap.objs.size + 1) scope.names []).lookup y.1).isSome = true) := fun ⟨n, v⟩ hy => by
  rcases S.par n (List.of_mem_zip hy).1 with q | q
  ·exact .inl q
  ·exact .inr ⟨q, PySem.W.cellsFrom_some _ _ _ (.inl q)⟩
 refine codeAny_call_function hr.depth (KX _ _ lk) rfl S.co S.gen rfl (PySem.W.codeRec_of KX hcd) (hb _ _ _ _ ?_)
 refine wpAny_newFunctionEnv_cells S.kind hkind fun env he s1 x => ?_
 subst he
 refine ⟨lim.keeps x.toInCall.keep, codeAny_func ?_⟩
 obtain ⟨t, ht, hq⟩ := hbody A outer s H vs Q E (hr.deeper _) hsp
 have I : Inv (cxOf CX P w K mg base N qual scope f cdv A outer s H E) [] (start N vs) H s1 := UQ S hr.hd e0 hl r x
 refine wpAny_mono (ht [] s1 (start N vs) H _ I hq) (fun fl s' hs => ?_) fun e s' hs => hs
 have fin : ∀ {σ' : St} {H' : Hp} {v : V} {u : Value}, Inv (cxOf CX P w K mg base N qual scope f cdv A outer s H E) [] σ' H' s' -> RelV v u -> Q v H' -> CE outer P w H s Q u s' :=
  fun {σ' H' v u} J rv q => ⟨v, H', J.os, J.bare, J.base, J.hok, rv, q⟩
 cases fl with
 | ret u =>
  obtain ⟨v, σ', H', J, rv, q⟩ := hs
  exact fin J rv q
 | next =>
  obtain ⟨σ', H', J, q⟩ := hs
  exact fin (v := V.non) (u := Value.none) J rfl q
 | brk =>
  obtain ⟨_, _, _, q⟩ := hs
  exact False.elim q
 | cont =>
  obtain ⟨_, _, _, q⟩ := hs
  exact False.elim q
end L2
namespace L2
open PySem PySem.Spec PyProof.Rows
section
variable {X : Cx} {x : Str} {p pos : Pos} {e : Expr} {es : List Expr} {t : TA} {id T : String} {r : List V -> Hp -> VK -> Prop}
def tCB (r : List V -> Hp -> VK -> Prop) (t : TA) : TE := fun σ H Q => t σ H fun vs H1 => r vs H1 Q
theorem Y9 (hc : Wm X (.builtin id) r) (hg : Gl X x) (hm : X.mg x = none) (hv : bootBuiltins x = some (.builtin id)) (ha : PA X (e :: es) t) (hn : x ≠ "__name__" := by decide) (hdb : (x == ("__debug__" : Str)) = false := by decide)
  (he : starEach (e :: es) X.env = (false, eval e X.env) :: starEach es X.env := by rfl) (hpl : (backTo pos (starEach es X.env)).any (·.1) = false := by rfl) : PE X (.Call (.Name x p) (e :: es) [] pos) (tCB r t) := by
 intro pins s σ H Q I h
 refine wpAny_Call_Name_kw (VI I hg hm hv ?_ hn hdb)
 exact PyProof.Rows.callWith_builtin1 (thn (ha pos pins s σ H _ I h) fun us s1 ⟨vs, H1, I1, r1, q1⟩ => hc pins s1 σ H1 vs us Q I1 r1 q1) he hpl
theorem XX (hc : Wm X (.type T) r) (hg : Gl X x) (hm : X.mg x = none) (hv : bootBuiltins x = some (.type T)) (ha : PA X (e :: es) t) (hn : x ≠ "__name__" := by decide) (hdb : (x == ("__debug__" : Str)) = false := by decide)
  (he : starEach (e :: es) X.env = (false, eval e X.env) :: starEach es X.env := by rfl) (hpl : (backTo pos (starEach es X.env)).any (·.1) = false := by rfl) : PE X (.Call (.Name x p) (e :: es) [] pos) (tCB r t) := by
 intro pins s σ H Q I h
 refine wpAny_Call_Name_kw (VI I hg hm hv ?_ hn hdb)
 exact PyProof.Rows.callWith_type1 (thn (ha pos pins s σ H _ I h) fun us s1 ⟨vs, H1, I1, r1, q1⟩ => hc pins s1 σ H1 vs us Q I1 r1 q1) he hpl
end
end L2
namespace HT
open PySem PyProof.Rows
def Ua : List Int -> List Int -> Bool
 | [], [] => false
 | [], _ :: _ => true
 | _ :: _, [] => false
 | x :: xs, y :: ys => if x = y then Ua xs ys else decide (x < y)
theorem lexLt_cons (x y : Int) (xs ys : List Int) : Ua (x :: xs) (y :: ys) = if x = y then Ua xs ys else decide (x < y) := rfl
theorem lexLt_nil_nil : Ua [] [] = false := rfl
theorem lexLt_nil_cons (y : Int) (ys : List Int) : Ua [] (y :: ys) = true := rfl
theorem lexLt_cons_nil (x : Int) (xs : List Int) : Ua (x :: xs) [] = false := rfl
section
open PySem.SeqAt
open PySem.AutoSeq1 (wpAny_loadPart')
open PySem.MeetsSeq PySem.MeetsSeq2 PySem.MeetsSeq3
end
section
variable {prog : Program} {w : World} {A : Around} {E : Value -> Shared -> Prop} {s : Shared}
def sIx (n d : Nat) : Option Int -> Nat
 | none => d
 | some v => if v < 0 then (v + (n : Int)).toNat else min v.toNat n
theorem sIx_none (n d : Nat) : sIx n d none = d := rfl
end
end HT
namespace L2
open PySem PySem.Spec PyProof.Rows
def ixN (n : Nat) (i : Int) : Option Nat := if 0 <= i then (if i < n then some i.toNat else none) else if -(n : Int) <= i then some (i + n).toNat else none
def atI {α : Type} (xs : List α) (i : Int) : Option α := (ixN xs.length i).bind fun j => xs[j]?
theorem UN {n : Nat} {i : Int} {j : Nat} (h : ixN n i = some j) : seqIndex? i n = some j /\ j < n /\ -(n : Int) <= i /\ i < n := by
 unfold ixN at h
 by_cases h0 : 0 <= i
 ·rw [if_pos h0] at h
  by_cases h1 : i < n
  ·rw [if_pos h1] at h
   have e : i.toNat = j := Option.some.inj h
   exact ⟨by rw [seqIndex_of h0 h1, e], by omega, by omega, h1⟩
  ·rw [if_neg h1] at h; cases h
 ·rw [if_neg h0] at h
  by_cases h1 : -(n : Int) <= i
  ·rw [if_pos h1] at h
   have e : (i + n).toNat = j := Option.some.inj h
   exact ⟨by rw [seqIndex_neg (by omega) h1, e], by omega, h1, by omega⟩
  ·rw [if_neg h1] at h; cases h
theorem Qg {α : Type} {xs : List α} {i : Int} {v : α} (h : atI xs i = some v) : ∃ j, seqIndex? i xs.length = some j /\ xs[j]? = some v /\ j < xs.length /\ -(xs.length : Int) <= i /\ i < xs.length := by
 unfold atI at h
 cases e : ixN xs.length i with
 | none => rw [e] at h; cases h
 | some j =>
  rw [e] at h
  obtain ⟨h1, h2, h3, h4⟩ := UN e
  exact ⟨j, h1, h, h2, h3, h4⟩
def Vs (b : Expr) : Prop := ∀ o i, subscripted b false o i = operate [o, i] (getItem o i)
def IxR (X : Cx) (r : R2) : Prop :=
 ∀ (value slice : Expr) (pins : List (Addr × Obj)) (s : Shared) (σ : St) (H : Hp) (x y : V) (v u : Value) (Q : VK), Inv X pins σ H s -> RelV x v -> RelV y u -> r x y H Q ->
  subscripted slice false v u = operate [v, u] (getItem v u) -> wpAny (model X.prog X.w) X.A (subscriptTail value slice v u) (EP X pins σ Q) X.xe s
section
variable {X : Cx} {a b : Expr} {ta tb : TE} {pos : Pos}
theorem IxR.or {r r' : R2} (h : IxR X r) (h' : IxR X r') : IxR X (fun x y H Q => r x y H Q \/ r' x y H Q) := by
 intro value slice pins s σ H x y v u Q I rx ry q hs
 rcases q with q | q
 ·exact h value slice pins s σ H x y v u Q I rx ry q hs
 ·exact h' value slice pins s σ H x y v u Q I rx ry q hs
theorem pe_ix {r : R2} (hr : IxR X r) (ha : PE X a ta) (hb : PE X b tb) (hs : Vs b) : PE X (.Subscript a b pos) (tOp r ta tb) := by
 intro pins s σ H Q I h
 exact Subscript_ (binT ha hb I h fun v u s2 x y H2 I2 rx ry q => hr a b pins s2 σ H2 x y v u Q I2 rx ry q (hs _ _))
def rIxL (K : PySem.W.Frag) : R2 := fun x y H Q => ∃ p xs i v, x = .ref p /\ y = .int i /\ SqL K H p xs /\ atI xs i = some v /\ Q v H
def rIxT (K : PySem.W.Frag) : R2 := fun x y H Q => ∃ p xs i v, x = .ref p /\ y = .int i /\ SqT K H p xs /\ atI xs i = some v /\ Q v H
theorem UM : IxR X (rIxL X.K) := by
 intro value slice pins s σ H x y v u Q I rx ry h hs
 obtain ⟨p, xs, i, z, rfl, rfl, hq, he, q⟩ := h
 cases rx
 obtain ⟨t, rfl⟩ := ry
 obtain ⟨its, r, pl, hz⟩ := I.list hq
 obtain ⟨j, h1, h2, h3, h4, h5⟩ := Qg he
 obtain ⟨w, ew, rw'⟩ := r.get h2
 have hl := r.length
 have hn := WV
 have fin : EP X pins σ Q w s := ⟨z, H, I, rw', q⟩
 by_cases h0 : 0 <= i
 ·have hj : i.toNat = j := by
   rw [seqIndex_of h0 h5] at h1
   exact Option.some.inj h1
  exact item_listR pl.isList h0 (by omega) (by rw [hj]; simpa using ew) fin hs
 ·have hj : (i + (its.toArray.size : Int)).toNat = j := by
   rw [seqIndex_neg (by omega) h4] at h1
   rw [List.size_toArray, <- hl]
   exact Option.some.inj h1
  exact subscriptTail_builtinR (x := w) pl.isList.typeIs slot_list_getitem.lookup
   (wpAny_getItem_list_neg (Q := fun r s' => r = w /\ EP X pins σ Q r s') pl.isList (by omega) (by rw [List.size_toArray] <;> omega) (by omega) (by rw [hj]; simpa using ew) ⟨rfl, fin⟩) hs
theorem ix_tup : IxR X (rIxT X.K) := by
 intro value slice pins s σ H x y v u Q I rx ry h hs
 obtain ⟨p, xs, i, z, rfl, rfl, hq, he, q⟩ := h
 cases rx
 obtain ⟨t, rfl⟩ := ry
 obtain ⟨its, r, pl, hz⟩ := I.tuple hq
 obtain ⟨j, h1, h2, h3, h4, h5⟩ := Qg he
 obtain ⟨w, ew, rw'⟩ := r.get h2
 have hl := r.length
 have hn := WV
 have fin : EP X pins σ Q w s := ⟨z, H, I, rw', q⟩
 exact subscriptTail_builtinR (x := w) pl.typeIs slot_tuple_getitem.lookup
  (getItem_tuple (j := j) (Q := fun r s' => r = w /\ EP X pins σ Q r s') pl (by omega) (by omega) (by rw [List.size_toArray, <- hl]; exact h1) (by simpa using ew) ⟨rfl, fin⟩) hs
theorem V9 (its : List Value) (n j : Nat) (u : Value) : Obj.mapSeq (·.setIfInBounds j u) { cls := .type "list", data := .seq its.toArray n } = { cls := .type "list", data := .seq (its.set j u).toArray n } := by
 simp [Obj.mapSeq]
theorem Inv.lst {pins : List (Addr × Obj)} {σ : St} {H : Hp} {s : Shared} {p : Addr} {xs : List V} (I : Inv X pins σ H s) (h : H p = some (.lst xs)) :
  ∃ (its : List Value) (n : Nat), Vals xs its /\ s.heap.get? p = some { cls := .type "list", data := .seq its.toArray n } /\ xs.length <= sizeLine := by
 obtain ⟨z, its, n, r, e⟩ := I.hok p _ h
 exact ⟨its, n, r, e, z⟩
theorem Inv.lstUpd {pins : List (Addr × Obj)} {σ : St} {H : Hp} {s : Shared} {p : Addr} {xs ys : List V} {its its' : List Value} {n n' : Nat} {f : Obj -> Obj} (I : Inv X pins σ H s) (h : H p = some (.lst xs))
  (ho : s.heap.get? p = some { cls := .type "list", data := .seq its.toArray n }) (hf : f { cls := .type "list", data := .seq its.toArray n } = { cls := .type "list", data := .seq its'.toArray n' }) (r : Vals ys its') (hz : ys.length <= sizeLine) (t : Nat) :
  Inv X pins σ (upd H p (.lst ys)) { s with heap := s.heap.update p f, toks := t } := by
 have e : (s.heap.update p f).get? p = some { cls := .type "list", data := .seq its'.toArray n' } := by
  rw [Heap.get?_update_self f ho (by rw [hf] <;> rfl), hf]
 refine I.write (x := p) (e := p) (by rw [h]; trivial) (.inl rfl) (fun b u hb q => (Heap.get?_update_other _ _ (Ne.symm hb)).trans q) ⟨_, e⟩ ?_
 exact ⟨hz, its', n', r, e⟩
def rSetL : V -> V -> V -> Hp -> (Hp -> Prop) -> Prop := fun o i v H Q => ∃ p xs k j, o = .ref p /\ i = .int k /\ H p = some (.lst xs) /\ ixN xs.length k = some j /\ Q (upd H p (.lst (xs.set j v)))
theorem set_list : PSet X rSetL := by
 intro pins s σ H o i v ov iv u Q I ro ri rv h
 obtain ⟨p, xs, k, j, rfl, rfl, hp, hj, q⟩ := h
 cases ro
 obtain ⟨t, rfl⟩ := ri
 obtain ⟨its, n, r, ho, hz⟩ := I.lst hp
 obtain ⟨h1, h2, h3, h4⟩ := UN hj
 have hl := r.length
 have hn := WV
 have I' : Inv X pins σ (upd H p (.lst (xs.set j v))) { s with heap := s.heap.update p (Obj.mapSeq (·.setIfInBounds j u)) } :=
  I.lstUpd hp ho (V9 its n j u) (r.set rv j) (by rw [List.length_set]; exact hz) s.toks
 by_cases h0 : 0 <= k
 ·have hk : k.toNat = j := by
   rw [seqIndex_of h0 h4] at h1
   exact Option.some.inj h1
  exact PySem.W.ki_setAt ho h0 (by omega) (by rw [List.size_toArray, <- hl]; exact h4) (by rw [hk]; exact ⟨_, I', q⟩)
 ·have hk : (k + (its.toArray.size : Int)).toNat = j := by
   rw [seqIndex_neg (by omega) h3] at h1
   rw [List.size_toArray, <- hl]
   exact Option.some.inj h1
  exact PySem.W.ki_setBack ho (by omega) (by rw [List.size_toArray, <- hl]; exact h3) (by omega) (by rw [hk]; exact ⟨_, I', q⟩)
theorem XJ : Wm X (.builtin "len") (fun xs H Q => ∃ p ys, xs = [.ref p] /\ (SqL X.K H p ys \/ SqT X.K H p ys) /\ Q (.int ys.length) H) := by
 intro pins s σ H xs us Q I r h
 obtain ⟨p, ys, rfl, hq, q⟩ := h
 obtain ⟨u, rfl, rx⟩ := Vd r
 cases rx
 have hn := WV
 rcases hq with hq | hq
 ·obtain ⟨its, r', pl, hz⟩ := I.list hq
  have hlen := r'.length
  exact Calls.call_len_list pl.isList (by simp only [List.size_toArray] <;> omega) ⟨.int ys.length, H, I.tok _, ⟨s.toks + 1, by rw [List.size_toArray, hlen]⟩, q⟩
 ·obtain ⟨its, r', pl, hz⟩ := I.tuple hq
  have hlen := r'.length
  exact len_tuple pl (by simp only [List.size_toArray] <;> omega) ⟨.int ys.length, H, I.tok _, ⟨s.toks + 1, by rw [List.size_toArray, hlen]⟩, q⟩
theorem W6 : Wm X (.type "list") (fun xs H Q => ∃ p ys, xs = [.ref p] /\ (SqL X.K H p ys \/ SqT X.K H p ys) /\ ∀ l, H l = none -> Q (.ref l) (upd H l (.lst ys))) := by
 intro pins s σ H xs us Q I r h
 obtain ⟨p, ys, rfl, hq, q⟩ := h
 obtain ⟨u, rfl, rx⟩ := Vd r
 cases rx
 have fin : ∀ (its : List Value), Vals ys its -> ys.length <= sizeLine -> ∀ (h' : Heap) (c' : Nat), (∀ b o', s.heap.get? b = some o' -> h'.get? b = some o') ->
   h'.get? s.heap.objs.size = some { cls := .type "list", dict := none, data := .seq its.toArray c', slots := #[] } -> EP X pins σ Q (.ref s.heap.objs.size) { s with heap := h' } := fun its r' hz h' c' kp e =>
  ⟨.ref s.heap.objs.size, _, I.laid (t' := s.toks) kp (Nat.le_refl _) (show Xe X.prog X.w _ h' _ (.lst ys) from ⟨hz, its, c', r', e⟩), rfl, q _ (I.hok.fresh (Nat.le_refl _))⟩
 rcases hq with hq | hq
 ·obtain ⟨its, r', pl, hz⟩ := I.list hq
  have hlen := r'.length
  obtain ⟨o, ho, hc, n, hd⟩ := pl.isList
  exact call_list_seq p (.inl rfl) ho hc hd (fun h' c' kp e => fin its r' hz h' c' kp e) (by simp only [List.size_toArray] <;> omega)
 ·obtain ⟨its, r', pl, hz⟩ := I.tuple hq
  have hlen := r'.length
  obtain ⟨o, ho, hc, n, hd⟩ := pl
  exact call_list_seq p (.inr rfl) ho hc hd (fun h' c' kp e => fin its r' hz h' c' kp e) (by simp only [List.size_toArray] <;> omega)
theorem WG : Wm X (.type "tuple") (fun xs H Q => ∃ p ys, xs = [.ref p] /\ ((SqL X.K H p ys /\ ∀ l, H l = none -> Q (.ref l) (upd H l (.tup ys))) \/ (SqT X.K H p ys /\ Q (.ref p) H))) := by
 intro pins s σ H xs us Q I r h
 obtain ⟨p, ys, rfl, h⟩ := h
 obtain ⟨u, rfl, rx⟩ := Vd r
 cases rx
 rcases h with ⟨hq, q⟩ | ⟨hq, q⟩
 ·obtain ⟨its, r', pl, hz⟩ := I.list hq
  have hlen := r'.length
  refine call_tuple_list pl.isList (fun h' kp => ?_) (by simp only [List.size_toArray] <;> omega)
  have I1 : Inv X pins σ H { s with heap := h' } := I.kept (t' := s.toks) kp
  have I2 : Inv X pins σ (upd H h'.objs.size (.tup ys)) { s with heap := h'.push { cls := .type "tuple", data := .seq its.toArray } } :=
   I1.laid (t' := s.toks) (fun b o e => Heap.get?_push_of_some _ e) (Nat.le_refl _) (show Xe X.prog X.w _ _ _ (.tup ys) from ⟨hz, its, r', IsTup.new _ _⟩)
  exact ⟨.ref h'.objs.size, _, I2, rfl, q _ (I1.hok.fresh (Nat.le_refl _))⟩
 ·obtain ⟨its, r', pl, hz⟩ := I.tuple hq
  exact call_tuple_same pl ⟨.ref p, H, I, rfl, q⟩
variable {o e : Expr} {es : List Expr} {to : TE} {t : TA} {name : Str} {apos cpos : Pos} {T id : String} {r : V -> List V -> Hp -> VK -> Prop}
end
end L2
namespace L2
open PySem PySem.Spec PyProof.Rows
def MtM (X : Cx) (id : String) (r : V -> List V -> Hp -> VK -> Prop) : Prop :=
 ∀ (pins : List (Addr × Obj)) (s : Shared) (σ : St) (H : Hp) (x : V) (xs : List V) (v : Value) (us : List Value) (Q : VK), Inv X pins σ H s -> RelV x v -> Vals xs us -> r x xs H Q ->
  wpAny (model X.prog X.w) X.A (call (.builtin id) (v :: us)) (EP X pins σ Q) X.xe s
theorem Vals.one : ∀ {x : V} {us : List Value}, Vals [x] us -> ∃ u, us = [u] /\ RelV x u
 | _, _, .cons r .nil => ⟨_, rfl, r⟩
section
variable {X : Cx} {pins : List (Addr × Obj)} {σ : St} {H : Hp} {s : Shared} {l b : Addr} {xs ys zs : List V}
theorem Inv.lset {its its' : List Value} {n : Nat} {f : Array Value -> Array Value} {t' : Nat} (I : Inv X pins σ H s) (hH : H l = some (.lst xs))
  (e : s.heap.get? l = some { cls := .type "list", data := .seq its.toArray n }) (hf : f its.toArray = its'.toArray) (hv : Vals ys its') (hz : ys.length <= sizeLine) :
  Inv X pins σ (upd H l (.lst ys)) { s with heap := s.heap.update l (Obj.mapSeq f), toks := t' } := by
 have q := PySem.IsL.update e f
 rw [hf] at q
 refine I.write (x := l) (e := l) (by rw [hH]; exact trivial) (.inl rfl) (fun b' u hb hu => (Heap.get?_update_other s.heap (Obj.mapSeq f) (Ne.symm hb)).trans hu) ⟨_, q⟩ ?_
 exact ⟨hz, its', _, hv, q⟩
theorem Inv.lnew {its : List Value} {t' : Nat} (I : Inv X pins σ H s) (hv : Vals ys its) (hz : ys.length <= sizeLine) :
  Inv X pins σ (upd H s.heap.objs.size (.lst ys)) { s with heap := s.heap.push { cls := .type "list", data := .seq its.toArray }, toks := t' } :=
 I.laid (fun _ _ q => Heap.get?_push_of_some _ q) (Nat.le_refl _) ⟨hz, its, 0, hv, Heap.get?_push_size _ rfl⟩
theorem Inv.fresh (I : Inv X pins σ H s) : H s.heap.objs.size = none := I.hok.fresh (Nat.le_refl _)
theorem Inv.lstM (I : Inv X pins σ H s) (hH : H l = some (.lst xs)) : xs.length <= sizeLine /\ ∃ (its : List Value) (n : Nat), Vals xs its /\ xs.length = its.length /\ s.heap.get? l = some { cls := .type "list", data := .seq its.toArray n } := by
 obtain ⟨z, its, n, r, e⟩ := I.hok l _ hH
 exact ⟨z, its, n, r, r.length, e⟩
end
section
variable {X : Cx}
def rAppend : V -> List V -> Hp -> VK -> Prop := fun x vs H Q => ∃ l xs y, x = .ref l /\ vs = [y] /\ H l = some (.lst xs) /\ xs.length < sizeLine /\ Q .non (upd H l (.lst (xs ++ [y])))
theorem WT : MtM X "list.append" rAppend := by
 intro pins s σ H x vs v us Q I rx rv h
 obtain ⟨l, xs, y, rfl, rfl, hH, hz, q⟩ := h
 cases rx
 obtain ⟨u, rfl, ru⟩ := rv.one
 obtain ⟨z, its, n, r, hl, e⟩ := I.lstM hH
 refine call_meets F.slot_list_append ⟨_, e, rfl⟩ F.entry_list_append (F.args_list_append_2 _ _) (PySem.list_append l its.toArray n u (by rw [List.size_toArray]; omega)) ⟨e, ?_⟩
 refine ⟨.non, _, I.lset (its' := its ++ [u]) hH e (by simp) (r.append (.cons ru .nil)) ?_, rfl, q⟩
 rw [List.length_append, List.length_singleton]
 omega
end
end L2
namespace Att
open PySem PySem.W PySem.Calls PyProof.Rows
theorem X0 {P : Params} {h : Heap} : ∀ (ns : List Int) (vs : List Value), WellAll P h vs (ns.map WData.int) -> IntsAre vs ns := by
 intro ns
 induction ns with
 | nil =>
  intro vs w
  rw [List.map_nil] at w
  cases w
  exact .nil
 | cons n ns ih =>
  intro vs w
  rw [List.map_cons] at w
  cases w with
  | cons a b =>
   cases a
   exact .cons _ _ (ih _ b)
theorem Ut {l : OpenLaw} {n : Nat} (hn : l.most = some n) {P : Params} {h : Heap} {args : List WData} {vals : List Value}
  (hpre : l.row.toRowW.claim.pre args = true) (hwl : WellAll P h vals args) :
  ∃ a vs ns, vals = [Value.ref a] /\ args = [WData.list (ns.map WData.int)] /\ h.get? a = some { cls := .type "list", data := .seq vs.toArray } /\ IntsAre vs ns /\ ns.length <= n := by
 have hsh : WShape.hasAll [] args [.list .int] = true := (pre_splitW hpre).1
 have hc : l.pre.holds [] { args := args } = true := (pre_splitW hpre).2
 obtain ⟨d, r, rfl, h1, h2⟩ := hasAllW_cons hsh
 obtain rfl := hasAllW_nil h2
 obtain ⟨xs, rfl, h3⟩ := hasW_list h1
 obtain ⟨ns, rfl⟩ := items_int h3
 have hlen : ns.length <= n := by
  unfold OpenLaw.pre at hc
  have h4 : (WTm.not (.lt (.lit (.int (n : Int))) (.len (.arg 0)))).holds [] { args := [.list (ns.map .int)] } = true := by
   have h4 := (holds_andW hc).1
   rw [hn] at h4
   exact h4
  have h5 := condW_of h4 (w_not (w_lt w_lit (w_len_list (w_arg rfl))))
  rw [List.length_map] at h5
  refine Nat.le_of_not_lt fun q => ?_
  have q' : (n : Int) < ((ns.length : Nat) : Int) := by omega
  first
   | (rw [decide_eq_true q'] at h5; exact absurd h5 (by decide))
   | (simp at h5; omega)
 cases hwl with
 | cons w1 w2 =>
  cases w2
  cases w1 with
  | list ho hall => exact ⟨_, _, ns, rfl, rfl, ho, X0 ns _ hall, hlen⟩
theorem UB (l : OpenLaw) (args : List WData) : l.row.toRowW.claim.post args (.bool true) args = true :=
 postW_of (r := l.row.toRowW) (X := (true == true))
  (show WShape.has [] (.bool true) .bool = true by first | rfl | decide | simp [WShape.has, WShape.arms, WShape.armsAll])
  (show (WTm.eq .res (.lit (.bool true))).value [] { args := args, res := some (.bool true), after := args } = some (.bool (true == true)) from w_eq_bool (w_res rfl) w_lit) rfl
theorem attach_call {l : OpenLaw} {n : Nat} {q : Program} {loose : List Str} {XP : (Str -> Option Value) -> Heap -> Prop} {YP : World -> Heap -> Prop} {d : DefRec}
  (hn : l.most = some n) (hdf : d.params.defaults = [])
  (call : ∀ (w : World) (s₀ s₁ : Shared) (mg mb : Str -> Option Value) (fa : Addr) (o : Obj) (pm cd doc : Value) (a : Addr) (vs : List Value) (ns : List Int),
   Ground q loose [] XP w s₀ mg mb s₁.heap -> YP w s₁.heap ->
   s₁.heap.get? fa = some o -> o.data = .func (docDef d.name d.params d.body d.scope pm cd doc) -> s₁.heap.CodeRec cd d.name -> mg d.name = some (.ref fa) ->
   s₁.heap.get? a = some { cls := .type "list", data := .seq vs.toArray } -> IntsAre vs ns -> ns.length <= n -> s₁.gens = #[] ->
   codeAny (model l.prog w) callerA (.call (.ref fa) ⟨[.ref a], []⟩) (fun r s' => r = .ok (.ret (.bool true)) /\ OldK s₁.heap s'.heap /\ s'.os = s₁.os /\ AllBare s'.gens) s₁) :
  WalkO q loose XP YP l.row.toRowW d [] (fun f vs => PySem.call f vs) := by
 intro w s₀ s₁ mg mb G Y fa o pm cd doc dV kV ho hd hcd hD hmg hg args vals as hpre hlay hrd hwl hlo
 obtain rfl : dV = .none := Dflts.none hD hdf
 obtain rfl : kV = .none := Dflts.noKw hD
 obtain ⟨a, vs, ns, rfl, rfl, hobj, hints, hlen⟩ := Ut hn hpre hwl
 refine enter_call (codeAny_mono (call w s₀ s₁ mg mb fa o pm cd doc a vs ns G Y ho (fd_plain hd) hcd hmg hobj hints hlen hg) fun r s' hq => ?_)
 obtain ⟨rfl, h2, h3, h4⟩ := hq
 exact ⟨.inl ⟨.bool true, .bool true, [], rfl, fun _ => rfl, .bool true, UB l _, fun _ => ⟨List.Pairwise.nil, fun _ hm => (nomatch hm)⟩⟩, h2, h3, h4⟩
end Att
namespace L2
open PySem PySem.Spec PyProof.Rows
theorem WI : ∀ {vs : List Value} {ns : List Int}, IntsAre vs ns -> Vals (ns.map V.int) vs
 | _, _, .nil => .nil
 | _, _, .cons n t h => .cons ⟨t, rfl⟩ (WI h)
end L2
namespace L2
open PySem PySem.Spec PyProof.Rows
def ZW (s : Stmt) : Arguments := match s with
 | .FunctionDef _ a _ _ _ _ _ _ _ _ => a
 | _ => { posonlyargs := [], args := [], vararg := none, kwonlyargs := [], kw_defaults := [], kwarg := none, defaults := [] }
def ZE (s : Stmt) : List Stmt := match s with
 | .FunctionDef _ _ b _ _ _ _ _ _ _ => b
 | _ => []
def Zi (s : Stmt) : Scope := match s with
 | .FunctionDef _ _ _ _ _ _ sc _ _ _ => sc
 | _ => { kind := .function, names := [], isGenerator := false, isCoroutine := false }
abbrev CX0 : CXT := fun _ _ _ _ _ _ => False
structure Fun (K : PySem.W.Frag) (x qual : Str) (st : Stmt) (f : Addr) (fd : FuncData) : Prop where
 ex : ∃ (oc : Value) (od : Option Addr) (kV doc pm : Value) (an : Option Addr) (cdv ct : Value) (osl : Array (Option Value)),
  fd = PySem.W.fnOf x qual (ZW st) (ZE st) (Zi st) .none kV doc pm an cdv ct /\ K.lookup f = some ⟨oc, od, .func fd, osl⟩ /\ PySem.W.codeIn K cdv qual = true
 kp : PySem.W.keepIn K (.ref f) = true
section
variable {P : Program} {w : World} {K : PySem.W.Frag} {mg : Str -> Option Value} {base : Heap}
theorem Fun.ok {x qual : Str} {st : Stmt} {f : Addr} {fd : FuncData} {N ps : List Str} {k : Nat} {sp : Sp} (F : Fun K x qual st f fd) (S : FnScope N ps (Zi st)) (len : ∀ vs H Q E, sp vs H Q E -> vs.length = ps.length)
  (hbody : ∀ (cdv : Value) (A : Around) (outer : List Env) (s : Shared) (H : Hp) (vs : List V) (Q : VK) (E : XK), Room k (A.deeper (envOfC qual (Zi st) s.heap.objs.size f cdv)) -> sp vs H Q E ->
   ∃ t, PSs (cxOf CX0 P w K mg base N qual (Zi st) f cdv A outer s H E).nox (ZE st) t /\ t { nx := fun _ H' => Q .non H', rt := Q } (start N vs) H) : FnOk P w K mg base CX0 (k + 1) f fd ps sp := by
 obtain ⟨oc, od, kV, doc, pm, an, cdv, ct, osl, rfl, lk, hcd⟩ := F.ex
 refine fn_of lk hcd S len fun A outer s H vs Q E hr hsp => ?_
 obtain ⟨t, h, q⟩ := hbody cdv A outer s H vs Q E hr hsp
 exact ⟨t, h.nox, q⟩
theorem Fun.binds {x qual : Str} {st : Stmt} {f : Addr} {fd : FuncData} {ps : List Str} (F : Fun K x qual st f fd)
  (h : ∀ (kV doc pm : Value) (an : Option Addr) (cdv ct : Value) (us : List Value), us.length = ps.length -> bindArgs (PySem.W.fnOf x qual (ZW st) (ZE st) (Zi st) .none kV doc pm an cdv ct) ⟨us, []⟩ = pure (ps.zip us)) : YK K fd ps [] := by
 obtain ⟨oc, od, kV, doc, pm, an, cdv, ct, osl, rfl, lk, hcd⟩ := F.ex
 exact .all (h kV doc pm an cdv ct)
theorem Y3 {x qual : Str} {st : Stmt} {f : Addr} {oc : Value} {od an : Option Addr} {osl : Array (Option Value)} {kV doc pm cdv ct : Value} (l : K.lookup f = some ⟨oc, od, .func (PySem.W.fnOf x qual (ZW st) (ZE st) (Zi st) .none kV doc pm an cdv ct), osl⟩)
  (c : PySem.W.codeIn K cdv qual = true) (k : PySem.W.keepIn K (.ref f) = true) : Fun K x qual st f (PySem.W.fnOf x qual (ZW st) (ZE st) (Zi st) .none kV doc pm an cdv ct) := ⟨⟨oc, od, kV, doc, pm, an, cdv, ct, osl, rfl, l, c⟩, k⟩
end
theorem iteF {A B : Prop} (h : B) : if false = true then A else B := by
 rw [if_neg Bool.false_ne_true]
 exact h
theorem iteT {A B : Prop} (h : A) : if true = true then A else B := by
 rw [if_pos rfl]
 exact h
end L2
namespace Fx
open PySem
inductive Sl where
 | emp | val (t : PyData) | own (xs : List PyData)
inductive Res (α : Type) where
 | ok (a : α) | exc (c : Str) | stuck
def Res.bind {α β : Type} (r : Res α) (f : α -> Res β) : Res β :=
 match r with
 | .ok a => f a
 | .exc c => .exc c
 | .stuck => .stuck
@[simp] theorem Res.bind_ok {α β : Type} (a : α) (f : α -> Res β) : Res.bind (.ok a) f = f a := rfl
@[simp] theorem Res.bind_exc {α β : Type} (c : Str) (f : α -> Res β) : Res.bind (.exc c) f = .exc c := rfl
@[simp] theorem Res.bind_stuck {α β : Type} (f : α -> Res β) : Res.bind .stuck f = .stuck := rfl
abbrev DE := List Sl -> Res PyData
abbrev DT := List Sl -> Res Bool
abbrev DA := List Sl -> Res (List PyData)
inductive Out where
 | nx (G : List Sl) | rt (t : PyData) | bk (G : List Sl) | ct (G : List Sl)
abbrev DS := List Sl -> Res Out
abbrev DF := List PyData -> Res PyData
@[simp] def frz1 (G : List Sl) (i : Nat) : List Sl :=
 match G[i]? with
 | some (.own xs) => G.set i (.val (.list xs))
 | _ => G
@[simp] def frz (is : List Nat) (G : List Sl) : List Sl := is.foldl frz1 G
@[simp] def frzA : List Sl -> List Sl
 | [] => []
 | .own xs :: r => .val (.list xs) :: frzA r
 | .emp :: r => .emp :: frzA r
 | .val t :: r => .val t :: frzA r
@[simp] def frzS : Sl -> Sl
 | .own xs => .val (.list xs)
 | .emp => .emp
 | .val t => .val t
@[simp] theorem frzA_cons (s : Sl) (G : List Sl) : frzA (s :: G) = frzS s :: frzA G := by cases s <;> simp
mutual
def Yk : PyData -> Bool
 | .none | .bool _ | .int _ | .str _ => true
 | .tuple xs => YL xs
 | .list _ => false
 | .dict _ => false
def YL : List PyData -> Bool
 | [] => true
 | x :: xs => Yk x && YL xs
end
@[simp] theorem scalT_tuple (xs : List PyData) : Yk (.tuple xs) = YL xs := by simp [Yk]
@[simp] theorem scalT_dict (xs : List (PyData × PyData)) : Yk (.dict xs) = false := by simp [Yk]
@[simp] theorem scalT_list (xs : List PyData) : Yk (.list xs) = false := by simp [Yk]
@[simp] theorem WN (x : PyData) (xs : List PyData) : YL (x :: xs) = (Yk x && YL xs) := by simp [YL]
@[simp] def dC (t : PyData) : DE := fun _ => .ok t
@[simp] def dVar (i : Nat) : DE := fun G => match G[i]? with
 | some (.val t) => .ok t
 | _ => .stuck
@[simp] def d1 (f : PyData -> Res PyData) (a : DE) : DE := fun G => (a G).bind f
@[simp] def d2 (f : PyData -> PyData -> Res PyData) (a b : DE) : DE := fun G => (a G).bind fun x => (b G).bind fun y => f x y
@[simp] def dNil : DA := fun _ => .ok []
@[simp] def Zg (a : DE) (r : DA) : DA := fun G => (a G).bind fun x => (r G).bind fun xs => .ok (x :: xs)
@[simp] def lenOk (xs : List PyData) : Bool := decide (xs.length <= 16777216)
@[simp] def dTup (a : DA) : DE := fun G => (a G).bind fun xs => if lenOk xs then .ok (.tuple xs) else .stuck
@[simp] def dLst (a : DA) : DE := fun G => (a G).bind fun xs => if lenOk xs then .ok (.list xs) else .stuck
@[simp] def Yh (f : DF) (a : DA) : DE := fun G => (a G).bind f
@[simp] def dAndV (a b : DE) : DE := fun G => (a G).bind fun x => match x with
 | .bool k => if k then b G else .ok (.bool false)
 | _ => .stuck
@[simp] def dNotV (a : DE) : DE := fun G => (a G).bind fun x => match x with
 | .bool k => .ok (.bool (!k))
 | _ => .stuck
def WS (i j : Int) : Bool := decide (i.natAbs.log2 + j.natAbs.log2 + 2 <= 134217728) || decide (i.natAbs < 18446744073709551616) || decide (j.natAbs < 18446744073709551616)
def W3 (j : Int) : Bool := decide (j ≠ 0) && decide (j.natAbs.log2 < 9000)
@[simp] def fAdd : PyData -> PyData -> Res PyData
 | .int i, .int j => .ok (.int (i + j))
 | .list xs, .list ys => if xs.length + ys.length <= 16777216 then .ok (.list (xs ++ ys)) else .stuck
 | _, _ => .stuck
@[simp] def fSub : PyData -> PyData -> Res PyData
 | .int i, .int j => .ok (.int (i - j))
 | _, _ => .stuck
@[simp] def fMul : PyData -> PyData -> Res PyData
 | .int i, .int j => if WS i j then .ok (.int (i * j)) else .stuck
 | _, _ => .stuck
@[simp] def fDiv : PyData -> PyData -> Res PyData
 | .int i, .int j => if W3 j then .ok (.int (i.fdiv j)) else .stuck
 | _, _ => .stuck
@[simp] def fMod : PyData -> PyData -> Res PyData
 | .int i, .int j => if j = 0 then .stuck else .ok (.int (i.fmod j))
 | _, _ => .stuck
@[simp] def fNeg : PyData -> Res PyData
 | .int i => .ok (.int (-i))
 | _ => .stuck
@[simp] def fLt : PyData -> PyData -> Res PyData
 | .int i, .int j => .ok (.bool (decide (i < j)))
 | _, _ => .stuck
@[simp] def fGt : PyData -> PyData -> Res PyData
 | .int i, .int j => .ok (.bool (decide (j < i)))
 | _, _ => .stuck
@[simp] def fGe : PyData -> PyData -> Res PyData
 | .int i, .int j => .ok (.bool (decide (j <= i)))
 | _, _ => .stuck
def Yx (d : PyData) : Bool := d.canLay0 && decide (d.depth <= 64)
def fEq : PyData -> PyData -> Res PyData
 | .int i, .int j => .ok (.bool (decide (i = j)))
 | x, y => if Yx x && Yx y then .ok (.bool (x.eqv y)) else .stuck
def fNe : PyData -> PyData -> Res PyData
 | .int i, .int j => .ok (.bool (!decide (i = j)))
 | x, y => if Yx x && Yx y then .ok (.bool (!x.eqv y)) else .stuck
@[simp] def fLen : PyData -> Res PyData
 | .list xs => .ok (.int xs.length)
 | .tuple xs => .ok (.int xs.length)
 | _ => .stuck
@[simp] def fAbs : PyData -> Res PyData
 | .int i => .ok (.int (if i < 0 then -i else i))
 | _ => .stuck
def ixP (n : Nat) (i : Int) : Option Nat := if 0 <= i then (if i < n then some i.toNat else none) else if -(n : Int) <= i then some (i + n).toNat else none
def atP (xs : List PyData) (i : Int) : Option PyData := (ixP xs.length i).bind fun j => xs[j]?
@[simp] def ofO {α : Type} : Option α -> Res α
 | some a => .ok a
 | none => .stuck
@[simp] def fIx : PyData -> PyData -> Res PyData
 | .list xs, .int i => ofO (atP xs i)
 | .tuple xs, .int i => ofO (atP xs i)
 | _, _ => .stuck
@[simp] def isInt : PyData -> Bool
 | .int _ => true
 | .bool _ => true
 | _ => false
@[simp] def isBool : PyData -> Bool
 | .bool _ => true
 | _ => false
@[simp] def UO : PyData -> Bool
 | .tuple _ => true
 | _ => false
@[simp] def isList : PyData -> Bool
 | .list _ => true
 | _ => false
@[simp] def fIs (p : PyData -> Bool) : PyData -> Res PyData
 | .dict _ => .stuck
 | .none => .ok (.bool (p .none))
 | .bool b => .ok (.bool (p (.bool b)))
 | .int b => .ok (.bool (p (.int b)))
 | .str b => .ok (.bool (p (.str b)))
 | .list b => .ok (.bool (p (.list b)))
 | .tuple b => .ok (.bool (p (.tuple b)))
@[simp] def fIsX : PyData -> Res PyData
 | .dict [] => .ok (.bool true)
 | _ => .stuck
@[simp] def fList : PyData -> Res (List PyData)
 | .list xs => .ok xs
 | .tuple xs => .ok xs
 | _ => .stuck
@[simp] def UV : PyData -> Res PyData
 | .list xs => .ok (.tuple xs)
 | .tuple xs => .ok (.tuple xs)
 | _ => .stuck
@[simp] def truth : PyData -> Res Bool
 | .none => .ok false
 | .bool b => .ok b
 | .int i => .ok (i != 0)
 | .list xs => .ok (!xs.isEmpty)
 | .tuple xs => .ok (!xs.isEmpty)
 | _ => .stuck
@[simp] def tV (a : DE) : DT := fun G => (a G).bind truth
@[simp] def tOr (a b : DT) : DT := fun G => (a G).bind fun k => if k then .ok true else b G
@[simp] def tNot (a : DT) : DT := fun G => (a G).bind fun k => .ok (!k)
@[simp] def dSeq (a b : DS) : DS := fun G => (a G).bind fun o => match o with
 | .nx G' => b G'
 | .rt t => .ok (.rt t)
 | .bk G' => .ok (.bk G')
 | .ct G' => .ok (.ct G')
@[simp] def YW : DS := fun G => .ok (.nx G)
@[simp] def dNev : DS := fun _ => .stuck
@[simp] def Ws (c : Str) (a : DA) : DS := fun G => (a (frzA G)).bind fun _ => .exc c
def dSet (i : Nat) (is : List Nat) (e : DE) : DS := fun G => (e (frz is G)).bind fun t => .ok (.nx ((if Yk t then G else frz is G).set i (.val t)))
@[simp] theorem dSet_nil (i : Nat) (e : DE) (G : List Sl) : dSet i [] e G = (e G).bind fun t => .ok (.nx (G.set i (.val t))) := by
 unfold dSet
 show (e G).bind _ = _
 congr 1
 funext t
 show Res.ok (Out.nx ((if Yk t = true then G else G).set i (.val t))) = _
 rw [ite_self]
@[simp] theorem dSet_cons (i j : Nat) (is : List Nat) (e : DE) (G : List Sl) : dSet i (j :: is) e G = (e (frz (j :: is) G)).bind fun t => .ok (.nx ((if Yk t then G else frz (j :: is) G).set i (.val t))) := rfl
@[simp] def Ue (i : Nat) (is : List Nat) (e : DA) : DS := fun G => (e (frz is G)).bind fun xs => if i < G.length then .ok (.nx ((frz is G).set i (.own xs))) else .stuck
@[simp] def dRet (e : DE) : DS := fun G => (e (frzA G)).bind fun t => .ok (.rt t)
@[simp] def dIf (c : DT) (a b : DS) : DS := fun G => (c (frzA G)).bind fun k => if k then a G else b G
@[simp] def XM (e : DE) : DS := fun G => (e (frzA G)).bind fun _ => .ok (.nx G)
@[simp] def appOwn (i : Nat) (G' : List Sl) (t : PyData) : Res Out :=
 match G'[i]? with
 | some (.own xs) => if xs.length < 16777216 then .ok (.nx (G'.set i (.own (xs ++ [t])))) else .stuck
 | _ => .stuck
@[simp] def WY (G : List Sl) (i : Nat) : Bool := match G[i]? with
 | some (.own _) => true
 | _ => false
def dApp (i : Nat) (is : List Nat) (e : DE) : DS := fun G => if WY G i then (e (frz is G)).bind fun t => appOwn i (if Yk t then G else frz is G) t else .stuck
@[simp] theorem dApp_cons (i j : Nat) (is : List Nat) (e : DE) (G : List Sl) : dApp i (j :: is) e G = if WY G i then (e (frz (j :: is) G)).bind fun t => appOwn i (if Yk t then G else frz (j :: is) G) t else .stuck := rfl
def forL (st : PyData -> List Sl -> Res (List Sl)) (b : DS) : List PyData -> List Sl -> Res Out
 | [], G => .ok (.nx G)
 | t :: ts, G => (st t G).bind fun G1 => (b G1).bind fun o => match o with
  | .nx G' => forL st b ts G'
  | .ct G' => forL st b ts G'
  | .bk G' => .ok (.nx G')
  | .rt t => .ok (.rt t)
@[simp] def dFor (st : PyData -> List Sl -> Res (List Sl)) (is : List Nat) (it : DA) (b : DS) : DS := fun G => (it (frz is G)).bind fun ts => forL st b ts (frz is G)
@[simp] def Z4 (i : Nat) : PyData -> List Sl -> Res (List Sl) := fun t G => .ok (G.set i (.val t))
def Xf (c : DT) (b : DS) : Nat -> List Sl -> Res Out
 | 0, _ => .stuck
 | n + 1, G => (c (frzA G)).bind fun k => if k then (b G).bind fun o => match o with
   | .nx G' => Xf c b n G'
   | .ct G' => Xf c b n G'
   | .bk G' => .ok (.nx G')
   | .rt t => .ok (.rt t)
  else .ok (.nx G)
@[simp] def U4 (fuel : List Sl -> Nat) (c : DT) (b : DS) : DS := fun G => Xf c b (fuel G) G
@[simp] def noX {α : Type} : Res α -> Res α
 | .ok a => .ok a
 | _ => .stuck
@[simp] def dTry (b : DS) (sub : Str -> Bool) (h : DS) : DS := fun G => match b G with
 | .exc c => if sub c then noX (h G) else .stuck
 | .ok o => .ok o
 | .stuck => .stuck
@[simp] def Wt (f : DF) (a : DA) : DE := fun G => (noX (a G)).bind f
@[simp] def dTryA (i : Nat) (b : DS) (sub : Str -> Bool) (h : DS) : DS := fun G => match b G with
 | .exc c => if sub c then (noX (h (G.set i (.val (.dict []))))).bind fun o => match o with
  | .nx G' => .ok (.nx (G'.set i .emp))
  | .rt t => .ok (.rt t)
  | _ => .stuck
  else .stuck
 | .ok o => .ok o
 | .stuck => .stuck
@[simp] def fInt : PyData -> Res PyData
 | .int i => .ok (.int i)
 | .bool b => .ok (.int (if b then 1 else 0))
 | _ => .stuck
def runF (n np : Nat) (b : DS) : DF := fun ts => if ts.length = np then (b (ts.map .val ++ List.replicate (n - np) .emp)).bind fun o => match o with
  | .rt t => .ok t
  | .nx _ => .ok .none
  | _ => .stuck
 else .stuck
theorem Xt {α : Type} (r : Res α) : (∃ a, noX r = .ok a) \/ noX r = .stuck := by
 cases r
 ·exact .inl ⟨_, rfl⟩
 ·exact .inr rfl
 ·exact .inr rfl
theorem VE {α : Type} {r : Res α} {a : α} (h : noX r = .ok a) : r = .ok a := by
 cases r <;> simp at h
 rw [h]
def runQ (n np : Nat) (b : DS) : DF := fun ts => noX (runF n np b ts)
theorem runQ_nox (n np : Nat) (b : DS) (ts : List PyData) (c : Str) : runQ n np b ts ≠ .exc c := by
 unfold runQ
 cases runF n np b ts <;> simp
def rngT (lo : Int) (n : Nat) : List PyData := (List.range n).map fun (k : Nat) => .int (lo + (k : Int))
def Wx (j : Int) : Bool := decide (j.natAbs <= 1000000000000)
theorem WO {n : Nat} (h : n <= 1000000000) : Wx (n : Int) = true := by
 unfold Wx
 exact decide_eq_true (by omega)
theorem Vy {j : Int} (h : Wx j = true) : -(2 ^ 62) <= j /\ j < 2 ^ 62 := by
 have h' : j.natAbs <= 1000000000000 := of_decide_eq_true h
 omega
@[simp] def iRng (a : DE) : DA := fun G => (a G).bind fun x => match x with
 | .int j => if Wx j = true then .ok (rngT 0 j.toNat) else .stuck
 | _ => .stuck
theorem fLt_b : ∀ x y, (∃ k, fLt x y = .ok (.bool k)) \/ fLt x y = .stuck := by intro x y; cases x <;> cases y <;> simp
theorem fGt_b : ∀ x y, (∃ k, fGt x y = .ok (.bool k)) \/ fGt x y = .stuck := by intro x y; cases x <;> cases y <;> simp
theorem fEq_b : ∀ x y, (∃ k, fEq x y = .ok (.bool k)) \/ fEq x y = .stuck := by
 intro x y
 unfold fEq
 split
 ·exact .inl ⟨_, rfl⟩
 ·split
  ·exact .inl ⟨_, rfl⟩
  ·exact .inr rfl
theorem fNe_b : ∀ x y, (∃ k, fNe x y = .ok (.bool k)) \/ fNe x y = .stuck := by
 intro x y
 unfold fNe
 split
 ·exact .inl ⟨_, rfl⟩
 ·split
  ·exact .inl ⟨_, rfl⟩
  ·exact .inr rfl
@[simp] def iSeq (a : DE) : DA := fun G => (a G).bind fun x => match x with
 | .list xs => .ok xs
 | .tuple xs => .ok xs
 | _ => .stuck
@[simp] def capS (cap : List Nat) (G : List Sl) : List Sl := cap.map fun i => match (G[i]? : Option Sl) with
 | some (.val t) => .val t
 | _ => .emp
def ZA (st : PyData -> List Sl -> Res (List Sl)) (c : DT) (e : DE) (C : List Sl) : List PyData -> Res (List PyData)
 | [] => .ok []
 | t :: ts => (noX (st t C)).bind fun G1 => (c G1).bind fun k => if k then (e G1).bind fun y => (ZA st c e C ts).bind fun ys => .ok (y :: ys) else ZA st c e C ts
@[simp] def YX (nv : Nat) (cap : List Nat) (st : PyData -> List Sl -> Res (List Sl)) (it : DA) (c : DT) (e : DE) : DA := fun G => (it G).bind fun ts => if ts.length <= 16777216 then ZA st c e (List.replicate nv .emp ++ capS cap G) ts else .stuck
@[simp] def tT : DT := fun _ => .ok true
@[simp] def dIxN (i : Nat) (k : DE) : DE := fun G => match G[i]? with
 | some (.own xs) => (k G).bind fun y => fIx (.list xs) y
 | some (.val t) => (k G).bind fun y => fIx t y
 | _ => .stuck
@[simp] def dLenN (i : Nat) : DE := fun G => match G[i]? with
 | some (.own xs) => .ok (.int xs.length)
 | some (.val t) => fLen t
 | _ => .stuck
@[simp] def subs (l : List Str) (c : Str) : Bool := l.contains c
@[simp] def dL (a : DA) : DE := fun G => (a G).bind fun xs => .ok (.list xs)
@[simp] def WR (a : DE) : DA := fun G => (a G).bind fList
def allT : List PyData -> Res Bool
 | [] => .ok true
 | .bool k :: r => (allT r).bind fun m => .ok (k && m)
 | _ => .stuck
theorem Qh : ∀ {xs : List PyData} {k : Bool}, allT xs = .ok k -> ∃ bs : List Bool, xs = bs.map .bool /\ k = bs.all id
 | [], k, h => by simp [allT] at h; exact ⟨[], rfl, by simp [<- h]⟩
 | x :: r, k, h => by
  cases x with
  | bool b =>
   simp only [allT] at h
   cases e : allT r with
   | ok m =>
    rw [e] at h
    simp at h
    obtain ⟨bs, h1, h2⟩ := Qh e
    exact ⟨b :: bs, by simp [h1], by simp [<- h, h2]⟩
   | exc c => rw [e] at h; cases h
   | stuck => rw [e] at h; cases h
  | none => simp [allT] at h
  | int _ => simp [allT] at h
  | str _ => simp [allT] at h
  | list _ => simp [allT] at h
  | tuple _ => simp [allT] at h
  | dict _ => simp [allT] at h
theorem VV : ∀ (xs : List PyData) (c : Str), allT xs ≠ .exc c
 | [], c => by simp [allT]
 | x :: r, c => by
  cases x with
  | bool b =>
   simp only [allT]
   cases e : allT r with
   | ok m => simp
   | exc c' => exact absurd e (VV r c')
   | stuck => simp
  | none => simp [allT]
  | int _ => simp [allT]
  | str _ => simp [allT]
  | list _ => simp [allT]
  | tuple _ => simp [allT]
  | dict _ => simp [allT]
@[simp] def fAll : PyData -> Res PyData
 | .list xs => (allT xs).bind fun k => .ok (.bool k)
 | _ => .stuck
@[simp] def Xq (i : Nat) (G' : List Sl) (t kt : PyData) : Res Out :=
 match G'[i]?, kt with
 | some (.own xs), .int j => match ixP xs.length j with
  | some m => .ok (.nx (G'.set i (.own (xs.set m t))))
  | none => .stuck
 | _, _ => .stuck
def X8 (i : Nat) (is : List Nat) (k e : DE) : DS := fun G => (e (frz is G)).bind fun t => if WY (if Yk t then G else frz is G) i then (k (frz is G)).bind fun kt => Xq i (if Yk t then G else frz is G) t kt else .stuck
@[simp] theorem dSetIt_nil (i : Nat) (k e : DE) (G : List Sl) : X8 i [] k e G = (e G).bind fun t => if WY G i then (k G).bind fun kt => Xq i G t kt else .stuck := by
 unfold X8
 show (e G).bind _ = _
 congr 1
 funext t
 show (if WY (if Yk t = true then G else G) i = true then (k G).bind fun kt => Xq i (if Yk t = true then G else G) t kt else .stuck) = _
 rw [ite_self]
@[simp] theorem dSetIt_cons (i j : Nat) (is : List Nat) (k e : DE) (G : List Sl) : X8 i (j :: is) k e G = (e (frz (j :: is) G)).bind fun t => if WY (if Yk t then G else frz (j :: is) G) i then (k (frz (j :: is) G)).bind fun kt => Xq i (if Yk t then G else frz (j :: is) G) t kt else .stuck := rfl
theorem Uu {i : Nat} : ∀ t G c, Z4 i t G ≠ .exc c := by intro t G c; simp
def Wb (nv : Nat) (st : PyData -> List Sl -> Res (List Sl)) : Prop := ∀ t G G1, st t G = .ok G1 -> G1.length = G.length /\ ∀ i, nv <= i -> G1[i]? = G[i]?
theorem Ya {nv i : Nat} (h : i < nv) : Wb nv (Z4 i) := by
 intro t G G1 e
 simp at e
 subst e
 refine ⟨by simp, fun j hj => ?_⟩
 rw [List.getElem?_set_ne (by omega)]
end Fx
namespace Fx
open PySem
theorem mulOk_r {i j : Int} (hj : j.natAbs < 18446744073709551616) : WS i j = true := by
 simp only [WS, Bool.or_eq_true, decide_eq_true_eq]
 exact .inr hj
def fr (q : Rat) : PyData := .tuple [.int q.num, .int (q.den : Int)]
theorem Vl (q : Rat) : Int.gcd q.num q.den = 1 := q.reduced
def uGcd : List Sl -> Nat := fun G => match (G[1]? : Option Sl) with
 | some (.val (.int b)) => b.natAbs + 1
 | _ => 0
def gcdC : DT := tV (d2 fNe (dVar 1) (dC (.int 0)))
def gcdB : DS := dSeq (dSet 2 [] (d2 fMod (dVar 0) (dVar 1))) (dSeq (dSet 0 [] (dVar 1)) (dSet 1 [] (dVar 2)))
theorem gcd_step {a b : Int} (ha : 0 <= a) (hb : 0 <= b) : Int.gcd b (a % b) = Int.gcd a b := by
 obtain ⟨m, rfl⟩ := Int.eq_ofNat_of_zero_le ha
 obtain ⟨n, rfl⟩ := Int.eq_ofNat_of_zero_le hb
 rw [<- Int.natCast_emod, Int.gcd_natCast_natCast, Int.gcd_natCast_natCast, Nat.gcd_comm n, <- Nat.gcd_rec, Nat.gcd_comm]
theorem VL : ∀ (n : Nat) (a b : Int) (s : Sl), 0 <= a -> 0 <= b -> b.natAbs < n ->
  ∃ s', Xf gcdC gcdB n [.val (.int a), .val (.int b), s] = .ok (.nx [.val (.int (Int.gcd a b)), .val (.int 0), s'])
 | 0, a, b, s, ha, hb, h => by omega
 | n + 1, a, b, s, ha, hb, h => by
  unfold Xf
  by_cases hz : b = 0
  ·subst hz
   refine ⟨s, ?_⟩
   simp [gcdC, fNe, Int.natAbs_of_nonneg ha]
  ·have hf : Int.fmod a b = a % b := Int.fmod_eq_emod_of_nonneg a hb
   have h1 : 0 <= a % b := Int.emod_nonneg a hz
   have h2 : a % b < b := Int.emod_lt_of_pos a (by omega)
   obtain ⟨s', e⟩ := VL n b (a % b) (.val (.int (a % b))) hb h1 (by omega)
   refine ⟨s', ?_⟩
   rw [gcd_step ha hb] at e
   simpa [gcdC, gcdB, fNe, hz, hf] using e
def dGcd : DS := dSeq (dSet 0 [] (d1 fAbs (dVar 0))) (dSeq (dSet 1 [] (d1 fAbs (dVar 1))) (dSeq (U4 uGcd gcdC gcdB) (dRet (dVar 0))))
theorem abs_if (a : Int) : (if a < 0 then -a else a) = (a.natAbs : Int) := by split <;> omega
theorem gcd_ok (a b : Int) : runF 3 2 dGcd [.int a, .int b] = .ok (.int (Int.gcd a b)) := by
 obtain ⟨s', e⟩ := VL (b.natAbs + 1) a.natAbs b.natAbs .emp (Int.natCast_nonneg _) (Int.natCast_nonneg _) (by simp)
 have g : Int.gcd (a.natAbs : Int) (b.natAbs : Int) = Int.gcd a b := by simp [Int.gcd]
 rw [g] at e
 simp [runF, dGcd, abs_if, uGcd, e]
end Fx
namespace Fx
open PySem
theorem Vx (lo : Int) (n : Nat) : (rngT lo n).length = n := by simp [rngT]
theorem Ys {α : Type} {st : PyData -> List Sl -> Res (List Sl)} {e : DE} {C : List Sl} (inj f : α -> PyData) : ∀ (xs : List α), (∀ x ∈ xs, ∃ G1, st (inj x) C = .ok G1 /\ e G1 = .ok (f x)) -> ZA st tT e C (xs.map inj) = .ok (xs.map f)
 | [], _ => rfl
 | t :: ts, h => by
  obtain ⟨G1, e1, e2⟩ := h t List.mem_cons_self
  have ih := Ys inj f ts fun t' ht => h t' (List.mem_cons_of_mem _ ht)
  rw [List.map_cons]
  unfold ZA
  simp [e1, e2, ih]
theorem Y8 (n : Nat) : rngT 0 n = (List.range n).map fun (k : Nat) => PyData.int (k : Int) := by simp [rngT]
mutual
theorem eqv_refl : ∀ (t : PyData), t.canLay0 = true -> t.eqv t = true
 | .none, _ => by simp [PyData.eqv]
 | .bool b, _ => by simp [PyData.eqv]
 | .int i, _ => by simp [PyData.eqv]
 | .str x, _ => by simp [PyData.eqv]
 | .list xs, h => by simp only [PyData.eqv]; exact Xn xs (by simpa [PyData.canLay0] using h)
 | .tuple xs, h => by simp only [PyData.eqv]; exact Xn xs (by simpa [PyData.canLay0] using h)
 | .dict _, h => by simp [PyData.canLay0] at h
theorem Xn : ∀ (ts : List PyData), PyData.canLayAll0 ts = true -> PyData.eqvAll ts ts = true
 | [], _ => by simp [PyData.eqvAll]
 | t :: ts, h => by
  simp only [PyData.canLayAll0, Bool.and_eq_true] at h
  simp [PyData.eqvAll, eqv_refl t h.1, Xn ts h.2]
end
end Fx
namespace Lw
open PySem Fx
abbrev Xo : List Sl -> Nat := uGcd
def Wr : DS :=
  (dRet (dAndV (d1 (fIs isInt) (dVar 0)) (dNotV (d1 (fIs isBool) (dVar 0)))))
def Yf : DF := runQ 1 1 Wr
def Xx : DS :=
  (dRet (dVar 0))
def Xy : DS :=
  dSeq (U4 Xo (tV (d2 fNe (dVar 1) (dC (.int 0))))
  (dSeq (dSet 2 [] (d2 fMod (dVar 0) (dVar 1)))
  (dSeq (dSet 0 [] (dVar 1))
  (dSet 1 [] (dVar 2)))))
  Xx
def Xz : DS :=
  dSeq (dSet 1 [] (d1 fAbs (dVar 1)))
  Xy
def XL : DS :=
  dSeq (dSet 0 [] (d1 fAbs (dVar 0)))
  Xz
def Z2 : DF := runQ 3 2 XL
def ZI : DS :=
  (dRet (dAndV (d2 fGe (d2 fIx (dVar 0) (dC (.int 1))) (dC (.int 1))) (d2 fEq (Yh Z2 (Zg (d2 fIx (dVar 0) (dC (.int 0))) (Zg (d2 fIx (dVar 0) (dC (.int 1))) dNil))) (dC (.int 1)))))
def Zx : DS :=
  dSeq (dIf (tOr (tNot (tV (Yh Yf (Zg (d2 fIx (dVar 0) (dC (.int 0))) dNil)))) (tNot (tV (Yh Yf (Zg (d2 fIx (dVar 0) (dC (.int 1))) dNil)))))
  (dRet (dC (.bool false)))
  YW)
  ZI
def Zm : DS :=
  dSeq (dIf (tOr (tNot (tV (d1 (fIs UO) (dVar 0)))) (tV (d2 fNe (d1 fLen (dVar 0)) (dC (.int 2)))))
  (dRet (dC (.bool false)))
  YW)
  Zx
def Ze : DF := runQ 1 1 Zm
def Yz : DS :=
  (dRet (d2 fAdd (d2 fMul (d2 fIx (dVar 0) (d2 fMod (dVar 1) (d1 fLen (dVar 0)))) (dC (.int 31))) (dVar 1)))
def Yb : DS :=
  dSeq (dIf (tV (d2 fEq (dVar 0) (dLst dNil)))
  (dRet (dC (.int 0)))
  YW)
  Yz
def Yr : DS :=
  dSeq (dIf (tV (d2 fLt (dVar 1) (d1 fLen (dVar 0))))
  (dRet (d2 fIx (dVar 0) (dVar 1)))
  YW)
  Yb
def Zh : DF := runQ 2 2 Yr
end Lw
namespace Lw
open PySem Fx
theorem cd_ok (a b : Int) : Z2 [.int a, .int b] = .ok (.int (Int.gcd a b)) := by show noX (runF 3 2 dGcd [.int a, .int b]) = _; rw [gcd_ok]; rfl
theorem at0 (x y : PyData) : atP [x, y] 0 = some x := rfl
theorem at1 (x y : PyData) : atP [x, y] 1 = some y := rfl
theorem at_lt {ns : List Int} {k : Int} (h0 : 0 <= k) (h : k < ns.length) : ∃ c : Int, atP (ns.map .int) k = some (.int c) := by
 have hk : k.toNat < ns.length := by omega
 refine ⟨ns[k.toNat], ?_⟩
 simp [atP, ixP, h0, h, hk]
theorem XW : ∀ ns : List Int, Yx (.list (ns.map .int)) = true := by
 intro ns
 have h1 : ∀ ns : List Int, PyData.canLayAll0 (ns.map .int) = true := by
  intro ns
  induction ns with
  | nil => simp [PyData.canLayAll0]
  | cons n ns ih => simp [PyData.canLayAll0, PyData.canLay0, ih]
 have h2 : ∀ ns : List Int, PyData.depthAll (ns.map .int) = 0 := by
  intro ns
  induction ns with
  | nil => simp [PyData.depthAll]
  | cons n ns ih => simp [PyData.depthAll, PyData.depth, ih]
 simp [Yx, PyData.canLay0, PyData.depth, h1, h2]
theorem eqv_nil (ns : List Int) : PyData.eqv (.list (ns.map .int)) (.list []) = ns.isEmpty := by
 cases ns <;> simp [PyData.eqv, PyData.eqvAll]
theorem Wn : Yx (.list []) = true := XW []
theorem Qb (ns : List Int) (k : Int) (h0 : 0 <= k) : ∃ c : Int, Zh [.list (ns.map .int), .int k] = .ok (.int c) := by
 by_cases h : k < ns.length
 ·obtain ⟨c, e⟩ := at_lt h0 h
  exact ⟨c, by simp [Zh, runQ, runF, Yr, Yb, Yz, h, e]⟩
 ·by_cases hz : ns = []
  ·subst hz
   exact ⟨0, by
    have z := Wn
    have hk : ¬ k < 0 := by omega
    simp [Zh, runQ, runF, Yr, Yb, fEq, z, hk, PyData.eqv, PyData.eqvAll]⟩
  ·have hl : (0 : Int) < ns.length := by
    have : ns.length ≠ 0 := by simpa using hz
    omega
   have hf : Int.fmod k ns.length = k % ns.length := Int.fmod_eq_emod_of_nonneg _ (by omega)
   obtain ⟨c, e⟩ := at_lt (ns := ns) (k := k % ns.length) (Int.emod_nonneg _ (by omega)) (Int.emod_lt_of_pos _ hl)
   have hE : ns.isEmpty = false := by simpa using hz
   have o : WS c 31 = true := mulOk_r (by decide)
   refine ⟨c * 31 + k, ?_⟩
   simp [Zh, runQ, runF, Yr, Yb, Yz, h, fEq, XW, Wn, eqv_nil, hE, hz, hf, e, o]
@[simp] def noD : PyData -> Bool
 | .dict _ => false
 | _ => true
theorem Vu (t : PyData) (h : noD t = true) : Yf [t] = .ok (.bool (match t with | .int _ => true | _ => false)) := by
 cases t <;> simp [Yf, runQ, runF, Wr] at h ⊢
theorem YY (i : Int) : Yf [.int i] = .ok (.bool true) := Vu (.int i) rfl
theorem WX (q : Rat) : Ze [fr q] = .ok (.bool true) := by
 have hd : (1 : Int) <= (q.den : Int) := by have := q.den_nz; omega
 simp [Ze, runQ, runF, Zm, Zx, ZI, fr, at0, at1, YY, cd_ok, hd, fNe, fEq, Vl]
theorem UT (w : Int) : (PyData.tuple [.int w, .int 1]) = fr (w : Rat) := by simp [fr]
end Lw
namespace Lw
open PySem Fx
theorem XH {c : Int} {n : Nat} (h : 0 < n) : ∃ r : Nat, Int.fmod c (n : Int) = (r : Int) /\ r < n := by
 rw [Int.fmod_eq_emod_of_nonneg _ (by omega)]
 have h1 := Int.emod_nonneg c (b := (n : Int)) (by omega)
 have h2 := Int.emod_lt_of_pos c (b := (n : Int)) (by omega)
 exact ⟨(c % n).toNat, by omega, by omega⟩
end Lw
namespace Fx
open PySem PySem.Spec PyProof.Rows L2
def CO (c : Addr) (q : Str) : HO := .ext fun h => ∃ oc vs t, h.get? c = some oc /\ oc.data = .fields vs /\ vs[1]? = some (.str q t)
def Xa : List Str := ["raising_column"]
def lamQ (x : Str) : Str := x ++ ".<locals>." ++ "<lambda>"
def Xd (K : PySem.W.Frag) (H : Hp) : Prop := ∀ x c T, x ∈ Xa -> PySem.W.tabIn K x = some (c, T) ->
 ∃ ps, H T = some (.tbl ps) /\ TriplesOk ps.toList /\ ∀ pos cv, codeAmong pos ps.toList = some cv -> ∃ c', cv = .ref c' /\ H c' = some (CO c' (lamQ x))
def Nt (o : HO) : Prop := ∀ ps, o ≠ .tbl ps
theorem Xg {xs : List V} : Nt (.lst xs) := fun _ z => by cases z
theorem nt_tup {xs : List V} : Nt (.tup xs) := fun _ z => by cases z
theorem nt_ins {C dx : Addr} {fs : List (Str × V)} : Nt (.ins C dx fs) := fun _ z => by cases z
theorem nt_frz {o : Obj} {u : HO} : Nt (.frz o u) := fun _ z => by cases z
theorem nt_ext {φ : Heap -> Prop} : Nt (.ext φ) := fun _ z => by cases z
structure Same (H H' : Hp) : Prop where
 kp : ∀ b o, H b = some o -> Nt o -> H' b = some o
 free : ∀ {b}, H' b = none -> H b = none
 tab : ∀ K, Xd K H -> Xd K H'
 tbk : ∀ b ps, H b = some (.tbl ps) -> ∃ qs, H' b = some (.tbl qs)
theorem Same.refl (H : Hp) : Same H H := ⟨fun _ _ h _ => h, fun h => h, fun _ h => h, fun _ ps h => ⟨ps, h⟩⟩
theorem Same.trans {H H1 H2 : Hp} (a : Same H H1) (b : Same H1 H2) : Same H H2 := ⟨fun c o h n => b.kp c o (a.kp c o h n) n, fun h => a.free (b.free h), fun K h => b.tab K (a.tab K h), fun c ps h => let ⟨qs, h1⟩ := a.tbk c ps h; b.tbk c qs h1⟩
theorem Xd.mono {K : PySem.W.Frag} {H H' : Hp} (h : Xd K H) (e : ∀ b o, H b = some o -> (∀ xs, o ≠ .lst xs) -> H' b = some o) : Xd K H' := fun x c T hx ht => by
 obtain ⟨ps, h1, h2, h3⟩ := h x c T hx ht
 refine ⟨ps, e _ _ h1 (fun _ z => by cases z), h2, fun pos cv hc => ?_⟩
 obtain ⟨c', e1, e2⟩ := h3 pos cv hc
 exact ⟨c', e1, e _ _ e2 (fun _ z => by cases z)⟩
theorem Same.of {H H' : Hp} (e : ∀ b o, H b = some o -> H' b = some o) : Same H H' where
 kp := fun b o h _ => e b o h
 free := fun {b} h => by
  cases q : H b with
  | none => rfl
  | some o => rw [e b o q] at h; cases h
 tab := fun K h => Xd.mono h fun b o q _ => e b o q
 tbk := fun b ps h => ⟨ps, e b _ h⟩
structure Pv where
 own : Nat -> Option Addr
 fb : Addr -> Prop
def Off (P : Pv) (a : Addr) : Prop := (∀ i, P.own i ≠ some a) /\ ¬ P.fb a
def Tr (H : Hp) (P : Pv) (H' : Hp) (P' : Pv) : Prop := ∀ a o, H a = some o -> Nt o -> Off P a -> H' a = some o /\ Off P' a
theorem Tr.same {H H' : Hp} {P : Pv} (e : Same H H') : Tr H P H' P := fun a o h n q => ⟨e.kp a o h n, q⟩
structure Go (H : Hp) (P : Pv) (H' : Hp) (P' : Pv) : Prop where
 mv : ∀ a o, H a = some o -> Nt o -> (∀ i, P.own i ≠ some a) -> H' a = some o /\ ∀ i, P'.own i ≠ some a
 fbe : P'.fb = P.fb
 free : ∀ {b}, H' b = none -> H b = none
 tab : ∀ K, Xd K H -> Xd K H'
 tbk : ∀ b ps, H b = some (.tbl ps) -> ∃ qs, H' b = some (.tbl qs)
theorem Go.refl (H : Hp) (P : Pv) : Go H P H P := ⟨fun _ _ h _ o => ⟨h, o⟩, rfl, fun h => h, fun _ h => h, fun _ ps h => ⟨ps, h⟩⟩
theorem Go.trans {H H1 H2 : Hp} {P P1 P2 : Pv} (a : Go H P H1 P1) (b : Go H1 P1 H2 P2) : Go H P H2 P2 := ⟨fun c o h n q =>
 let ⟨h1, q1⟩ := a.mv c o h n q
 b.mv c o h1 n q1, b.fbe.trans a.fbe, fun h => a.free (b.free h), fun K h => b.tab K (a.tab K h), fun c ps h => let ⟨qs, h1⟩ := a.tbk c ps h; b.tbk c qs h1⟩
theorem Go.same {H H' : Hp} {P : Pv} (e : Same H H') : Go H P H' P := ⟨fun a o h n q => ⟨e.kp a o h n, q⟩, rfl, fun h => e.free h, e.tab, e.tbk⟩
theorem Go.tr {H H' : Hp} {P P' : Pv} (g : Go H P H' P') : Tr H P H' P' := fun a o h n q => ⟨(g.mv a o h n q.1).1, (g.mv a o h n q.1).2, by rw [g.fbe]; exact q.2⟩
theorem Go.all {H H' : Hp} {P P' : Pv} (g : Go H P H' P') (ho : ∀ i, P.own i = none) : Same H H' := ⟨fun b o e n => (g.mv b o e n fun i => by rw [ho i]; exact fun z => by cases z).1, fun h => g.free h, g.tab, g.tbk⟩
def ModL (K : PySem.W.Frag) (a : Addr) (xs : List V) : Prop :=
 ∃ (o : Obj) (its : Array Value) (n : Nat), K.lookup a = some o /\ o.cls = .type "list" /\ o.dict = none /\ o.data = .seq its n /\ its.size <= sizeLine /\ Vals xs its.toList
def ModT (K : PySem.W.Frag) (a : Addr) (xs : List V) : Prop :=
 ∃ (o : Obj) (its : Array Value) (n : Nat), K.lookup a = some o /\ o.cls = .type "tuple" /\ o.data = .seq its n /\ its.size <= sizeLine /\ Vals xs its.toList
def SL (K : PySem.W.Frag) (H : Hp) (P : Pv) (a : Addr) (xs : List V) : Prop := (Rd H a (.lst xs) /\ Off P a) \/ ModL K a xs
def ST (K : PySem.W.Frag) (H : Hp) (P : Pv) (a : Addr) (xs : List V) : Prop := (Rd H a (.tup xs) /\ Off P a) \/ ModT K a xs
theorem SL.sq {K : PySem.W.Frag} {H : Hp} {P : Pv} {a : Addr} {xs : List V} (h : SL K H P a xs) : SqL K H a xs := by
 rcases h with ⟨h, _⟩ | h
 ·exact .inl h
 ·exact .inr h
theorem ST.sq {K : PySem.W.Frag} {H : Hp} {P : Pv} {a : Addr} {xs : List V} (h : ST K H P a xs) : SqT K H a xs := by
 rcases h with ⟨h, _⟩ | h
 ·exact .inl h
 ·exact .inr h
theorem Rd.go {H H' : Hp} {P P' : Pv} {a : Addr} {u : HO} (g : Tr H P H' P') (n : Nt u) (h : Rd H a u) (o : Off P a) : Rd H' a u /\ Off P' a := by
 rcases h with h | ⟨ob, h⟩
 ·exact ⟨.inl (g _ _ h n o).1, (g _ _ h n o).2⟩
 ·exact ⟨.inr ⟨ob, (g _ _ h nt_frz o).1⟩, (g _ _ h nt_frz o).2⟩
theorem SL.go {K : PySem.W.Frag} {H H' : Hp} {P P' : Pv} {a : Addr} {xs : List V} (g : Tr H P H' P') (h : SL K H P a xs) : SL K H' P' a xs := by
 rcases h with ⟨h, o⟩ | h
 ·exact .inl (Fx.Rd.go g Xg h o)
 ·exact .inr h
theorem ST.go {K : PySem.W.Frag} {H H' : Hp} {P P' : Pv} {a : Addr} {xs : List V} (g : Tr H P H' P') (h : ST K H P a xs) : ST K H' P' a xs := by
 rcases h with ⟨h, o⟩ | h
 ·exact .inl (Fx.Rd.go g nt_tup h o)
 ·exact .inr h
def XO (K : PySem.W.Frag) (a : Addr) : HO := .ext fun h => ∃ ob C, h.get? a = some ob /\ ob.cls = .ref C /\ PySem.W.subIn K (.ref C) (.type "ValueError") = some true
mutual
def Rl (K : PySem.W.Frag) (H : Hp) (P : Pv) : PyData -> V -> Prop
 | .none, v => v = .non
 | .bool b, v => v = .bl b
 | .int i, v => v = .int i
 | .str x, v => v = .str x
 | .list xs, v => ∃ a vs, v = .ref a /\ SL K H P a vs /\ Rls K H P xs vs
 | .tuple xs, v => ∃ a vs, v = .ref a /\ ST K H P a vs /\ Rls K H P xs vs
 | .dict xs, v => (xs = [] /\ ∃ a, v = .ref a /\ H a = some (XO K a) /\ Off P a) \/ (xs ≠ [] /\ ∃ a C dx fs, v = .ref a /\ H a = some (.ins C dx fs) /\ Off P a /\ Cls K C /\ Rlp K H P C xs fs)
def Rls (K : PySem.W.Frag) (H : Hp) (P : Pv) : List PyData -> List V -> Prop
 | [], vs => vs = []
 | x :: xs, vs => ∃ v r, vs = v :: r /\ Rl K H P x v /\ Rls K H P xs r
def Rlp (K : PySem.W.Frag) (H : Hp) (P : Pv) (C : Addr) : List (PyData × PyData) -> List (Str × V) -> Prop
 | [], fs => fs = []
 | (k, t) :: xs, fs => ∃ n v r, fs = (n, v) :: r /\ k = .str n /\ NoAttr K C n /\ Rl K H P t v /\ Rlp K H P C xs r
end
mutual
theorem Rl.go {K : PySem.W.Frag} {H H' : Hp} {P P' : Pv} (g : Tr H P H' P') : ∀ (t : PyData) (v : V), Rl K H P t v -> Rl K H' P' t v
 | .none, v, h => by simpa only [Rl] using h
 | .bool b, v, h => by simpa only [Rl] using h
 | .int i, v, h => by simpa only [Rl] using h
 | .str x, v, h => by simpa only [Rl] using h
 | .list xs, v, h => by
  simp only [Rl] at h ⊢
  obtain ⟨a, vs, e, s, r⟩ := h
  exact ⟨a, vs, e, s.go g, Rls.go g xs vs r⟩
 | .tuple xs, v, h => by
  simp only [Rl] at h ⊢
  obtain ⟨a, vs, e, s, r⟩ := h
  exact ⟨a, vs, e, s.go g, Rls.go g xs vs r⟩
 | .dict xs, v, h => by
  simp only [Rl] at h ⊢
  rcases h with ⟨e, a, e2, s, o⟩ | ⟨e, a, C, dx, fs, e2, s, o, c, r⟩
  ·exact .inl ⟨e, a, e2, g a _ s nt_ext o⟩
  ·exact .inr ⟨e, a, C, dx, fs, e2, (g a _ s nt_ins o).1, (g a _ s nt_ins o).2, c, Rlp.go g xs fs r⟩
theorem Rls.go {K : PySem.W.Frag} {H H' : Hp} {P P' : Pv} (g : Tr H P H' P') : ∀ (ts : List PyData) (vs : List V), Rls K H P ts vs -> Rls K H' P' ts vs
 | [], vs, h => by simpa only [Rls] using h
 | x :: xs, vs, h => by
  simp only [Rls] at h ⊢
  obtain ⟨v, r, e, q, t⟩ := h
  exact ⟨v, r, e, Rl.go g x v q, Rls.go g xs r t⟩
theorem Rlp.go {K : PySem.W.Frag} {H H' : Hp} {P P' : Pv} {C : Addr} (g : Tr H P H' P') : ∀ (ts : List (PyData × PyData)) (fs : List (Str × V)), Rlp K H P C ts fs -> Rlp K H' P' C ts fs
 | [], vs, h => by simpa only [Rlp] using h
 | (k, t) :: xs, vs, h => by
  simp only [Rlp] at h ⊢
  obtain ⟨n, v, r, e, e2, na, q, z⟩ := h
  exact ⟨n, v, r, e, e2, na, Rl.go g t v q, Rlp.go g xs r z⟩
end
section
variable {K : PySem.W.Frag} {H H' : Hp} {P P' : Pv}
theorem Y1 {v : V} : Rl K H P .none v ↔ v = .non := by simp only [Rl]
theorem Yd {b : Bool} {v : V} : Rl K H P (.bool b) v ↔ v = .bl b := by simp only [Rl]
theorem ZB {i : Int} {v : V} : Rl K H P (.int i) v ↔ v = .int i := by simp only [Rl]
theorem WQ {x : Str} {v : V} : Rl K H P (.str x) v ↔ v = .str x := by simp only [Rl]
theorem ZJ {xs : List PyData} {v : V} : Rl K H P (.list xs) v ↔ ∃ a vs, v = .ref a /\ SL K H P a vs /\ Rls K H P xs vs := by simp only [Rl]
theorem ZO {xs : List PyData} {v : V} : Rl K H P (.tuple xs) v ↔ ∃ a vs, v = .ref a /\ ST K H P a vs /\ Rls K H P xs vs := by simp only [Rl]
theorem rl_dict {xs : List (PyData × PyData)} {v : V} : Rl K H P (.dict xs) v ↔ (xs = [] /\ ∃ a, v = .ref a /\ H a = some (XO K a) /\ Off P a) \/ (xs ≠ [] /\ ∃ a C dx fs, v = .ref a /\ H a = some (.ins C dx fs) /\ Off P a /\ Cls K C /\ Rlp K H P C xs fs) := by simp only [Rl]
theorem rl_exc {v : V} : Rl K H P (.dict []) v ↔ ∃ a, v = .ref a /\ H a = some (XO K a) /\ Off P a := by rw [rl_dict]; simp
theorem Z5 {vs : List V} : Rls K H P [] vs ↔ vs = [] := by simp only [Rls]
theorem Zz {x : PyData} {xs : List PyData} {vs : List V} : Rls K H P (x :: xs) vs ↔ ∃ v r, vs = v :: r /\ Rl K H P x v /\ Rls K H P xs r := by simp only [Rls]
theorem Rls.length : ∀ {ts : List PyData} {vs : List V}, Rls K H P ts vs -> ts.length = vs.length
 | [], vs, h => by rw [Z5.mp h]; rfl
 | t :: ts, vs, h => by
  obtain ⟨v, r, rfl, _, q⟩ := Zz.mp h
  simp only [List.length_cons, Rls.length q]
theorem Rls.getT : ∀ {ts : List PyData} {vs : List V} {i : Nat} {t : PyData}, Rls K H P ts vs -> ts[i]? = some t -> ∃ v, vs[i]? = some v /\ Rl K H P t v
 | [], vs, i, v, h, e => by simp at e
 | t :: ts, vs, 0, t', h, e => by
  obtain ⟨v', r, rfl, q, _⟩ := Zz.mp h
  simp at e; subst e
  exact ⟨v', rfl, q⟩
 | t :: ts, vs, i + 1, t', h, e => by
  obtain ⟨v', r, rfl, _, q⟩ := Zz.mp h
  exact Rls.getT (i := i) q (by simpa using e)
theorem Rls.append : ∀ {ts us : List PyData} {vs ws : List V}, Rls K H P ts vs -> Rls K H P us ws -> Rls K H P (ts ++ us) (vs ++ ws)
 | [], us, vs, ws, h, q => by rw [Z5.mp h]; exact q
 | t :: ts, us, vs, ws, h, q => by
  obtain ⟨v, r, rfl, a, b⟩ := Zz.mp h
  exact Zz.mpr ⟨v, r ++ ws, rfl, a, Rls.append b q⟩
theorem Rls.set : ∀ {ts : List PyData} {vs : List V} {t : PyData} {v : V} (i : Nat), Rls K H P ts vs -> Rl K H P t v -> Rls K H P (ts.set i t) (vs.set i v)
 | [], vs, t, v, i, h, q => by rw [Z5.mp h]; exact Z5.mpr rfl
 | t' :: ts, vs, t, v, 0, h, q => by
  obtain ⟨v', r, rfl, a, b⟩ := Zz.mp h
  exact Zz.mpr ⟨v, r, rfl, q, b⟩
 | t' :: ts, vs, t, v, i + 1, h, q => by
  obtain ⟨v', r, rfl, a, b⟩ := Zz.mp h
  exact Zz.mpr ⟨v', r.set i v, rfl, a, Rls.set i b q⟩
theorem rls_ints (ns : List Int) : Rls K H P (ns.map .int) (ns.map V.int) := by
 induction ns with
 | nil => exact Z5.mpr rfl
 | cons n ns ih => exact Zz.mpr ⟨.int n, _, rfl, ZB.mpr rfl, ih⟩
end
def SlOk (K : PySem.W.Frag) (H : Hp) (P : Pv) (i : Nat) (x : Option V) : Sl -> Prop
 | .emp => True
 | .val t => ∃ v, x = some v /\ Rl K H P t v
 | .own xs => ∃ p vs, x = some (.ref p) /\ P.own i = some p /\ H p = some (.lst vs) /\ Rls K H P xs vs
structure Hol (K : PySem.W.Frag) (H : Hp) (P : Pv) (σ : L2.St) (G : List Sl) : Prop where
 sl : ∀ i s, G[i]? = some s -> SlOk K H P i (σ.getD i none) s
 inj : ∀ i j a, P.own i = some a -> P.own j = some a -> i = j
 only : ∀ i a, P.own i = some a -> ∃ xs, G[i]? = some (.own xs)
 fbd : ∀ a, P.fb a -> H a ≠ none
 nfb : ∀ i a, P.own i = some a -> ¬ P.fb a
 len : σ.length = G.length
 tab : Xd K H
theorem getD_some {σ : L2.St} {i : Nat} {v : V} (h : σ.getD i none = some v) : σ[i]? = some (some v) := by
 rw [List.getD_eq_getElem?_getD] at h
 cases e : σ[i]? with
 | none => rw [e] at h; cases h
 | some x => rw [e] at h; simp at h; rw [h]
section
variable {K : PySem.W.Frag} {H H' : Hp} {P P' : Pv} {σ : L2.St} {G : List Sl}
theorem Hol.dom (h : Hol K H P σ G) {i : Nat} {a : Addr} (e : P.own i = some a) : ∃ vs, H a = some (.lst vs) := by
 obtain ⟨xs, q⟩ := h.only i a e
 obtain ⟨p, vs, _, e', q', _⟩ := h.sl i _ q
 rw [e] at e'; cases e'
 exact ⟨vs, q'⟩
theorem Hol.nofb (h : Hol K H P σ G) {p : Addr} (e : H p = none) : ¬ P.fb p := fun z => h.fbd p z e
theorem Hol.off_new (h : Hol K H P σ G) {p : Addr} (e : H p = none) : Off P p := by
 refine ⟨fun i z => ?_, h.nofb e⟩
 obtain ⟨vs, q⟩ := h.dom z
 rw [e] at q
 cases q
theorem Hol.same (h : Hol K H P σ G) (e : Same H H') : Hol K H' P σ G where
 sl := fun i s q => by
  have z := h.sl i s q
  cases s with
  | emp => trivial
  | val t => obtain ⟨v, e1, r⟩ := z; exact ⟨v, e1, Rl.go (.same e) t v r⟩
  | own xs => obtain ⟨p, vs, e1, e2, e3, r⟩ := z; exact ⟨p, vs, e1, e2, e.kp _ _ e3 Xg, Rls.go (.same e) xs vs r⟩
 inj := h.inj
 only := h.only
 fbd := fun a z w => h.fbd a z (e.free w)
 nfb := h.nfb
 len := h.len
 tab := e.tab K h.tab
def Pv.del (P : Pv) (i : Nat) : Pv := ⟨fun j => if j = i then none else P.own j, P.fb⟩
def Pv.put (P : Pv) (i : Nat) (p : Addr) : Pv := ⟨fun j => if j = i then some p else P.own j, P.fb⟩
theorem Tr.del {i : Nat} : Tr H P H (P.del i) := fun a o h _ q => ⟨h, fun j z => by
 have z' : (if j = i then none else P.own j) = some a := z
 split at z'
 ·cases z'
 ·exact q.1 j z', q.2⟩
theorem Go.del {i : Nat} : Go H P H (P.del i) := ⟨fun a o h _ q => ⟨h, fun j z => by
 have z' : (if j = i then none else P.own j) = some a := z
 split at z'
 ·cases z'
 ·exact q j z'⟩, rfl, fun h => h, fun _ h => h, fun _ ps h => ⟨ps, h⟩⟩
theorem Go.put {i : Nat} {p : Addr} (hp : H p = none) : Go H P H (P.put i p) := ⟨fun a o h _ q => ⟨h, fun j z => by
 have z' : (if j = i then some p else P.own j) = some a := z
 split at z'
 ·cases z'; rw [hp] at h; cases h
 ·exact q j z'⟩, rfl, fun h => h, fun _ h => h, fun _ ps h => ⟨ps, h⟩⟩
theorem Xu {σ : L2.St} {i : Nat} {x : Option V} (h : i < σ.length) : (σ.set i x).getD i none = x := by
 rw [List.getD_eq_getElem?_getD, List.getElem?_set_self h]; rfl
theorem Xl {σ : L2.St} {i j : Nat} {x : Option V} (h : j ≠ i) : (σ.set i x).getD j none = σ.getD j none := by
 rw [List.getD_eq_getElem?_getD, List.getD_eq_getElem?_getD, List.getElem?_set_ne (Ne.symm h)]
theorem Hol.setVal (h : Hol K H P σ G) (i : Nat) {t : PyData} {v : V} (r : Rl K H P t v) : Hol K H (P.del i) (σ.set i (some v)) (G.set i (.val t)) where
 sl := fun j s q => by
  by_cases e : j = i
  ·subst e
   have hl : j < G.length := by
    have := (List.getElem?_eq_some_iff.mp q).1
    simpa using this
   rw [List.getElem?_set_self hl] at q
   cases q
   refine ⟨v, ?_, Rl.go .del t v r⟩
   exact Xu (by rw [h.len]; exact hl)
  ·rw [List.getElem?_set_ne (Ne.symm e)] at q
   have z := h.sl j s q
   rw [Xl e]
   cases s with
   | emp => trivial
   | val t' => obtain ⟨v', e1, r'⟩ := z; exact ⟨v', e1, Rl.go .del t' v' r'⟩
   | own xs => obtain ⟨p, vs, e1, e2, e3, r'⟩ := z; exact ⟨p, vs, e1, (by show (if j = i then none else P.own j) = _; rw [if_neg e]; exact e2), e3, Rls.go .del xs vs r'⟩
 inj := fun a b c h1 h2 => by
  have h1' : (if a = i then none else P.own a) = some c := h1
  have h2' : (if b = i then none else P.own b) = some c := h2
  split at h1'
  ·cases h1'
  ·split at h2'
   ·cases h2'
   ·exact h.inj a b c h1' h2'
 only := fun j a z => by
  have z' : (if j = i then none else P.own j) = some a := z
  split at z'
  ·cases z'
  ·rename_i ne
   obtain ⟨xs, q⟩ := h.only j a z'
   exact ⟨xs, by rw [List.getElem?_set_ne (Ne.symm ne)]; exact q⟩
 fbd := h.fbd
 nfb := fun j a z => by
  have z' : (if j = i then none else P.own j) = some a := z
  split at z'
  ·cases z'
  ·exact h.nfb j a z'
 len := by rw [List.length_set, List.length_set]; exact h.len
 tab := h.tab
theorem ZG {p : Addr} {o : HO} (h : H p = none) : Same H (upd H p o) := .of fun b u q => by rw [Zn (Zw q h)]; exact q
theorem Hol.upOwn (h : Hol K H P σ G) {i : Nat} {ys xs : List PyData} {vs : List V} {p : Addr} (hi : G[i]? = some (.own ys)) (hp : P.own i = some p) (r : Rls K H P xs vs) : Hol K (upd H p (.lst vs)) P σ (G.set i (.own xs)) /\ Go H P (upd H p (.lst vs)) P := by
 have hpl := h.dom hp
 have g0 : Go H P (upd H p (.lst vs)) P := ⟨fun a o e _ q => ⟨by rw [Zn (fun z => q i (by rw [z]; exact hp))]; exact e, q⟩, rfl, fun {b} w => by
  by_cases z : b = p
  ·rw [z, Zr] at w; cases w
  ·rw [Zn z] at w; exact w, fun K t => Xd.mono t fun b o e nl => by
  rw [Zn (fun z => by obtain ⟨us, w⟩ := hpl; rw [z, w] at e; cases e; exact nl _ rfl)]; exact e, fun b ps e => ⟨ps, by rw [Zn (fun z => by obtain ⟨us, w⟩ := hpl; rw [z, w] at e; cases e)]; exact e⟩⟩
 have gg := g0.tr
 have hl : i < G.length := (List.getElem?_eq_some_iff.mp hi).1
 refine ⟨⟨fun j s q => ?_, h.inj, fun j a z => ?_, fun a z => ?_, h.nfb, by rw [List.length_set]; exact h.len, g0.tab K h.tab⟩, g0⟩
 ·by_cases e : j = i
  ·subst e
   rw [List.getElem?_set_self hl] at q
   cases q
   obtain ⟨p', vs', e1, e2, _, _⟩ := h.sl j _ hi
   rw [hp] at e2; cases e2
   exact ⟨p, vs, e1, hp, Zr, Rls.go gg xs vs r⟩
  ·rw [List.getElem?_set_ne (Ne.symm e)] at q
   have z := h.sl j s q
   cases s with
   | emp => trivial
   | val t' => obtain ⟨v', e1, r'⟩ := z; exact ⟨v', e1, Rl.go gg t' v' r'⟩
   | own xs' =>
    obtain ⟨p', vs', e1, e2, e3, r'⟩ := z
    refine ⟨p', vs', e1, e2, ?_, Rls.go gg xs' vs' r'⟩
    rw [Zn (fun z => e (h.inj j i p' e2 (by rw [z]; exact hp)))]
    exact e3
 ·by_cases e : j = i
  ·subst e; exact ⟨xs, List.getElem?_set_self hl⟩
  ·obtain ⟨xs', q⟩ := h.only j a z
   exact ⟨xs', by rw [List.getElem?_set_ne (Ne.symm e)]; exact q⟩
 ·rw [Zn (fun e => h.nfb i p hp (by rw [<- e]; exact z))]
  exact h.fbd a z
end
section
variable {K : PySem.W.Frag} {H H' : Hp} {P P' : Pv} {σ : L2.St} {G : List Sl}
theorem Hol.frz1 (h : Hol K H P σ G) (i : Nat) : ∃ P', Hol K H P' σ (Fx.frz1 G i) /\ Go H P H P' := by
 unfold Fx.frz1
 split
 ·rename_i xs q
  obtain ⟨p, vs, e1, e2, e3, r⟩ := h.sl i _ q
  have off : Off (P.del i) p := ⟨fun j z => by
   have z' : (if j = i then none else P.own j) = some p := z
   split at z'
   ·cases z'
   ·rename_i ne; exact ne (h.inj j i p z' e2), h.nfb i p e2⟩
  have r0 : Rl K H (P.del i) (.list xs) (.ref p) := ZJ.mpr ⟨p, vs, rfl, .inl ⟨.inl e3, off⟩, Rls.go .del xs vs r⟩
  refine ⟨P.del i, ⟨fun j s z => ?_, ?_, ?_, h.fbd, ?_, by rw [List.length_set]; exact h.len, h.tab⟩, .del⟩
  ·by_cases e : j = i
   ·subst e
    rw [List.getElem?_set_self (List.getElem?_eq_some_iff.mp q).1] at z
    cases z
    exact ⟨.ref p, e1, r0⟩
   ·rw [List.getElem?_set_ne (Ne.symm e)] at z
    have z := h.sl j s z
    cases s with
    | emp => trivial
    | val t' => obtain ⟨v', e1, r'⟩ := z; exact ⟨v', e1, Rl.go .del t' v' r'⟩
    | own xs => obtain ⟨p, vs, e1, e2, e3, r'⟩ := z; exact ⟨p, vs, e1, (by show (if j = i then none else P.own j) = _; rw [if_neg e]; exact e2), e3, Rls.go .del xs vs r'⟩
  ·intro a b c h1 h2
   have h1' : (if a = i then none else P.own a) = some c := h1
   have h2' : (if b = i then none else P.own b) = some c := h2
   split at h1'
   ·cases h1'
   ·split at h2'
    ·cases h2'
    ·exact h.inj a b c h1' h2'
  ·intro j a z
   have z' : (if j = i then none else P.own j) = some a := z
   split at z'
   ·cases z'
   ·rename_i ne
    obtain ⟨xs, q⟩ := h.only j a z'
    exact ⟨xs, by rw [List.getElem?_set_ne (Ne.symm ne)]; exact q⟩
  ·intro j a z
   have z' : (if j = i then none else P.own j) = some a := z
   split at z'
   ·cases z'
   ·exact h.nfb j a z'
 ·exact ⟨P, h, .refl _ _⟩
theorem Hol.frz (is : List Nat) : ∀ {P : Pv} {G : List Sl}, Hol K H P σ G -> ∃ P', Hol K H P' σ (Fx.frz is G) /\ Go H P H P' := by
 induction is with
 | nil => exact fun {P G} h => ⟨P, h, .refl _ _⟩
 | cons i is ih =>
  intro P G h
  obtain ⟨P1, h1, g1⟩ := h.frz1 i
  obtain ⟨P2, h2, g2⟩ := ih h1
  exact ⟨P2, h2, g1.trans g2⟩
theorem Xv : ∀ (G : List Sl) (i : Nat), (frzA G)[i]? = (G[i]?).map fun s => match s with | .own xs => .val (.list xs) | s => s
 | [], i => by simp [frzA]
 | .own xs :: r, 0 => by simp [frzA]
 | .emp :: r, 0 => by simp [frzA]
 | .val t :: r, 0 => by simp [frzA]
 | .own xs :: r, i + 1 => by simp [frzA, Xv r i]
 | .emp :: r, i + 1 => by simp [frzA, Xv r i]
 | .val t :: r, i + 1 => by simp [frzA, Xv r i]
theorem YO : ∀ (G : List Sl), (frzA G).length = G.length
 | [] => rfl
 | .own xs :: r => by simp [frzA, YO r]
 | .emp :: r => by simp [frzA, YO r]
 | .val t :: r => by simp [frzA, YO r]
def Pv.bare (P : Pv) : Pv := ⟨fun _ => none, P.fb⟩
theorem Hol.frzA (h : Hol K H P σ G) : Hol K H P.bare σ (Fx.frzA G) /\ Go H P H P.bare := by
 have g0 : Go H P H P.bare := ⟨fun a o e _ q => ⟨e, fun _ z => (by cases z)⟩, rfl, fun h => h, fun _ h => h, fun _ ps h => ⟨ps, h⟩⟩
 have gg := g0.tr
 refine ⟨⟨fun j s z => ?_, fun _ _ _ z => (by cases z), fun _ _ z => (by cases z), h.fbd, fun _ _ z => (by cases z), by rw [YO]; exact h.len, h.tab⟩, g0⟩
 rw [Xv] at z
 cases q : G[j]? with
 | none => rw [q] at z; cases z
 | some s' =>
  rw [q] at z
  have w := h.sl j s' q
  cases s' with
  | emp => cases z; trivial
  | val t => cases z; obtain ⟨v, e, r⟩ := w; exact ⟨v, e, Rl.go gg t v r⟩
  | own xs =>
   cases z
   obtain ⟨p, vs, e1, e2, e3, r⟩ := w
   exact ⟨.ref p, e1, ZJ.mpr ⟨p, vs, rfl, .inl ⟨.inl e3, fun _ z => (by cases z), h.nfb j p e2⟩, Rls.go gg xs vs r⟩⟩
end
end Fx
namespace Fx
open PySem PySem.Spec PyProof.Rows L2
def Yu (K : PySem.W.Frag) (W : Str -> Hp -> Prop) (H : Hp) (P : Pv) (r : Res PyData) (Q : VK) : Prop :=
 match r with
 | .ok t => ∀ v H', Same H H' -> Rl K H' P t v -> Q v H'
 | .exc c => ∀ H', Same H H' -> W c H'
 | .stuck => False
def tF (K : PySem.W.Frag) (W : Str -> Hp -> Prop) (d : DE) : TE := fun σ H Q => ∃ G P, Hol K H P σ G /\ Yu K W H P (d G) Q
def Ui (K : PySem.W.Frag) (W : Str -> Hp -> Prop) (H : Hp) (P : Pv) (r : Res (List PyData)) (Q : List V -> Hp -> Prop) : Prop :=
 match r with
 | .ok ts => ∀ vs H', Same H H' -> Rls K H' P ts vs -> Q vs H'
 | .exc c => ∀ H', Same H H' -> W c H'
 | .stuck => False
def tFA (K : PySem.W.Frag) (W : Str -> Hp -> Prop) (d : DA) : TA := fun σ H Q => ∃ G P, Hol K H P σ G /\ Ui K W H P (d G) Q
def Wl (W : Str -> Hp -> Prop) (H : Hp) (r : Res Bool) (Q : Bool -> Hp -> Prop) : Prop :=
 match r with
 | .ok b => ∀ H', Same H H' -> Q b H'
 | .exc c => ∀ H', Same H H' -> W c H'
 | .stuck => False
def tFT (K : PySem.W.Frag) (W : Str -> Hp -> Prop) (d : DT) : TT := fun σ H Q => ∃ G P, Hol K H P σ G /\ Wl W H (d G) Q
def Pv.fbd (P : Pv) (p : Addr) : Pv := ⟨P.own, fun a => P.fb a \/ a = p⟩
def NewL (K : PySem.W.Frag) (H : Hp) (P : Pv) (H' : Hp) (P' : Pv) (t : PyData) (v : V) : Prop :=
 ∃ p us xs, v = .ref p /\ t = .list xs /\ H' p = some (.lst us) /\ Rls K H' (P'.fbd p) xs us /\ ∀ o, H p = some o -> Nt o -> ∃ i, P.own i = some p
theorem NewL.back {K : PySem.W.Frag} {H H1 H' : Hp} {P P1 P' : Pv} {t : PyData} {v : V} (g : Go H P H1 P1) (n : NewL K H1 P1 H' P' t v) : NewL K H P H' P' t v := by
 obtain ⟨p, us, xs, e1, e2, e3, r, q⟩ := n
 refine ⟨p, us, xs, e1, e2, e3, r, fun o e nt => Classical.byContradiction fun z => ?_⟩
 have := g.mv p o e nt fun i w => z ⟨i, w⟩
 obtain ⟨i, w⟩ := q o this.1 nt
 exact this.2 i w
def Yt (K : PySem.W.Frag) (W : Str -> Hp -> Prop) (fl : Bool) (H : Hp) (P : Pv) (r : Res Out) (D : Ends) : Prop :=
 match r with
 | .ok (.nx G') => ∀ σ' H' P', Go H P H' P' -> Hol K H' P' σ' G' -> D.nx σ' H'
 | .ok (.bk G') => ∀ σ' H' P', Go H P H' P' -> Hol K H' P' σ' G' -> D.bk σ' H'
 | .ok (.ct G') => ∀ σ' H' P', Go H P H' P' -> Hol K H' P' σ' G' -> D.ct σ' H'
 | .ok (.rt t) => ∀ v H' P', Go H P H' P' -> Rl K H' P' t v -> (fl = true -> NewL K H P H' P' t v) -> D.rt v H'
 | .exc c => ∀ H' P', Go H P H' P' -> W c H'
 | .stuck => False
def tFS (K : PySem.W.Frag) (W : Str -> Hp -> Prop) (fl : Bool) (d : DS) : TS := fun D σ H => ∃ G P, Hol K H P σ G /\ Yt K W fl H P (d G) D
def EV (X : Cx) (W : Str -> Hp -> Prop) (e : Expr) (d : DE) : Prop := PE X e (tF X.K W d)
def AV (X : Cx) (W : Str -> Hp -> Prop) (es : List Expr) (d : DA) : Prop := PA X es (tFA X.K W d)
def TV (X : Cx) (W : Str -> Hp -> Prop) (e : Expr) (d : DT) : Prop := PT X e (tFT X.K W d)
def TW (X : Cx) (W : Str -> Hp -> Prop) (e : Expr) (d : DT) : Prop := PW X e (tFT X.K W d)
def SV (X : Cx) (W : Str -> Hp -> Prop) (fl : Bool) (st : Stmt) (d : DS) : Prop := PS X st (tFS X.K W fl d)
def SVs (X : Cx) (W : Str -> Hp -> Prop) (fl : Bool) (st : List Stmt) (d : DS) : Prop := PSs X st (tFS X.K W fl d)
theorem Zq {X : Cx} {e : Expr} {t t' : TE} (h : PE X e t) (w : ∀ σ H Q, t' σ H Q -> t σ H Q) : PE X e t' := fun pins s σ H Q I q => h pins s σ H Q I (w σ H Q q)
theorem UF {X : Cx} {e : List Expr} {t t' : TA} (h : PA X e t) (w : ∀ σ H Q, t' σ H Q -> t σ H Q) : PA X e t' := fun pos pins s σ H Q I q => h pos pins s σ H Q I (w σ H Q q)
theorem Vh {X : Cx} {e : Expr} {t t' : TT} (h : PT X e t) (w : ∀ σ H Q, t' σ H Q -> t σ H Q) : PT X e t' := fun pins s σ H Q I q => h pins s σ H Q I (w σ H Q q)
theorem pw_weak {X : Cx} {e : Expr} {t t' : TT} (h : PW X e t) (w : ∀ σ H Q, t' σ H Q -> t σ H Q) : PW X e t' := fun wh pins s σ H Q I q => h wh pins s σ H Q I (w σ H Q q)
theorem YM {X : Cx} {e : Stmt} {t t' : TS} (h : PS X e t) (w : ∀ D σ H, t' D σ H -> t D σ H) : PS X e t' := fun pins s σ H D I q => h pins s σ H D I (w D σ H q)
theorem VB {X : Cx} {e : List Stmt} {t t' : TS} (h : PSs X e t) (w : ∀ D σ H, t' D σ H -> t D σ H) : PSs X e t' := fun pins s σ H D I q => h pins s σ H D I (w D σ H q)
theorem ZH {K : PySem.W.Frag} {W : Str -> Hp -> Prop} {σ : L2.St} {G : List Sl} {H : Hp} {P : Pv} {a : DE} (h : Hol K H P σ G) {Q : VK}
  (hx : ∀ c, a G = .exc c -> ∀ H', Same H H' -> W c H') (hs : a G ≠ .stuck)
  (q : ∀ t v H', a G = .ok t -> Same H H' -> Hol K H' P σ G -> Rl K H' P t v -> Q v H') : tF K W a σ H Q := by
 refine ⟨G, P, h, ?_⟩
 unfold Yu
 cases e : a G with
 | ok t => exact fun v H' s r => q t v H' e s (h.same s) r
 | exc c => exact hx c e
 | stuck => exact hs e
theorem XN {K : PySem.W.Frag} {W : Str -> Hp -> Prop} {σ : L2.St} {G : List Sl} {H : Hp} {P : Pv} {a : DT} (h : Hol K H P σ G) {Q : Bool -> Hp -> Prop}
  (hx : ∀ c, a G = .exc c -> ∀ H', Same H H' -> W c H') (hs : a G ≠ .stuck)
  (q : ∀ t H', a G = .ok t -> Same H H' -> Hol K H' P σ G -> Q t H') : tFT K W a σ H Q := by
 refine ⟨G, P, h, ?_⟩
 unfold Wl
 cases e : a G with
 | ok t => exact fun H' s => q t H' e s (h.same s)
 | exc c => exact hx c e
 | stuck => exact hs e
theorem XQ {K : PySem.W.Frag} {W : Str -> Hp -> Prop} {σ : L2.St} {G : List Sl} {H : Hp} {P : Pv} {a : DA} (h : Hol K H P σ G) {Q : List V -> Hp -> Prop}
  (hx : ∀ c, a G = .exc c -> ∀ H', Same H H' -> W c H') (hs : a G ≠ .stuck)
  (q : ∀ t v H', a G = .ok t -> Same H H' -> Hol K H' P σ G -> Rls K H' P t v -> Q v H') : tFA K W a σ H Q := by
 refine ⟨G, P, h, ?_⟩
 unfold Ui
 cases e : a G with
 | ok t => exact fun v H' s r => q t v H' e s (h.same s) r
 | exc c => exact hx c e
 | stuck => exact hs e
section
variable {X : Cx} {W : Str -> Hp -> Prop} {a b c e : Expr} {es : List Expr} {da db : DE} {pos : Pos}
theorem Zc (i : Nat) {x : Str} {pos : Pos} (hN : X.N[i]? = some x := by rfl) (hv : Vis X.env.scope x := by first | exact Or.inl rfl | exact Or.inr (Or.inl rfl) | exact Or.inr (Or.inr rfl)) (hd : (x == ("__debug__" : Str)) = false := by decide)
  (hcd : (x == ("__classdict__" : Str)) = false := by decide) : EV X W (.Name x pos) (dVar i) :=
 Zq (VC hN hv hd hcd) fun σ H Q ⟨G, P, h, q⟩ => by
  unfold dVar at q
  cases e : G[i]? with
  | none => rw [e] at q; exact q.elim
  | some s =>
   rw [e] at q
   cases s with
   | emp => exact q.elim
   | own xs => exact q.elim
   | val t =>
    obtain ⟨v, e1, r⟩ := h.sl i _ e
    exact ⟨v, getD_some e1, q v H (Same.refl H) r⟩
theorem Zf {i j pos} : EV X W (.Constant (.int i) j pos) (dC (.int i)) := Zq pe_int fun σ H Q ⟨G, P, h, q⟩ => q _ H (Same.refl H) (ZB.mpr rfl)
theorem ev_bl {b j pos} : EV X W (.Constant (.bool b) j pos) (dC (.bool b)) := Zq pe_bl fun σ H Q ⟨G, P, h, q⟩ => q _ H (Same.refl H) (Yd.mpr rfl)
theorem ev_non {j pos} : EV X W (.Constant .none j pos) (dC .none) := Zq pe_non fun σ H Q ⟨G, P, h, q⟩ => q _ H (Same.refl H) (Y1.mpr rfl)
theorem W2 {x j pos} : EV X W (.Constant (.str x) j pos) (dC (.str x)) := Zq pe_str fun σ H Q ⟨G, P, h, q⟩ => q _ H (Same.refl H) (WQ.mpr rfl)
theorem VN {x : Str} {i : Int} {t : Tok} {pos : Pos} (hg : Gl X x) (hm : X.mg x = some (.int i t)) (hd : (x == ("__debug__" : Str)) = false := by decide) : EV X W (.Name x pos) (dC (.int i)) :=
 Zq (pe_glob (v := .int i) hg hm ⟨t, rfl⟩ hd) fun σ H Q ⟨G, P, h, q⟩ => q _ H (Same.refl H) (ZB.mpr rfl)
def Fop (X : Cx) (W : Str -> Hp -> Prop) (r : R2) (f : PyData -> PyData -> Res PyData) : Prop :=
 ∀ (H : Hp) (P : Pv) (σ : L2.St) (G : List Sl) (x y : V) (tx ty : PyData) (Q : VK), Hol X.K H P σ G -> Rl X.K H P tx x -> Rl X.K H P ty y -> Yu X.K W H P (f tx ty) Q -> r x y H Q
theorem Wk {a : Res PyData} {f : PyData -> Res PyData} {K : PySem.W.Frag} {H : Hp} {P : Pv} {Q : VK} (q : Yu K W H P (a.bind f) Q) :
  (∀ c, a = .exc c -> ∀ H', Same H H' -> W c H') /\ a ≠ .stuck /\ ∀ t, a = .ok t -> Yu K W H P (f t) Q := by
 cases a with
 | ok t => exact ⟨fun c e => (by cases e), (by intro e; cases e), fun t' e => by cases e; exact q⟩
 | exc c => exact ⟨fun c' e => by cases e; exact q, (by intro e; cases e), fun t e => by cases e⟩
 | stuck => exact q.elim
theorem Yu.up {K : PySem.W.Frag} {H H' : Hp} {P : Pv} {r : Res PyData} {Q : VK} (q : Yu K W H P r Q) (s : Same H H') : Yu K W H' P r Q := by
 cases r with
 | ok t => exact fun v H2 s2 r2 => q v H2 (s.trans s2) r2
 | exc c => exact fun H2 s2 => q H2 (s.trans s2)
 | stuck => exact q
theorem Vv {r : R2} {f : PyData -> PyData -> Res PyData} (hf : Fop X W r f) {σ : L2.St} {H : Hp} {Q : VK} (h : tF X.K W (d2 f da db) σ H Q) : tOp r (tF X.K W da) (tF X.K W db) σ H Q := by
 obtain ⟨G, P, h, q⟩ := h
 unfold d2 at q
 obtain ⟨q1, q2, q3⟩ := Wk q
 refine ZH h q1 q2 fun tx x H1 ex s1 h1 rx => ?_
 obtain ⟨q4, q5, q6⟩ := Wk (q3 tx ex)
 refine ZH h1 (fun c e H' s => q4 c e H' (s1.trans s)) q5 fun ty y H2 ey s2 h2 ry => ?_
 exact hf H2 P σ G x y tx ty Q h2 (Rl.go (.same s2) tx x rx) ry ((q6 ty ey).up (s1.trans s2))
theorem Yg {op : Operator} {r : R2} {f : PyData -> PyData -> Res PyData} (ho : OpR X (binaryOp op) r /\ Fop X W r f) (ha : EV X W a da) (hb : EV X W b db) : EV X W (.BinOp a op b pos) (d2 f da db) :=
 Zq (pe_op ho.1 ha hb) fun σ H Q h => Vv ho.2 h
theorem UW {op : CmpOp} {r : R2} {f : PyData -> PyData -> Res PyData} (ho : OpR X (compareOp op) r /\ Fop X W r f) (ha : EV X W a da) (hb : EV X W b db) (hm : behindInMarks op b = false) : EV X W (.Compare a [op] [b] pos) (d2 f da db) :=
 Zq (pe_cmpR ho.1 ha hb hm) fun σ H Q h => Vv ho.2 h
theorem UU {C : Int -> Int -> Prop} {g : Int -> Int -> V} {f : PyData -> PyData -> Res PyData}
  (h : ∀ (H : Hp) (P : Pv) (tx ty : PyData) (Q : VK), Yu X.K W H P (f tx ty) Q -> ∃ i j, tx = .int i /\ ty = .int j /\ C i j /\ Q (g i j) H) : Fop X W (rI C g) f := fun H P σ G x y tx ty Q hh rx ry q => by
 obtain ⟨i, j, rfl, rfl, c, q'⟩ := h H P tx ty Q q
 exact ⟨i, j, ZB.mp rx, ZB.mp ry, c, q'⟩
theorem WD {g : Int -> Int -> V} {f : PyData -> PyData -> Res PyData}
  (h : ∀ (H : Hp) (P : Pv) (tx ty : PyData) (Q : VK), Yu X.K W H P (f tx ty) Q -> ∃ i j, tx = .int i /\ ty = .int j /\ Q (g i j) H) : Fop X W (rI0 g) f := fun H P σ G x y tx ty Q hh rx ry q => by
 obtain ⟨i, j, rfl, rfl, q'⟩ := h H P tx ty Q q
 exact ⟨i, j, ZB.mp rx, ZB.mp ry, q'⟩
theorem ZP {K : PySem.W.Frag} {H : Hp} {P : Pv} {Q : VK} {i : Int} (q : Yu K W H P (.ok (.int i)) Q) : Q (.int i) H := q _ H (Same.refl H) (ZB.mpr rfl)
theorem Yl {K : PySem.W.Frag} {H : Hp} {P : Pv} {Q : VK} {i : Bool} (q : Yu K W H P (.ok (.bool i)) Q) : Q (.bl i) H := q _ H (Same.refl H) (Yd.mpr rfl)
theorem SL.off {K : PySem.W.Frag} {H : Hp} {P : Pv} {a : Addr} {xs : List V} (h : H a = some (.lst xs)) (o : Off P a) : SL K H P a xs := .inl ⟨.inl h, o⟩
def rCatS (K : PySem.W.Frag) : R2 := fun x y H Q => ∃ l b xs zs, x = .ref l /\ y = .ref b /\ SqL K H l xs /\ SqL K H b zs /\ xs.length + zs.length <= sizeLine /\ ∀ p, H p = none -> Q (.ref p) (upd H p (.lst (xs ++ zs)))
theorem op_catS : OpR X (binaryOp .Add) (rCatS X.K) := by
 intro pins s σ H x y v u Q I rx ry h
 obtain ⟨l, b, xs, zs, rfl, rfl, hH, hB, hz, q⟩ := h
 cases rx
 cases ry
 obtain ⟨its, r, ⟨o, n, e, hc, hd, hs⟩, z⟩ := I.list hH
 obtain ⟨its2, r2, ⟨o2, n2, e2, hc2, hd2, hs2⟩, z2⟩ := I.list hB
 obtain ⟨c1, c2, c3, c4⟩ := o
 obtain ⟨k1, k2, k3, k4⟩ := o2
 simp only at hc hd hs hc2 hd2 hs2
 subst hc hd hs hc2 hd2 hs2
 have l1 := r.length
 have l2 := r2.length
 refine concat_meets ⟨_, e, rfl⟩ ⟨_, e2, rfl⟩ noFill_list_add seq_list_add PySem.F.slot_list_add PySem.F.entry_list_add (PySem.F.args_list_add_2 _ _) (list_addW l b its.toArray its2.toArray n n2 none none c4 k4 (by simp; omega)) ⟨e, e2, ?_⟩
 have ea : its.toArray ++ its2.toArray = (its ++ its2).toArray := by simp
 rw [ea]
 exact ⟨.ref _, _, I.lnew (t' := s.toks) (r.append r2) (by rw [List.length_append]; omega), rfl, q _ I.fresh⟩
theorem YN : OpR X (binaryOp .Add) (fun x y H Q => rI0 (fun i j => .int (i + j)) x y H Q \/ rCatS X.K x y H Q) /\ Fop X W (fun x y H Q => rI0 (fun i j => .int (i + j)) x y H Q \/ rCatS X.K x y H Q) fAdd :=
 ⟨op_add.or op_catS, fun H P σ G x y tx ty Q h rx ry q => by
  cases tx <;> cases ty <;> try exact q.elim
  ·exact .inl ⟨_, _, ZB.mp rx, ZB.mp ry, ZP q⟩
  ·rename_i xs ys
   refine .inr ?_
   obtain ⟨l, us, rfl, s1, r1⟩ := ZJ.mp rx
   obtain ⟨m, ws, rfl, s2, r2⟩ := ZJ.mp ry
   simp only [fAdd] at q
   split at q
   ·rename_i hz
    have e1 := r1.length
    have e2 := r2.length
    refine ⟨l, m, us, ws, rfl, rfl, s1.sq, s2.sq, by rw [sizeLine_eq]; omega, fun p hp => q _ _ (ZG hp) (ZJ.mpr ⟨p, us ++ ws, rfl, .off Zr (h.off_new hp), ?_⟩)⟩
    exact (Rls.go (.same (ZG hp)) xs us r1).append (Rls.go (.same (ZG hp)) ys ws r2)
   ·exact q.elim⟩
theorem UG : OpR X (binaryOp .Sub) (rI0 fun i j => .int (i - j)) /\ Fop X W (rI0 fun i j => .int (i - j)) fSub :=
 ⟨op_sub, WD fun H P tx ty Q q => by
  cases tx <;> cases ty <;> try exact q.elim
  exact ⟨_, _, rfl, rfl, ZP q⟩⟩
theorem mulOk_ok {i j : Int} (h : WS i j = true) : IntMulOk i j := by
 have bits : ∀ k : Int, Builtin.Int.intBits k <= k.natAbs.log2 + 1 := fun k => by
  unfold Builtin.Int.intBits
  split <;> omega
 simp only [WS, Bool.or_eq_true, decide_eq_true_eq] at h
 rcases h with (h | h) | h
 ·have h1 := bits i
  have h2 := bits j
  unfold IntMulOk
  intro z
  simp only [Bool.and_eq_true, decide_eq_true_eq, Builtin.Int.intTooBig] at z
  have := z.2
  simp only [bitsLine] at this
  omega
 ·exact .of_left (intBits_le_64 (by omega) (by omega))
 ·exact .of_right (intBits_le_64 (by omega) (by omega))
theorem op_mulF : OpR X (binaryOp .Mult) (rI (fun i j => WS i j = true) fun i j => .int (i * j)) /\ Fop X W (rI (fun i j => WS i j = true) fun i j => .int (i * j)) fMul :=
 ⟨opI fun _ _ _ _ _ _ _ hc q => mul_int q (mulOk_ok hc), UU fun H P tx ty Q q => by
  cases tx <;> cases ty <;> try exact q.elim
  simp only [fMul] at q
  split at q
  ·rename_i hc; exact ⟨_, _, rfl, rfl, hc, ZP q⟩
  ·exact q.elim⟩
theorem VO {i j : Int} (h : W3 j = true) : j ≠ 0 /\ Builtin.divisionGoesByPylong i j = false := by
 simp only [W3, Bool.and_eq_true, decide_eq_true_eq] at h
 refine ⟨h.1, ?_⟩
 unfold Builtin.divisionGoesByPylong
 have e : (j == 0) = false := by simpa using h.1
 simp only [e]
 have : ¬ (j.natAbs.log2 / 30 + 1 > 300) := by omega
 simp [this]
theorem Vj : OpR X (binaryOp .FloorDiv) (rI (fun _ j => W3 j = true) fun i j => .int (i.fdiv j)) /\ Fop X W (rI (fun _ j => W3 j = true) fun i j => .int (i.fdiv j)) fDiv :=
 ⟨opI fun _ _ _ _ _ _ _ hc q => floordiv_int (VO (i := 0) hc).1 q (.inl (VO hc).2), UU fun H P tx ty Q q => by
  cases tx <;> cases ty <;> try exact q.elim
  simp only [fDiv] at q
  split at q
  ·rename_i hc; exact ⟨_, _, rfl, rfl, hc, ZP q⟩
  ·exact q.elim⟩
theorem Ym : OpR X (binaryOp .Mod) (rI (fun _ j => j ≠ 0) fun i j => .int (i.fmod j)) /\ Fop X W (rI (fun _ j => j ≠ 0) fun i j => .int (i.fmod j)) fMod :=
 ⟨op_modN, UU fun H P tx ty Q q => by
  cases tx <;> cases ty <;> try exact q.elim
  simp only [fMod] at q
  split at q
  ·exact q.elim
  ·rename_i hc; exact ⟨_, _, rfl, rfl, hc, ZP q⟩⟩
theorem VD : OpR X (compareOp .Lt) (rI0 fun i j => .bl (decide (i < j))) /\ Fop X W (rI0 fun i j => .bl (decide (i < j))) fLt :=
 ⟨op_lt, WD fun H P tx ty Q q => by
  cases tx <;> cases ty <;> try exact q.elim
  exact ⟨_, _, rfl, rfl, Yl q⟩⟩
theorem op_gtF : OpR X (compareOp .Gt) (rI0 fun i j => .bl (decide (j < i))) /\ Fop X W (rI0 fun i j => .bl (decide (j < i))) fGt :=
 ⟨op_gt, WD fun H P tx ty Q q => by
  cases tx <;> cases ty <;> try exact q.elim
  exact ⟨_, _, rfl, rfl, Yl q⟩⟩
theorem op_geF : OpR X (compareOp .GtE) (rI0 fun i j => .bl (decide (j <= i))) /\ Fop X W (rI0 fun i j => .bl (decide (j <= i))) fGe :=
 ⟨op_ge, WD fun H P tx ty Q q => by
  cases tx <;> cases ty <;> try exact q.elim
  exact ⟨_, _, rfl, rfl, Yl q⟩⟩
mutual
theorem Rl.reads {pins : List (Addr × Obj)} {σ : L2.St} {H : Hp} {s : Shared} {P : Pv} (I : Inv X pins σ H s) : ∀ (t : PyData) (v : V) (u : Value), t.canLay0 = true -> Rl X.K H P t v -> RelV v u -> ∃ as, Reads s.heap u t as
 | .none, v, u, _, h, r => by rw [Y1.mp h] at r; cases r; exact ⟨_, .none⟩
 | .bool b, v, u, hl, h, r => by rw [Yd.mp h] at r; cases r; exact ⟨_, .bool b⟩
 | .int i, v, u, hl, h, r => by rw [ZB.mp h] at r; obtain ⟨t, rfl⟩ := r; exact ⟨_, .int i t⟩
 | .str x, v, u, hl, h, r => by rw [WQ.mp h] at r; obtain ⟨t, rfl⟩ := r; exact ⟨_, .str x t⟩
 | .list xs, v, u, hl, h, r => by
  obtain ⟨a, vs, rfl, sl, rs⟩ := ZJ.mp h
  cases r
  obtain ⟨its, rv, ⟨o, n, e, hc, hd, hs⟩, z⟩ := I.list sl.sq
  obtain ⟨as, ra⟩ := Rls.reads I xs vs its (by simpa [PyData.canLay0] using hl) rs rv
  exact ⟨_, .list e hc hs (by simpa using ra)⟩
 | .tuple xs, v, u, hl, h, r => by
  obtain ⟨a, vs, rfl, sl, rs⟩ := ZO.mp h
  cases r
  obtain ⟨its, rv, ⟨o, e, hc, n, hs⟩, z⟩ := I.tuple sl.sq
  obtain ⟨as, ra⟩ := Rls.reads I xs vs its (by simpa [PyData.canLay0] using hl) rs rv
  exact ⟨_, .tuple e hc hs (by simpa using ra)⟩
 | .dict _, v, u, hl, h, r => by simp [PyData.canLay0] at hl
theorem Rls.reads {pins : List (Addr × Obj)} {σ : L2.St} {H : Hp} {s : Shared} {P : Pv} (I : Inv X pins σ H s) : ∀ (ts : List PyData) (vs : List V) (us : List Value), PyData.canLayAll0 ts = true -> Rls X.K H P ts vs -> Vals vs us -> ∃ as, ReadsAll s.heap us ts as
 | [], vs, us, _, h, r => by rw [Z5.mp h] at r; cases r; exact ⟨_, .nil⟩
 | t :: ts, vs, us, hl, h, r => by
  simp only [PyData.canLayAll0, Bool.and_eq_true] at hl
  obtain ⟨v, vs', rfl, h1, h2⟩ := Zz.mp h
  cases r with
  | cons r1 r2 =>
   obtain ⟨as, ra⟩ := Rl.reads I t v _ hl.1 h1 r1
   obtain ⟨bs, rb⟩ := Rls.reads I ts vs' _ hl.2 h2 r2
   exact ⟨_, .cons ra rb⟩
end
theorem Y7 {t : PyData} (h : Yx t = true) : t.canLay0 = true := by
 unfold Yx at h
 rw [Bool.and_eq_true] at h
 exact h.1
def rEqD (K : PySem.W.Frag) (k : Bool -> Bool) : R2 := fun x y H Q => ∃ P tx ty, Rl K H P tx x /\ Rl K H P ty y /\ Yx tx = true /\ Yx ty = true /\ Q (.bl (k (tx.eqv ty))) H
theorem op_eqD (hu : X.A.units + 64 < cLine) : OpR X (compareOp .Eq) (rEqD X.K fun k => k) := by
 intro pins s σ H x y v u Q I rx ry h
 obtain ⟨P, tx, ty, hx, hy, sx, sy, q⟩ := h
 obtain ⟨as, ra⟩ := Rl.reads I tx x v (Y7 sx) hx rx
 obtain ⟨bs, rb⟩ := Rl.reads I ty y u (Y7 sy) hy ry
 exact SeqAt.compareEq_shaped ra rb sx sy hu ⟨.bl _, H, I, rfl, q⟩
theorem op_neD (hu : X.A.units + 64 < cLine) : OpR X (compareOp .NotEq) (rEqD X.K fun k => !k) := by
 intro pins s σ H x y v u Q I rx ry h
 obtain ⟨P, tx, ty, hx, hy, sx, sy, q⟩ := h
 obtain ⟨as, ra⟩ := Rl.reads I tx x v (Y7 sx) hx rx
 obtain ⟨bs, rb⟩ := Rl.reads I ty y u (Y7 sy) hy ry
 exact SeqAt.compareNe_shaped ra rb sx sy hu ⟨.bl _, H, I, rfl, q⟩
def rEqI (k : Bool -> Bool) : R2 := rI0 fun i j => .bl (k (decide (i = j)))
theorem op_eqI : OpR X (compareOp .Eq) (rEqI fun k => k) := opB0 fun i j _ _ _ _ _ q => eq_int (by rw [Bool.beq_eq_decide_eq]; exact q)
theorem op_neI : OpR X (compareOp .NotEq) (rEqI fun k => !k) := opB0 fun i j _ _ _ _ _ q => ne_int (by rw [bne, Bool.beq_eq_decide_eq]; exact q)
theorem YT (hu : X.A.units + 64 < cLine) : OpR X (compareOp .Eq) (fun x y H Q => rEqI (fun k => k) x y H Q \/ rEqD X.K (fun k => k) x y H Q) /\ Fop X W (fun x y H Q => rEqI (fun k => k) x y H Q \/ rEqD X.K (fun k => k) x y H Q) fEq :=
 ⟨op_eqI.or (op_eqD hu), fun H P σ G x y tx ty Q h rx ry q => by
  unfold fEq at q
  split at q
  ·exact .inl ⟨_, _, ZB.mp rx, ZB.mp ry, Yl q⟩
  ·split at q
   ·rename_i hc
    rw [Bool.and_eq_true] at hc
    exact .inr ⟨P, tx, ty, rx, ry, hc.1, hc.2, Yl q⟩
   ·exact q.elim⟩
theorem UH (hu : X.A.units + 64 < cLine) : OpR X (compareOp .NotEq) (fun x y H Q => rEqI (fun k => !k) x y H Q \/ rEqD X.K (fun k => !k) x y H Q) /\ Fop X W (fun x y H Q => rEqI (fun k => !k) x y H Q \/ rEqD X.K (fun k => !k) x y H Q) fNe :=
 ⟨op_neI.or (op_neD hu), fun H P σ G x y tx ty Q h rx ry q => by
  unfold fNe at q
  split at q
  ·exact .inl ⟨_, _, ZB.mp rx, ZB.mp ry, Yl q⟩
  ·split at q
   ·rename_i hc
    rw [Bool.and_eq_true] at hc
    exact .inr ⟨P, tx, ty, rx, ry, hc.1, hc.2, Yl q⟩
   ·exact q.elim⟩
theorem tUn_of {r : V -> Hp -> VK -> Prop} {f : PyData -> Res PyData} (hf : ∀ (H : Hp) (P : Pv) (x : V) (tx : PyData) (Q : VK), Rl X.K H P tx x -> Yu X.K W H P (f tx) Q -> r x H Q) {σ : L2.St} {H : Hp} {Q : VK} (h : tF X.K W (d1 f da) σ H Q) :
  tUn r (tF X.K W da) σ H Q := by
 obtain ⟨G, P, h, q⟩ := h
 unfold d1 at q
 obtain ⟨q1, q2, q3⟩ := Wk q
 exact ZH h q1 q2 fun tx x H1 ex s1 h1 rx => hf H1 P x tx Q rx ((q3 tx ex).up s1)
theorem ev_neg (ha : EV X W a da) : EV X W (.UnaryOp .USub a pos) (d1 fNeg da) :=
 Zq (pe_un un_neg ha) fun σ H Q h => tUn_of (r := rU fun i => .int (-i)) (fun H P x tx Q rx q => by
  cases tx <;> try exact q.elim
  exact ⟨_, ZB.mp rx, ZP q⟩) h
theorem bindA {a : Res PyData} {f : PyData -> Res (List PyData)} {K : PySem.W.Frag} {H : Hp} {P : Pv} {Q : List V -> Hp -> Prop} (q : Ui K W H P (a.bind f) Q) :
  (∀ c, a = .exc c -> ∀ H', Same H H' -> W c H') /\ a ≠ .stuck /\ ∀ t, a = .ok t -> Ui K W H P (f t) Q := by
 cases a with
 | ok t => exact ⟨fun c e => (by cases e), (by intro e; cases e), fun t' e => by cases e; exact q⟩
 | exc c => exact ⟨fun c' e => by cases e; exact q, (by intro e; cases e), fun t e => by cases e⟩
 | stuck => exact q.elim
theorem bindAA {a : Res (List PyData)} {f : List PyData -> Res (List PyData)} {K : PySem.W.Frag} {H : Hp} {P : Pv} {Q : List V -> Hp -> Prop} (q : Ui K W H P (a.bind f) Q) :
  (∀ c, a = .exc c -> ∀ H', Same H H' -> W c H') /\ a ≠ .stuck /\ ∀ t, a = .ok t -> Ui K W H P (f t) Q := by
 cases a with
 | ok t => exact ⟨fun c e => (by cases e), (by intro e; cases e), fun t' e => by cases e; exact q⟩
 | exc c => exact ⟨fun c' e => by cases e; exact q, (by intro e; cases e), fun t e => by cases e⟩
 | stuck => exact q.elim
theorem Qf {a : Res (List PyData)} {f : List PyData -> Res PyData} {K : PySem.W.Frag} {H : Hp} {P : Pv} {Q : VK} (q : Yu K W H P (a.bind f) Q) :
  (∀ c, a = .exc c -> ∀ H', Same H H' -> W c H') /\ a ≠ .stuck /\ ∀ t, a = .ok t -> Yu K W H P (f t) Q := by
 cases a with
 | ok t => exact ⟨fun c e => (by cases e), (by intro e; cases e), fun t' e => by cases e; exact q⟩
 | exc c => exact ⟨fun c' e => by cases e; exact q, (by intro e; cases e), fun t e => by cases e⟩
 | stuck => exact q.elim
theorem bindT {a : Res Bool} {f : Bool -> Res Bool} {H : Hp} {Q : Bool -> Hp -> Prop} (q : Wl W H (a.bind f) Q) :
  (∀ c, a = .exc c -> ∀ H', Same H H' -> W c H') /\ a ≠ .stuck /\ ∀ t, a = .ok t -> Wl W H (f t) Q := by
 cases a with
 | ok t => exact ⟨fun c e => (by cases e), (by intro e; cases e), fun t' e => by cases e; exact q⟩
 | exc c => exact ⟨fun c' e => by cases e; exact q, (by intro e; cases e), fun t e => by cases e⟩
 | stuck => exact q.elim
theorem bindET {a : Res PyData} {f : PyData -> Res Bool} {H : Hp} {Q : Bool -> Hp -> Prop} (q : Wl W H (a.bind f) Q) :
  (∀ c, a = .exc c -> ∀ H', Same H H' -> W c H') /\ a ≠ .stuck /\ ∀ t, a = .ok t -> Wl W H (f t) Q := by
 cases a with
 | ok t => exact ⟨fun c e => (by cases e), (by intro e; cases e), fun t' e => by cases e; exact q⟩
 | exc c => exact ⟨fun c' e => by cases e; exact q, (by intro e; cases e), fun t e => by cases e⟩
 | stuck => exact q.elim
theorem Wl.up {H H' : Hp} {r : Res Bool} {Q : Bool -> Hp -> Prop} (q : Wl W H r Q) (s : Same H H') : Wl W H' r Q := by
 cases r with
 | ok t => exact fun H2 s2 => q H2 (s.trans s2)
 | exc c => exact fun H2 s2 => q H2 (s.trans s2)
 | stuck => exact q
theorem Zl : AV X W [] dNil := UF Y2 fun σ H Q ⟨G, P, h, q⟩ => q [] H (Same.refl H) (Z5.mpr rfl)
theorem Za {dr : DA} (ha : EV X W e da) (hr : AV X W es dr) (hs : starEach (e :: es) X.env = (false, eval e X.env) :: starEach es X.env := by rfl) : AV X W (e :: es) (Zg da dr) :=
 UF (Ye ha hr hs) fun σ H Q ⟨G, P, h, q⟩ => by
  unfold Zg at q
  obtain ⟨q1, q2, q3⟩ := bindA q
  refine ZH h q1 q2 fun tx x H1 ex s1 h1 rx => ?_
  obtain ⟨q4, q5, q6⟩ := bindAA (q3 tx ex)
  refine XQ h1 (fun c e H' s => q4 c e H' (s1.trans s)) q5 fun ts vs H2 es' s2 h2 rs => ?_
  exact (q6 ts es') (x :: vs) H2 (s1.trans s2) (Zz.mpr ⟨x, vs, rfl, Rl.go (.same s2) tx x rx, rs⟩)
theorem VH {xs : List PyData} {vs : List V} {K : PySem.W.Frag} {H : Hp} {P : Pv} (h : lenOk xs = true) (r : Rls K H P xs vs) : vs.length <= sizeLine := by
 have := r.length
 have h' : xs.length <= 16777216 := of_decide_eq_true h
 rw [sizeLine_eq]; omega
theorem ST.off {K : PySem.W.Frag} {H : Hp} {P : Pv} {a : Addr} {xs : List V} (h : H a = some (.tup xs)) (o : Off P a) : ST K H P a xs := .inl ⟨.inl h, o⟩
theorem Y4 {da : DA} {x1} (h : AV X W es da) : EV X W (.Tuple es x1 pos) (dTup da) :=
 Zq (pe_tup h) fun σ H Q ⟨G, P, h, q⟩ => by
  unfold dTup at q
  obtain ⟨q1, q2, q3⟩ := Qf q
  refine XQ h q1 q2 fun ts vs H1 es' s1 h1 rs => ?_
  have q4 := q3 ts es'
  split at q4
  ·rename_i hl
   exact ⟨VH hl rs, fun p hp => q4 _ _ (s1.trans (ZG hp)) (ZO.mpr ⟨p, vs, rfl, .off Zr (h1.off_new hp), Rls.go (.same (ZG hp)) ts vs rs⟩)⟩
  ·exact q4.elim
theorem Xw {da : DA} (h : AV X W es da) : EV X W (.List es pos) (dLst da) :=
 Zq (pe_lst h) fun σ H Q ⟨G, P, h, q⟩ => by
  unfold dLst at q
  obtain ⟨q1, q2, q3⟩ := Qf q
  refine XQ h q1 q2 fun ts vs H1 es' s1 h1 rs => ?_
  have q4 := q3 ts es'
  split at q4
  ·rename_i hl
   exact ⟨VH hl rs, fun p hp => q4 _ _ (s1.trans (ZG hp)) (ZJ.mpr ⟨p, vs, rfl, .off Zr (h1.off_new hp), Rls.go (.same (ZG hp)) ts vs rs⟩)⟩
  ·exact q4.elim
theorem ixP_eq (n : Nat) (i : Int) : ixP n i = ixN n i := rfl
theorem Vc {K : PySem.W.Frag} {H : Hp} {P : Pv} {ts : List PyData} {vs : List V} {i : Int} {t : PyData} (r : Rls K H P ts vs) (h : atP ts i = some t) : ∃ v, atI vs i = some v /\ Rl K H P t v := by
 unfold atP at h
 unfold atI
 rw [<- r.length, <- ixP_eq]
 cases e : ixP ts.length i with
 | none => rw [e] at h; cases h
 | some j =>
  rw [e] at h
  exact r.getT (i := j) h
theorem Xm (ha : EV X W a da) (hb : EV X W b db) (hs : Vs b) : EV X W (.Subscript a b pos) (d2 fIx da db) :=
 Zq (pe_ix (UM.or ix_tup) ha hb hs) fun σ H Q h => Vv (r := fun x y H Q => rIxL X.K x y H Q \/ rIxT X.K x y H Q) (fun H P σ G x y tx ty Q h rx ry q => by
  cases tx <;> cases ty <;> try exact q.elim
  ·rename_i xs i
   obtain ⟨l, us, rfl, s1, r1⟩ := ZJ.mp rx
   simp only [fIx] at q
   cases e : atP xs i with
   | none => rw [e] at q; exact q.elim
   | some t =>
    rw [e] at q
    obtain ⟨v, e1, r⟩ := Vc r1 e
    exact .inl ⟨l, us, i, v, rfl, ZB.mp ry, s1.sq, e1, q v H (Same.refl H) r⟩
  ·rename_i xs i
   obtain ⟨l, us, rfl, s1, r1⟩ := ZO.mp rx
   simp only [fIx] at q
   cases e : atP xs i with
   | none => rw [e] at q; exact q.elim
   | some t =>
    rw [e] at q
    obtain ⟨v, e1, r⟩ := Vc r1 e
    exact .inr ⟨l, us, i, v, rfl, ZB.mp ry, s1.sq, e1, q v H (Same.refl H) r⟩) h
theorem WK {r : List V -> Hp -> VK -> Prop} {f : PyData -> Res PyData} (hf : ∀ (H : Hp) (P : Pv) (σ : L2.St) (G : List Sl) (x : V) (tx : PyData) (Q : VK), Hol X.K H P σ G -> Rl X.K H P tx x -> Yu X.K W H P (f tx) Q -> r [x] H Q) {σ : L2.St} {H : Hp} {Q : VK} (h : tF X.K W (d1 f da) σ H Q) :
  tCB r (tCons (tF X.K W da) tNil) σ H Q := by
 obtain ⟨G, P, h, q⟩ := h
 unfold d1 at q
 obtain ⟨q1, q2, q3⟩ := Wk q
 exact ZH h q1 q2 fun tx x H1 ex s1 h1 rx => hf H1 P σ G x tx Q h1 rx ((q3 tx ex).up s1)
theorem Y5 {p : Pos} (hg : Gl X "len") (hm : X.mg "len" = none) (ha : EV X W a da) (hs : starEach [a] X.env = (false, eval a X.env) :: starEach [] X.env := by rfl) : EV X W (.Call (.Name "len" p) [a] [] pos) (d1 fLen da) :=
 Zq (Y9 XJ hg hm PySem.boot_len (Ye ha Y2 hs) (he := hs)) fun σ H Q h => WK (fun H P σ G x tx Q h rx q => by
  cases tx <;> try exact q.elim
  ·obtain ⟨l, us, rfl, s1, r1⟩ := ZJ.mp rx
   have e := r1.length
   refine ⟨l, us, rfl, .inl s1.sq, ?_⟩
   rw [<- e]; exact ZP q
  ·obtain ⟨l, us, rfl, s1, r1⟩ := ZO.mp rx
   have e := r1.length
   refine ⟨l, us, rfl, .inr s1.sq, ?_⟩
   rw [<- e]; exact ZP q) h
theorem ev_abs {p : Pos} (hg : Gl X "abs") (hm : X.mg "abs" = none) (ha : EV X W a da) (hs : starEach [a] X.env = (false, eval a X.env) :: starEach [] X.env := by rfl) : EV X W (.Call (.Name "abs" p) [a] [] pos) (d1 fAbs da) :=
 Zq (Y9 call_abs hg hm (show bootBuiltins "abs" = some (.builtin "abs") by decide +kernel) (Ye ha Y2 hs) (he := hs)) fun σ H Q h => WK (fun H P σ G x tx Q h rx q => by
  cases tx <;> try exact q.elim
  exact ⟨_, by rw [ZB.mp rx], ZP q⟩) h
def tyN : PyData -> String
 | .none => "NoneType"
 | .bool _ => "bool"
 | .int _ => "int"
 | .str _ => "str"
 | .list _ => "list"
 | .tuple _ => "tuple"
 | .dict _ => "dict"
def Kit (T : String) (p : PyData -> Bool) : Prop := ∀ (K : PySem.W.Frag) (t : PyData), PySem.W.kitOne K (.type (tyN t)) (.type T) = some (p t)
theorem kit_int : Kit "int" isInt := fun K t => by cases t <;> rfl
theorem kit_bool : Kit "bool" isBool := fun K t => by cases t <;> rfl
theorem UL : Kit "tuple" UO := fun K t => by cases t <;> rfl
theorem WC : Kit "list" isList := fun K t => by cases t <;> rfl
theorem call_isi {T : String} {p : PyData -> Bool} (hk : Kit T p) : Wm X (.builtin "isinstance") (fun xs H Q => ∃ x t P, xs = [x, .ty T] /\ (∀ ys, t ≠ .dict ys) /\ Rl X.K H P t x /\ Q (.bl (p t)) H) := by
 intro pins s σ H xs us Q I r h
 obtain ⟨x, t, P, rfl, nd, rx, q⟩ := h
 obtain ⟨u, w', rfl, ru, rw'⟩ := vals2 r
 cases rw'
 have e := hk X.K t
 have fin : ∀ tk, EP X pins σ Q (.bool (p t)) { s with toks := tk } := fun tk => ⟨.bl (p t), H, I.tok tk, rfl, q⟩
 cases t with
 | none => rw [Y1.mp rx] at ru; cases ru; exact PySem.W.kia_one PySem.W.kitx_none I.kIn True.intro e (fun z => nomatch z) fin
 | bool b => rw [Yd.mp rx] at ru; cases ru; exact PySem.W.kia_one PySem.W.kitx_bool I.kIn True.intro e (fun z => nomatch z) fin
 | int i => rw [ZB.mp rx] at ru; obtain ⟨t, rfl⟩ := ru; exact PySem.W.kia_one PySem.W.kitx_int I.kIn True.intro e (fun z => nomatch z) fin
 | str y => rw [WQ.mp rx] at ru; obtain ⟨t, rfl⟩ := ru; exact PySem.W.kia_one PySem.W.kitx_str I.kIn True.intro e (fun z => nomatch z) fin
 | list ys =>
  obtain ⟨l, vs, rfl, s1, r1⟩ := ZJ.mp rx
  cases ru
  obtain ⟨its, rv, ⟨o, n, e1, hc, hd, hs⟩, z⟩ := I.list s1.sq
  exact PySem.W.kia_one PySem.W.kitx_list I.kIn ⟨o, e1, hc⟩ e (fun z => nomatch z) fin
 | tuple ys =>
  obtain ⟨l, vs, rfl, s1, r1⟩ := ZO.mp rx
  cases ru
  obtain ⟨its, rv, ⟨o, e1, hc, n, hs⟩, z⟩ := I.tuple s1.sq
  exact PySem.W.kia_one PySem.W.kitx_tuple I.kIn ⟨o, e1, hc⟩ e (fun z => nomatch z) fin
 | dict ys => exact absurd rfl (nd ys)
theorem YI {T : String} {x : Str} {f : PyData -> Bool} {p p2 : Pos} (hk : Kit T f) (hv : bootBuiltins x = some (.type T)) (hg : Gl X "isinstance") (hm : X.mg "isinstance" = none) (hg2 : Gl X x) (hm2 : X.mg x = none) (ha : EV X W a da)
  (hs : starEach [a, .Name x p2] X.env = (false, eval a X.env) :: starEach [.Name x p2] X.env := by rfl) (hs2 : starEach [.Name x p2] X.env = (false, eval (.Name x p2) X.env) :: starEach [] X.env := by rfl)
  (hpl : (backTo pos (starEach [.Name x p2] X.env)).any (·.1) = false := by rfl) (hn : x ≠ "__name__" := by decide) (hdb : (x == ("__debug__" : Str)) = false := by decide) :
  EV X W (.Call (.Name "isinstance" p) [a, .Name x p2] [] pos) (d1 (fIs f) da) :=
 Zq (Y9 (call_isi hk) hg hm (show bootBuiltins "isinstance" = some (.builtin "isinstance") by decide +kernel) (Ye ha (Ye (UE (v := .ty T) hg2 hm2 hv rfl hn hdb) Y2 hs2) hs) (he := hs) (hpl := hpl)) fun σ H Q ⟨G, P, h, q⟩ => by
  unfold d1 at q
  obtain ⟨q1, q2, q3⟩ := Wk q
  refine ZH h q1 q2 fun tx x H1 ex s1 h1 rx => ?_
  have q4 := Yu.up (q3 tx ex) s1
  refine ⟨x, tx, P, rfl, fun ys z => (by subst z; exact q4.elim), rx, ?_⟩
  cases tx <;> first | exact Yl q4 | exact q4.elim
theorem ev_one {op} (h : EV X W a da) : EV X W (.BoolOp op [a] pos) da := pe_one h
theorem ev_and {rest : List Expr} (ha : EV X W a da) (hb : EV X W (.BoolOp .And (b :: rest) pos) db) : EV X W (.BoolOp .And (a :: b :: rest) pos) (dAndV da db) :=
 Zq (pe_and ha hb) fun σ H Q ⟨G, P, h, q⟩ => by
  unfold dAndV at q
  obtain ⟨q1, q2, q3⟩ := Wk q
  refine ZH h q1 q2 fun tx x H1 ex s1 h1 rx => ?_
  have q4 := q3 tx ex
  cases tx <;> try exact q4.elim
  rename_i k
  refine ⟨k, Yd.mp rx, ?_⟩
  cases k with
  | true => exact iteT ⟨G, P, h1, Yu.up q4 s1⟩
  | false => exact iteF (Yl (Yu.up q4 s1))
theorem ev_not (ha : EV X W a da) : EV X W (.UnaryOp .Not a pos) (dNotV da) :=
 Zq (pe_not ha) fun σ H Q ⟨G, P, h, q⟩ => by
  unfold dNotV at q
  obtain ⟨q1, q2, q3⟩ := Wk q
  refine ZH h q1 q2 fun tx x H1 ex s1 h1 rx => ?_
  have q4 := q3 tx ex
  cases tx <;> try exact q4.elim
  exact ⟨_, Yd.mp rx, Yl (Yu.up q4 s1)⟩
theorem truth_ok {H : Hp} {P : Pv} {x : V} {tx : PyData} {k : Bool} (r : Rl X.K H P tx x) (e : truth tx = .ok k) : TruV X.K x H k := by
 cases tx with
 | none => rw [Y1.mp r]; cases e; rfl
 | bool b => rw [Yd.mp r]; cases e; rfl
 | int i => rw [ZB.mp r]; cases e; rfl
 | str x => cases e
 | list xs =>
  obtain ⟨l, us, rfl, s1, r1⟩ := ZJ.mp r
  cases e
  refine .inl ⟨us, s1.sq, ?_⟩
  have := r1.length
  cases xs <;> cases us <;> first | rfl | simp at this
 | tuple xs =>
  obtain ⟨l, us, rfl, s1, r1⟩ := ZO.mp r
  cases e
  refine .inr (.inl ⟨us, s1.sq, ?_⟩)
  have := r1.length
  cases xs <;> cases us <;> first | rfl | simp at this
 | dict _ => cases e
theorem XT (ha : EV X W a da) (he : ∀ whole, isTrue a X.env whole = (do let v <- whole; standAt a.pos; holding [v] (truthy v))) : TV X W a (tV da) :=
 Vh (pt_truth ha he) fun σ H Q ⟨G, P, h, q⟩ => by
  unfold Fx.tV at q
  obtain ⟨q1, q2, q3⟩ := bindET q
  refine ZH h q1 q2 fun tx x H1 ex s1 h1 rx => ?_
  have q4 := q3 tx ex
  cases e : truth tx with
  | stuck => rw [e] at q4; exact q4.elim
  | exc c => cases tx <;> cases e
  | ok k => rw [e] at q4; exact ⟨k, truth_ok rx e, q4 H1 s1⟩
theorem Z8 {op : CmpOp} {r : R2} {f : PyData -> PyData -> Res PyData} (ho : OpR X (compareOp op) r /\ Fop X W r f) (ha : EV X W a da) (hb : EV X W b db) (hm : behindInMarks op b = false)
  (hf : ∀ x y, (∃ k, f x y = .ok (.bool k)) \/ f x y = .stuck := by first | exact fLt_b | exact fLe_b | exact fGt_b | exact fGe_b | exact fEq_b | exact fNe_b) : TV X W (.Compare a [op] [b] pos) (tV (d2 f da db)) :=
 Vh (pt_cmpR ho.1 ha hb hm) fun σ H Q ⟨G, P, h, q⟩ => by
  refine Vv ho.2 ⟨G, P, h, ?_⟩
  unfold Fx.tV at q
  cases e : d2 f da db G with
  | stuck => rw [e] at q; exact q
  | exc c => rw [e] at q; exact q
  | ok t =>
   rw [e] at q
   have hb : ∃ k, t = .bool k := by
    unfold d2 at e
    cases e1 : da G with
    | stuck => rw [e1] at e; cases e
    | exc c => rw [e1] at e; cases e
    | ok tx =>
     rw [e1, Res.bind_ok] at e
     cases e2 : db G with
     | stuck => rw [e2] at e; cases e
     | exc c => rw [e2] at e; cases e
     | ok ty =>
      rw [e2, Res.bind_ok] at e
      rcases hf tx ty with ⟨k, e3⟩ | e3
      ·rw [e3] at e; cases e; exact ⟨k, rfl⟩
      ·rw [e3] at e; cases e
   obtain ⟨k, rfl⟩ := hb
   exact fun v H' s r => ⟨k, Yd.mp r, q H' s⟩
theorem WJ {dt : DT} (ha : TV X W a dt) : TW X W (.BoolOp .Or [a] pos) dt := pw_or1 ha
theorem Ve {dt du : DT} {rest : List Expr} (ha : TV X W a dt) (hb : TW X W (.BoolOp .Or (b :: rest) pos) du) : TW X W (.BoolOp .Or (a :: b :: rest) pos) (tOr dt du) :=
 pw_weak (pw_or ha hb) fun σ H Q ⟨G, P, h, q⟩ => by
  unfold Fx.tOr at q
  obtain ⟨q1, q2, q3⟩ := bindT q
  refine XN h q1 q2 fun k H1 ek s1 h1 => ?_
  have q4 := q3 k ek
  cases k with
  | true => exact iteT (q4 H1 s1)
  | false => exact iteF ⟨G, P, h1, Wl.up q4 s1⟩
theorem tv_w {dt : DT} (h : TW X W a dt) : TV X W a dt := PW.pt h
theorem XU {dt : DT} (ha : TV X W a dt) : TV X W (.UnaryOp .Not a pos) (tNot dt) :=
 Vh (pt_not ha) fun σ H Q ⟨G, P, h, q⟩ => by
  unfold Fx.tNot at q
  obtain ⟨q1, q2, q3⟩ := bindT q
  exact XN h q1 q2 fun k H1 ek s1 h1 => (q3 k ek) H1 s1
end
end Fx
namespace Fx
open PySem PySem.Spec PyProof.Rows L2
section
variable {X : Cx} {W : Str -> Hp -> Prop} {fl : Bool} {a b c e : Expr} {es : List Expr} {da db : DE} {pos : Pos}
theorem Yt.up {K : PySem.W.Frag} {H H' : Hp} {P P' : Pv} {r : Res Out} {D : Ends} (q : Yt K W fl H P r D) (g : Go H P H' P') : Yt K W fl H' P' r D := by
 cases r with
 | ok o =>
  cases o with
  | nx G => exact fun σ2 H2 P2 g2 h2 => q σ2 H2 P2 (g.trans g2) h2
  | bk G => exact fun σ2 H2 P2 g2 h2 => q σ2 H2 P2 (g.trans g2) h2
  | ct G => exact fun σ2 H2 P2 g2 h2 => q σ2 H2 P2 (g.trans g2) h2
  | rt t => exact fun v H2 P2 g2 h2 n2 => q v H2 P2 (g.trans g2) h2 fun z => (n2 z).back g
 | exc c => exact fun H2 P2 g2 => q H2 P2 (g.trans g2)
 | stuck => exact q
theorem W9 {a : Res PyData} {f : PyData -> Res Out} {K : PySem.W.Frag} {H : Hp} {P : Pv} {D : Ends} (q : Yt K W fl H P (a.bind f) D) :
  (∀ c, a = .exc c -> ∀ H' P', Go H P H' P' -> W c H') /\ a ≠ .stuck /\ ∀ t, a = .ok t -> Yt K W fl H P (f t) D := by
 cases a with
 | ok t => exact ⟨fun c e => (by cases e), (by intro e; cases e), fun t' e => by cases e; exact q⟩
 | exc c => exact ⟨fun c' e => by cases e; exact q, (by intro e; cases e), fun t e => by cases e⟩
 | stuck => exact q.elim
theorem bindTS {a : Res Bool} {f : Bool -> Res Out} {K : PySem.W.Frag} {H : Hp} {P : Pv} {D : Ends} (q : Yt K W fl H P (a.bind f) D) :
  (∀ c, a = .exc c -> ∀ H' P', Go H P H' P' -> W c H') /\ a ≠ .stuck /\ ∀ t, a = .ok t -> Yt K W fl H P (f t) D := by
 cases a with
 | ok t => exact ⟨fun c e => (by cases e), (by intro e; cases e), fun t' e => by cases e; exact q⟩
 | exc c => exact ⟨fun c' e => by cases e; exact q, (by intro e; cases e), fun t e => by cases e⟩
 | stuck => exact q.elim
theorem Qe {a : Res (List PyData)} {f : List PyData -> Res Out} {K : PySem.W.Frag} {H : Hp} {P : Pv} {D : Ends} (q : Yt K W fl H P (a.bind f) D) :
  (∀ c, a = .exc c -> ∀ H' P', Go H P H' P' -> W c H') /\ a ≠ .stuck /\ ∀ t, a = .ok t -> Yt K W fl H P (f t) D := by
 cases a with
 | ok t => exact ⟨fun c e => (by cases e), (by intro e; cases e), fun t' e => by cases e; exact q⟩
 | exc c => exact ⟨fun c' e => by cases e; exact q, (by intro e; cases e), fun t e => by cases e⟩
 | stuck => exact q.elim
theorem Yj : SVs X W fl [] YW := VB pss_nil fun D σ H ⟨G, P, h, q⟩ => q σ H P (.refl H P) h
theorem Zs {st : Stmt} {d : DS} (h : SV X W fl st d) : SVs X W fl [st] d := pss_one h
theorem Zj {st : Stmt} {rest : List Stmt} {d1 d2 : DS} (h1 : SV X W fl st d1) (h2 : SVs X W fl rest d2) : SVs X W fl (st :: rest) (dSeq d1 d2) :=
 VB (pss_cons h1 h2) fun D σ H ⟨G, P, h, q⟩ => by
  refine ⟨G, P, h, ?_⟩
  unfold dSeq at q
  cases e : d1 G with
  | stuck => rw [e] at q; exact q.elim
  | exc c => rw [e] at q; exact q
  | ok o =>
   rw [e, Res.bind_ok] at q
   cases o with
   | nx G1 => exact fun σ' H' P' g h' => ⟨G1, P', h', Yt.up q g⟩
   | rt t => exact q
   | bk G1 => exact q
   | ct G1 => exact q
theorem Xp {st : Stmt} : SV X W fl st dNev := YM ps_never fun D σ H ⟨G, P, h, q⟩ => q
theorem Z9 (he : EV X W e da) : SV X W false (.Return (some e) pos) (dRet da) :=
 YM (ps_ret he) fun D σ H ⟨G, P, h, q⟩ => by
  unfold dRet at q
  obtain ⟨h', g⟩ := h.frzA
  obtain ⟨q1, q2, q3⟩ := W9 q
  exact ZH h' (fun c e H' s => q1 c e H' P.bare (g.trans (.same s))) q2 fun t v H1 et s1 h1 r => (q3 t et) v H1 P.bare (g.trans (.same s1)) r fun z => by cases z
theorem YV {x y : List Stmt} {dc : DT} {dx dy : DS} (hc : TV X W c dc) (hx : SVs X W fl x dx) (hy : SVs X W fl y dy) : SV X W fl (.If c x y pos) (dIf dc dx dy) :=
 YM (ps_if hc hx hy) fun D σ H ⟨G, P, h, q⟩ => by
  unfold dIf at q
  obtain ⟨h', g⟩ := h.frzA
  obtain ⟨q1, q2, q3⟩ := bindTS q
  refine XN h' (fun c e H' s => q1 c e H' P.bare (g.trans (.same s))) q2 fun k H1 ek s1 _ => ?_
  have q4 := q3 k ek
  cases k with
  | true => exact iteT ⟨G, P, h.same s1, Yt.up q4 (.same s1)⟩
  | false => exact iteF ⟨G, P, h.same s1, Yt.up q4 (.same s1)⟩
theorem Vf (he : EV X W e da) (hs : swapsWith e none pos.line X.env = pure false := by rfl) : SV X W fl (.Expr e pos) (XM da) :=
 YM (ps_expr he hs) fun D σ H ⟨G, P, h, q⟩ => by
  unfold XM at q
  obtain ⟨h', g⟩ := h.frzA
  obtain ⟨q1, q2, q3⟩ := W9 q
  exact ZH h' (fun c e H' s => q1 c e H' P.bare (g.trans (.same s))) q2 fun t v H1 et s1 h1 r => (q3 t et) σ H1 P (.same s1) (h.same s1)
mutual
theorem Uw {K : PySem.W.Frag} {H : Hp} {P P' : Pv} (hd : ∀ i a, P'.own i = some a -> ∃ vs, H a = some (.lst vs)) (hf : P'.fb = P.fb) : ∀ (t : PyData) (v : V), Yk t = true -> Rl K H P t v -> Rl K H P' t v
 | .none, v, _, r => Y1.mpr (Y1.mp r)
 | .bool b, v, _, r => Yd.mpr (Yd.mp r)
 | .int i, v, _, r => ZB.mpr (ZB.mp r)
 | .str x, v, _, r => WQ.mpr (WQ.mp r)
 | .list _, v, h, r => by simp at h
 | .dict _, v, h, r => by simp at h
 | .tuple xs, v, h, r => by
  obtain ⟨a, vs, e, s, rs⟩ := ZO.mp r
  refine ZO.mpr ⟨a, vs, e, ?_, Vz hd hf xs vs (by simpa using h) rs⟩
  rcases s with ⟨s, o⟩ | s
  ·refine .inl ⟨s, fun i z => ?_, by rw [hf]; exact o.2⟩
   obtain ⟨ws, q⟩ := hd i a z
   rcases s with s | ⟨ob, s⟩
   ·rw [q] at s; cases s
   ·rw [q] at s; cases s
  ·exact .inr s
theorem Vz {K : PySem.W.Frag} {H : Hp} {P P' : Pv} (hd : ∀ i a, P'.own i = some a -> ∃ vs, H a = some (.lst vs)) (hf : P'.fb = P.fb) : ∀ (ts : List PyData) (vs : List V), YL ts = true -> Rls K H P ts vs -> Rls K H P' ts vs
 | [], vs, _, r => Z5.mpr (Z5.mp r)
 | t :: ts, vs, h, r => by
  obtain ⟨v, r', e, a, b⟩ := Zz.mp r
  simp only [WN, Bool.and_eq_true] at h
  exact Zz.mpr ⟨v, r', e, Uw hd hf t v h.1 a, Vz hd hf ts r' h.2 b⟩
end
theorem after {K : PySem.W.Frag} {H H1 : Hp} {P P1 : Pv} {σ : L2.St} {G : List Sl} {is : List Nat} {t : PyData} {v : V} (h : Hol K H P σ G) (h1 : Hol K H P1 σ (frz is G)) (g : Go H P H P1) (s : Same H H1) (r : Rl K H1 P1 t v) :
  ∃ P2, Hol K H1 P2 σ (if Yk t then G else frz is G) /\ Rl K H1 P2 t v /\ Go H P H1 P2 := by
 cases e : Yk t with
 | true => exact ⟨P, by rw [if_pos rfl]; exact h.same s, Uw (fun i a z => (h.same s).dom z) g.2.symm t v e r, .same s⟩
 | false => exact ⟨P1, by rw [if_neg Bool.false_ne_true]; exact h1.same s, r, g.trans (.same s)⟩
theorem Yn {i : Nat} {x : Str} {is : List Nat} {pos' : Pos} (hN : X.N.Nodup) (hi : X.N[i]? = some x) (hx : Loc X.env.scope x) (he : EV X W e da) (hs : swapsWith e (some (.Name x pos')) pos.line X.env = pure false := by rfl)
  (hf : X.fn x = true \/ X.env.scope.names.lookup x = some .local := by first | exact .inl rfl | exact .inr rfl | assumption) : SV X W fl (.Assign [.Name x pos'] e pos) (dSet i is da) :=
 YM (ps_set hN hi hx he hs hf) fun D σ H ⟨G, P, h, q⟩ => by
  unfold dSet at q
  obtain ⟨P1, h1, g⟩ := h.frz is
  obtain ⟨q1, q2, q3⟩ := W9 q
  refine ZH h1 (fun c e H' s => q1 c e H' P1 (g.trans (.same s))) q2 fun t v H1 et s1 h2 r => ?_
  obtain ⟨P2, h3, r3, g3⟩ := after h h1 g s1 r
  exact (q3 t et) _ H1 (P2.del i) (g3.trans .del) (h3.setVal i r3)
theorem ss_while {body : List Stmt} {fuel : List Sl -> Nat} {dc : DT} {d : DS} (hp : PassesOwn (model X.prog X.w) X.A X.env X.xe) (hc : TV X W c dc) (hb : SVs X W fl body d) : SV X W fl (.While c body [] pos) (U4 fuel dc d) :=
 YM (ps_while hp hc hb) fun D σ H ⟨G, P, h, q⟩ => by
  refine ⟨fun m σ' H' => ∃ G' P', Go H P H' P' /\ Hol X.K H' P' σ' G' /\ Yt X.K W fl H P (Xf dc d m G') D, ⟨fuel G, G, P, .refl H P, h, q⟩, ?_⟩
  rintro m σ' H' ⟨G', P', g', h', q'⟩
  cases m with
  | zero => exact q'.elim
  | succ m =>
   unfold Xf at q'
   obtain ⟨h2, g2⟩ := h'.frzA
   obtain ⟨q1, q2, q3⟩ := bindTS q'
   refine XN h2 (fun c e H1 s => q1 c e H1 P'.bare (g'.trans (g2.trans (.same s)))) q2 fun k H1 ek s1 _ => ?_
   have q4 := q3 k ek
   cases k with
   | false => exact iteF (q4 σ' H1 P' (g'.trans (.same s1)) (h'.same s1))
   | true =>
    refine iteT ⟨fun σ2 H2 => ∃ m', m' < m + 1 /\ ∃ G' P', Go H P H2 P' /\ Hol X.K H2 P' σ2 G' /\ Yt X.K W fl H P (Xf dc d m' G') D, fun σ2 H2 z => z, ?_⟩
    refine ⟨G', P', h'.same s1, ?_⟩
    have q5 : Yt X.K W fl H P ((d G').bind fun o => match o with
     | .nx G' => Xf dc d m G'
     | .ct G' => Xf dc d m G'
     | .bk G' => .ok (.nx G')
     | .rt t => .ok (.rt t)) D := q4
    cases e : d G' with
    | stuck => rw [e] at q5; exact q5.elim
    | exc c => rw [e] at q5; exact Yt.up (r := .exc c) q5 (g'.trans (.same s1))
    | ok o =>
     rw [e, Res.bind_ok] at q5
     cases o with
     | nx G1 => exact fun σ2 H2 P2 g3 h3 => ⟨m, Nat.lt_succ_self m, G1, P2, g'.trans ((Go.same s1).trans g3), h3, q5⟩
     | ct G1 => exact fun σ2 H2 P2 g3 h3 => ⟨m, Nat.lt_succ_self m, G1, P2, g'.trans ((Go.same s1).trans g3), h3, q5⟩
     | bk G1 => exact fun σ2 H2 P2 g3 h3 => q5 σ2 H2 P2 (g'.trans ((Go.same s1).trans g3)) h3
     | rt t => exact fun v H2 P2 g3 h3 n3 => q5 v H2 P2 (g'.trans ((Go.same s1).trans g3)) h3 fun z => ((n3 z).back (.same s1)).back g'
end
theorem WW {a : DE} : ∀ G ts, Zg a dNil G = .ok ts -> ts.length = 1 := fun G ts h => by
 unfold Zg dNil at h
 cases e : a G <;> rw [e] at h <;> first | (cases h; done) | (cases h; rfl)
theorem len_cs {a : DE} {r : DA} {n : Nat} (hr : ∀ G ts, r G = .ok ts -> ts.length = n) : ∀ G ts, Zg a r G = .ok ts -> ts.length = n + 1 := fun G ts h => by
 unfold Zg at h
 cases e : a G with
 | stuck => rw [e] at h; cases h
 | exc c => rw [e] at h; cases h
 | ok x =>
  rw [e, Res.bind_ok] at h
  cases e2 : r G with
  | stuck => rw [e2] at h; cases h
  | exc c => rw [e2] at h; cases h
  | ok xs => rw [e2] at h; cases h; simp [hr G xs e2]
theorem VG {a b : DE} : ∀ G ts, Zg a (Zg b dNil) G = .ok ts -> ts.length = 2 := len_cs WW
theorem UJ {a b c : DE} : ∀ G ts, Zg a (Zg b (Zg c dNil)) G = .ok ts -> ts.length = 3 := len_cs VG
def spX (E : XK) (H : Hp) (c : Str) : Option (Str -> Value) -> Prop
 | none => False
 | some cl => ∀ dx H', Same H H' -> E (cl c) dx H'
def spF (K : PySem.W.Frag) (cl : Option (Str -> Value)) (np : Nat) (f : DF) : Sp := fun vs H Q E => vs.length = np /\ ∃ ts P, Rls K H P ts vs /\ (∀ i, P.own i = none) /\ ((∀ a, P.fb a -> H a ≠ none) /\ Xd K H) /\
 match f ts with
 | .ok t => ∀ v H', Same H H' -> Rl K H' P t v -> Q v H'
 | .exc c => spX E H c cl
 | .stuck => False
def EX (cl : Option (Str -> Value)) (W : Str -> Hp -> Prop) : XK := fun v _ H => ∃ c f, cl = some f /\ v = f c /\ W c H
structure Cal (X : Cx) (W : Str -> Hp -> Prop) (cl : Option (Str -> Value)) (k : Nat) (x : Str) (np : Nat) (f : DF) : Prop where
 ex : ∃ (CX : CXT) (fa : Addr) (fd : FuncData) (ps : List Str), FnOk X.prog X.w X.K X.mg X.base CX k fa fd ps (spF X.K cl np f) /\ X.mg x = some (.ref fa) /\ PySem.W.keepIn X.K (.ref fa) = true /\ YK X.K fd ps [] /\ VW CX X (EX cl W)
 nox : cl = none -> ∀ ts c, f ts ≠ .exc c
section
variable {X : Cx} {W : Str -> Hp -> Prop} {fl : Bool} {a b c e : Expr} {es : List Expr} {da db : DE} {pos : Pos}
theorem ZQ {cl : Option (Str -> Value)} {k np : Nat} {x : Str} {f : DF} {d : DA} {p : Pos} (C : Cal X W cl k x np f) (hr : Room k X.A) (hg : Gl X x) (ha : AV X W (e :: es) d) (hL : ∀ G ts, d G = .ok ts -> ts.length = np := by first | exact WW | exact VG | exact UJ | exact len_c4) (hdb : (x == ("__debug__" : Str)) = false := by decide)
  (he : starEach (e :: es) X.env = (false, eval e X.env) :: starEach es X.env := by rfl) (hpl : (backTo pos (starEach es X.env)).any (·.1) = false := by rfl) : EV X W (.Call (.Name x p) (e :: es) [] pos) (Yh f d) := by
 obtain ⟨CX, fa, fd, ps, F, hm, hk, hb, hx⟩ := C.ex
 refine Zq (pe_call (x := x) (p := p) F hr hg hm hk hb .nil hx ha (hdb := hdb) (he := he) (hpl := hpl)) fun σ H Q ⟨G, P, h, q⟩ => ?_
 unfold Yh at q
 obtain ⟨q1, q2, q3⟩ := Qf q
 refine XQ h q1 q2 fun ts vs H1 es' s1 h1 rs => ?_
 have q4 := Yu.up (q3 ts es') s1
 have el : (vs ++ []) = vs := List.append_nil vs
 rw [el]
 -- the callee sees all that the caller may not hand on as forbidden
 have gg : Tr H1 P H1 ⟨fun _ => none, fun a => ¬ Off P a⟩ := fun a o e1 _ o1 => ⟨e1, fun _ z => (by cases z), fun z => z o1⟩
 have back : ∀ H2, Tr H2 ⟨fun _ => none, fun a => ¬ Off P a⟩ H2 P := fun H2 a o e1 _ o1 => ⟨e1, Classical.byContradiction fun z => o1.2 z⟩
 refine ⟨by rw [<- rs.length]; exact hL G ts es', ts, ⟨fun _ => none, fun a => ¬ Off P a⟩, Rls.go gg ts vs rs, fun _ => rfl, ⟨fun a z => ?_, h1.tab⟩, ?_⟩
 ·intro hn
  exact z (h1.off_new hn)
 ·cases e : f ts with
  | ok t => rw [e] at q4; exact fun v H' s r => q4 v H' s (Rl.go (back H') t v r)
  | exc c =>
   rw [e] at q4
   cases ec : cl with
   | none => exact absurd e (C.nox ec ts c)
   | some g => exact fun dx H' s => ⟨c, g, rfl, rfl, q4 H' s⟩
  | stuck => rw [e] at q4; exact q4
end
theorem WZ {K : PySem.W.Frag} {H : Hp} {P : Pv} {ts : List PyData} {vs : List V} {N : List Str} (r : Rls K H P ts vs) (ho : ∀ i, P.own i = none) (hf : (∀ a, P.fb a -> H a ≠ none) /\ Xd K H) :
  Hol K H P (L2.start N vs) (ts.map .val ++ List.replicate (N.length - ts.length) .emp) where
 sl := fun i s e => by
  by_cases hi : i < ts.length
  ·rw [List.getElem?_append_left (by simpa using hi), List.getElem?_map] at e
   cases et : ts[i]? with
   | none => rw [et] at e; cases e
   | some t =>
    rw [et] at e
    cases e
    obtain ⟨v, ev, rv⟩ := r.getT et
    refine ⟨v, ?_, rv⟩
    have hl := r.length
    unfold L2.start
    rw [List.getD_eq_getElem?_getD, List.getElem?_append_left (by simp; omega), List.getElem?_map, ev]
    rfl
  ·rw [List.getElem?_append_right (by simpa using hi)] at e
   rw [List.getElem?_replicate] at e
   split at e
   ·cases e; trivial
   ·cases e
 inj := fun i j a h _ => by rw [ho i] at h; cases h
 only := fun i a h => by rw [ho i] at h; cases h
 fbd := hf.1
 tab := hf.2
 nfb := fun i a h => by rw [ho i] at h; cases h
 len := by
  have hl := r.length
  unfold L2.start
  simp [hl]
theorem fn_ok {P : Program} {w : World} {K : PySem.W.Frag} {mg : Str -> Option Value} {base : Heap} {x qual : Str} {st : Stmt} {f : Addr} {fd : FuncData} {N ps : List Str} {k np : Nat} {d : DS} (F : Fun K x qual st f fd) (S : FnScope N ps (Zi st)) (hnp : ps.length = np)
  (hb : ∀ (cdv : Value) (A : Around) (outer : List Env) (s : Shared) (H : Hp) (E : XK), Room k (A.deeper (envOfC qual (Zi st) s.heap.objs.size f cdv)) ->
   SVs (cxOf CX0 P w K mg base N qual (Zi st) f cdv A outer s H E).nox (fun _ _ => False) false (ZE st) d) : FnOk P w K mg base CX0 (k + 1) f fd ps (spF K none np (runQ N.length np d)) := by
 refine F.ok S (fun vs H Q E h => by rw [hnp]; exact h.1) fun cdv A outer s H vs Q E hr h => ⟨_, hb cdv A outer s H E hr, ?_⟩
 obtain ⟨hl, ts, P', rs, ho, hf, q⟩ := h
 have hlt : ts.length = np := by rw [rs.length]; exact hl
 refine ⟨_, P', WZ rs ho hf, ?_⟩
 unfold runQ runF at q
 rw [if_pos hlt] at q
 have en : N.length - np = N.length - ts.length := by rw [hlt]
 rw [en] at q
 have sm : ∀ H' P2, Go H P' H' P2 -> Same H H' := fun H' P2 g => g.all ho
 have bk : ∀ H' P2, Go H P' H' P2 -> Tr H' P2 H' P' := fun H' P2 g b o e _ z => ⟨e, fun i => by rw [ho i]; exact fun z => (by cases z), by rw [<- g.fbe]; exact z.2⟩
 cases e : d (ts.map .val ++ List.replicate (N.length - ts.length) .emp) with
 | stuck => rw [e] at q; exact q.elim
 | exc c => rw [e] at q; exact q.elim
 | ok o =>
  rw [e, Res.bind_ok] at q
  cases o with
  | nx G => exact fun σ' H' P2 g h' => q .non H' (sm H' P2 g) (Y1.mpr rfl)
  | rt t => exact fun v H' P2 g r _ => q v H' (sm H' P2 g) (Rl.go (bk H' P2 g) t v r)
  | bk G => exact q.elim
  | ct G => exact q.elim
end Fx
namespace Fx
open PySem PySem.Spec PyProof.Rows L2
structure Cle (P : Program) (w : World) (K : PySem.W.Frag) (mg : Str -> Option Value) (base : Heap) (k : Nat) (x : Str) (np : Nat) (f : DF) : Prop where
 ex : ∃ (fa : Addr) (fd : FuncData) (ps : List Str), FnOk P w K mg base CX0 k fa fd ps (spF K none np f) /\ mg x = some (.ref fa) /\ PySem.W.keepIn K (.ref fa) = true /\ YK K fd ps []
 nox : ∀ ts c, f ts ≠ .exc c
section
variable {P : Program} {w : World} {K : PySem.W.Frag} {mg : Str -> Option Value} {base : Heap}
theorem Cle.cal {X : Cx} {W : Str -> Hp -> Prop} {k np : Nat} {x : Str} {f : DF} (C : Cle X.prog X.w X.K X.mg X.base k x np f) : Cal X W none k x np f := by
 obtain ⟨fa, fd, ps, F, hm, hk, hb⟩ := C.ex
 exact ⟨⟨CX0, fa, fd, ps, F, hm, hk, hb, fun _ _ _ _ _ _ _ h => h.elim⟩, fun _ => C.nox⟩
theorem Cle.mono {j k np : Nat} {x : Str} {f : DF} (C : Cle P w K mg base j x np f) (h : j <= k) : Cle P w K mg base k x np f := by
 obtain ⟨fa, fd, ps, F, r⟩ := C.ex
 exact ⟨⟨fa, fd, ps, F.mono h, r⟩, C.nox⟩
theorem X9 {x : Str} {st : Stmt} {fa : Addr} {fd : FuncData} {N ps : List Str} {k n np : Nat} {d : DS} (F : Fun K x x st fa fd) (hm : mg x = some (.ref fa)) (b : YK K fd ps []) (S : FnScope N ps (Zi st)) (hnp : ps.length = np) (hN : N.length = n)
  (hb : ∀ (cdv : Value) (A : Around) (outer : List Env) (s : Shared) (H : Hp) (E : XK), Room k (A.deeper (envOfC x (Zi st) s.heap.objs.size fa cdv)) ->
   SVs (cxOf CX0 P w K mg base N x (Zi st) fa cdv A outer s H E).nox (fun _ _ => False) false (ZE st) d) : Cle P w K mg base (k + 1) x np (runQ n np d) := by
 subst hN
 exact ⟨⟨fa, fd, ps, fn_ok F S hnp hb, hm, F.kp, b⟩, fun ts c => runQ_nox _ _ _ ts c⟩
theorem law_sp {f : DF} {ns : List Int} (h : f [.list (ns.map .int)] = .ok (.bool true)) {H : Hp} {a : Addr} (hT : Xd K H) (hS : SqL K H a (ns.map V.int)) : spF K none 1 f [.ref a] H (fun v _ => v = .bl true) (fun _ _ _ => False) := by
 refine ⟨rfl, [.list (ns.map .int)], ⟨fun _ => none, fun _ => False⟩, Zz.mpr ⟨.ref a, [], rfl, ZJ.mpr ⟨a, ns.map V.int, rfl, ?_, rls_ints ns⟩, Z5.mpr rfl⟩, fun _ => rfl, ⟨fun _ z => z.elim, hT⟩, ?_⟩
 ·rcases hS with h | h
  ·exact .inl ⟨h, fun _ z => (by cases z), fun z => z⟩
  ·exact .inr h
 ·rw [h]
  exact fun v H' _ r => Yd.mp r
end
end Fx
namespace Fx
open PySem PySem.Spec PyProof.Rows L2
def Yld (K : PySem.W.Frag) (J : It) (ts : List PyData) (H : Hp) (P : Pv) : Prop := ∀ H' P', Tr H P H' P' -> (∀ p, H' p = none -> Off P' p) -> ∀ i,
 (∀ t, ts[i]? = some t -> J.go i H' /\ ∀ x H'', J.yld i H' x H'' -> Same H' H'' /\ Rl K H'' P' t x) /\ (ts.length <= i -> J.stop i H')
def PostI (K : PySem.W.Frag) (W : Str -> Hp -> Prop) (H : Hp) (P : Pv) (r : Res (List PyData)) (R : It -> Hp -> Prop) : Prop :=
 match r with
 | .ok ts => ∀ J H', Same H H' -> Yld K J ts H' P -> R J H'
 | .exc c => ∀ H', Same H H' -> W c H'
 | .stuck => False
def tFI (K : PySem.W.Frag) (W : Str -> Hp -> Prop) (d : DA) : TI := fun σ H R => ∃ G P, Hol K H P σ G /\ PostI K W H P (d G) R
def IV (X : Cx) (W : Str -> Hp -> Prop) (tg iter : Expr) (d : DA) : Prop := PI X tg iter (tFI X.K W d)
theorem UC {X : Cx} {tg e : Expr} {t t' : TI} (h : PI X tg e t) (w : ∀ σ H Q, t' σ H Q -> t σ H Q) : PI X tg e t' := fun pins s σ H Q I q => h pins s σ H Q I (w σ H Q q)
theorem bindEI {a : Res PyData} {f : PyData -> Res (List PyData)} {K : PySem.W.Frag} {W : Str -> Hp -> Prop} {H : Hp} {P : Pv} {Q : It -> Hp -> Prop} (q : PostI K W H P (a.bind f) Q) :
  (∀ c, a = .exc c -> ∀ H', Same H H' -> W c H') /\ a ≠ .stuck /\ ∀ t, a = .ok t -> PostI K W H P (f t) Q := by
 cases a with
 | ok t => exact ⟨fun c e => (by cases e), (by intro e; cases e), fun t' e => by cases e; exact q⟩
 | exc c => exact ⟨fun c' e => by cases e; exact q, (by intro e; cases e), fun t e => by cases e⟩
 | stuck => exact q.elim
section
variable {X : Cx} {W : Str -> Hp -> Prop} {fl : Bool} {tg a b c e : Expr} {da db : DE} {pos : Pos}
def iSq (K : PySem.W.Frag) (tl : TE) : TI := fun σ H R => tl σ H fun x H1 => (∃ a, x = .ref a /\ (∃ xs, SqL K H1 a xs) /\ R (Itl K a) H1) \/ (∃ a, x = .ref a /\ (∃ xs, SqT K H1 a xs) /\ R (Itt K a) H1)
theorem pi_sq {l : Expr} {tl : TE} (hl : PE X l tl) : PI X tg l (iSq X.K tl) := by
 intro pins s σ H R I h
 refine thn (hl pins s σ H _ I h) fun v s1 ⟨x, H1, I1, r1, q1⟩ => ?_
 rcases q1 with ⟨a, e, ⟨xs, hq⟩, q⟩ | ⟨a, e, ⟨xs, hq⟩, q⟩
 ·subst e
  cases r1
  obtain ⟨its, rv, p, hz⟩ := I1.list hq
  refine wpAny_pyIter_list p.isList ?_
  refine ⟨s1.heap.objs.size, [s1.heap.objs.size], _, _, H1, rfl, I1.kept (t' := s1.toks) fun b o e => Heap.get?_push_of_some _ e, Uo a _, ⟨_, Heap.get?_push_size _ rfl, rfl, rfl⟩, fun b hb => ?_, q⟩
  have e : b = s1.heap.objs.size := by simpa using hb
  subst e
  exact I1.fpOk (Nat.le_refl _) (I1.hok.fresh (Nat.le_refl _))
 ·subst e
  cases r1
  obtain ⟨its, rv, p, hz⟩ := I1.tuple hq
  refine wpAny_pyIter_tuple (show s1.heap.IsTuple a its.toArray from p) ?_
  refine ⟨s1.heap.objs.size, [s1.heap.objs.size], _, _, H1, rfl, I1.kept (t' := s1.toks) fun b o e => Heap.get?_push_of_some _ e, VY a _, ⟨_, Heap.get?_push_size _ rfl, rfl, rfl⟩, fun b hb => ?_, q⟩
  have e : b = s1.heap.objs.size := by simpa using hb
  subst e
  exact I1.fpOk (Nat.le_refl _) (I1.hok.fresh (Nat.le_refl _))
theorem yld_list {H : Hp} {P : Pv} {l : Addr} {xs : List PyData} {vs : List V} (s : SL X.K H P l vs) (r : Rls X.K H P xs vs) : Yld X.K (Itl X.K l) xs H P := fun H' P' tr nf i =>
 ⟨fun t e => by
  have r' := Rls.go tr xs vs r
  have s' := (s.go tr).sq
  obtain ⟨v, ev, rv⟩ := r'.getT e
  refine ⟨⟨vs, v, s', ev⟩, fun x H'' y => ?_⟩
  obtain ⟨rfl, y⟩ := y
  have := y vs s'
  rw [ev] at this
  cases this
  exact ⟨Same.refl _, rv⟩, fun hl => ⟨vs, (s.go tr).sq, by rw [<- r.length]; exact hl⟩⟩
theorem Uj {H : Hp} {P : Pv} {l : Addr} {xs : List PyData} {vs : List V} (s : ST X.K H P l vs) (r : Rls X.K H P xs vs) : Yld X.K (Itt X.K l) xs H P := fun H' P' tr nf i =>
 ⟨fun t e => by
  have r' := Rls.go tr xs vs r
  have s' := (s.go tr).sq
  obtain ⟨v, ev, rv⟩ := r'.getT e
  refine ⟨⟨vs, v, s', ev⟩, fun x H'' y => ?_⟩
  obtain ⟨rfl, y⟩ := y
  have := y vs s'
  rw [ev] at this
  cases this
  exact ⟨Same.refl _, rv⟩, fun hl => ⟨vs, (s.go tr).sq, by rw [<- r.length]; exact hl⟩⟩
theorem VJ (ha : EV X W a da) : IV X W tg a (iSeq da) :=
 UC (pi_sq ha) fun σ H R ⟨G, P, h, q⟩ => by
  unfold iSeq at q
  obtain ⟨q1, q2, q3⟩ := bindEI q
  refine ZH h q1 q2 fun tx x H1 ex s1 h1 rx => ?_
  have q4 := q3 tx ex
  cases tx <;> try exact q4.elim
  ·obtain ⟨l, vs, rfl, sl, rs⟩ := ZJ.mp rx
   exact .inl ⟨l, rfl, ⟨vs, sl.sq⟩, q4 _ H1 s1 (yld_list sl rs)⟩
  ·obtain ⟨l, vs, rfl, sl, rs⟩ := ZO.mp rx
   exact .inr ⟨l, rfl, ⟨vs, sl.sq⟩, q4 _ H1 s1 (Uj sl rs)⟩
theorem rngT_get (lo : Int) (n i : Nat) : (rngT lo n)[i]? = if i < n then some (.int (lo + (i : Int))) else none := by
 unfold rngT
 rw [List.getElem?_map]
 by_cases h : i < n
 ·rw [if_pos h, List.getElem?_eq_getElem (by simpa using h)]
  simp
 ·rw [if_neg h, List.getElem?_eq_none (by simpa using h)]
  rfl
theorem Uk {H : Hp} {P : Pv} (lo : Int) (n : Nat) : Yld X.K (Itr lo n) (rngT lo n) H P := by
 intro H' P' tr nf i
 refine ⟨fun t e => ?_, fun hl => ?_⟩
 ·rw [rngT_get] at e
  split at e
  ·rename_i hi
   cases e
   refine ⟨hi, fun x H'' y => ?_⟩
   obtain ⟨rfl, rfl⟩ := y
   exact ⟨Same.refl _, ZB.mpr rfl⟩
  ·cases e
 ·have : (rngT lo n).length = n := by simp [rngT]
  rw [this] at hl
  exact hl
theorem Xb {p : Pos} (hg : Gl X "range") (hm : X.mg "range" = none) (ha : EV X W a da) (hs : starEach [a] X.env = [(false, eval a X.env)] := by rfl) (hs' : starEach [a] X.env = (false, eval a X.env) :: starEach [] X.env := by rfl) : IV X W tg (.Call (.Name "range" p) [a] [] pos) (iRng da) :=
 UC (UD hg hm (Ye ha Y2 hs') hs) fun σ H R ⟨G, P, h, q⟩ => by
  unfold Fx.iRng at q
  obtain ⟨q1, q2, q3⟩ := bindEI q
  refine ZH h q1 q2 fun tx x H1 ex s1 h1 rx => ?_
  have q4 := q3 tx ex
  cases tx <;> try exact q4.elim
  rename_i j
  simp only at q4
  split at q4
  ·rename_i hj
   exact ⟨j, by rw [ZB.mp rx], (Vy hj).1, (Vy hj).2, q4 _ H1 s1 (Uk 0 j.toNat)⟩
  ·exact q4.elim
def GV (X : Cx) (tg : Expr) (st : PyData -> List Sl -> Res (List Sl)) : Prop :=
 ∃ g, PG X tg g /\ ∀ (t : PyData) (v : V) (σ : L2.St) (H : Hp) (P : Pv) (G : List Sl) (Q : L2.St -> Hp -> Prop), Hol X.K H P σ G -> Rl X.K H P t v ->
  (∃ G', st t G = .ok G' /\ ∀ σ' P', Go H P H P' -> Hol X.K H P' σ' G' -> Q σ' H) -> g v σ H Q
theorem YC {i : Nat} {x : Str} (hN : X.N.Nodup) (hi : X.N[i]? = some x) (hx : Loc X.env.scope x) (hf : X.fn x = true \/ X.env.scope.names.lookup x = some .local := by first | exact .inl rfl | exact .inr rfl | assumption) : GV X (.Name x pos) (Z4 i) :=
 ⟨gName i, pg_name hN hi hx hf, fun t v σ H P G Q h r ⟨G', e, q⟩ => by
  cases e
  exact q _ (P.del i) .del (h.setVal i r)⟩
theorem Hol.offn {K : PySem.W.Frag} {H : Hp} {P : Pv} {σ : L2.St} {G : List Sl} (h : Hol K H P σ G) : ∀ p, H p = none -> Off P p := fun p e => h.off_new e
theorem ss_for {body : List Stmt} {is : List Nat} {st : PyData -> List Sl -> Res (List Sl)} {it : DA} {d : DS} {iter : Expr} (hp : PassesOwn (model X.prog X.w) X.A X.env X.xe) (hc : X.calm = true) (hi : IV X W tg iter it) (hg : GV X tg st) (hb : SVs X W fl body d)
  (hst : ∀ t G c, st t G ≠ .exc c := by first | exact Uu | exact sTup2_nox) (hs : ∀ x, foldedSetIterable iter X.env x = pure x := by intro _; rfl) : SV X W fl (.For tg iter body [] pos) (dFor st is it d) := by
 obtain ⟨g, pg, gp⟩ := hg
 refine YM (ps_for hp hc hi pg hb hs) fun D σ H ⟨G, P, h, q⟩ => ?_
 unfold dFor at q
 obtain ⟨P1, h1, g1⟩ := h.frz is
 obtain ⟨q1, q2, q3⟩ := Qe q
 refine ⟨frz is G, P1, h1, ?_⟩
 cases e : it (frz is G) with
 | stuck => exact absurd e q2
 | exc c => exact fun H' s => q1 c e H' P1 (g1.trans (.same s))
 | ok ts =>
  intro J H1 s1 y
  have q4 := q3 ts e
  have g2 : Go H P H1 P1 := g1.trans (.same s1)
  refine ⟨fun i m σ' H' => m = ts.length - i /\ i <= ts.length /\ ∃ G' P', Go H1 P1 H' P' /\ Hol X.K H' P' σ' G' /\ Yt X.K W fl H P (forL st d (ts.drop i) G') D, ⟨ts.length, by simp, Nat.zero_le _, frz is G, P1, .refl _ _, h1.same s1, q4⟩, ?_⟩
  rintro i m σ' H' ⟨rfl, hi, G', P', g', h', q'⟩
  obtain ⟨y1, y2⟩ := y H' P' g'.tr h'.offn i
  by_cases hlt : i < ts.length
  ·have et : ts[i]? = some ts[i] := by simp [hlt]
   obtain ⟨go, yl⟩ := y1 _ et
   rw [List.drop_eq_getElem_cons hlt] at q'
   unfold forL at q'
   refine .inr ⟨go, fun σ2 H2 => ∃ G2 P2, Go H1 P1 H2 P2 /\ Hol X.K H2 P2 σ2 G2 /\ Yt X.K W fl H P (forL st d (ts.drop (i + 1)) G2) D, fun σ2 H2 z => ⟨_, by omega, rfl, hlt, z⟩, fun x H2 yy => ?_⟩
   obtain ⟨s2, r2⟩ := yl x H2 yy
   have h2 := h'.same s2
   cases es : st ts[i] G' with
   | stuck => rw [es] at q'; exact q'.elim
   | exc c => exact absurd es (hst _ _ c)
   | ok G1 =>
    rw [es, Res.bind_ok] at q'
    refine gp ts[i] x σ' H2 P' G' _ h2 r2 ⟨G1, es, fun σ3 P3 g3 h3 => ⟨G1, P3, h3, ?_⟩⟩
    have gg : Go H1 P1 H2 P3 := g'.trans ((Go.same s2).trans g3)
    cases ed : d G1 with
    | stuck => rw [ed] at q'; exact q'.elim
    | exc c => rw [ed] at q'; exact Yt.up (r := .exc c) q' (g2.trans gg)
    | ok o =>
     rw [ed, Res.bind_ok] at q'
     cases o with
     | nx G4 => exact fun σ4 H4 P4 g4 h4 => ⟨G4, P4, gg.trans g4, h4, q'⟩
     | ct G4 => exact fun σ4 H4 P4 g4 h4 => ⟨G4, P4, gg.trans g4, h4, q'⟩
     | bk G4 => exact fun σ4 H4 P4 g4 h4 => q' σ4 H4 P4 (g2.trans (gg.trans g4)) h4
     | rt t => exact fun v H4 P4 g4 h4 n4 => q' v H4 P4 (g2.trans (gg.trans g4)) h4 fun z => (n4 z).back (g2.trans gg)
  ·have ei : i = ts.length := by omega
   subst ei
   rw [List.drop_length] at q'
   exact .inl ⟨y2 (Nat.le_refl _), q' σ' H' P' (g2.trans g') h'⟩
end
end Fx
namespace Fx
open PySem PySem.Spec PyProof.Rows L2
theorem Same.updL {H H8 : Hp} {D : Addr} {vs ws : List V} (s : Same H H8) (hD : H D = none) (h8 : H8 D = some (.lst vs)) : Same H (upd H8 D (.lst ws)) where
 kp := fun b o e n => by rw [Zn (Zw e hD)]; exact s.kp b o e n
 free := fun {b} w => by
  by_cases z : b = D
  ·rw [z]; exact hD
  ·rw [Zn z] at w; exact s.free w
 tab := fun K t => Xd.mono (s.tab K t) fun b o e nl => by
  rw [Zn (fun z => by rw [z, h8] at e; cases e; exact nl _ rfl)]; exact e
 tbk := fun b ps e => by rw [Zn (Zw e hD)]; exact s.tbk b ps e
def Qi (K : PySem.W.Frag) (W : Str -> Hp -> Prop) (H : Hp) (P : Pv) (r : Res (List PyData)) (Q : VK) : Prop :=
 match r with
 | .ok xs => ∀ p vs H', Same H H' -> H p = none -> H' p = some (.lst vs) -> Rls K H' (P.fbd p) xs vs -> Q (.ref p) H'
 | .exc c => ∀ H', Same H H' -> W c H'
 | .stuck => False
def tFO (K : PySem.W.Frag) (W : Str -> Hp -> Prop) (d : DA) : TE := fun σ H Q => ∃ G P, Hol K H P σ G /\ Qi K W H P (d G) Q
def OV (X : Cx) (W : Str -> Hp -> Prop) (e : Expr) (d : DA) : Prop := PE X e (tFO X.K W d)
theorem Tr.fbd {H : Hp} {P : Pv} {p : Addr} : Tr H (P.fbd p) H P := fun a o e _ q => ⟨e, q.1, fun z => q.2 (.inl z)⟩
theorem Tr.tofbd {H : Hp} {P : Pv} {p : Addr} (hp : H p = none) : Tr H P H (P.fbd p) := fun a o e _ q => ⟨e, q.1, fun z => z.elim q.2 fun z => by rw [z, hp] at e; cases e⟩
theorem Ux {K : PySem.W.Frag} {H H' : Hp} {P : Pv} {σ : L2.St} {G : List Sl} {p : Addr} {vs : List V} {xs : List PyData} (h : Hol K H P σ G) (s : Same H H') (hp : H p = none) (hl : H' p = some (.lst vs)) (r : Rls K H' (P.fbd p) xs vs) : Rl K H' P (.list xs) (.ref p) :=
 ZJ.mpr ⟨p, vs, rfl, .off hl (h.off_new hp), Rls.go .fbd xs vs r⟩
theorem Hol.own' {K : PySem.W.Frag} {H H' : Hp} {P : Pv} {σ : L2.St} {G : List Sl} {p : Addr} {vs : List V} {xs : List PyData} {i : Nat} (h : Hol K H P σ G) (hi : i < G.length) (s : Same H H') (hp : H p = none) (hl : H' p = some (.lst vs)) (r : Rls K H' (P.fbd p) xs vs) :
  Hol K H' (P.put i p) (σ.set i (some (.ref p))) (G.set i (.own xs)) /\ Go H P H' (P.put i p) := by
 have g0 : Go H P H' (P.put i p) := (Go.put hp).trans (.same s)
 have gg := g0.tr
 have tt : Tr H' (P.fbd p) H' (P.put i p) := fun a o e _ q => ⟨e, fun j z => by
  have z' : (if j = i then some p else P.own j) = some a := z
  split at z'
  ·cases z'; exact q.2 (Or.inr rfl)
  ·exact q.1 j z', fun z => q.2 (Or.inl z)⟩
 have rr : Rls K H' (P.put i p) xs vs := Rls.go tt xs vs r
 refine ⟨⟨fun j s' q => ?_, ?_, ?_, ?_, ?_, ?_, s.tab K h.tab⟩, g0⟩
 ·by_cases e : j = i
  ·subst e
   rw [List.getElem?_set_self hi] at q
   cases q
   exact ⟨p, vs, Xu (by rw [h.len]; exact hi), if_pos rfl, hl, rr⟩
  ·rw [List.getElem?_set_ne (Ne.symm e)] at q
   have z := h.sl j s' q
   rw [Xl e]
   cases s' with
   | emp => trivial
   | val t' => obtain ⟨v', e1, r'⟩ := z; exact ⟨v', e1, Rl.go gg t' v' r'⟩
   | own xs' =>
    obtain ⟨p', vs', e1, e2, e3, r'⟩ := z
    exact ⟨p', vs', e1, (by show (if j = i then some p else P.own j) = _; rw [if_neg e]; exact e2), s.kp _ _ e3 Xg, Rls.go gg xs' vs' r'⟩
 ·intro a b c h1 h2
  have h1' : (if a = i then some p else P.own a) = some c := h1
  have h2' : (if b = i then some p else P.own b) = some c := h2
  split at h1'
  ·split at h2'
   ·rename_i z1 z2; rw [z1, z2]
   ·cases h1'; obtain ⟨ws, q⟩ := h.dom h2'; rw [hp] at q; cases q
  ·split at h2'
   ·cases h2'; obtain ⟨ws, q⟩ := h.dom h1'; rw [hp] at q; cases q
   ·exact h.inj a b c h1' h2'
 ·intro j a z
  have z' : (if j = i then some p else P.own j) = some a := z
  split at z'
  ·rename_i e; subst e; exact ⟨xs, List.getElem?_set_self hi⟩
  ·rename_i ne
   obtain ⟨xs, q⟩ := h.only j a z'
   exact ⟨xs, by rw [List.getElem?_set_ne (Ne.symm ne)]; exact q⟩
 ·intro a z w
  exact h.fbd a z (s.free w)
 ·intro j a z
  have z' : (if j = i then some p else P.own j) = some a := z
  split at z'
  ·cases z'; exact h.nofb hp
  ·exact h.nfb j a z'
 ·rw [List.length_set, List.length_set]; exact h.len
def Zy (env : Env) : List (Str × NameKind) -> List (Str × Addr) -> List (Str × Addr)
 | [], cs => cs
 | (n, k) :: r, cs => Zy env r (if (k == NameKind.free) = true then (n, (env.cells.lookup n).getD 0) :: cs else cs)
theorem W5 (env : Env) (f : Str × NameKind -> List (Str × Addr) -> Sem (ForInStep (List (Str × Addr))))
  (hf : ∀ n k cs, f (n, k) cs = if (k == NameKind.free) = true then (cellOf env n >>= fun a => pure (.yield ((n, a) :: cs))) else pure (.yield cs)) :
  ∀ (names : List (Str × NameKind)) (cs : List (Str × Addr)), (∀ y ∈ names, y.2 = .free -> ∃ c, env.cells.lookup y.1 = some c) -> (forIn names cs f : Sem (List (Str × Addr))) = pure (Zy env names cs)
 | [], cs, h => rfl
 | (n, k) :: r, cs, h => by
  rw [List.forIn_cons, hf]
  have ih := fun cs => W5 env f hf r cs fun y hy => h y (List.mem_cons_of_mem _ hy)
  by_cases hk : (k == NameKind.free) = true
  ·obtain ⟨c, e⟩ := h (n, k) List.mem_cons_self (by simpa using hk)
   have e2 : cellOf env n = pure c := by unfold cellOf; rw [e]
   rw [if_pos hk, e2, pure_bind, pure_bind]
   show forIn r _ f = _
   rw [ih]
   have ec : Zy env ((n, k) :: r) cs = Zy env r (if (k == NameKind.free) = true then (n, (env.cells.lookup n).getD 0) :: cs else cs) := rfl
   rw [ec, if_pos hk, e]
   rfl
  ·rw [if_neg hk, pure_bind]
   show forIn r _ f = _
   rw [ih]
   have ec : Zy env ((n, k) :: r) cs = Zy env r (if (k == NameKind.free) = true then (n, (env.cells.lookup n).getD 0) :: cs else cs) := rfl
   rw [ec, if_neg hk]
theorem XA {scope : Scope} {env : Env} (h : ∀ y ∈ scope.names, y.2 = .free -> ∃ c, env.cells.lookup y.1 = some c) : closureFor scope env = pure (Zy env scope.names []) := by
 unfold closureFor
 have := W5 env (fun x r => match x with
  | (name, kind) => if (kind == NameKind.free) = true then (cellOf env name >>= fun a => pure (.yield ((name, a) :: r))) else pure (.yield r)) (fun _ _ _ => rfl) scope.names [] h
 simp only [bind_pure]
 exact this
theorem Xc (env : Env) : ∀ (names : List (Str × NameKind)) (cs : List (Str × Addr)), (∀ y ∈ names, y.2 = .free -> ∃ c, env.cells.lookup y.1 = some c) -> (∀ x c, cs.lookup x = some c -> env.cells.lookup x = some c) ->
  ∀ x c, (Zy env names cs).lookup x = some c -> env.cells.lookup x = some c
 | [], cs, h, hc, x, c, e => hc x c e
 | (n, k) :: r, cs, h, hc, x, c, e => by
  unfold Zy at e
  refine Xc env r _ (fun y hy => h y (List.mem_cons_of_mem _ hy)) (fun y d ey => ?_) x c e
  by_cases hk : (k == NameKind.free) = true
  ·rw [if_pos hk] at ey
   obtain ⟨c', e'⟩ := h (n, k) List.mem_cons_self (by simpa using hk)
   rw [List.lookup_cons] at ey
   split at ey
   ·rename_i q
    have : y = n := by simpa using q
    subst this
    rw [e'] at ey ⊢
    exact ey
   ·exact hc y d ey
  ·rw [if_neg hk] at ey
   exact hc y d ey
theorem ZM {α : Type} {x : Str} {a : α} : ∀ {cs : List (Str × α)}, (x, a) ∈ cs -> ∃ b, cs.lookup x = some b
 | (y, b) :: r, h => by
  rw [List.lookup_cons]
  split
  ·exact ⟨b, rfl⟩
  ·rename_i q
   rcases List.mem_cons.mp h with e | e
   ·cases e; simp at q
   ·exact ZM e
theorem YJ (env : Env) : ∀ (names : List (Str × NameKind)) (cs : List (Str × Addr)) (x : Str), ((∃ c, (x, c) ∈ cs) \/ (x, NameKind.free) ∈ names) -> ∃ c, (x, c) ∈ Zy env names cs
 | [], cs, x, h => by
  rcases h with h | h
  ·exact h
  ·cases h
 | (n, k) :: r, cs, x, h => by
  unfold Zy
  refine YJ env r _ x ?_
  rcases h with ⟨c, h⟩ | h
  ·left
   split
   ·exact ⟨c, List.mem_cons_of_mem _ h⟩
   ·exact ⟨c, h⟩
  ·rcases List.mem_cons.mp h with e | e
   ·cases e
    left
    exact ⟨_, by rw [if_pos (by rfl)]; exact List.mem_cons_self⟩
   ·exact .inr e
theorem ZY {α : Type} {x : Str} {a : α} : ∀ {cs : List (Str × α)}, cs.lookup x = some a -> (x, a) ∈ cs
 | (y, b) :: r, h => by
  rw [List.lookup_cons] at h
  split at h
  ·rename_i q
   have : x = y := by simpa using q
   cases h; subst this
   exact List.mem_cons_self
  ·exact List.mem_cons_of_mem _ (ZY h)
theorem XG {scope : Scope} {env : Env} {x : Str} (hcell : ∀ y ∈ scope.names, y.2 ≠ .cell) : (relabel scope env).names.lookup x = some .cell \/ (relabel scope env).names.lookup x = some .free -> (x, NameKind.free) ∈ scope.names := by
 intro h
 have : ∃ k, (x, k) ∈ (relabel scope env).names /\ (k = .cell \/ k = .free) := by
  rcases h with h | h
  ·exact ⟨_, ZY h, .inl rfl⟩
  ·exact ⟨_, ZY h, .inr rfl⟩
 obtain ⟨k, hm, hk⟩ := this
 unfold relabel at hm
 obtain ⟨⟨n, k0⟩, hm0, e⟩ := List.mem_map.mp hm
 simp only at e
 split at e
 ·rename_i q
  cases e
  simp only [Bool.and_eq_true, beq_iff_eq] at q
  rw [q.1.1] at hm0
  exact hm0
 ·cases e
  rcases hk with rfl | rfl
  ·exact absurd rfl (hcell _ hm0)
  ·exact hm0
def cxC (X : Cx) (scope : Scope) (N : List Str) (s₀ : Shared) (H₀ : Hp) (ex : List Addr) (pn : List (Addr × Obj) := []) : Cx :=
 { X with env := compEnvC scope (Zy X.env scope.names []) s₀.heap.objs.size X.env, N := N, s₀ := s₀, H₀ := H₀, outer := X.stack, ex := ex, fn := fun _ => false, pn := pn, xe := fun _ _ => False }
structure CompOk (X : Cx) (scope : Scope) (N : List Str) (nv : Nat) (cap : List Nat) : Prop where
 cell : ∀ y ∈ scope.names, y.2 ≠ .cell
 kind : scope.kind = .function
 names : ∀ y ∈ scope.names, y.2 = .local -> scope.names.lookup y.1 = some .local
 free : ∀ y ∈ scope.names, y.2 = .free -> X.env.kindOf y.1 = some .cell \/ X.env.kindOf y.1 = some .free
 len : N.length = nv + cap.length
 caps : ∀ (i j : Nat) (x : Str), cap[i]? = some j -> N[nv + i]? = some x -> X.N[j]? = some x /\ ((relabel scope X.env).names.lookup x = some .cell \/ (relabel scope X.env).names.lookup x = some .free) /\ (X.env.kindOf x = some .cell \/ X.env.kindOf x = some .free)
def sig (nv : Nat) (cap : List Nat) (σ : L2.St) : L2.St := List.replicate nv none ++ cap.map fun j => σ.getD j none
section
variable {X : Cx} {scope : Scope} {N : List Str} {nv : Nat} {cap : List Nat} {pins : List (Addr × Obj)} {σ : L2.St} {H : Hp} {s : Shared} {ex : List Addr}
theorem CompOk.has (C : CompOk X scope N nv cap) (ok : X.Ok) : ∀ y ∈ scope.names, y.2 = .free -> ∃ c, X.env.cells.lookup y.1 = some c := fun y hy e => ok.has y.1 (C.free y hy e)
theorem CompOk.start (C : CompOk X scope N nv cap) (I : Inv X pins σ H s) (hex : ∀ b ∈ ex, FpOk X pins H b /\ b < s.heap.objs.size) {h' : Heap} {t : Nat} {m : Str -> Option Value} (hn : h'.Ns s.heap.objs.size m) (hk : ∀ b o, s.heap.get? b = some o -> h'.get? b = some o) :
  Inv (cxC X scope N s H ex) [] (sig nv cap σ) H { s with heap := h', toks := t } := by
 have hh := C.has I.ok
 have sub := Xc X.env scope.names [] hh (fun x c e => by cases e)
 have hL : s.heap.objs.size <= (cxC X scope N s H ex).env.locals := Nat.le_refl _
 have stk : ∀ b ∈ frs X.stack, b < s.heap.objs.size := fun b hb => by
  obtain ⟨_, o, ho, _⟩ := I.stack.mem hb
  exact Heap.lt_size ho
 refine ⟨⟨I.ok.mod, C.kind, I.ok.glob, I.ok.blt, hL, fun x y c h1 h2 => I.ok.inj x y c (sub x c h1) (sub y c h2), fun x hx => ?_, fun x c h => ?_, I.ok.hd, I.ok.frames, .inl rfl, fun b hb => ?_, fun b o e => I.bs b o e, ?_, fun b o e hb => ?_, fun b hb => ?_, I.stack, I.stkFree⟩,
  rfl, I.bare, Un.kept hk, ⟨m, hn, fun i x v e1 e2 e3 => ?_⟩, fun x c e => ?_, I.hok.fresh (Nat.le_refl _), fun x c e => I.freeC x c (sub x c e), fun p hp => ?_, I.hok.kept hk, ?_⟩
 ·have hx' : (relabel scope X.env).names.lookup x = some .cell \/ (relabel scope X.env).names.lookup x = some .free := hx
  obtain ⟨c, hc⟩ := YJ X.env scope.names [] x (.inr (XG C.cell hx'))
  exact ZM hc
 ·cases h
 ·obtain ⟨f, lt⟩ := hex b hb
  refine ⟨Nat.ne_of_lt lt, fun x c e => f.2.2.2.2.1 x c (sub x c e)⟩
 ·exact Nat.le_trans I.ok.bsz I.sz
 ·obtain ⟨f, lt⟩ := hex b hb
  rcases f.2.2.2.1 with z | z
  ·exact I.ok.noex b o e z
  ·exact absurd (Nat.lt_of_lt_of_le (Heap.lt_size e) (Nat.le_trans I.ok.bsz z)) (Nat.lt_irrefl _)
 ·obtain ⟨f, lt⟩ := hex b hb
  intro z
  rcases List.mem_cons.mp (I.stkSub b z) with e | e
  ·exact f.2.1 e
  ·exact f.2.2.1 e
 ·-- the names
  have hi : nv <= i := by
   rcases Nat.lt_or_ge i nv with z | z
   ·unfold sig at e2
    rw [List.getElem?_append_left (by simpa using z), List.getElem?_replicate] at e2
    split at e2 <;> cases e2
   ·exact z
  obtain ⟨k, rfl⟩ := Nat.exists_eq_add_of_le hi
  unfold sig at e2
  rw [List.getElem?_append_right (by simp), List.getElem?_map] at e2
  have ek : nv + k - (List.replicate nv (none : Option V)).length = k := by simp
  rw [ek] at e2
  cases ec : cap[k]? with
  | none => rw [ec] at e2; cases e2
  | some j =>
   rw [ec] at e2
   have e2' : σ.getD j none = some v := by simpa using e2
   obtain ⟨c1, c2, c3⟩ := C.caps k j x ec e1
   obtain ⟨m0, _, hl⟩ := I.loc
   have vis : Vis X.env.scope x := c3.elim (fun z => .inr (.inl z)) fun z => .inr (.inr z)
   obtain ⟨u, ru, lk⟩ := hl j x v c1 (getD_some e2') vis
   refine ⟨u, ru, .inr ⟨c2, ?_⟩⟩
   rcases lk with ⟨z, _⟩ | ⟨_, c, ec', o, ho, hd⟩
   ·rcases c3 with c3 | c3 <;> (rw [c3] at z; cases z)
   ·obtain ⟨c', hc'⟩ := YJ X.env scope.names [] x (.inr (XG C.cell c2))
    obtain ⟨c'', hc''⟩ := ZM hc'
    have := sub x c'' hc''
    rw [ec'] at this
    cases this
    exact ⟨c, hc'', o, hk c o ho, hd⟩
 ·obtain ⟨v, o, ho, hd⟩ := I.cell x c (sub x c e)
  exact ⟨v, o, hk c o ho, hd⟩
 ·exact absurd (show p ∈ ([] : List (Addr × Obj)) from hp) (by simp)
 ·show (sig nv cap σ).length = N.length
  unfold sig
  rw [C.len]
  simp
theorem CompOk.stop {H' : Hp} {s' : Shared} {σ' : L2.St} {pl : List (Addr × Obj)} (I : Inv X pins σ H s) (hex : ∀ b ∈ ex, FpOk X pins H b) (J : Inv (cxC X scope N s H ex) pl σ' H' s') : Inv X pins σ H' s' :=
 I.call' J.os J.base J.hok J.bare fun b hb => by
  obtain ⟨f0, f1, f2, f3, f4, f5⟩ := hex b hb
  exact ⟨f3, f1, f4, f5⟩
theorem inv_pn {s₀ : Shared} {H₀ : Hp} {E : Value -> Shared -> Prop} (I : Inv (cxC X scope N s₀ H₀ ex) pins σ H s) : Inv ((cxC X scope N s₀ H₀ ex pins).wish E) [] σ H s :=
 ⟨⟨I.ok.mod, I.ok.kind, I.ok.glob, I.ok.blt, I.ok.above, I.ok.inj, I.ok.has, I.ok.cab, I.ok.hd, I.ok.frames, I.ok.stk, I.ok.exf, I.ok.bs, I.ok.bsz, I.ok.noex, I.ok.exfs, I.ok.funs, I.ok.frf⟩, I.os, I.bare, I.base, I.loc, I.cell, I.free, I.freeC,
  fun p hp => I.pin p (show p ∈ [] ++ pins by simpa using (show p ∈ pins ++ [] from hp)), I.hok, I.len⟩
theorem inv_np {s₀ : Shared} {H₀ : Hp} {pn : List (Addr × Obj)} {E : Value -> Shared -> Prop} (I : Inv ((cxC X scope N s₀ H₀ ex pn).wish E) pins σ H s) : Inv (cxC X scope N s₀ H₀ ex) (pn ++ pins) σ H s :=
 ⟨⟨I.ok.mod, I.ok.kind, I.ok.glob, I.ok.blt, I.ok.above, I.ok.inj, I.ok.has, I.ok.cab, I.ok.hd, I.ok.frames, I.ok.stk, I.ok.exf, I.ok.bs, I.ok.bsz, I.ok.noex, I.ok.exfs, I.ok.funs, I.ok.frf⟩, I.os, I.bare, I.base, I.loc, I.cell, I.free, I.freeC,
  fun p hp => I.pin p (show p ∈ pn ++ pins from by simpa using (show p ∈ [] ++ (pn ++ pins) from hp)), I.hok, I.len⟩
end
end Fx
namespace Fx
open PySem PySem.Spec PyProof.Rows L2
theorem Wu {prog : Program} {w : World} {A : Around} {R : Result -> Shared -> Prop} {s : Shared} {elt target iter : Expr} {ifs : List Expr} {scope : Scope} {pos : Pos} {it acc : Value} {env : Env} (I : Nat -> Shared -> Prop)
  (turn : ∀ n s, I n s -> wpAny (model prog w) A (pyNext it) (fun r s₁ => match r with
   | none => R (.ok .next) s₁
   | some v => wpAny (model prog w) A (letOwnedTupleGo target it v) (fun _ s₀ => wpAny (model prog w) A (assign target env v) (fun _ s₂ =>
     wpAny (model prog w) A (forIn ifs true fun c r => if r = true then do let ok <- isTrue c env (eval c env); pure (ForInStep.yield ok) else pure (ForInStep.yield r)) (fun ok s₃ =>
      if ok = true then wpAny (model prog w) A (eval elt env) (fun x s₄ =>
       wpAny (model prog w) A (call (.builtin "list.append") [acc, x]) (fun _ s₅ => ∃ m, m < n /\ I m s₅) (notedBy (model prog w) A env fun e s' => R (.error e) s') s₄) (notedBy (model prog w) A env fun e s' => R (.error e) s') s₃
      else ∃ m, m < n /\ I m s₃) (notedBy (model prog w) A env fun e s' => R (.error e) s') s₂) (notedBy (model prog w) A env fun e s' => R (.error e) s') s₀) (notedBy (model prog w) A env fun e s' => R (.error e) s') s₁) (notedBy (model prog w) A env fun e s' => R (.error e) s') s)
  (n : Nat) (h : I n s) :
  codeAny (model prog w) A (.compLoop (.ListComp elt [⟨target, iter, ifs, 0⟩] scope pos) 0 it acc env) R s := by
 refine codeAny_loop rfl I (fun n s hI => ?_) n h
 show wpAny _ A ((compTurn (.ListComp elt [⟨target, iter, ifs, 0⟩] scope pos) 0 it acc env).onRaise (fun x => do noteFrame x env; theTreesLotGoes x)) _ _ s
 refine wpAny_noted ?_
 rw [compTurn_list]
 refine wpAny_bind (wpAny_standAt (wpAny_bind (wpAny_mono (turn n s hI) (fun r s₁ h₁ => ?_) fun _ _ h' => h')))
 cases r with
 | none => exact wpAny_pure h₁
 | some v =>
  refine wpAny_bind (wpAny_mono h₁ (fun _ s₀ h₀ => ?_) fun _ _ h' => h')
  refine wpAny_bind (wpAny_mono h₀ (fun _ s₂ h₂ => wpAny_bind (wpAny_mono h₂ (fun ok s₃ h₃ => ?_) fun _ _ h' => h')) fun _ _ h' => h')
  cases ok with
  | false => exact wpAny_pure ⟨rfl, h₃⟩
  | true =>
   exact wpAny_bind (wpAny_bind (wpAny_mono h₃ (fun x s₄ h₄ => wpAny_bind (wpAny_mono h₄ (fun _ s₅ h₅ => wpAny_pure (wpAny_pure ⟨rfl, h₅⟩)) fun _ _ h' => h')) fun _ _ h' => h'))
def CT (X : Cx) (W : Str -> Hp -> Prop) (ifs : List Expr) (dc : DT) : Prop := (ifs = [] /\ dc = tT) \/ ∃ c, ifs = [c] /\ TV X W c dc
theorem YR {X : Cx} {W : Str -> Hp -> Prop} : CT X W [] tT := .inl ⟨rfl, rfl⟩
section
variable {X : Cx} {scope : Scope} {N : List Str} {nv : Nat} {cap : List Nat}
theorem UR {K : PySem.W.Frag} {H H' : Hp} {P P' : Pv} {σ : L2.St} {G : List Sl} (h : Hol K H P σ G) (tr : Tr H P H' P') (ho : ∀ i, P'.own i = none) (hf : ∀ a, P'.fb a -> H' a ≠ none) (htb : Xd K H') : Hol K H' P' (sig nv cap σ) (List.replicate nv .emp ++ capS cap G) where
 sl := fun i s e => by
  by_cases hi : i < nv
  ·rw [List.getElem?_append_left (by simpa using hi), List.getElem?_replicate, if_pos hi] at e
   cases e
   trivial
  ·rw [List.getElem?_append_right (by simpa using hi)] at e
   have el : i - (List.replicate nv Sl.emp).length = i - nv := by simp
   rw [el] at e
   unfold capS at e
   rw [List.getElem?_map] at e
   cases ec : cap[i - nv]? with
   | none => rw [ec] at e; cases e
   | some j =>
    rw [ec] at e
    have es : (sig nv cap σ).getD i none = σ.getD j none := by
     unfold sig
     rw [List.getD_eq_getElem?_getD, List.getElem?_append_right (by simpa using hi)]
     have el2 : i - (List.replicate nv (none : Option V)).length = i - nv := by simp
     rw [el2, List.getElem?_map, ec]
     rfl
    rw [es]
    simp only [Option.map_some, Option.some.injEq] at e
    cases eg : G[j]? with
    | none => rw [eg] at e; subst e; trivial
    | some x =>
     rw [eg] at e
     cases x with
     | emp => subst e; trivial
     | own xs => subst e; trivial
     | val t =>
      subst e
      obtain ⟨v, ev, rv⟩ := h.sl j _ eg
      exact ⟨v, ev, Rl.go tr t v rv⟩
 inj := fun i j a z _ => by rw [ho i] at z; cases z
 only := fun i a z => by rw [ho i] at z; cases z
 fbd := hf
 nfb := fun i a z => by rw [ho i] at z; cases z
 len := by simp [sig]
 tab := htb
theorem Wq {K : PySem.W.Frag} {H : Hp} {P : Pv} {σ : L2.St} {G1 : List Sl} {C : List Sl} (hC : ∀ i, i < nv -> ∀ s, C[i]? = some s -> s = .emp) (hC2 : ∀ (i : Nat) xs, C[i]? ≠ some (.own xs)) (h : Hol K H P σ G1) (hl : G1.length = C.length) (he : ∀ i, nv <= i -> G1[i]? = C[i]?) :
  Hol K H P.bare σ C := by
 obtain ⟨h', g⟩ := h.frzA
 refine ⟨fun i s e => ?_, fun _ _ _ z => (by cases z), fun _ _ z => (by cases z), h'.fbd, fun _ _ z => (by cases z), by rw [h.len, hl], h'.tab⟩
 by_cases hi : i < nv
 ·rw [hC i hi s e]; trivial
 ·have e1 : G1[i]? = some s := by rw [he i (by omega)]; exact e
  cases s with
  | emp => trivial
  | own xs => exact absurd e (hC2 i xs)
  | val t =>
   refine h'.sl i (.val t) ?_
   rw [Xv, e1]; rfl
abbrev cxT (xz : Cx -> Value -> Shared -> Prop) (X : Cx) (scope : Scope) (N : List Str) (s₀ : Shared) (H₀ : Hp) (ex : List Addr) (pn : List (Addr × Obj)) : Cx := (cxC X scope N s₀ H₀ ex pn).wish (xz (cxC X scope N s₀ H₀ ex pn))
theorem Uf {xz : Cx -> Value -> Shared -> Prop} {W : Str -> Hp -> Prop} {tg elt iter : Expr} {ifs : List Expr} {pos : Pos} {st : PyData -> List Sl -> Res (List Sl)} {dc : DT} {de : DE} {pins : List (Addr × Obj)} {σ : L2.St} {H2 : Hp} {s3 s4 : Shared} {P : Pv} {G : List Sl} {J : It} {fp : List Addr} {itA D : Addr} {tn : Nat -> Heap -> Prop} {ts : List PyData} {r : Res (List PyData)} {R : Result -> Shared -> Prop} {m : Str -> Option Value}
  (C : CompOk X scope N nv cap) (hc : X.calm = true) (hk : Wb nv st)
  (hg : ∀ s₀ H₀ ex pn, GV (cxT xz X scope N s₀ H₀ ex pn) tg st) (ht : ∀ s₀ H₀ ex pn, (∀ b ∈ ex, ∃ o, (b, o) ∈ pn) -> CT (cxT xz X scope N s₀ H₀ ex pn) W ifs dc) (he : ∀ s₀ H₀ ex pn, (∀ b ∈ ex, ∃ o, (b, o) ∈ pn) -> EV (cxT xz X scope N s₀ H₀ ex pn) W elt de)
  (h2 : Hol X.K H2 P σ G) (hD : H2 D = none) (I3 : Inv X pins σ (upd H2 D (.lst [])) s3) (T : Turn X.prog X.w X.K tg J fp itA tn) (hf : ∀ b ∈ fp, FpOk X pins (upd H2 D (.lst [])) b /\ b < s3.heap.objs.size) (y : Yld X.K J ts H2 P) (hlen : ts.length <= 16777216)
  (hall : ZA st dc de (List.replicate nv .emp ++ capS cap G) ts = r) (hr : r ≠ .stuck) (hW : ∀ c, r = .exc c -> ∀ H', Same H2 H' -> W c H')
  (hn : s4.heap.Ns s3.heap.objs.size m) (hkp : ∀ b o, s3.heap.get? b = some o -> s4.heap.get? b = some o) (e4 : ∃ h' t, s4 = { s3 with heap := h', toks := t }) (tn0 : tn 0 s4.heap)
  (fin : ∀ s' H' σ' vs all, r = .ok all -> Inv (cxC X scope N s3 (upd H2 D (.lst [])) fp) [] σ' H' s' -> H' D = some (.lst vs) -> Same H2 H' -> Rls X.K H' (P.fbd D) all vs -> R (.ok .next) s')
  (finx : ∀ pn e s', (∀ b ∈ fp, ∃ o, (b, o) ∈ pn) -> xz (cxC X scope N s3 (upd H2 D (.lst [])) fp pn) e s' -> notedBy (model X.prog X.w) X.A (compEnvC scope (Zy X.env scope.names []) s3.heap.objs.size X.env) (fun e s' => R (.error e) s') e s') :
  codeAny (model X.prog X.w) X.A (.compStart (.ListComp elt [⟨tg, iter, ifs, 0⟩] scope pos) 0 (.ref itA) (.ref D) (compEnvC scope (Zy X.env scope.names []) s3.heap.objs.size X.env)) R s4 := by
 obtain ⟨h4, t4, rfl⟩ := e4
 have J4 := C.start (t := t4) I3 hf hn hkp
 -- what no element may hold
 have trc : ∀ H', Same H2 H' -> (∃ vs, H' D = some (.lst vs)) -> Tr H2 P H' ⟨fun _ => none, fun a => ¬ Off P a \/ a = D⟩ := fun H' s _ a o e n q => ⟨s.kp a o e n, fun _ z => (by cases z), fun z => z.elim (fun z => z q) fun z => by rw [z, hD] at e; cases e⟩
 have offc : ∀ H', Same H2 H' -> (∃ vs, H' D = some (.lst vs)) -> ∀ p, H' p = none -> Off ⟨fun _ => none, fun a => ¬ Off P a \/ a = D⟩ p := fun H' s ⟨vs, hv⟩ p hp => ⟨fun _ z => (by cases z), fun z => z.elim (fun z => z (h2.off_new (s.free hp))) fun z => by rw [z, hv] at hp; cases hp⟩
 have fbc : ∀ H', Same H2 H' -> (∃ vs, H' D = some (.lst vs)) -> ∀ a, (¬ Off P a \/ a = D) -> H' a ≠ none := fun H' s hv a z hn => (offc H' s hv a hn).2 z
 have hCe : ∀ i, i < nv -> ∀ x, (List.replicate nv Sl.emp ++ capS cap G)[i]? = some x -> x = .emp := fun i hi x e => by
  rw [List.getElem?_append_left (by simpa using hi), List.getElem?_replicate, if_pos hi] at e
  cases e
  rfl
 have hCo : ∀ (i : Nat) xs, (List.replicate nv Sl.emp ++ capS cap G)[i]? ≠ some (.own xs) := fun i xs e => by
  by_cases hi : i < nv
  ·have := hCe i hi _ e; cases this
  ·rw [List.getElem?_append_right (by simpa using hi)] at e
   unfold capS at e
   rw [List.getElem?_map] at e
   cases ec : cap[i - (List.replicate nv Sl.emp).length]? with
   | none => rw [ec] at e; cases e
   | some j =>
    rw [ec] at e
    simp only [Option.map_some, Option.some.injEq] at e
    cases eg : G[j]? with
    | none => rw [eg] at e; cases e
    | some x => rw [eg] at e; cases x <;> cases e
 have fpo : ∀ H', (∀ b ∈ fp, H' b = none) -> ∀ b ∈ fp, FpOk (cxC X scope N s3 (upd H2 D (.lst [])) fp) [] H' b := fun H' hz b hb => by
  obtain ⟨f, lt⟩ := hf b hb
  refine ⟨hz b hb, Nat.ne_of_lt lt, fun z => ?_, .inl hb, fun x c e => f.2.2.2.2.1 x c (Xc X.env scope.names [] (C.has I3.ok) (fun x c e => by cases e) x c e), fun p hp => absurd (show p ∈ ([] : List (Addr × Obj)) from hp) (by simp)⟩
  rcases List.mem_cons.mp (I3.stkSub b z) with e | e
  ·exact f.2.1 e
  ·exact f.2.2.1 e
 have up0 : Same H2 (upd H2 D (.lst [])) := ZG hD
 -- the loop
 have loop : ∀ s5 : Shared, s5 = { s3 with heap := h4, toks := t4 } -> codeAny (model X.prog X.w) X.A (.compLoop (.ListComp elt [⟨tg, iter, ifs, 0⟩] scope pos) 0 (.ref itA) (.ref D) (compEnvC scope (Zy X.env scope.names []) s3.heap.objs.size X.env)) R s5 := by
  rintro s5 rfl
  refine Wu (fun n s => ∃ i σ' H' vs ys, n = ts.length - i /\ i <= ts.length /\ Inv (cxC X scope N s3 (upd H2 D (.lst [])) fp) [] σ' H' s /\ tn i s.heap /\ (∀ b ∈ fp, H' b = none) /\ Same H2 H' /\ H' D = some (.lst vs) /\
   Rls X.K H' ⟨fun _ => none, fun a => ¬ Off P a \/ a = D⟩ ys vs /\ Hol X.K H' ⟨fun _ => none, fun a => ¬ Off P a \/ a = D⟩ σ' (List.replicate nv .emp ++ capS cap G) /\ ((ZA st dc de (List.replicate nv .emp ++ capS cap G) (ts.drop i)).bind fun zs => .ok (ys ++ zs)) = r /\ ys.length <= i) ?_ ts.length
   ⟨0, _, _, [], [], rfl, Nat.zero_le _, J4, tn0, fun b hb => (hf b hb).1.1, up0, Zr, Z5.mpr rfl, UR h2 (trc _ up0 ⟨_, Zr⟩) (fun _ => rfl) (fbc _ up0 ⟨_, Zr⟩) (up0.tab _ h2.tab), by rw [List.drop_zero, hall]; cases r <;> rfl, Nat.le_refl _⟩
  rintro n s ⟨i, σ', H', vs, ys, rfl, hi, Ji, tni, fpn, sm, hDv, rys, hol, ecl, hyl⟩
  obtain ⟨y1, y2⟩ := y H' ⟨fun _ => none, fun a => ¬ Off P a \/ a = D⟩ (trc H' sm ⟨vs, hDv⟩) (offc H' sm ⟨vs, hDv⟩) i
  by_cases hlt : i < ts.length
  ·have et : ts[i]? = some ts[i] := by simp [hlt]
   obtain ⟨go, yl⟩ := y1 _ et
   rw [List.drop_eq_getElem_cons hlt] at ecl
   unfold ZA at ecl
   -- the turn's own data
   obtain ⟨G1, eG⟩ : ∃ G1, st ts[i] (List.replicate nv .emp ++ capS cap G) = .ok G1 := by
    rcases Xt (st ts[i] (List.replicate nv .emp ++ capS cap G)) with ⟨G1, h⟩ | h
    ·exact ⟨G1, VE h⟩
    ·rw [h] at ecl; exact absurd ecl.symm hr
   rw [eG, show noX (Res.ok G1 : Res (List Sl)) = .ok G1 from rfl, Res.bind_ok] at ecl
   obtain ⟨kl, ke⟩ := hk _ _ _ eG
   refine wpAny_mono (T.item (cxC X scope N s3 (upd H2 D (.lst [])) fp) rfl rfl rfl hc i [] s σ' H' (fun _ _ => False) Ji (fpo H' fpn) tni go) (fun r' s1 hr' => ?_) fun _ _ z => z.elim
   obtain ⟨u, rfl, hr'⟩ := hr'
   refine wpAny_mono hr' (fun _ s2 hr2 => ?_) fun _ _ z => z.elim
   obtain ⟨x, H5, J5, r5, y5, tn5, fr5⟩ := hr2
   obtain ⟨sm5, rl5⟩ := yl x H5 y5
   have J5' : Inv (cxT xz X scope N s3 (upd H2 D (.lst [])) fp (ZF fp s2.heap)) [] σ' H5 s2 := inv_pn (J5.pinned (fpo H5 fr5) (T.obj _ _ tn5))
   have pnn : ∀ b ∈ fp, ∃ o, (b, o) ∈ ZF fp s2.heap := fun b hb => by
    obtain ⟨o, e, _⟩ := T.obj _ _ tn5 b hb
    exact ⟨o, Yw hb e⟩
   have finx' := fun e s' => finx (ZF fp s2.heap) e s' pnn
   obtain ⟨g, pg, gp⟩ := hg s3 (upd H2 D (.lst [])) fp (ZF fp s2.heap)
   have hol5 := hol.same sm5
   refine wpAny_mono (pg _ s2 σ' H5 x u (fun σ6 H6 => H6 = H5 /\ ∃ P6, Go H5 ⟨fun _ => none, fun a => ¬ Off P a \/ a = D⟩ H5 P6 /\ Hol X.K H5 P6 σ6 G1) J5' r5 (gp ts[i] x σ' H5 _ _ _ hol5 rl5 ⟨G1, eG, fun σ6 P6 g6 h6 => ⟨rfl, P6, g6, h6⟩⟩)) (fun _ s6 h6 => ?_) finx'
   obtain ⟨σ6, H6, J6, rfl, P6, g6, hol6⟩ := h6
   -- on to the next turn
   have fr6 : ∀ {H8 : Hp} {s8 : Shared}, Inv (cxT xz X scope N s3 (upd H2 D (.lst [])) fp (ZF fp s2.heap)) [] σ6 H8 s8 -> ∀ b ∈ fp, H8 b = none := fun {H8 s8} J8 b hb => by
    obtain ⟨o, e⟩ := pnn b hb
    exact (J8.pin (b, o) (List.mem_append_left _ e)).2.1
   have next : ∀ {H8 : Hp} {s8 : Shared} {ys' : List PyData} {vs' : List V}, Inv (cxT xz X scope N s3 (upd H2 D (.lst [])) fp (ZF fp s2.heap)) [] σ6 H8 s8 -> Same H2 H8 -> H8 D = some (.lst vs') -> (∀ b, b ≠ D -> ∀ o, H6 b = some o -> Nt o -> H8 b = some o) ->
     Rls X.K H8 ⟨fun _ => none, fun a => ¬ Off P a \/ a = D⟩ ys' vs' -> ((ZA st dc de (List.replicate nv .emp ++ capS cap G) (ts.drop (i + 1))).bind fun zs => .ok (ys' ++ zs)) = r -> ys'.length <= i + 1 ->
     ∃ m, m < ts.length - i /\ ∃ i σ' H' vs ys, m = ts.length - i /\ i <= ts.length /\ Inv (cxC X scope N s3 (upd H2 D (.lst [])) fp) [] σ' H' s8 /\ tn i s8.heap /\ (∀ b ∈ fp, H' b = none) /\ Same H2 H' /\ H' D = some (.lst vs) /\
      Rls X.K H' ⟨fun _ => none, fun a => ¬ Off P a \/ a = D⟩ ys vs /\ Hol X.K H' ⟨fun _ => none, fun a => ¬ Off P a \/ a = D⟩ σ' (List.replicate nv .emp ++ capS cap G) /\ ((ZA st dc de (List.replicate nv .emp ++ capS cap G) (ts.drop i)).bind fun zs => .ok (ys ++ zs)) = r /\ ys.length <= i := by
    intro H8 s8 ys' vs' J8 sm8 hD8 kp8 rys8 ecl8 hyl8
    refine ⟨ts.length - (i + 1), by omega, i + 1, σ6, H8, vs', ys', rfl, hlt, Inv.unpinned (pins := []) (pl := ZF fp s2.heap) (by simpa using inv_np J8), ?_, fr6 J8, sm8, hD8, rys8, ?_, ecl8, hyl8⟩
    ·exact T.keep _ _ _ tn5 fun b hb o e => (J8.pin (b, o) (List.mem_append_left _ (Yw hb e))).1
    ·have hF : Hol X.K H6 P6.bare σ6 (List.replicate nv .emp ++ capS cap G) := Wq hCe hCo hol6 kl ke
     have ep : P6.bare = ⟨fun _ => none, fun a => ¬ Off P a \/ a = D⟩ := by
      unfold Pv.bare
      rw [g6.fbe]
     rw [ep] at hF
     have tr8 : Tr H6 ⟨fun _ => none, fun a => ¬ Off P a \/ a = D⟩ H8 ⟨fun _ => none, fun a => ¬ Off P a \/ a = D⟩ := fun a o e n q => ⟨kp8 a (fun z => q.2 (Or.inr z)) o e n, q⟩
     refine ⟨fun j x e => ?_, fun _ _ _ z => (by cases z), fun _ _ z => (by cases z), fbc H8 sm8 ⟨vs', hD8⟩, fun _ _ z => (by cases z), hF.len, sm8.tab _ h2.tab⟩
     have z := hF.sl j x e
     cases x with
     | emp => trivial
     | val t => obtain ⟨v, e1, r1⟩ := z; exact ⟨v, e1, Rl.go tr8 t v r1⟩
     | own xs => exact absurd e (hCo j xs)
   have sm6 : Same H2 H6 := sm.trans sm5
   -- behind the test
   have after : ∀ k s7 H7, Inv (cxT xz X scope N s3 (upd H2 D (.lst [])) fp (ZF fp s2.heap)) [] σ6 H7 s7 -> Same H6 H7 -> dc G1 = .ok k -> (if k = true then wpAny (model X.prog X.w) X.A (eval elt (compEnvC scope (Zy X.env scope.names []) s3.heap.objs.size X.env)) (fun x s₄ =>
      wpAny (model X.prog X.w) X.A (call (.builtin "list.append") [.ref D, x]) (fun _ s₅ => ∃ m, m < ts.length - i /\ ∃ i σ' H' vs ys, m = ts.length - i /\ i <= ts.length /\ Inv (cxC X scope N s3 (upd H2 D (.lst [])) fp) [] σ' H' s₅ /\ tn i s₅.heap /\ (∀ b ∈ fp, H' b = none) /\ Same H2 H' /\ H' D = some (.lst vs) /\
      Rls X.K H' ⟨fun _ => none, fun a => ¬ Off P a \/ a = D⟩ ys vs /\ Hol X.K H' ⟨fun _ => none, fun a => ¬ Off P a \/ a = D⟩ σ' (List.replicate nv .emp ++ capS cap G) /\ ((ZA st dc de (List.replicate nv .emp ++ capS cap G) (ts.drop i)).bind fun zs => .ok (ys ++ zs)) = r /\ ys.length <= i) (notedBy (model X.prog X.w) X.A (compEnvC scope (Zy X.env scope.names []) s3.heap.objs.size X.env) fun e s' => R (.error e) s') s₄) (notedBy (model X.prog X.w) X.A (compEnvC scope (Zy X.env scope.names []) s3.heap.objs.size X.env) fun e s' => R (.error e) s') s7
     else ∃ m, m < ts.length - i /\ ∃ i σ' H' vs ys, m = ts.length - i /\ i <= ts.length /\ Inv (cxC X scope N s3 (upd H2 D (.lst [])) fp) [] σ' H' s7 /\ tn i s7.heap /\ (∀ b ∈ fp, H' b = none) /\ Same H2 H' /\ H' D = some (.lst vs) /\
      Rls X.K H' ⟨fun _ => none, fun a => ¬ Off P a \/ a = D⟩ ys vs /\ Hol X.K H' ⟨fun _ => none, fun a => ¬ Off P a \/ a = D⟩ σ' (List.replicate nv .emp ++ capS cap G) /\ ((ZA st dc de (List.replicate nv .emp ++ capS cap G) (ts.drop i)).bind fun zs => .ok (ys ++ zs)) = r /\ ys.length <= i) := by
    intro k s7 H7 J7 sm7 eK
    rw [eK, Res.bind_ok] at ecl
    have sm27 : Same H2 H7 := sm6.trans sm7
    have hD7 : H7 D = some (.lst vs) := sm7.kp _ _ (sm5.kp _ _ hDv Xg) Xg
    have r7 : Rls X.K H7 ⟨fun _ => none, fun a => ¬ Off P a \/ a = D⟩ ys vs := Rls.go (.same (sm5.trans sm7)) ys vs rys
    cases k with
    | false =>
     rw [if_neg Bool.false_ne_true] at ecl ⊢
     exact next J7 sm27 hD7 (fun b _ o e n => sm7.kp b o e n) r7 ecl (by omega)
    | true =>
     rw [if_pos rfl] at ecl ⊢
     cases eY : de G1 with
     | stuck => rw [eY] at ecl; exact absurd ecl.symm hr
     | exc c =>
      rw [eY] at ecl
      refine wpAny_mono (he s3 (upd H2 D (.lst [])) fp (ZF fp s2.heap) pnn _ s7 σ6 H7 (fun _ _ => False) J7 ⟨G1, P6, hol6.same sm7, by rw [eY]; exact fun H8 s8 => hW c ecl.symm H8 (sm27.trans s8)⟩) (fun xv s8 h8 => ?_) finx'
      obtain ⟨_, _, _, _, z⟩ := h8
      exact z.elim
     | ok yv =>
      rw [eY, Res.bind_ok] at ecl
      refine wpAny_mono (he s3 (upd H2 D (.lst [])) fp (ZF fp s2.heap) pnn _ s7 σ6 H7 (fun v H8 => Same H7 H8 /\ Rl X.K H8 P6 yv v) J7 ⟨G1, P6, hol6.same sm7, by rw [eY]; exact fun v H8 s r => ⟨s, r⟩⟩) (fun xv s8 h8 => ?_) finx'
      obtain ⟨v8, H8, J8, r8, sm8, rl8⟩ := h8
      have hD8 : H8 D = some (.lst vs) := sm8.kp _ _ hD7 Xg
      have lv := rys.length
      have tr6 : Tr H8 P6 H8 ⟨fun _ => none, fun a => ¬ Off P a \/ a = D⟩ := fun a o e _ q => ⟨e, fun _ z => (by cases z), by rw [<- g6.fbe]; exact q.2⟩
      refine wpAny_mono (WT (X := cxT xz X scope N s3 (upd H2 D (.lst [])) fp (ZF fp s2.heap)) _ s8 σ6 H8 (.ref D) [v8] (.ref D) [xv] (fun w H9 => H9 = upd H8 D (.lst (vs ++ [v8]))) J8 rfl (.cons r8 .nil) ⟨D, vs, v8, rfl, rfl, hD8, by rw [sizeLine_eq]; omega, rfl⟩) (fun _ s9 h9 => ?_) finx'
      obtain ⟨_, H9, J9, _, rfl⟩ := h9
      have trD : Tr H8 ⟨fun _ => none, fun a => ¬ Off P a \/ a = D⟩ (upd H8 D (.lst (vs ++ [v8]))) ⟨fun _ => none, fun a => ¬ Off P a \/ a = D⟩ := fun a o e _ q => ⟨by rw [Zn (fun z => q.2 (Or.inr z))]; exact e, q⟩
      have smD : Same H2 (upd H8 D (.lst (vs ++ [v8]))) := (sm27.trans sm8).updL hD hD8
      refine next J9 smD Zr (fun b hb o e n => by rw [Zn hb]; exact sm8.kp b o (sm7.kp b o e n) n) (Rls.append (Rls.go trD ys vs (Rls.go (.same sm8) ys vs r7)) (Zz.mpr ⟨v8, [], rfl, Rl.go trD yv v8 (Rl.go tr6 yv v8 rl8), Z5.mpr rfl⟩)) ?_ (by simp; omega)
      rw [<- ecl]
      cases ZA st dc de (List.replicate nv .emp ++ capS cap G) (ts.drop (i + 1)) <;> simp
   rcases ht s3 (upd H2 D (.lst [])) fp (ZF fp s2.heap) pnn with ⟨rfl, rfl⟩ | ⟨cx, rfl, tvc⟩
   ·exact wpAny_tests_nil (after true s6 H6 J6 (Same.refl _) rfl)
   ·cases eK : dc G1 with
    | stuck => rw [eK] at ecl; exact absurd ecl.symm hr
    | exc c =>
     rw [eK] at ecl
     refine wpAny_tests_one (wpAny_mono (tvc _ s6 σ6 H6 (fun _ _ => False) J6 ⟨G1, P6, hol6, by rw [eK]; exact fun H7 s => hW c ecl.symm H7 (sm6.trans s)⟩) (fun b s7 h7 => ?_) finx')
     obtain ⟨_, _, z⟩ := h7
     exact z.elim
    | ok k =>
     refine wpAny_tests_one (wpAny_mono (tvc _ s6 σ6 H6 (fun b H7 => b = k /\ Same H6 H7) J6 ⟨G1, P6, hol6, by rw [eK]; exact fun H7 s => ⟨rfl, s⟩⟩) (fun b s7 h7 => ?_) finx')
     obtain ⟨H7, J7, rfl, sm7⟩ := h7
     exact after b s7 H7 J7 sm7 eK
  ·have ei : i = ts.length := by omega
   subst ei
   rw [List.drop_length] at ecl
   have ecl' : r = .ok ys := by rw [<- ecl]; simp [ZA]
   refine wpAny_mono (T.done (cxC X scope N s3 (upd H2 D (.lst [])) fp) rfl rfl rfl hc _ [] s σ' H' (fun _ _ => False) Ji (fpo H' fpn) tni (y2 (Nat.le_refl _))) (fun r' s1 hr' => ?_) fun _ _ z => z.elim
   obtain ⟨rfl, J1⟩ := hr'
   have trf : Tr H' ⟨fun _ => none, fun a => ¬ Off P a \/ a = D⟩ H' (P.fbd D) := fun a o e _ q => by
    have o1 : Off P a := Classical.byContradiction fun z => q.2 (Or.inl z)
    exact ⟨e, o1.1, fun z => z.elim o1.2 fun z => q.2 (Or.inr z)⟩
   exact fin s1 H' σ' vs ys ecl' J1 hDv sm (Rls.go trf ys vs rys)
 exact codeAny_compStart_list (loop _ rfl) (T.self _ 0 _ _ _ tn0 (loop _ rfl))
end
end Fx
namespace Fx
open PySem PySem.Spec PyProof.Rows L2
theorem bindAO {a : Res (List PyData)} {f : List PyData -> Res (List PyData)} {K : PySem.W.Frag} {W : Str -> Hp -> Prop} {H : Hp} {P : Pv} {Q : VK} (q : Qi K W H P (a.bind f) Q) :
  (∀ c, a = .exc c -> ∀ H', Same H H' -> W c H') /\ a ≠ .stuck /\ ∀ t, a = .ok t -> Qi K W H P (f t) Q := by
 cases a with
 | ok t => exact ⟨fun c e => (by cases e), (by intro e; cases e), fun t' e => by cases e; exact q⟩
 | exc c => exact ⟨fun c' e => by cases e; exact q, (by intro e; cases e), fun t e => by cases e⟩
 | stuck => exact q.elim
theorem bindEO {a : Res PyData} {f : PyData -> Res (List PyData)} {K : PySem.W.Frag} {W : Str -> Hp -> Prop} {H : Hp} {P : Pv} {Q : VK} (q : Qi K W H P (a.bind f) Q) :
  (∀ c, a = .exc c -> ∀ H', Same H H' -> W c H') /\ a ≠ .stuck /\ ∀ t, a = .ok t -> Qi K W H P (f t) Q := by
 cases a with
 | ok t => exact ⟨fun c e => (by cases e), (by intro e; cases e), fun t' e => by cases e; exact q⟩
 | exc c => exact ⟨fun c' e => by cases e; exact q, (by intro e; cases e), fun t e => by cases e⟩
 | stuck => exact q.elim
def Vt (X : Cx) (scope : Scope) (N : List Str) (xz : Cx -> Value -> Shared -> Prop) : Prop :=
 ∀ (pins : List (Addr × Obj)) (σ : L2.St) (H3 : Hp) (s3 : Shared) (fp : List Addr) (pn : List (Addr × Obj)) (e : Value) (s' : Shared), Inv X pins σ H3 s3 -> (∀ b ∈ fp, FpOk X pins H3 b /\ b < s3.heap.objs.size) -> (∀ b ∈ fp, ∃ o, (b, o) ∈ pn) ->
  xz (cxC X scope N s3 H3 fp pn) e s' -> notedBy (model X.prog X.w) X.A (compEnvC scope (Zy X.env scope.names []) s3.heap.objs.size X.env) (fun x s' => ∃ m, s'.heap.Ns s3.heap.objs.size m /\ ∀ h', Heap.SameBut s3.heap.objs.size s'.heap h' -> ∀ cenv : Env, cenv.locals = s3.heap.objs.size ->
   wpAny (model X.prog X.w) X.A (PySem.passOn "comprehension.variables-let-go" x cenv : Sem Value) (fun _ _ => False) X.xe { s' with heap := h' }) e s'
theorem YS {X : Cx} {scope : Scope} {N : List Str} : Vt X scope N (fun _ _ _ => False) := fun _ _ _ _ _ _ _ _ _ _ _ h => h.elim
section
variable {X : Cx} {W : Str -> Hp -> Prop} {fl : Bool} {scope : Scope} {N : List Str} {nv : Nat} {cap : List Nat} {tg elt iter : Expr} {ifs : List Expr} {pos : Pos} {st : PyData -> List Sl -> Res (List Sl)} {it : DA} {dc : DT} {de : DE} {xz : Cx -> Value -> Shared -> Prop}
theorem VR {pins : List (Addr × Obj)} {σ : L2.St} {H : Hp} {s : Shared} {P : Pv} {G : List Sl} {use : Option (Value -> Sem Unit)} {Q : Value -> Shared -> Prop} {pos' : Pos}
  (C : CompOk X scope N nv cap) (hc : X.calm = true) (hk : Wb nv st) (hi : IV X W tg iter it)
  (hX : Vt X scope N xz) (hg : ∀ s₀ H₀ ex pn, GV (cxT xz X scope N s₀ H₀ ex pn) tg st) (ht : ∀ s₀ H₀ ex pn, (∀ b ∈ ex, ∃ o, (b, o) ∈ pn) -> CT (cxT xz X scope N s₀ H₀ ex pn) W ifs dc) (he : ∀ s₀ H₀ ex pn, (∀ b ∈ ex, ∃ o, (b, o) ∈ pn) -> EV (cxT xz X scope N s₀ H₀ ex pn) W elt de)
  (I : Inv X pins σ H s) (h : Hol X.K H P σ G)
  (hx : ∀ c, it G = .exc c -> ∀ H', Same H H' -> W c H') (hs0 : it G ≠ .stuck)
  (fin : ∀ ts, it G = .ok ts -> ts.length <= 16777216 /\ ZA st dc de (List.replicate nv .emp ++ capS cap G) ts ≠ .stuck /\ (∀ c, ZA st dc de (List.replicate nv .emp ++ capS cap G) ts = .exc c -> ∀ H', Same H H' -> W c H') /\ ∀ all, ZA st dc de (List.replicate nv .emp ++ capS cap G) ts = .ok all ->
   ∀ D vs H' s' c, Inv X pins σ H' s' -> FpOk X pins H' c -> (∃ m, s'.heap.Ns c m) -> (X.env.locals ≠ c /\ ∀ x a, X.env.cells.lookup x = some a -> a ≠ c) -> Same H H' -> H D = none -> H' D = some (.lst vs) -> Rls X.K H' (P.fbd D) all vs ->
    compPost (model X.prog X.w) X.A X.xe use Q (.ref D) c (.ok .next) s')
  (hs : ∀ x, foldedSetIterable iter X.env x = pure x := by intro _; rfl) :
  wpAny (model X.prog X.w) X.A (comprehension (.ListComp elt [⟨tg, iter, ifs, 0⟩] scope pos) scope X.env pos' (newList []) false (eval iter X.env) use) Q X.xe s := by
 refine wpAny_comprehension_free rfl hs (XA (C.has I.ok)) C.kind C.names (wpAny_mono (hi pins s σ H (fun J H' => Same H H' /\ ∃ ts, it G = .ok ts /\ Yld X.K J ts H' P) I ⟨G, P, h, ?_⟩) (fun v s1 h1 => wpAny_mono h1 (fun itv s2 h2 => ?_) fun _ _ z => z) fun _ _ z => z)
 ·cases e : it G with
  | ok ts => exact fun J H' s y => ⟨s, ts, rfl, y⟩
  | exc c => exact hx c e
  | stuck => exact absurd e hs0
 obtain ⟨itA, fp, tn, J, H2, rfl, I2, T, tn0, f2, sm2, ts, ets, y⟩ := h2
 obtain ⟨hlen, hns, hex, fin⟩ := fin ts ets
 have hD : H2 s2.heap.objs.size = none := I2.hok.fresh (Nat.le_refl _)
 refine wpAny_newObj_type (wpAny_newFunctionEnv C.cell (by intro y hy; simp at hy) (fun h₁ hns₁ hsb₁ => ?_) C.kind)
 have I3 : Inv X pins σ (upd H2 s2.heap.objs.size (.lst [])) { s2 with heap := s2.heap.push { cls := .type "list", dict := none, data := .seq ([] : List Value).toArray } } :=
  I2.laid (t' := s2.toks) (fun b u e => Heap.get?_push_of_some _ e) (Nat.le_refl _) ⟨by show 0 <= sizeLine; exact Nat.zero_le _, [], 0, .nil, Heap.get?_push_size _ rfl⟩
 have sz : (s2.heap.push { cls := .type "list", dict := none, data := .seq ([] : List Value).toArray }).objs.size = s2.heap.objs.size + 1 := Heap.size_push _ _
 have hf3 : ∀ b ∈ fp, FpOk X pins (upd H2 s2.heap.objs.size (.lst [])) b /\ b < (s2.heap.push { cls := .type "list", dict := none, data := .seq ([] : List Value).toArray }).objs.size := fun b hb => by
  obtain ⟨o, ho, _⟩ := T.obj 0 _ tn0 b hb
  have lt := Heap.lt_size ho
  obtain ⟨a1, a2⟩ := f2 b hb
  exact ⟨⟨by rw [Zn (Nat.ne_of_lt lt)]; exact a1, a2⟩, by rw [sz]; exact Nat.lt_succ_of_lt lt⟩
 have kp : ∀ b o, (s2.heap.push { cls := .type "list", dict := none, data := .seq ([] : List Value).toArray }).get? b = some o -> h₁.get? b = some o := fun b o e =>
  hsb₁.extBut b o (Nat.ne_of_lt (Heap.lt_size e)) (Heap.get?_push_of_some _ e)
 have tn3 : tn 0 h₁ := T.keep 0 _ _ tn0 fun b _ o e => kp b o (Heap.get?_push_of_some _ e)
 refine Uf (s3 := { s2 with heap := s2.heap.push { cls := .type "list", dict := none, data := .seq ([] : List Value).toArray } }) (D := s2.heap.objs.size) C hc hk hg ht he (h.same sm2) hD I3 T hf3 y hlen rfl hns (fun c ec H' sm => hex c ec H' (sm2.trans sm)) hns₁ kp ⟨h₁, _, rfl⟩ tn3 (fun s' H' σ' vs all hall J' hl sm r => ?_) fun pn e s' pnn hx => hX pins σ _ _ fp pn e s' I3 hf3 pnn hx
 have IX := CompOk.stop I3 (fun b hb => (hf3 b hb).1) J'
 have fo : FpOk X pins H' (s2.heap.push { cls := .type "list", dict := none, data := .seq ([] : List Value).toArray }).objs.size := I3.fpOk (Nat.le_refl _) J'.free
 obtain ⟨m, hm, _⟩ := J'.loc
 exact fin all hall _ vs H' s' _ IX fo ⟨m, hm⟩ ⟨Ne.symm fo.2.1, fun x a e => fo.2.2.2.2.1 x a e⟩ (sm2.trans sm) (sm2.free hD) hl r
theorem atC {pins : List (Addr × Obj)} {σ : L2.St} {H : Hp} {s : Shared} {c : Addr} {h' : Heap} (I : Inv X pins σ H s) (f : FpOk X pins H c) (hs : Heap.SameBut c s.heap h') : Inv X pins σ H { s with heap := h' } :=
 I.turned (t' := s.toks) (fun b o hb e => (hs.2 b hb).trans e) f.1 f.2.1 f.2.2.2.1 f.2.2.2.2.1 f.2.2.2.2.2
theorem XY (C : CompOk X scope N nv cap) (hc : X.calm = true) (hk : Wb nv st) (hi : IV X W tg iter it)
  (hX : Vt X scope N xz) (hg : ∀ s₀ H₀ ex pn, GV (cxT xz X scope N s₀ H₀ ex pn) tg st) (ht : ∀ s₀ H₀ ex pn, (∀ b ∈ ex, ∃ o, (b, o) ∈ pn) -> CT (cxT xz X scope N s₀ H₀ ex pn) W ifs dc) (he : ∀ s₀ H₀ ex pn, (∀ b ∈ ex, ∃ o, (b, o) ∈ pn) -> EV (cxT xz X scope N s₀ H₀ ex pn) W elt de)
  (hs : ∀ x, foldedSetIterable iter X.env x = pure x := by intro _; rfl) : OV X W (.ListComp elt [⟨tg, iter, ifs, 0⟩] scope pos) (YX nv cap st it dc de) := by
 intro pins s σ H Q I ⟨G, P, h, q⟩
 unfold YX at q
 obtain ⟨q1, q2, q3⟩ := bindAO q
 rw [eval_ListComp]
 refine VR (use := none) C hc hk hi hX hg ht he I h q1 q2 (fun ts ets => ?_) hs
 have q4 := q3 ts ets
 split at q4
 ·rename_i hl
  cases e : ZA st dc de (List.replicate nv .emp ++ capS cap G) ts with
  | stuck => rw [e] at q4; exact q4.elim
  | exc c => rw [e] at q4; exact ⟨hl, fun z => (by cases z), fun c' z => by cases z; exact q4, fun all z => by cases z⟩
  | ok all =>
   rw [e] at q4
   refine ⟨hl, fun z => (by cases z), fun c z => (by cases z), fun all' z D vs H' s' c IX fo hm hne sm hD hl r => ?_⟩
   cases z
   obtain ⟨m, hm⟩ := hm
   exact ⟨m, hm, fun h' hsb => ⟨.ref D, H', atC IX fo hsb, rfl, q4 D vs H' sm hD hl r⟩⟩
 ·exact q4.elim
theorem X4 {e : Expr} {d : DA} (h : OV X W e d) : EV X W e (dL d) :=
 Zq h fun σ H Q ⟨G, P, hh, q⟩ => by
  refine ⟨G, P, hh, ?_⟩
  unfold dL at q
  cases e : d G with
  | stuck => rw [e] at q; exact q.elim
  | exc c => rw [e] at q; exact q
  | ok xs => rw [e] at q; exact fun p vs H' s hp hl r => q _ H' s (Ux hh s hp hl r)
theorem ss_setO {e : Expr} {d : DA} {i : Nat} {x : Str} {is : List Nat} {pos' : Pos} (hN : X.N.Nodup) (hi : X.N[i]? = some x) (hx : Loc X.env.scope x) (he : OV X W e d) (hs : swapsWith e (some (.Name x pos')) pos.line X.env = pure false := by rfl)
  (hf : X.fn x = true \/ X.env.scope.names.lookup x = some .local := by first | exact .inl rfl | exact .inr rfl | assumption) : SV X W fl (.Assign [.Name x pos'] e pos) (Ue i is d) :=
 YM (ps_set hN hi hx he hs hf) fun D σ H ⟨G, P, h, q⟩ => by
  unfold Ue at q
  obtain ⟨P1, h1, g⟩ := h.frz is
  obtain ⟨q1, q2, q3⟩ := Qe q
  refine ⟨frz is G, P1, h1, ?_⟩
  cases e : d (frz is G) with
  | stuck => exact absurd e q2
  | exc c => exact fun H' s => q1 c e H' P1 (g.trans (.same s))
  | ok xs =>
   have q4 := q3 xs e
   intro p vs H' s hp hl r
   split at q4
   ·rename_i hlt
    have hlt' : i < (frz is G).length := by rw [<- h1.len, h.len]; exact hlt
    obtain ⟨h2, g2⟩ := h1.own' hlt' s hp hl r
    exact q4 _ H' _ (g.trans g2) h2
   ·exact q4.elim
theorem WM {i : Nat} {x : Str} {pos' : Pos} {d : DS} (C : CompOk X scope N nv cap) (hc : X.calm = true) (hk : Wb nv st) (hi : IV X W tg iter it)
  (hX : Vt X scope N xz) (hg : ∀ s₀ H₀ ex pn, GV (cxT xz X scope N s₀ H₀ ex pn) tg st) (ht : ∀ s₀ H₀ ex pn, (∀ b ∈ ex, ∃ o, (b, o) ∈ pn) -> CT (cxT xz X scope N s₀ H₀ ex pn) W ifs dc) (he : ∀ s₀ H₀ ex pn, (∀ b ∈ ex, ∃ o, (b, o) ∈ pn) -> EV (cxT xz X scope N s₀ H₀ ex pn) W elt de)
  (hN : X.N.Nodup) (hix : X.N[i]? = some x) (hx : Loc X.env.scope x) {spos : Pos} (hsw : swapsWith (.ListComp elt [⟨tg, iter, ifs, 0⟩] scope pos) (some (.Name x pos')) spos.line X.env = pure true)
  (hs : ∀ x, foldedSetIterable iter X.env x = pure x) (hf : X.fn x = true \/ X.env.scope.names.lookup x = some .local)
  (hd : ∀ D σ H, tFS X.K W fl d D σ H -> ∃ G P, Hol X.K H P σ G /\ (∀ c, it G = .exc c -> ∀ H', Same H H' -> W c H') /\ it G ≠ .stuck /\ ∀ ts, it G = .ok ts -> ts.length <= 16777216 /\ ZA st dc de (List.replicate nv .emp ++ capS cap G) ts ≠ .stuck /\ (∀ c, ZA st dc de (List.replicate nv .emp ++ capS cap G) ts = .exc c -> ∀ H', Same H H' -> W c H') /\ ∀ all, ZA st dc de (List.replicate nv .emp ++ capS cap G) ts = .ok all ->
   ∀ p vs H', Same H H' -> H p = none -> H' p = some (.lst vs) -> Rls X.K H' (P.fbd p) all vs -> D.nx (σ.set i (some (.ref p))) H') : SV X W fl (.Assign [.Name x pos'] (.ListComp elt [⟨tg, iter, ifs, 0⟩] scope pos) spos) d := by
 intro pins s σ H D I hq
 obtain ⟨G, P, h, q1, q2, q3⟩ := hd D σ H hq
 rw [exec_Assign_Name_used _ _ _ _ hsw]
 refine wpAny_bind (wpAny_standAt (wpAny_bind ?_))
 show wpAny _ X.A (do let _ <- comprehension (.ListComp elt [⟨tg, iter, ifs, 0⟩] scope pos) scope X.env _ (newList []) false (eval iter X.env) (some (assign (.Name x pos') X.env))) _ _ s
 refine wpAny_bind (wpAny_mono (VR (use := some (assign (.Name x pos') X.env)) (Q := fun _ s' => SP X pins D .next s') C hc hk hi hX hg ht he I h q1 q2 (fun ts ets => ?_) hs) (fun _ s' hq => wpAny_pure (wpAny_pure hq)) fun _ _ e => e)
 obtain ⟨hl, n1, n2, q4⟩ := q3 ts ets
 refine ⟨hl, n1, n2, fun all hall p vs H' s' c IX fo hm hne sm hp hl r => ?_⟩
 obtain ⟨m, hm⟩ := hm
 show wpAny _ X.A (assign (.Name x pos') X.env (.ref p)) _ _ _
 refine wpAny_assign_Name (XV IX hN hix hx (v := .ref p) rfl (fun s'' I'' ch => ?_) hf)
 obtain ⟨a, hsb, ha⟩ := ch
 have hca : c ≠ a := by
  rcases ha with rfl | ha
  ·exact Ne.symm hne.1
  ·exact Ne.symm (hne.2 x a ha)
 refine ⟨m, hm.sameBut hsb hca, fun h' hs' => ⟨_, H', atC I'' fo hs', q4 all hall p vs H' sm hp hl r⟩⟩
theorem Ur {i : Nat} {x : Str} {is : List Nat} {pos' spos : Pos} (C : CompOk X scope N nv cap) (hc : X.calm = true) (hk : Wb nv st) (hi : IV X W tg iter it)
  (hX : Vt X scope N xz) (hg : ∀ s₀ H₀ ex pn, GV (cxT xz X scope N s₀ H₀ ex pn) tg st) (ht : ∀ s₀ H₀ ex pn, (∀ b ∈ ex, ∃ o, (b, o) ∈ pn) -> CT (cxT xz X scope N s₀ H₀ ex pn) W ifs dc) (he : ∀ s₀ H₀ ex pn, (∀ b ∈ ex, ∃ o, (b, o) ∈ pn) -> EV (cxT xz X scope N s₀ H₀ ex pn) W elt de)
  (hN : X.N.Nodup) (hix : X.N[i]? = some x) (hx : Loc X.env.scope x) (hsw : swapsWith (.ListComp elt [⟨tg, iter, ifs, 0⟩] scope pos) (some (.Name x pos')) spos.line X.env = pure true := by rfl)
  (hs : ∀ x, foldedSetIterable iter X.env x = pure x := by intro _; rfl) (hf : X.fn x = true \/ X.env.scope.names.lookup x = some .local := by first | exact .inl rfl | exact .inr rfl | assumption) :
  SV X W fl (.Assign [.Name x pos'] (.ListComp elt [⟨tg, iter, ifs, 0⟩] scope pos) spos) (dSet i is (dL (YX nv cap st it dc de))) :=
 WM C hc hk hi hX hg ht he hN hix hx hsw hs hf fun D σ H ⟨G, P, h, q⟩ => by
  unfold dSet dL YX at q
  obtain ⟨P1, h1, g⟩ := h.frz is
  refine ⟨frz is G, P1, h1, ?_⟩
  cases e : it (frz is G) with
  | stuck => rw [e] at q; exact q.elim
  | exc c => rw [e] at q; exact ⟨fun c' ec H' s => by cases ec; exact q H' P1 (g.trans (.same s)), (by intro z; cases z), fun ts z => by cases z⟩
  | ok ts =>
   refine ⟨fun c' ec => (by cases ec), (by intro z; cases z), fun ts' z => ?_⟩
   cases z
   rw [e, Res.bind_ok] at q
   split at q
   ·rename_i hl
    refine ⟨hl, ?_⟩
    cases e2 : ZA st dc de (List.replicate nv .emp ++ capS cap (frz is G)) ts with
    | stuck => rw [e2] at q; exact q.elim
    | exc c => rw [e2] at q; exact ⟨fun z => (by cases z), fun c' z H' s => by cases z; exact q H' P1 (g.trans (.same s)), fun all z => by cases z⟩
    | ok all =>
     rw [e2] at q
     refine ⟨fun z => (by cases z), fun c z => (by cases z), fun all' z p vs H' s hp hl r => ?_⟩
     cases z
     have h2 := (h1.same s).setVal i (Ux h1 s hp hl r)
     exact q _ H' _ (g.trans ((Go.same s).trans .del)) h2
   ·exact q.elim
theorem ss_setCO {i : Nat} {x : Str} {is : List Nat} {pos' spos : Pos} (C : CompOk X scope N nv cap) (hc : X.calm = true) (hk : Wb nv st) (hi : IV X W tg iter it)
  (hX : Vt X scope N xz) (hg : ∀ s₀ H₀ ex pn, GV (cxT xz X scope N s₀ H₀ ex pn) tg st) (ht : ∀ s₀ H₀ ex pn, (∀ b ∈ ex, ∃ o, (b, o) ∈ pn) -> CT (cxT xz X scope N s₀ H₀ ex pn) W ifs dc) (he : ∀ s₀ H₀ ex pn, (∀ b ∈ ex, ∃ o, (b, o) ∈ pn) -> EV (cxT xz X scope N s₀ H₀ ex pn) W elt de)
  (hN : X.N.Nodup) (hix : X.N[i]? = some x) (hx : Loc X.env.scope x) (hsw : swapsWith (.ListComp elt [⟨tg, iter, ifs, 0⟩] scope pos) (some (.Name x pos')) spos.line X.env = pure true := by rfl)
  (hs : ∀ x, foldedSetIterable iter X.env x = pure x := by intro _; rfl) (hf : X.fn x = true \/ X.env.scope.names.lookup x = some .local := by first | exact .inl rfl | exact .inr rfl | assumption) :
  SV X W fl (.Assign [.Name x pos'] (.ListComp elt [⟨tg, iter, ifs, 0⟩] scope pos) spos) (Ue i is (YX nv cap st it dc de)) :=
 WM C hc hk hi hX hg ht he hN hix hx hsw hs hf fun D σ H ⟨G, P, h, q⟩ => by
  unfold Ue YX at q
  obtain ⟨P1, h1, g⟩ := h.frz is
  refine ⟨frz is G, P1, h1, ?_⟩
  cases e : it (frz is G) with
  | stuck => rw [e] at q; exact q.elim
  | exc c => rw [e] at q; exact ⟨fun c' ec H' s => by cases ec; exact q H' P1 (g.trans (.same s)), (by intro z; cases z), fun ts z => by cases z⟩
  | ok ts =>
   refine ⟨fun c' ec => (by cases ec), (by intro z; cases z), fun ts' z => ?_⟩
   cases z
   rw [e, Res.bind_ok] at q
   split at q
   ·rename_i hl
    refine ⟨hl, ?_⟩
    cases e2 : ZA st dc de (List.replicate nv .emp ++ capS cap (frz is G)) ts with
    | stuck => rw [e2] at q; exact q.elim
    | exc c => rw [e2] at q; exact ⟨fun z => (by cases z), fun c' z H' s => by cases z; exact q H' P1 (g.trans (.same s)), fun all z => by cases z⟩
    | ok all =>
     rw [e2, Res.bind_ok] at q
     refine ⟨fun z => (by cases z), fun c z => (by cases z), fun all' z p vs H' s hp hl r => ?_⟩
     cases z
     split at q
     ·rename_i hlt
      have hlt' : i < (frz is G).length := by rw [<- h1.len, h.len]; exact hlt
      obtain ⟨h2, g2⟩ := h1.own' hlt' s hp hl r
      exact q _ H' _ (g.trans g2) h2
     ·exact q.elim
   ·exact q.elim
end
end Fx
namespace Fx
open PySem PySem.Spec PyProof.Rows L2
def cf (k : Option NameKind) : Bool := k == some .cell || k == some .free
theorem Uh {k : Option NameKind} (h : cf k = true) : k = some .cell \/ k = some .free := by
 unfold cf at h
 rw [Bool.or_eq_true] at h
 rcases h with h | h
 ·exact .inl (by simpa using h)
 ·exact .inr (by simpa using h)
def capChk (scope : Scope) (env : Env) (N0 N : List Str) (nv : Nat) (cap : List Nat) : Bool :=
 (List.range cap.length).all fun i => match (cap[i]? : Option Nat), (N[nv + i]? : Option Str) with
  | some j, some x => N0[j]? == some x && cf ((relabel scope env).names.lookup x) && cf (env.kindOf x)
  | _, _ => true
def U9 (scope : Scope) (env : Env) (N0 N : List Str) (nv : Nat) (cap : List Nat) : Bool :=
 (scope.names.all fun y => y.2 != .cell) && (scope.kind == .function) && (scope.names.all fun y => y.2 != .local || scope.names.lookup y.1 == some .local)
  && (scope.names.all fun y => y.2 != .free || cf (env.kindOf y.1)) && (N.length == nv + cap.length) && capChk scope env N0 N nv cap
theorem XI {X : Cx} {scope : Scope} {N : List Str} {nv : Nat} {cap : List Nat} (h : U9 scope X.env X.N N nv cap = true) : CompOk X scope N nv cap := by
 unfold U9 at h
 simp only [Bool.and_eq_true, List.all_eq_true] at h
 obtain ⟨⟨⟨⟨⟨h1, h2⟩, h3⟩, h4⟩, h5⟩, h6⟩ := h
 refine ⟨fun y hy => by simpa using h1 y hy, by simpa using h2, fun y hy e => ?_, fun y hy e => ?_, by simpa using h5, fun i j x hc hx => ?_⟩
 ·have := h3 y hy
  rw [e] at this
  simpa using this
 ·have := h4 y hy
  rw [e] at this
  exact Uh (by simpa using this)
 ·unfold capChk at h6
  rw [List.all_eq_true] at h6
  have hi : i < cap.length := (List.getElem?_eq_some_iff.mp hc).1
  have := h6 i (List.mem_range.mpr hi)
  rw [hc, hx] at this
  simp only [Bool.and_eq_true] at this
  exact ⟨by simpa using this.1.1, Uh this.1.2, Uh this.2⟩
section
variable {X : Cx} {W : Str -> Hp -> Prop} {fl : Bool} {a b c e : Expr} {es : List Expr} {da db : DE} {pos : Pos}
theorem Uv {K : PySem.W.Frag} {H1 : Hp} {P : Pv} {p : Addr} {ts : List PyData} {vs : List V} {o : HO} (hp : H1 p = none) (rs : Rls K H1 P ts vs) : Rls K (upd H1 p o) (P.fbd p) ts vs :=
 Rls.go (.same (ZG hp)) ts vs (Rls.go (Tr.tofbd hp) ts vs rs)
theorem Vi {p : Pos} (hg : Gl X "list") (hm : X.mg "list" = none) (ha : EV X W a da) (hs : starEach [a] X.env = (false, eval a X.env) :: starEach [] X.env := by rfl) : OV X W (.Call (.Name "list" p) [a] [] pos) (WR da) :=
 Zq (XX W6 hg hm (show bootBuiltins "list" = some (.type "list") by decide +kernel) (Ye ha Y2 hs) (he := hs)) fun σ H Q ⟨G, P, h, q⟩ => by
  unfold WR at q
  obtain ⟨q1, q2, q3⟩ := bindEO q
  refine ZH h q1 q2 fun tx x H1 ex s1 h1 rx => ?_
  have q4 := q3 tx ex
  cases tx <;> try exact q4.elim
  ·obtain ⟨l, vs, rfl, sl, rs⟩ := ZJ.mp rx
   exact ⟨l, vs, rfl, .inl sl.sq, fun p hp => q4 p vs _ (s1.trans (ZG hp)) (s1.free hp) Zr (Uv hp rs)⟩
  ·obtain ⟨l, vs, rfl, sl, rs⟩ := ZO.mp rx
   exact ⟨l, vs, rfl, .inr sl.sq, fun p hp => q4 p vs _ (s1.trans (ZG hp)) (s1.free hp) Zr (Uv hp rs)⟩
theorem VM {p : Pos} (hg : Gl X "tuple") (hm : X.mg "tuple" = none) (ha : EV X W a da) (hs : starEach [a] X.env = (false, eval a X.env) :: starEach [] X.env := by rfl) : EV X W (.Call (.Name "tuple" p) [a] [] pos) (d1 UV da) :=
 Zq (XX WG hg hm (show bootBuiltins "tuple" = some (.type "tuple") by decide +kernel) (Ye ha Y2 hs) (he := hs)) fun σ H Q h => WK (fun H P σ G x tx Q h rx q => by
  cases tx <;> try exact q.elim
  ·obtain ⟨l, vs, rfl, sl, rs⟩ := ZJ.mp rx
   exact ⟨l, vs, rfl, .inl ⟨sl.sq, fun p hp => q _ _ (ZG hp) (ZO.mpr ⟨p, vs, rfl, .off Zr (h.off_new hp), Rls.go (.same (ZG hp)) _ vs rs⟩)⟩⟩
  ·obtain ⟨l, vs, rfl, sl, rs⟩ := ZO.mp rx
   exact ⟨l, vs, rfl, .inr ⟨sl.sq, q _ H (Same.refl H) rx⟩⟩) h
theorem WP {K : PySem.W.Frag} {H : Hp} {P : Pv} : ∀ {bs : List Bool} {vs : List V}, Rls K H P (bs.map .bool) vs -> vs = bs.map V.bl
 | [], vs, h => Z5.mp h
 | b :: bs, vs, h => by
  obtain ⟨v, r, rfl, a, q⟩ := Zz.mp h
  rw [Yd.mp a, WP q]
  rfl
theorem call_all (hc : X.calm = true) : Wm X (.builtin "all") (fun xs H Q => ∃ (p : Addr) (bs : List Bool), xs = [.ref p] /\ SqL X.K H p (bs.map V.bl) /\ Q (.bl (bs.all id)) H) := by
 intro pins s σ H xs us Q I r h
 obtain ⟨l, bs, rfl, hq, q⟩ := h
 obtain ⟨u, rfl, ru⟩ := Vd r
 cases ru
 obtain ⟨its, rv, pl, hz⟩ := I.list hq
 have hl : s.heap.IsList l its.toArray := pl.isList
 have hlt : l < s.heap.objs.size := by obtain ⟨_, e, _⟩ := hl; exact Heap.lt_size e
 have hb : ∀ (i : Nat) (v : Value), its[i]? = some v -> ∃ b, bs[i]? = some b /\ v = .bool b := fun i v e => by
  have hi : i < its.length := (List.getElem?_eq_some_iff.mp e).1
  have hl2 := rv.length
  rw [List.length_map] at hl2
  have hi2 : i < bs.length := by omega
  obtain ⟨u, hu, ru⟩ := rv.get (i := i) (x := V.bl bs[i]) (by simp [hi2])
  rw [e] at hu; cases hu
  cases ru
  exact ⟨bs[i], by simp [hi2], rfl⟩
 refine call_all_walk (wpAny_pyIter_list hl ?_)
 refine ⟨s.heap.objs.size, [s.heap.objs.size, l], [s.heap.objs.size], its.toArray.size, _, _, fun i => (bs[i]?).getD true, rfl, Walks.list (A := X.A.in1) (I.ok.hd hc) _ l (Nat.ne_of_lt hlt) its.toArray,
  ⟨⟨_, Heap.get?_push_size _ rfl, rfl, rfl⟩, hl.push _⟩, fun i v s' Q' E' hP hQ => ?_, fun h' tk hk => ?_⟩
 ·obtain ⟨b, e, rfl⟩ := hb i v (by simpa using hP)
  simp only [e, Option.getD_some] at hQ
  exact wpAny_truthy_bool hQ
 ·have e : ((List.range its.toArray.size).all fun i => (bs[i]?).getD true) = bs.all id := by
   have hl2 := rv.length
   rw [List.length_map] at hl2
   rw [List.size_toArray, <- hl2, Bool.eq_iff_iff, List.all_eq_true, List.all_eq_true]
   constructor
   ·intro h b hb
    obtain ⟨i, hi, e⟩ := List.getElem_of_mem hb
    have := h i (List.mem_range.mpr hi)
    simp only [List.getElem?_eq_getElem hi, Option.getD_some, e] at this
    exact this
   ·intro h i hi
    have hi' := List.mem_range.mp hi
    simp only [List.getElem?_eq_getElem hi', Option.getD_some]
    exact h _ (List.getElem_mem hi')
  rw [e]
  have kk : ∀ b x, s.heap.get? b = some x -> h'.get? b = some x := fun b x e => hk b x (fun hm => by rw [List.mem_singleton.mp hm] at e; exact Nat.lt_irrefl _ (Heap.lt_size e)) (Heap.get?_push_of_some _ e)
  exact ⟨.bl _, H, I.kept (t' := tk) kk, rfl, q⟩
theorem ev_all {p : Pos} (hg : Gl X "all") (hm : X.mg "all" = none) (ha : EV X W a da) (hc : X.calm = true := by rfl) (hs : starEach [a] X.env = (false, eval a X.env) :: starEach [] X.env := by rfl) : EV X W (.Call (.Name "all" p) [a] [] pos) (d1 fAll da) :=
 Zq (Y9 (call_all hc) hg hm (show bootBuiltins "all" = some (.builtin "all") by decide +kernel) (Ye ha Y2 hs) (he := hs)) fun σ H Q h => WK (fun H P σ G x tx Q h rx q => by
  cases tx <;> try exact q.elim
  rename_i xs
  obtain ⟨l, vs, rfl, sl, rs⟩ := ZJ.mp rx
  simp only [fAll] at q
  cases e : allT xs with
  | stuck => rw [e] at q; exact q.elim
  | exc c => exact absurd e (VV xs c)
  | ok k =>
   rw [e, Res.bind_ok] at q
   obtain ⟨bs, rfl, rfl⟩ := Qh e
   have := WP rs
   subst this
   exact ⟨l, bs, rfl, sl.sq, Yl q⟩) h
theorem isOwn_ok {G : List Sl} {i : Nat} (h : WY G i = true) : ∃ xs, G[i]? = some (.own xs) := by
 unfold WY at h
 split at h
 ·rename_i xs e; exact ⟨xs, e⟩
 ·cases h
theorem Vw {i : Nat} {x : Str} {is : List Nat} {dk : DE} {k : Expr} {p1 p2 : Pos} (hi : X.N[i]? = some x) (hk : EV X W k dk) (he : EV X W e da) (hv : Vis X.env.scope x := by first | exact Or.inl rfl | exact Or.inr (Or.inl rfl) | exact Or.inr (Or.inr rfl)) (hd : (x == ("__debug__" : Str)) = false := by decide)
  (hcd : (x == ("__classdict__" : Str)) = false := by decide)
  (ha : ∀ v, assign (.Subscript (.Name x p1) k p2) X.env v = (do
   let ov <- holding [v] (eval (.Name x p1) X.env)
   let iv <- holding [v, ov] (eval k X.env)
   standAt p2
   holding [v, ov, iv] (setItem ov iv v)
   release [v, ov, iv] []) := by intro _; rfl)
  (hs : swapsWithSole [.Subscript (.Name x p1) k p2] e pos.line X.env = pure false := by rfl) (hw : swappedStores [.Subscript (.Name x p1) k p2] e X.env = pure none := by rfl)
  (h1 : (assignEach [.Subscript (.Name x p1) k p2] X.env).map (·.2) = [assign (.Subscript (.Name x p1) k p2) X.env] := by rfl) :
  SV X W fl (.Assign [.Subscript (.Name x p1) k p2] e pos) (X8 i is dk da) :=
 YM (ps_asg he (pg_sub (VC hi hv hd hcd) hk set_list ha) hs hw h1) fun D σ H ⟨G, P, h, q⟩ => by
  unfold X8 at q
  obtain ⟨P1, h1, g⟩ := h.frz is
  obtain ⟨q1, q2, q3⟩ := W9 q
  refine ZH h1 (fun c e H' s => q1 c e H' P1 (g.trans (.same s))) q2 fun t v H1 et s1 h2 r => ?_
  obtain ⟨P2, h3, r3, g3⟩ := after h h1 g s1 r
  have q4 := q3 t et
  generalize (if Yk t = true then G else frz is G) = G' at h3 q4
  split at q4
  ·rename_i ho
   obtain ⟨xs0, e0⟩ := isOwn_ok ho
   obtain ⟨p, vs, ev, ep, eh, rs⟩ := h3.sl i _ e0
   refine ⟨.ref p, getD_some ev, ?_⟩
   obtain ⟨q5, q6, q7⟩ := W9 q4
   refine ZH h2 (fun c e H' s => q5 c e H' P1 ((g.trans (.same s1)).trans (.same s))) q6 fun kt kv H2 ek s2 h4 rk => ?_
   have q8 := q7 kt ek
   unfold Xq at q8
   rw [e0] at q8
   cases kt <;> try exact q8.elim
   rename_i j
   simp only at q8
   cases em : ixP xs0.length j with
   | none => rw [em] at q8; exact q8.elim
   | some m =>
    rw [em] at q8
    have h5 := h3.same s2
    have hl := rs.length
    obtain ⟨p', vs', ev', ep', eh', rs'⟩ := h5.sl i _ e0
    rw [ev] at ev'
    cases ev'
    have hl' := rs'.length
    obtain ⟨h6, g6⟩ := h5.upOwn e0 ep' (rs'.set m (Rl.go (.same s2) t v r3))
    refine ⟨p, vs', j, m, rfl, ZB.mp rk, eh', by rw [<- hl', <- ixP_eq]; exact em, q8 σ _ P2 ((g3.trans (.same s2)).trans g6) h6⟩
  ·exact q4.elim
end
end Fx
namespace Fx
open PySem PySem.Spec PyProof.Rows L2
theorem ex_of_ok {P : Program} {w : World} {H : Hp} {h : Heap} {a : Addr} {o : HO} (x : Xe P w H h a o) : ∃ ob, h.get? a = some ob := by
 cases o with
 | lst xs => obtain ⟨_, _, _, _, e⟩ := x; exact ⟨_, e⟩
 | tup xs => obtain ⟨_, _, _, o, e, _⟩ := x; exact ⟨_, e⟩
 | dK kvs => obtain ⟨_, _, _, _, o, _, _, e, _⟩ := x; exact ⟨_, e⟩
 | dT kvs => obtain ⟨_, _, _, _, o, _, _, e, _⟩ := x; exact ⟨_, e⟩
 | set S n => obtain ⟨o, _, _, _, e, _⟩ := x; exact ⟨_, e⟩
 | ins C dx fs => obtain ⟨_, _, _, e, _⟩ := x; exact ⟨_, e⟩
 | own y => obtain ⟨_, e⟩ := x; exact ⟨_, e⟩
 | xd fs => obtain ⟨_, ⟨_, _, _, e, _⟩, _⟩ := x; exact ⟨_, e⟩
 | rng lo hi => obtain ⟨_, _, _, e⟩ := x; exact ⟨_, e⟩
 | frz ob u => obtain ⟨e, _⟩ := x; exact ⟨_, e⟩
 | tbl ps => exact ⟨_, show h.get? a = some _ from x⟩
 | met f y => exact ⟨_, show h.get? a = some _ from x⟩
 | ext φ => obtain ⟨_, ⟨_, e⟩, _⟩ := x; exact ⟨_, e⟩
structure Alien (X : Cx) (pins : List (Addr × Obj)) (H : Hp) (b : Addr) : Prop where
 young : X.s₀.heap.get? b = none
 loc : b ≠ X.env.locals
 cell : ∀ x c, X.env.cells.lookup x = some c -> c ≠ b
 pin : ∀ p ∈ X.pn ++ pins, p.1 ≠ b
 trk : H b = none
 frm : b ∉ frs X.stack
def ExO (h : Heap) (a : Addr) (cv : Value) : Option (Addr × Value) -> Prop
 | none => ∃ oe vs a0, h.get? a = some oe /\ oe.cls = cv /\ oe.data = .fields vs /\ vs[0]? = some a0 /\ vs[1]? = some .none
 | some (T, f) => ∃ oe vs a0 oT ts, h.get? a = some oe /\ oe.cls = cv /\ oe.data = .fields vs /\ vs[0]? = some a0 /\ vs[1]? = some (.ref T) /\ T ≠ a /\ h.get? T = some oT /\ oT.data = .fields ts /\ ts[3]? = some f
structure Exc (X : Cx) (pins : List (Addr × Obj)) (σ : L2.St) (H : Hp) (a : Addr) (cv : Value) (n : Option (Addr × Value)) (s : Shared) : Prop where
 inv : Inv X pins σ H s
 al : Alien X pins H a
 ob : ExO s.heap a cv n
 nt : ∀ T f, n = some (T, f) -> Alien X pins H T
section
variable {X : Cx} {pins : List (Addr × Obj)} {σ : L2.St} {H H' : Hp} {s : Shared} {h' : Heap} {a T : Addr} {cv fl : Value} {n : Option (Addr × Value)}
theorem Inv.stepA {t' : Nat} {ch : List Addr} (I : Inv X pins σ H s)
  (hch : ∀ b ∈ ch, X.s₀.heap.get? b = none /\ b ≠ X.env.locals /\ (∀ x c, X.env.cells.lookup x = some c -> c ≠ b) /\ ∀ p ∈ X.pn ++ pins, p.1 ≠ b)
  (keep : ∀ b o, b ≠ X.env.locals -> b ∉ X.fs -> b ∉ ch -> s.heap.get? b = some o -> H b = none -> h'.get? b = some o)
  (slot : ∀ b o, b ≠ X.env.locals -> b ∈ X.fs -> b ∉ ch -> s.heap.get? b = some o -> H b = none -> ∃ sl, h'.get? b = some { o with slots := sl })
  (there : ∀ b o, b ∉ ch -> s.heap.get? b = some o -> ∃ o', h'.get? b = some o')
  (ns : ∀ m, s.heap.Ns X.env.locals m -> h'.Ns X.env.locals m) (hok : HOk X.prog X.w H h') :
  Inv X pins σ H { s with heap := h', toks := t' } := by
 have neL : ∀ b o, X.s₀.heap.get? b = some o -> b ≠ X.env.locals := fun b o e => Nat.ne_of_lt (Nat.lt_of_lt_of_le (Heap.lt_size e) I.ok.above)
 have neC : ∀ b o, X.s₀.heap.get? b = some o -> b ∉ X.ex -> b ∉ ch := fun b o e hx hb => by
  have z := (hch b hb).1
  rw [e] at z; cases z
 have cellK : ∀ x c, X.env.cells.lookup x = some c -> ∀ v, s.heap.IsCell c v -> h'.IsCell c v := fun x c e v ⟨o, ho, hd⟩ => by
  have nch : c ∉ ch := fun z => (hch c z).2.2.1 x c e rfl
  by_cases hc : c ∈ X.fs
  ·obtain ⟨sl, q⟩ := slot c o (I.cne x c e) hc nch ho (I.freeC x c e)
   exact ⟨_, q, hd⟩
  ·exact ⟨o, keep c o (I.cne x c e) hc nch ho (I.freeC x c e), hd⟩
 refine ⟨I.ok, I.os, I.bare, ⟨fun b o e n hb hx => ?_, fun b o e n hb hx => ?_, fun b o e n hx => I.base.free b o e n hx, fun b o e hx => ?_, fun b xs e => I.base.tups b xs e, fun b o xs e => I.base.frzs b o xs e, fun b ps e => I.base.tbls b ps e⟩, ?_, fun x c e => ?_, I.free, fun x c e => I.freeC x c e, fun p hp => ?_, hok, I.len⟩
 ·exact keep b o (neL b o e) hb (neC b o e hx) (I.base.keep b o e n hb hx) (I.base.free b o e n hx)
 ·obtain ⟨sl, e1⟩ := I.base.slot b o e n hb hx
  obtain ⟨sl', e2⟩ := slot b _ (neL b o e) hb (neC b o e hx) e1 (I.base.free b o e n hx)
  exact ⟨sl', e2⟩
 ·obtain ⟨o', e1⟩ := I.base.there b o e hx
  exact there b o' (neC b o e hx) e1
 ·obtain ⟨m, hn, hl⟩ := I.loc
  refine ⟨m, ns m hn, fun i x v e1 e2 e3 => ?_⟩
  obtain ⟨u, r, l⟩ := hl i x v e1 e2 e3
  refine ⟨u, r, ?_⟩
  rcases l with l | ⟨k, c, e, z⟩
  ·exact .inl l
  ·exact .inr ⟨k, c, e, cellK x c e _ z⟩
 ·obtain ⟨v, z⟩ := I.cell x c e
  exact ⟨v, cellK x c e v z⟩
 ·obtain ⟨e, n, ne, nf, d⟩ := I.pin p hp
  have nch : p.1 ∉ ch := fun z => (hch p.1 z).2.2.2 p hp rfl
  exact ⟨keep p.1 p.2 ne nf nch e n, n, ne, nf, d⟩
def WH (X : Cx) : Prop := ∀ b ∈ X.ex, ∃ o, (b, o) ∈ X.pn
theorem Y6 (hp : WH X) (I : Inv X pins σ H s) (e : s.heap.get? a = none) : Alien X pins H a := by
 refine ⟨?_, fun z => ?_, fun x c ec z => ?_, fun p hp z => ?_, ?_, fun z => ?_⟩
 ·by_cases hx : a ∈ X.ex
  ·obtain ⟨o, ho⟩ := hp a hx
   have := (I.pin (a, o) (List.mem_append_left _ ho)).1
   rw [e] at this; cases this
  ·cases q : X.s₀.heap.get? a with
   | none => rfl
   | some o => obtain ⟨o', e'⟩ := I.base.there a o q hx; rw [e] at e'; cases e'
 ·obtain ⟨m, ⟨o, _, _, ho, _⟩, _⟩ := I.loc
  rw [<- z, e] at ho; cases ho
 ·obtain ⟨v, o, ho, _⟩ := I.cell x c ec
  rw [z, e] at ho; cases ho
 ·obtain ⟨q, _⟩ := I.pin p hp
  rw [z, e] at q; cases q
 ·cases q : H a with
  | none => rfl
  | some o => 
   obtain ⟨o', e'⟩ : ∃ o', s.heap.get? a = some o' := ex_of_ok (I.hok a o q)
   rw [e] at e'; cases e'
 ·obtain ⟨_, o, ho, _⟩ := I.stack.mem z
  rw [e] at ho; cases ho
def hid (X : Cx) (a : Addr) : Option (Addr × Value) -> List Addr
 | none => a :: frs X.stack
 | some (T, _) => a :: T :: frs X.stack
theorem hid_frs (X : Cx) (a : Addr) (n : Option (Addr × Value)) : ∀ b ∈ frs X.stack, b ∈ hid X a n := by
 intro b hb
 cases n with
 | none => exact List.mem_cons_of_mem _ hb
 | some p => obtain ⟨T, f⟩ := p; exact List.mem_cons_of_mem _ (List.mem_cons_of_mem _ hb)
theorem W0 {X : Cx} {a b : Addr} {n : Option (Addr × Value)} (h : b ∈ hid X a n) : b = a \/ (∃ T f, n = some (T, f) /\ b = T) \/ b ∈ frs X.stack := by
 cases n with
 | none =>
  rcases List.mem_cons.mp h with h | h
  ·exact .inl h
  ·exact .inr (.inr h)
 | some p =>
  obtain ⟨T, f⟩ := p
  rcases List.mem_cons.mp h with h | h
  ·exact .inl h
  ·rcases List.mem_cons.mp h with h | h
   ·exact .inr (.inl ⟨T, f, rfl, h⟩)
   ·exact .inr (.inr h)
theorem Exc.moved {t' : Nat} (E : Exc X pins σ H a cv n s) (k1 : (PySem.W.hideAll s.heap (hid X a n)).StaysIn h') (k2 : s.heap.UpToSlots h') : Inv X pins σ H { s with heap := h', toks := t' } := by
 have I := E.inv
 have al : ∀ b, b ∈ hid X a n -> b ∉ frs X.stack -> Alien X pins H b := fun b hb hf => by
  rcases W0 hb with z | ⟨T, f, z1, z2⟩ | z
  ·rw [z]; exact E.al
  ·rw [z2]; exact E.nt T f z1
  ·exact absurd z hf
 have up : ∀ b, b ∈ frs X.stack -> ∀ o, s.heap.get? b = some o -> ∃ sl, h'.get? b = some { o with slots := sl } := fun b hb o ho => by
  obtain ⟨_, o', ho', hd⟩ := I.stack.mem hb
  rw [ho] at ho'; cases ho'
  exact k2 b o ho hd
 have fsub : ∀ b ∈ X.fs, b ∈ frs X.stack := fun b hb => by
  rcases I.ok.stk with z | ⟨z, _⟩
  ·rw [z]; exact hb
  ·rw [z]
   unfold frs at *
   simp only [List.filterMap_cons]
   split
   ·exact hb
   ·exact List.mem_cons_of_mem _ hb
 have stay : ∀ b o, b ∉ hid X a n -> s.heap.get? b = some o -> h'.get? b = some o := fun b o hb e => k1 b o (PySem.W.hideAll_get _ e hb)
 have trk : ∀ b, H b ≠ none -> b ∉ hid X a n := fun b hb hm => by
  by_cases hf : b ∈ frs X.stack
  ·exact hb (I.stkFree b hf)
  ·exact hb (al b hm hf).trk
 refine Inv.stepA (t' := t') (ch := (hid X a n).filter fun b => decide (b ∉ frs X.stack)) I (fun b hb => ?_) (fun b o hL hf hc e hn => ?_) (fun b o hL hf hc e hn => up b (fsub b hf) o e) (fun b o hc e => ?_) (fun m hm => k2.ns hm) fun b o e => ?_
 ·have hb' := List.mem_filter.mp hb
  have A := al b hb'.1 (of_decide_eq_true hb'.2)
  exact ⟨A.young, A.loc, A.cell, A.pin⟩
 ·by_cases hm : b ∈ hid X a n
  ·by_cases hs : b ∈ frs X.stack
   ·rcases List.mem_cons.mp (I.stkSub b hs) with z | z
    ·exact absurd z hL
    ·exact absurd z hf
   ·exact absurd (List.mem_filter.mpr ⟨hm, decide_eq_true hs⟩) hc
  ·exact stay b o hm e
 ·by_cases hs : b ∈ frs X.stack
  ·obtain ⟨sl, q⟩ := up b hs o e; exact ⟨_, q⟩
  ·by_cases hm : b ∈ hid X a n
   ·exact absurd (List.mem_filter.mpr ⟨hm, decide_eq_true hs⟩) hc
   ·exact ⟨o, stay b o hm e⟩
 ·refine (I.hok b o e).stay (fun c v hc q => stay c v ?_ q) (fun _ q => q) fun _ _ q => q
  rcases hc with z | z
  ·rw [z]; exact trk b (by rw [e]; simp)
  ·exact trk c (by rw [z]; simp)
theorem Exc.noted {t' : Nat} {a0 : Value} (hp : WH X) (E : Exc X pins σ H a cv n s) (k1 : (PySem.W.hideAll s.heap (hid X a n)).StaysIn h') (k2 : s.heap.UpToSlots h') (ht : h'.TracedAtW (PySem.W.hideAll s.heap (hid X a n)) a cv a0 fl) :
  ∃ T', Exc X pins σ H a cv (some (T', fl)) { s with heap := h', toks := t' } := by
 obtain ⟨oe, vs, T', oT, ts, he, ⟨hc, h0⟩, hd, h1, hn, hne, hT, hdT, h3⟩ := ht
 have I := E.inv
 refine ⟨T', E.moved k1 k2, E.al, ⟨oe, vs, a0, oT, ts, he, hc, hd, h0, h1, hne, hT, hdT, h3⟩, fun T f q => ?_⟩
 cases q
 cases q : s.heap.get? T' with
 | none => exact Y6 hp I q
 | some o =>
  have hm : T' ∈ hid X a n := Classical.byContradiction fun z => by
   rw [PySem.W.hideAll_get _ q z] at hn; cases hn
  rcases W0 hm with z | ⟨T, f, z1, z2⟩ | z
  ·exact absurd z hne
  ·rw [z2]; exact E.nt T f z1
  ·obtain ⟨_, o', ho', hd'⟩ := I.stack.mem z
   obtain ⟨sl, hs⟩ := k2 T' o' ho' hd'
   rw [hT] at hs
   cases hs
   exact absurd hdT (hd' ts)
theorem fun_hid {as : List Addr} {base h : Heap} : ∀ {l : List Env}, h.FunFrames base l -> (∀ b ∈ frs l, b ∈ as) -> h.FunFrames (PySem.W.hideAll h as) l := fun {l} hf hs =>
 PySem.W.funFrames_hide hf fun env he b hb => hs b (List.mem_filterMap.mpr ⟨env, he, hb⟩)
theorem Uc {h : Heap} {as : List Addr} : (PySem.W.hideAll h as).StaysIn h := fun b o e => PySem.W.of_hideAll as e
theorem V8 {v : Value} {e1 e2 : Env} (h : e1.frame = e2.frame) : noteFrame v e1 = noteFrame v e2 := by
 unfold noteFrame PySem.frameOf
 rw [h]
structure InFrame (X : Cx) (L : Addr) : Prop where
 pin : WH X
 ex : ∃ e0 rest, X.stack = e0 :: rest /\ e0.frame = some L
 env : X.env.frame = some L
theorem Exc.setT {f v : Value} {Q : Unit -> Shared -> Prop} {Ee : Value -> Shared -> Prop} (E : Exc X pins σ H a cv (some (T, f)) s) (q : ∀ s', Exc X pins σ H a cv (some (T, v)) s' -> Q () s') : wpAny (model X.prog X.w) X.A (setField (.ref T) 3 v) Q Ee s := by
 obtain ⟨oe, vs, a0, oT, ts, he, hc, hd, h0, h1, hne, hT, hdT, h3⟩ := E.ob
 have hz : 3 < ts.size := (Array.getElem?_eq_some_iff.mp h3).1
 refine wpAny_setField hT hdT hz (q _ ?_)
 have other : ∀ b, b ≠ T -> (s.heap.update T (Obj.mapFields (·.setIfInBounds 3 v))).get? b = s.heap.get? b := fun b hb => Heap.get?_update_other _ _ (Ne.symm hb)
 have self := Heap.get?_update_self (Obj.mapFields (·.setIfInBounds 3 v)) hT (Obj.isFreed_of_fields (Obj.data_mapFields hdT _))
 have A := E.nt T f rfl
 refine ⟨E.moved (t' := s.toks) (fun b o e => ?_) (fun b o e hn => ?_), E.al, ⟨oe, vs, a0, _, _, (other a (Ne.symm hne)).trans he, hc, hd, h0, h1, hne, self, Obj.data_mapFields hdT _, by simp [hz]⟩, fun T' f' z => by cases z; exact A⟩
 ·have hb : b ≠ T := fun z => by
   have hh : (PySem.W.hideAll s.heap (hid X a (some (T, f)))).get? T = none := PySem.W.hideAll_none (hid X a (some (T, f))) (List.mem_cons_of_mem _ List.mem_cons_self)
   rw [z, hh] at e; cases e
  exact (other b hb).trans (PySem.W.of_hideAll _ e)
 ·have hb : b ≠ T := fun z => by rw [z, hT] at e; cases e; exact hn ts hdT
  exact ⟨o.slots, (other b hb).trans e⟩
theorem ExO.first {h : Heap} {a : Addr} {cv : Value} {n : Option (Addr × Value)} (x : ExO h a cv n) : ∃ oe vs a0 b1, h.get? a = some oe /\ oe.cls = cv /\ oe.data = .fields vs /\ vs[0]? = some a0 /\ vs[1]? = some b1 := by
 cases n with
 | none => obtain ⟨oe, vs, a0, h1, h2, h3, h4, h5⟩ := x; exact ⟨oe, vs, a0, _, h1, h2, h3, h4, h5⟩
 | some p => obtain ⟨T, f⟩ := p; obtain ⟨oe, vs, a0, _, _, h1, h2, h3, h4, h5, _⟩ := x; exact ⟨oe, vs, a0, _, h1, h2, h3, h4, h5⟩
theorem Exc.entry (hp : WH X) {L : Addr} {e0 : Env} {rest : List Env} {head : Value} {hadNext : Bool} {Q : Unit -> Shared -> Prop} {Ee : Value -> Shared -> Prop} (hst : X.stack = e0 :: rest) (hf : e0.frame = some L) (E : Exc X pins σ H a cv n s)
  (q : ∀ T' s', Exc X pins σ H a cv (some (T', rawInt L)) s' -> Q () s') :
  wpAny (model X.prog X.w) X.A (do let fr <- PySem.frameOf e0; let pl <- entryPlaceOf L hadNext; let b <- EntryCells.newEntry head fr .none (rawInt L) .none pl; setField (.ref a) 1 b) Q Ee s := by
 have hfr : X.A.frames = some (e0 :: rest) := by rw [<- hst]; exact E.inv.ok.frames
 have fun0 : s.heap.FunFrames (PySem.W.hideAll s.heap (hid X a n)) (e0 :: rest) := by rw [<- hst]; exact fun_hid E.inv.stack (hid_frs X a n)
 have hen : (PySem.W.hideAll s.heap (hid X a n)).get? a = none := PySem.W.hideAll_none _ (by cases n with | none => exact List.mem_cons_self | some p => exact List.mem_cons_self)
 obtain ⟨oe, vs, a0, b1, he, hc, hd, h0, h1⟩ := E.ob.first
 refine wpAny_entryW hfr fun0 hf he Uc hen hd (Array.getElem?_eq_some_iff.mp h1).1 h0 fun h' x => ?_
 rw [hc] at x
 obtain ⟨k1, k2, k3, k4⟩ := x
 obtain ⟨T', x⟩ := E.noted (t' := s.toks) hp k1 k4 k3
 exact q T' _ x
theorem Exc.note {L : Addr} {Q : Unit -> Shared -> Prop} {Ee : Value -> Shared -> Prop} (F : InFrame X L) (E : Exc X pins σ H a cv n s)
  (q : ∀ T' s', Exc X pins σ H a cv (some (T', rawInt L)) s' -> Q () s') : wpAny (model X.prog X.w) X.A (noteFrame (.ref a) X.env) Q Ee s := by
 obtain ⟨e0, rest, hst, hf⟩ := F.ex
 rw [V8 (e1 := X.env) (e2 := e0) (by rw [F.env, hf])]
 unfold noteFrame
 simp only [hf]
 cases n with
 | none =>
  obtain ⟨oe, vs, a0, he, hc, hd, h0, h1⟩ := E.ob
  refine wpAny_bind (wpAny_field he hd h1 ?_)
  rw [if_neg (by decide)]
  exact E.entry F.pin hst hf q
 | some p =>
  obtain ⟨T, f⟩ := p
  obtain ⟨oe, vs, a0, oT, ts, he, hc, hd, h0, h1, hne, hT, hdT, h3⟩ := id E.ob
  refine wpAny_bind (wpAny_field he hd h1 ?_)
  rw [if_pos (show (Value.ref T != Value.none) = true from by simp)]
  refine wpAny_bind (wpAny_field hT hdT h3 ?_)
  by_cases hfl : (f == rawInt L) = true
  ·rw [if_pos hfl]
   refine wpAny_pure (q T s ?_)
   have : f = rawInt L := by simpa using hfl
   rw [<- this]
   exact E
  ·rw [if_neg hfl]
   exact wpAny_bind (E.setT fun s1 E1 => E1.entry F.pin hst hf q)
theorem Exc.flight {f : Value} {fr : Option Addr} {Q : Unit -> Shared -> Prop} {Ee : Value -> Shared -> Prop} (E : Exc X pins σ H a cv (some (T, f)) s)
  (q : ∀ s', Exc X pins σ H a cv (some (T, fr.elim .none fun f => rawInt f)) s' -> Q () s') : wpAny (model X.prog X.w) X.A (setFlight (.ref a) fr) Q Ee s := by
 obtain ⟨oe, vs, a0, oT, ts, he, hc, hd, h0, h1, hne, hT, hdT, h3⟩ := id E.ob
 unfold setFlight
 refine wpAny_bind (wpAny_field he hd h1 ?_)
 rw [if_pos (show (Value.ref T != Value.none) = true from by simp)]
 exact E.setT q
theorem Exc.leave {L : Addr} {Q : Unit -> Shared -> Prop} {Ee : Value -> Shared -> Prop} (F : InFrame X L) (E : Exc X pins σ H a cv n s)
  (q : ∀ T' s', Exc X pins σ H a cv (some (T', .none)) s' -> Q () s') : wpAny (model X.prog X.w) X.A (leaving X.env (.ref a)) Q Ee s := by
 unfold leaving
 exact wpAny_bind (E.note F fun T' s1 E1 => E1.flight (fr := none) fun s2 E2 => q T' s2 E2)
theorem Exc.pass {α : Type} {w : String} {f : Value} {env : Env} {Q : α -> Shared -> Prop} {Ee : Value -> Shared -> Prop} (E : Exc X pins σ H a cv (some (T, f)) s)
  (q : ∀ fl s', Exc X pins σ H a cv (some (T, fl)) s' -> Ee (.ref a) s') : wpAny (model X.prog X.w) X.A (PySem.passOn w (.ref a) env : Sem α) Q Ee s := by
 obtain ⟨oe, vs, a0, oT, ts, he, hc, hd, h0, h1, hne, hT, hdT, h3⟩ := id E.ob
 unfold PySem.passOn
 refine wpAny_bind (wpAny_field he hd h1 ?_)
 rw [if_neg (show ¬ ((Value.ref T == Value.none) = true) from Bool.false_ne_true)]
 exact wpAny_bind (E.flight fun s1 E1 => wpAny_throw (q _ _ E1))
end
end Fx
namespace Fx
open PySem PySem.Spec PyProof.Rows L2
def XE (X : Cx) (cl : Str -> Value) (W : Str -> Hp -> Prop) : Value -> Shared -> Prop := fun e s => ∃ a c pins σ H n, e = .ref a /\ Exc X pins σ H a (cl c) n s /\ W c H
abbrev Cx.xw (X : Cx) (cl : Str -> Value) (W : Str -> Hp -> Prop) : Cx := X.wish (XE X cl W)
def CX1 (P : Program) (w : World) : CXT := fun outer H s E e s' => ∃ a cv T H', e = .ref a /\ s'.os = s.os /\ AllBare s'.gens /\ Un (frs outer) [] H H' s.heap s'.heap /\ HOk P w H' s'.heap /\ H' a = none /\ H' T = none /\
 s.heap.get? a = none /\ s.heap.get? T = none /\ ExO s'.heap a cv (some (T, .none)) /\ E cv none H'
section
variable {X : Cx} {cl : Str -> Value} {W : Str -> Hp -> Prop} {pins : List (Addr × Obj)} {σ : L2.St} {H H' : Hp} {s s' : Shared} {a : Addr}
theorem Alien.to (A : Alien X pins H a) (e : H' a = none) : Alien X pins H' a := ⟨A.young, A.loc, A.cell, A.pin, e, A.frm⟩
theorem X3 (hp : WH X) {E : XK} {e : Value} (I : Inv X pins σ H s) (h : CX1 X.prog X.w X.stack H s E e s') : ∃ a cv T H', e = .ref a /\ Exc X pins σ H' a cv (some (T, .none)) s' /\ E cv none H' := by
 obtain ⟨a, cv, T, H', rfl, os, bare, un, hok, ha, hT, na, nT, ob, hE⟩ := h
 obtain ⟨hh, g, d, t, os'⟩ := s'
 obtain rfl : os' = s.os := os
 refine ⟨a, cv, T, H', rfl, ⟨I.call (h' := hh) (g' := g) (d' := d) (t' := t) (ch := []) un hok bare (fun b z => absurd z (by simp)), (Y6 hp I na).to ha, ob, fun T' f z => ?_⟩, hE⟩
 cases z
 exact (Y6 hp I nT).to hT
theorem pass_xw (hp : WH X) : VW (CX1 X.prog X.w) (Cx.xw X cl W) (EX (some cl) W) := fun pins σ H s e s' I h => by
 obtain ⟨a, cv, T, H', rfl, x, c, f, e1, rfl, hw⟩ := X3 hp I.unwish h
 cases e1
 exact ⟨a, c, pins, σ, H', _, rfl, x, hw⟩
theorem V5 {L : Addr} (F : InFrame X L) : PassesOwn (model X.prog X.w) X.A X.env (XE X cl W) := fun e s h => by
 obtain ⟨a, c, pins, σ, H, n, rfl, x, hw⟩ := h
 refine x.note F fun T s1 x1 => ?_
 obtain ⟨oe, vs, a0, oT, ts, he, hc, hd, h0, h1, _⟩ := id x1.ob
 show wpAny _ _ _ _ _ _
 refine wpAny_bind (wpAny_field he hd h1 ?_)
 rw [if_neg (show ¬ ((Value.ref T == Value.none) = true) from Bool.false_ne_true)]
 refine x1.flight (fr := X.env.frame) fun s2 x2 => ?_
 rw [F.env] at x2
 exact ⟨a, c, pins, σ, H, _, rfl, x2, hw⟩
end
structure Clx (P : Program) (w : World) (K : PySem.W.Frag) (mg : Str -> Option Value) (base : Heap) (cl : Str -> Value) (k : Nat) (x : Str) (np : Nat) (f : DF) : Prop where
 ex : ∃ (fa : Addr) (fd : FuncData) (ps : List Str), FnOk P w K mg base (CX1 P w) k fa fd ps (spF K (some cl) np f) /\ mg x = some (.ref fa) /\ PySem.W.keepIn K (.ref fa) = true /\ YK K fd ps []
theorem Clx.cal {X : Cx} {cl : Str -> Value} {W : Str -> Hp -> Prop} {k np : Nat} {x : Str} {f : DF} (hp : WH X) (C : Clx X.prog X.w X.K X.mg X.base cl k x np f) : Cal (Cx.xw X cl W) W (some cl) k x np f := by
 obtain ⟨fa, fd, ps, F, hm, hk, hb⟩ := C.ex
 exact ⟨⟨CX1 X.prog X.w, fa, fd, ps, F, hm, hk, hb, pass_xw hp⟩, fun z => by cases z⟩
theorem Clx.mono {P : Program} {w : World} {K : PySem.W.Frag} {mg : Str -> Option Value} {base : Heap} {cl : Str -> Value} {j k np : Nat} {x : Str} {f : DF} (C : Clx P w K mg base cl j x np f) (h : j <= k) : Clx P w K mg base cl k x np f := by
 obtain ⟨fa, fd, ps, F, r⟩ := C.ex
 exact ⟨⟨fa, fd, ps, F.mono h, r⟩⟩
theorem pss_xe {X : Cx} {E' : Value -> Shared -> Prop} {st : List Stmt} {t : TS} (h : PSs (X.wish E') st t) (hx : ∀ e s, E' e s -> X.xe e s) : PSs X st t := fun pins s σ H D I hw =>
 wpAny_mono (h pins s σ H D (I.wish _) hw) (fun _ _ q => q.unwish) hx
section
variable {P : Program} {w : World} {K : PySem.W.Frag} {mg : Str -> Option Value} {base : Heap}
theorem Z1 {CX : CXT} {N : List Str} {qual : Str} {scope : Scope} {f : Addr} {cdv : Value} {A : Around} {outer : List Env} {s : Shared} {H : Hp} {E : XK} : InFrame (cxOf CX P w K mg base N qual scope f cdv A outer s H E) s.heap.objs.size :=
 ⟨fun b z => absurd (show b ∈ ([] : List Addr) from z) (by simp), ⟨_, _, rfl, rfl⟩, rfl⟩
theorem fn_okX {cl : Str -> Value} {x qual : Str} {st : Stmt} {f : Addr} {fd : FuncData} {N ps : List Str} {k np : Nat} {d : DS} (F : Fun K x qual st f fd) (S : FnScope N ps (Zi st)) (hnp : ps.length = np)
  (hb : ∀ (cdv : Value) (A : Around) (outer : List Env) (s : Shared) (H : Hp) (E : XK) (W : Str -> Hp -> Prop), Room k (A.deeper (envOfC qual (Zi st) s.heap.objs.size f cdv)) ->
   SVs (Cx.xw (cxOf (CX1 P w) P w K mg base N qual (Zi st) f cdv A outer s H E) cl W) W false (ZE st) d) : FnOk P w K mg base (CX1 P w) (k + 1) f fd ps (spF K (some cl) np (runF N.length np d)) := by
 obtain ⟨oc, od, kV, doc, pm, an, cdv, ct, osl, rfl, lk, hcd⟩ := F.ex
 refine fn_of lk hcd S (fun vs H Q E h => by rw [hnp]; exact h.1) fun A outer s H vs Q E hr h => ⟨_, pss_xe (hb cdv A outer s H E (fun c H' => E (cl c) none H') hr) (fun e s1 hx => ?_), ?_⟩
 ·obtain ⟨a, c, pins, σ, H', n, rfl, x, hw⟩ := hx
  refine x.leave Z1 fun T s2 x2 => ?_
  refine ⟨a, cl c, T, H', rfl, x2.inv.os, x2.inv.bare, x2.inv.base, x2.inv.hok, x2.al.trk, (x2.nt T _ rfl).trk, x2.al.young, (x2.nt T _ rfl).young, x2.ob, hw⟩
 ·obtain ⟨hl, ts, P', rs, ho, hf, q⟩ := h
  have hlt : ts.length = np := by rw [rs.length]; exact hl
  refine ⟨_, P', WZ rs ho hf, ?_⟩
  unfold runF at q
  rw [if_pos hlt] at q
  have en : N.length - np = N.length - ts.length := by rw [hlt]
  rw [en] at q
  have sm : ∀ H' P2, Go H P' H' P2 -> Same H H' := fun H' P2 g => g.all ho
  have bk : ∀ H' P2, Go H P' H' P2 -> Tr H' P2 H' P' := fun H' P2 g b o e _ z => ⟨e, fun i => by rw [ho i]; exact fun z => (by cases z), by rw [<- g.fbe]; exact z.2⟩
  cases e : d (ts.map .val ++ List.replicate (N.length - ts.length) .emp) with
  | stuck => rw [e] at q; exact q.elim
  | exc c => rw [e] at q; exact fun H' P2 g => q none H' (sm H' P2 g)
  | ok o =>
   rw [e, Res.bind_ok] at q
   cases o with
   | nx G => exact fun σ' H' P2 g h' => q .non H' (sm H' P2 g) (Y1.mpr rfl)
   | rt t => exact fun v H' P2 g r _ => q v H' (sm H' P2 g) (Rl.go (bk H' P2 g) t v r)
   | bk G => exact q.elim
   | ct G => exact q.elim
theorem Qa {cl : Str -> Value} {x : Str} {st : Stmt} {fa : Addr} {fd : FuncData} {N ps : List Str} {k n np : Nat} {d : DS} (F : Fun K x x st fa fd) (hm : mg x = some (.ref fa)) (b : YK K fd ps []) (S : FnScope N ps (Zi st)) (hnp : ps.length = np) (hN : N.length = n)
  (hb : ∀ (cdv : Value) (A : Around) (outer : List Env) (s : Shared) (H : Hp) (E : XK) (W : Str -> Hp -> Prop), Room k (A.deeper (envOfC x (Zi st) s.heap.objs.size fa cdv)) ->
   SVs (Cx.xw (cxOf (CX1 P w) P w K mg base N x (Zi st) fa cdv A outer s H E) cl W) W false (ZE st) d) : Clx P w K mg base cl (k + 1) x np (runF n np d) := by
 subst hN
 exact ⟨⟨fa, fd, ps, fn_okX F S hnp hb, hm, F.kp, b⟩⟩
end
structure XCls (K : PySem.W.Frag) (mg : Str -> Option Value) (x : Str) (C : Addr) : Prop where
 bd : mg x = some (.ref C)
 ex : PySem.W.excIn K C [.type "ValueError", .type "Exception", .type "BaseException", .type "object"] "ValueError.__new__" = true
theorem XCls.obj {K : PySem.W.Frag} {mg : Str -> Option Value} {x : Str} {C : Addr} {h : Heap} (c : XCls K mg x C) (k : K.In h) : OwnCls x C [.type "ValueError", .type "Exception", .type "BaseException", .type "object"] "ValueError.__new__" mg h := by
 refine ⟨c.bd, ?_⟩
 have q := c.ex
 unfold PySem.W.excIn at q
 split at q
 ·rename_i d0 cdat slts look
  split at q
  ·rename_i C1 tl a0 a1 a2 a3 nid a5 em es
   simp only [Bool.and_eq_true, beq_iff_eq, Bool.not_eq_true'] at q
   obtain ⟨⟨⟨⟨⟨q1, q2⟩, q3⟩, q4⟩, q5⟩, q6⟩ := q
   obtain ⟨c1, c2, c3, c4, c5, c6, c7, c8, c9, c10, c11⟩ := cdat
   dsimp only at em q3 q5 q6
   subst em q3 q1 q2
   obtain ⟨lst⟩ := slts
   dsimp only at es
   subst es
   exact ⟨tl, c4, c1, c5, c2, c6, c7, c8, c9, c10, d0, a0, a1, a2, a3, a5, _, k _ _ look, .of_isNs (PySem.W.isNs_of_in k q5), PySem.W.nsMap_none_of_in k q5 q6, PySem.W.tail_of_in k q4⟩
  ·cases q
 ·cases q
section
variable {X : Cx} {cl : Str -> Value} {W : Str -> Hp -> Prop} {e : Expr} {es : List Expr} {d : DA} {pos : Pos}
theorem XS {x : Str} {C : Addr} {np cpos : Pos} (hp : WH X) (c : XCls X.K X.mg x C) (hcl : cl x = .ref C) (ha : AV (Cx.xw X cl W) W (e :: es) d) (hg : Gl X x) (hc : X.calm = true := by rfl) (hdb : (x == ("__debug__" : Str)) = false := by decide)
  (he : starEach (e :: es) X.env = (false, eval e X.env) :: starEach es X.env := by rfl) (hpl : (backTo cpos (starEach es X.env)).any (·.1) = false := by rfl)
  (hln : ∀ G ts, d G = .ok ts -> ts.length <= 4 := by intro G ts h; have := WW G ts h; omega) :
  SV (Cx.xw X cl W) W fl (.Raise (some (.Call (.Name x np) (e :: es) [] cpos)) none pos) (Ws x d) := by
 intro pins s σ H D I ⟨G, P, h, q⟩
 unfold Ws at q
 obtain ⟨h', g⟩ := h.frzA
 obtain ⟨q1, q2, q3⟩ := Qe q
 obtain ⟨tl, N, nm, qn, bs, hd, sn, sb, ab, co, dd, k0, k1, k2, k3, k5, mN, hC, hN, hni, tail⟩ := (c.obj I.mod.kin).obj
 refine wpAny_Raise_call_subT (C := C) (nm := nm) (q := qn) (N := N) (bs := bs) (bm := tl) (hdct := hd) (sn := sn) (sub := sb) (ab := ab) (col := co) (dd := dd) (k0 := k0) (k1 := k1) (k2 := k2) (k3 := k3) (k5 := k5)
  PySem.F.excBase_ValueError (mN := mN) (tail.hasType PySem.F.excBase_ValueError.hasBase) (I.ok.hd hc) (by rw [show starEach (e :: es) (Cx.xw X cl W).env = _ from he]; show (false || (backTo cpos (starEach es X.env)).any (·.1)) = false; rw [hpl]; rfl) hni (XD I hg c.bd ⟨rfl, ?_⟩ hdb)
 have hA := ha cpos pins s σ H (fun vs H2 => vs.length <= 4 /\ W x H2) I ⟨frzA G, P.bare, h', ?_⟩
 ·rw [show starEach (e :: es) (Cx.xw X cl W).env = _ from he] at hA ⊢
  refine Calls.evalArgs_plain (wpAny_mono hA (fun us s2 ⟨vs, H2, I2, r2, hl, hw⟩ => ?_) fun _ _ z => z)
  have hl2 := r2.length
  refine ⟨rfl, by show us.length <= sizeLine; rw [sizeLine_eq]; omega, I2.bk _ _ hC, hN.keeps I2.bk, tail.keeps I2.bk, fun h2 a mk => ?_⟩
  obtain ⟨t, ho, _, _⟩ := mk.there
  refine ⟨a, x, pins, σ, H2, none, rfl, ⟨I2.unwish.kept (t' := s2.toks) mk.keeps, Y6 hp I2.unwish mk.new, ⟨_, _, .ref t, ho, hcl.symm, rfl, rfl, rfl⟩, fun T f z => by cases z⟩, hw⟩
 ·cases ed : d (frzA G) with
  | stuck => exact absurd ed q2
  | exc c' => exact fun H2 sm => q1 c' ed H2 P.bare (g.trans (.same sm))
  | ok ts => exact fun vs H2 sm rs => ⟨by rw [<- rs.length]; exact hln _ _ ed, q3 ts ed H2 P.bare (g.trans (.same sm))⟩
end
end Fx
namespace Fx
open PySem PySem.Spec PyProof.Rows L2
section
variable {X : Cx} {cl : Str -> Value} {W : Str -> Hp -> Prop} {L : Addr} {scope : Scope} {N : List Str}
theorem frame_c {s₀ : Shared} {H₀ : Hp} {ex : List Addr} {pn : List (Addr × Obj)} (F : InFrame X L) (hp : ∀ b ∈ ex, ∃ o, (b, o) ∈ pn) : InFrame (cxC X scope N s₀ H₀ ex pn) L := ⟨hp, F.ex, F.env⟩
theorem InFrame.wish {E : Value -> Shared -> Prop} (F : InFrame X L) : InFrame (X.wish E) L := ⟨F.pin, F.ex, F.env⟩
theorem compx_xw (F : InFrame X L) : Vt (Cx.xw X cl W) scope N (fun Y => XE Y cl W) := by
 intro pins σ H3 s3 fp pn e s' I3 hf pnn hx
 obtain ⟨a, c, pins', σ', H', n, rfl, x, hw⟩ := hx
 refine Exc.note (X := cxC (Cx.xw X cl W) scope N s3 H3 fp pn) (L := L) (frame_c (InFrame.wish F) pnn) x fun T s1 x1 => ?_
 obtain ⟨m, hm, _⟩ := x1.inv.loc
 refine ⟨m, hm, fun h' hsb cenv hc => ?_⟩
 have J : Inv (cxC (Cx.xw X cl W) scope N s3 H3 fp) (pn ++ pins') σ' H' s1 := inv_np (x1.inv.wish fun _ _ => False)
 have I0 : Inv X pins σ H' s1 := (CompOk.stop I3 (fun b hb => (hf b hb).1) J).unwish
 have al : ∀ b, Alien (cxC (Cx.xw X cl W) scope N s3 H3 fp pn) pins' H' b -> Alien X pins H' b := fun b A => (Y6 F.pin I3.unwish A.young).to A.trk
 have fo : FpOk X pins H' s3.heap.objs.size := I3.unwish.fpOk (Nat.le_refl _) x1.inv.free
 have ne : ∀ b, Alien (cxC (Cx.xw X cl W) scope N s3 H3 fp pn) pins' H' b -> h'.get? b = s1.heap.get? b := fun b A => hsb.2 b A.loc
 have aT := x1.nt T _ rfl
 have x2 : Exc X pins σ H' a (cl c) (some (T, rawInt L)) { s1 with heap := h' } := by
  refine ⟨atC I0 fo hsb, al a x1.al, ?_, fun T' f z => by cases z; exact al T aT⟩
  obtain ⟨oe, vs, a0, oT, ts, he, hc, hd, h0, h1, hne, hT, hdT, h3⟩ := x1.ob
  exact ⟨oe, vs, a0, oT, ts, (ne a x1.al).trans he, hc, hd, h0, h1, hne, (ne T aT).trans hT, hdT, h3⟩
 exact x2.pass fun fl s2 x3 => ⟨a, c, pins, σ, H', _, rfl, x3, hw⟩
end
end Fx
namespace Fx
open PySem PySem.Spec PyProof.Rows L2
def cxH (X : Cx) (a : Addr) : Cx := { X with A := X.A.mark (some (.ref a)), calm := false, xe := fun _ _ => False }
section
variable {X : Cx} {pins : List (Addr × Obj)} {σ : L2.St} {H H' : Hp} {s s' : Shared} {a : Addr} {cv : Value} {n : Option (Addr × Value)} {cl : Str -> Value} {W : Str -> Hp -> Prop} {L : Addr}
theorem inv_h (I : Inv X pins σ H s) : Inv (cxH X a) pins σ H s :=
 ⟨⟨I.ok.mod, I.ok.kind, I.ok.glob, I.ok.blt, I.ok.above, I.ok.inj, I.ok.has, I.ok.cab, fun z => (by cases z), I.ok.frames, I.ok.stk, I.ok.exf, I.ok.bs, I.ok.bsz, I.ok.noex, I.ok.exfs, I.ok.funs, I.ok.frf⟩, I.os, I.bare, I.base, I.loc, I.cell, I.free, I.freeC, I.pin, I.hok, I.len⟩
theorem Wp (ok : X.Ok) (I : Inv (cxH X a) pins σ H s) : Inv X pins σ H s := ⟨ok, I.os, I.bare, I.base, I.loc, I.cell, I.free, I.freeC, I.pin, I.hok, I.len⟩
theorem exc_h (x : Exc X pins σ H a cv n s) : Exc (cxH X a) pins σ H a cv n s := ⟨inv_h x.inv, ⟨x.al.young, x.al.loc, x.al.cell, x.al.pin, x.al.trk, x.al.frm⟩, x.ob, fun T f z => let A := x.nt T f z; ⟨A.young, A.loc, A.cell, A.pin, A.trk, A.frm⟩⟩
theorem sp_oh {D : Ends} {f : Flow} (ok : X.Ok) (h : SP (cxH X a) pins D f s') : SP X pins D f s' := by
 cases f with
 | next => obtain ⟨σ', H', I, q⟩ := h; exact ⟨σ', H', Wp ok I, q⟩
 | brk => obtain ⟨σ', H', I, q⟩ := h; exact ⟨σ', H', Wp ok I, q⟩
 | cont => obtain ⟨σ', H', I, q⟩ := h; exact ⟨σ', H', Wp ok I, q⟩
 | ret u => obtain ⟨v, σ', H', I, r, q⟩ := h; exact ⟨v, σ', H', Wp ok I, r, q⟩
theorem W1 {K : PySem.W.Frag} {M : Model} {A : Around} {E : Value -> Shared -> Prop} {mg : Str -> Option Value} {x : Str} {C C' : Addr} {ob : Obj} {Q : Bool -> Shared -> Prop} (k : K.In s.heap) (c : XCls K mg x C') (ho : s.heap.get? a = some ob) (hc : ob.cls = .ref C)
  (hsub : PySem.W.subIn K (.ref C) (.ref C') = some true) (q : Q true s) : wpAny M A (excMatches (.ref a) (.ref C')) Q E s := by
 obtain ⟨tl, N, nm, qn, bs, hd, sn, sb, ab, co, dd, k0, k1, k2, k3, k5, mN, hC, hN, hni, tail⟩ := (c.obj k).obj
 have hB : (Value.ref C' :: tl).contains (.type "BaseException") = true := by rw [List.contains_cons, tail.hasType PySem.F.excBase_ValueError.hasBase, Bool.or_true]
 have nt := tc_notTuple
 obtain ⟨hp, g, d, tk, os⟩ := s
 unfold excMatches
 repeat (first | (with_reducible refine wpAny_loadPart_at ho ?_; rw [hc]) | with_reducible refine wpAny_loadPart_at hC ?_ | (with_reducible refine wpAny_isSubtype_exc hC ?_; rw [hB]) | (refine (PySem.W.looks_subIn k hsub).at ?_) | wp_step)
 exact q
theorem isi_exc {x : Addr} {A : Around} {Ee : Value -> Shared -> Prop} {Q : Value -> Shared -> Prop} (I : Inv X pins σ H s) (h : H x = some (XO X.K x)) (q : Q (.bool true) s) : wpAny (model X.prog X.w) A (call (.builtin "isinstance") [.ref x, .type "ValueError"]) Q Ee s := by
 obtain ⟨⟨ob, C, ho, hc, hs⟩, _, _⟩ := I.hok x _ h
 have lt : PySem.W.Looks (model X.prog X.w) s.heap (typeOf (.ref x)) (.ref C) := hc ▸ (PySem.W.Looks.ld ho).andThen .now
 have li : PySem.W.Looks (model X.prog X.w) s.heap (isInstance (.ref x) (.type "ValueError")) true := lt.andThen (PySem.W.looks_subIn I.kIn hs)
 refine call_isinstance_of ?_ (by intro e; cases e)
 unfold Builtin.«isinstance.nested»
 refine wpAny_bind (lt.at ?_)
 rw [if_neg (show ¬ ((Value.ref C == Value.type "ValueError") = true) from Bool.false_ne_true)]
 refine wpAny_bind (wpAny_of_eq (a := Value.type "type") (PySem.W.kitMeta_of (by decide +kernel)) ?_)
 rw [if_pos (by decide)]
 k_delta "plainIsInstance"
 refine wpAny_bind (wpAny_bind (wpAny_of_eq (a := true) rfl ?_))
 simp only [Bool.not_true, Bool.false_eq_true, if_false]
 refine wpAny_bind (li.at ?_)
 simp only [if_true]
 exact wpAny_pure (wpAny_pure q)
theorem call_isx : Wm X (.builtin "isinstance") (fun xs H Q => ∃ x, xs = [.ref x, .ty "ValueError"] /\ H x = some (XO X.K x) /\ Q (.bl true) H) := by
 intro pins s σ H xs us Q I r h
 obtain ⟨x, rfl, hx, q⟩ := h
 obtain ⟨u, w', rfl, ru, rw'⟩ := vals2 r
 cases ru
 cases rw'
 exact isi_exc I hx ⟨.bl true, H, I, rfl, q⟩
theorem ev_isx {ex : Expr} {da : DE} {p p2 pos : Pos} (hg : Gl X "isinstance") (hm : X.mg "isinstance" = none) (hg2 : Gl X "ValueError") (hm2 : X.mg "ValueError" = none) (ha : EV X W ex da)
  (hs : starEach [ex, .Name "ValueError" p2] X.env = (false, eval ex X.env) :: starEach [.Name "ValueError" p2] X.env := by rfl) (hs2 : starEach [.Name "ValueError" p2] X.env = (false, eval (.Name "ValueError" p2) X.env) :: starEach [] X.env := by rfl)
  (hpl : (backTo pos (starEach [.Name "ValueError" p2] X.env)).any (·.1) = false := by rfl) :
  EV X W (.Call (.Name "isinstance" p) [ex, .Name "ValueError" p2] [] pos) (d1 fIsX da) :=
 Zq (Y9 call_isx hg hm (show bootBuiltins "isinstance" = some (.builtin "isinstance") by decide +kernel) (Ye ha (Ye (UE (v := .ty "ValueError") hg2 hm2 (show bootBuiltins "ValueError" = some (.type "ValueError") by decide +kernel) rfl) Y2 hs2) hs) (he := hs) (hpl := hpl)) fun σ H Q ⟨G, P, h, q⟩ => by
  unfold d1 at q
  obtain ⟨q1, q2, q3⟩ := Wk q
  refine ZH h q1 q2 fun tx x H1 ex s1 h1 rx => ?_
  have q4 := Yu.up (q3 tx ex) s1
  cases tx <;> try exact q4.elim
  rename_i ys
  cases ys with
  | cons y ys => exact q4.elim
  | nil =>
   obtain ⟨y, rfl, hy, _⟩ := rl_exc.mp rx
   exact ⟨y, rfl, hy, Yl q4⟩
theorem ev_intc {ex : Expr} {da : DE} {p pos : Pos} (hg : Gl X "int") (hm : X.mg "int" = none) (ha : EV X W ex da) (hs : starEach [ex] X.env = (false, eval ex X.env) :: starEach [] X.env := by rfl) : EV X W (.Call (.Name "int" p) [ex] [] pos) (d1 fInt da) :=
 Zq (XX Qd hg hm (show bootBuiltins "int" = some (.type "int") by decide +kernel) (Ye ha Y2 hs) (he := hs)) fun σ H Q h => WK (fun H P σ G x tx Q h rx q => by
  cases tx <;> try exact q.elim
  ·exact .inr ⟨_, by rw [Yd.mp rx], ZP q⟩
  ·exact .inl ⟨_, by rw [ZB.mp rx], ZP q⟩) h
theorem VU {ex : Expr} {es : List Expr} {k np : Nat} {x : Str} {f : DF} {d : DA} {p pos : Pos} (C : Clx X.prog X.w X.K X.mg X.base cl k x np f) (hr : Room k X.A) (hp : WH X) (hg : Gl X x) (ha : AV X.nox (fun _ _ => False) (ex :: es) d)
  (hL : ∀ G ts, d G = .ok ts -> ts.length = np) (hdb : (x == ("__debug__" : Str)) = false) (he : starEach (ex :: es) X.env = (false, eval ex X.env) :: starEach es X.env) (hpl : (backTo pos (starEach es X.env)).any (·.1) = false)
  {G : List Sl} {P : Pv} (I : Inv X pins σ H s) (h : Hol X.K H P σ G) {Q : Value -> Shared -> Prop} {Ee : Value -> Shared -> Prop} {ts : List PyData} (hd : d G = .ok ts) (hns : f ts ≠ .stuck)
  (ok : ∀ t, f ts = .ok t -> ∀ v u H' s', Inv X pins σ H' s' -> Same H H' -> Rl X.K H' P t v -> RelV v u -> Q u s')
  (xc : ∀ c, f ts = .exc c -> ∀ a T H' s', Exc X pins σ H' a (cl c) (some (T, .none)) s' -> Same H H' -> Ee (.ref a) s') :
  wpAny (model X.prog X.w) X.A (eval (.Call (.Name x p) (ex :: es) [] pos) X.env) Q Ee s := by
 obtain ⟨fa, fd, ps, F, hm, hk, hb⟩ := C.ex
 refine wpAny_Call_Name_kw (XD I hg hm ?_ hdb)
 refine PySem.W.callWith_K (h₀ := X.base) I.ok.mod.kin hk (wpAny_mono (ha pos pins s σ H (fun vs H1 => Same H H1 /\ Rls X.K H1 P ts vs) (I.wish _) ⟨G, P, h, by rw [hd]; exact fun vs H' s r => ⟨s, r⟩⟩) (fun us s1 hA => ?_) fun _ _ z => False.elim z) he hpl
 obtain ⟨vs, H1, I1, r, sm, rs⟩ := hA
 have J := I1.unwish
 refine ⟨J.kIn, ?_⟩
 have h1 := h.same sm
 have el : vs ++ [] = vs := List.append_nil vs
 have eu : us ++ [] = us := List.append_nil us
 have gg : Tr H1 P H1 ⟨fun _ => none, fun a => ¬ Off P a⟩ := fun a o e1 _ o1 => ⟨e1, fun _ z => (by cases z), fun z => z o1⟩
 have back : ∀ H2, Tr H2 ⟨fun _ => none, fun a => ¬ Off P a⟩ H2 P := fun H2 a o e1 _ o1 => ⟨e1, Classical.byContradiction fun z => o1.2 z⟩
 have sp : spF X.K (some cl) np f (vs ++ []) H1 (fun v H' => ∃ t, f ts = .ok t /\ Same H1 H' /\ Rl X.K H' P t v) (fun cv _ H' => ∃ c, f ts = .exc c /\ cv = cl c /\ Same H1 H') := by
  rw [el]
  refine ⟨by rw [<- rs.length]; exact hL G ts hd, ts, ⟨fun _ => none, fun a => ¬ Off P a⟩, Rls.go gg ts vs rs, fun _ => rfl, ⟨fun a z hn => z (h1.off_new hn), h1.tab⟩, ?_⟩
  cases e : f ts with
  | ok t => exact fun v H' s r => ⟨t, rfl, s, Rl.go (back H') t v r⟩
  | exc c => exact fun dx H' s => ⟨c, rfl, rfl, s⟩
  | stuck => exact hns e
 have hl : (us ++ []).length = ps.length := by rw [eu, <- r.length, <- el]; exact F.len _ _ _ _ sp
 refine wpAny_call (codeAny_mono (F.run X.A X.stack s1 H1 ⟨us, []⟩ (us ++ []) (vs ++ []) _ _ hr J.env0 (hb s1 us J.kIn hl) (by rw [el, eu]; exact r) sp) fun r' s' hq => ?_)
 cases r' with
 | error e =>
  have hq' : CX1 X.prog X.w X.stack H1 s1 (fun cv _ H' => ∃ c, f ts = .exc c /\ cv = cl c /\ Same H1 H') e s' := hq
  obtain ⟨a, cv, T, H', rfl, x, c, ec, rfl, s2⟩ := X3 hp J hq'
  exact xc c ec a T H' s' x (sm.trans s2)
 | ok fl =>
  cases fl with
  | ret u =>
   obtain ⟨v, H', I', rv, t, et, s2, rl⟩ := J.after hq
   exact ok t et v u H' s' I' (sm.trans s2) rl rv
  | next => exact False.elim hq
  | brk => exact False.elim hq
  | cont => exact False.elim hq
def Wc (X : Cx) (cl : Str -> Value) (sub : Str -> Bool) (C' : Addr) : Prop := ∀ c, sub c = true -> ∃ C, cl c = .ref C /\ PySem.W.subIn X.K (.ref C) (.ref C') = some true
theorem handled0 {Cn : Str} {C' : Addr} {sub : Str -> Bool} {c : Str} {dh : DS} {b₀ : Stmt} {suite : List Stmt} {np hpos : Pos} {D : Ends} {G : List Sl} {P : Pv} (F : InFrame X L) (hcn : XCls X.K X.mg Cn C') (hgn : Gl X Cn) (hdb : (Cn == ("__debug__" : Str)) = false) (hsub : Wc X cl sub C') (hs : sub c = true)
  (hh : SVs (cxH X a) (fun _ _ => False) fl (b₀ :: suite) dh) {T : Addr} (x : Exc X pins σ H a (cl c) (some (T, .none)) s) (h : Hol X.K H P σ G) (q : Yt X.K (fun _ _ => False) fl H P (dh G) D) :
  wpAny (model X.prog X.w) X.A (noteFrame (.ref a) X.env) (fun _ s₂ => wpAny (model X.prog X.w) X.A (setFlight (.ref a) none) (fun _ s₃ => wpAny (model X.prog X.w) X.A (handleBy (.ref a) X.env [.ExceptHandler (some (.Name Cn np)) none (b₀ :: suite) hpos]) (SP X pins D) X.xe s₃) X.xe s₂) X.xe s := by
 refine x.note F fun T1 s1 x1 => x1.flight (fr := none) fun s2 x2 => ?_
 obtain ⟨C, ec, hC⟩ := hsub c hs
 obtain ⟨oe, vs, a0, b1, ho, hc, _⟩ := x2.ob.first
 refine wpAny_handleBy_cons (codeAny_handlers_test (XD (X := cxH X a) (inv_h x2.inv) hgn hcn.bd ?_ hdb)) (by intro z; cases z)
 refine W1 x2.inv.kIn hcn ho (hc.trans ec) hC ?_
 refine codeAny_handlers_suite (Exc.flight (X := cxH X a) (fr := none) (exc_h x2) fun s3 x3 => ?_)
 refine wpAny_mono (hh pins s3 σ H D x3.inv ⟨G, P, h, q⟩) (fun f s4 h4 => sp_oh x2.inv.ok h4) fun _ _ z => False.elim z
section
variable {Cn : Str} {C' : Addr} {sub : Str -> Bool} {dh : DS} {b₀ : Stmt} {suite : List Stmt} {np hpos : Pos} {ex : Expr} {es : List Expr} {k nps : Nat} {x : Str} {f : DF} {d : DA} {p cpos epos pos : Pos}
theorem ss_try (F : InFrame X L) (C : Clx X.prog X.w X.K X.mg X.base cl k x nps f) (hr : Room k X.A) (hg : Gl X x) (ha : AV X.nox (fun _ _ => False) (ex :: es) d) (hcn : XCls X.K X.mg Cn C') (hgn : Gl X Cn) (hsub : Wc X cl sub C')
  (hh : ∀ a, SVs (cxH X a) (fun _ _ => False) fl (b₀ :: suite) dh) (hL : ∀ G ts, d G = .ok ts -> ts.length = nps := by first | exact WW | exact VG | exact UJ | exact len_c4) (hdb : (x == ("__debug__" : Str)) = false := by decide) (hdn : (Cn == ("__debug__" : Str)) = false := by decide)
  (he : starEach (ex :: es) X.env = (false, eval ex X.env) :: starEach es X.env := by rfl) (hpl : (backTo cpos (starEach es X.env)).any (·.1) = false := by rfl) (hsw : swapsWith (.Call (.Name x p) (ex :: es) [] cpos) none epos.line X.env = pure false := by rfl) :
  SV X W fl (.Try [.Expr (.Call (.Name x p) (ex :: es) [] cpos) epos] [.ExceptHandler (some (.Name Cn np)) none (b₀ :: suite) hpos] [] [] pos) (dTry (XM (Wt f d)) sub dh) := by
 intro pins s σ H D I ⟨G, P, h, q⟩
 obtain ⟨h', g⟩ := h.frzA
 unfold dTry XM Wt at q
 cases ed : noX (d (frzA G)) with
 | exc c => rcases Xt (d (frzA G)) with ⟨t, z⟩ | z <;> (rw [ed] at z; cases z)
 | stuck => rw [ed] at q; exact q.elim
 | ok ts =>
  rw [ed, Res.bind_ok] at q
  have hd : d (frzA G) = .ok ts := VE ed
  refine wpAny_Try_except (wpAny_execs_cons (wpAny_Expr_any (VU C hr F.pin hg ha hL hdb he hpl I h' hd (fun z => ?_) (fun t et v u H' s' I' sm rl rv => ?_) fun c ec a T H' s' xx sm => ?_) I.quiet hsw))
  ·rw [z] at q; exact q.elim
  ·rw [et] at q
   refine wpAny_execs_nil ?_
   exact wpAny_execs_nil ⟨σ, H', I', q σ H' P (.same sm) (h.same sm)⟩
  ·rw [ec] at q
   simp only [Res.bind_exc] at q
   split at q
   ·rename_i hs
    refine handled0 F hcn hgn hdn hsub hs (hh a) xx (h.same sm) ?_
    cases eh : dh G with
    | ok o =>
     rw [eh] at q
     exact Yt.up (W := fun _ _ => False) (r := .ok o) (by cases o <;> exact q) (.same sm)
    | exc c' => rw [eh] at q; exact q.elim
    | stuck => rw [eh] at q; exact q.elim
   ·exact q.elim
end
theorem UP {o : HO} (I : Inv X pins σ H s) (A : Alien X pins H a) (ho : Xe X.prog X.w (upd H a o) s.heap a o) : Inv X pins σ (upd H a o) s := by
 refine ⟨I.ok, I.os, I.bare, ⟨I.base.keep, I.base.slot, fun b u e n hx => ?_, I.base.there, fun b xs e => ?_, fun b u xs e => ?_, fun b ps e => ?_⟩, I.loc, I.cell, ?_, fun x c e => ?_, fun p hp => ?_, fun b u e => ?_, I.len⟩
 ·rw [Zn (fun z => by rw [z, A.young] at e; cases e)]
  exact I.base.free b u e n hx
 ·have q := I.base.tups b xs e
  rw [Zn (Zw q A.trk)]
  exact q
 ·have q := I.base.frzs b u xs e
  rw [Zn (Zw q A.trk)]
  exact q
 ·obtain ⟨m, q⟩ := I.base.tbls b ps e
  exact ⟨m, by rw [Zn (Zw q A.trk)]; exact q⟩
 ·rw [Zn (Ne.symm A.loc)]; exact I.free
 ·rw [Zn (A.cell x c e)]; exact I.freeC x c e
 ·obtain ⟨e, q, r⟩ := I.pin p hp
  exact ⟨e, by rw [Zn (A.pin p hp)]; exact q, r⟩
 ·by_cases hb : b = a
  ·subst hb
   rw [Zr] at e
   cases e
   exact ho
  ·rw [Zn hb] at e
   exact (I.hok b u e).stay (fun _ _ _ q => q) (fun c q => by rw [Zn (Zw q A.trk)]; exact q) fun c ys q => by rw [Zn (Zw q A.trk)]; exact q
theorem Um {M : Model} {A : Around} {Ee : Value -> Shared -> Prop} {i : Nat} {x : Str} {v : V} {Q : Unit -> Shared -> Prop} (I : Inv X pins σ H s) (hN : X.N.Nodup) (hi : X.N[i]? = some x) (hv : σ[i]? = some (some v)) (hx : X.env.kindOf x = some .local)
  (h : ∀ s', Inv X pins (σ.set i none) H s' -> Q () s') : wpAny M A (unbindName X.env x) Q Ee s := by
 obtain ⟨m, hn, hl⟩ := id I.loc
 have hcls : (X.env.scope.kind == .class || (X.env.scope.kind == .module && X.env.locals != X.env.globals)) = false := by rw [I.ok.kind]; rfl
 obtain ⟨u, _, lk⟩ := hl i x v hi hv (.inl hx)
 have hm : m x = some u := by
  rcases lk with ⟨_, e⟩ | ⟨k, _⟩
  ·exact e
  ·rw [hx] at k; rcases k with k | k <;> cases k
 have hiσ : i < σ.length := by rw [I.len]; exact (List.getElem?_eq_some_iff.mp hi).1
 obtain ⟨oL, _, _, hoL, _⟩ := id hn
 have low : ∀ b o, X.s₀.heap.get? b = some o -> b ≠ X.env.locals := fun b o e => Nat.ne_of_lt (Nat.lt_of_lt_of_le (Heap.lt_size e) I.ok.above)
 refine wpAny_unbindName_local hx hn hm hcls fun h' w hn' hs => h _ ⟨I.ok, I.os, I.bare, ⟨fun b o e n hb hx => (hs.2 b (low b o e)).trans (I.base.keep b o e n hb hx), fun b o e n hb hx => ?_, I.base.free, fun b o e hx => ?_, I.base.tups, I.base.frzs, I.base.tbls⟩,
  ⟨_, hn', fun j y v' e1 e2 e3 => ?_⟩, fun y c e => ?_, I.free, I.freeC, fun p hp => ?_, fun b ob e => ?_, by simpa using I.len⟩
 ·obtain ⟨sl, e1⟩ := I.base.slot b o e n hb hx
  exact ⟨sl, (hs.2 b (low b o e)).trans e1⟩
 ·obtain ⟨o', e1⟩ := I.base.there b o e hx
  exact ⟨o', (hs.2 b (low b o e)).trans e1⟩
 ·by_cases hj : j = i
  ·subst hj
   rw [List.getElem?_set_self hiσ] at e2
   cases e2
  ·rw [List.getElem?_set_ne (Ne.symm hj)] at e2
   obtain ⟨u', r', q⟩ := hl j y v' e1 e2 e3
   refine ⟨u', r', ?_⟩
   rcases q with ⟨k, e⟩ | ⟨k, c, e, z⟩
   ·refine .inl ⟨k, ?_⟩
    have : y ≠ x := fun e => hj (WA hN e1 (e ▸ hi))
    simp [this, e]
   ·exact .inr ⟨k, c, e, z.sameBut hs (I.cne y c e)⟩
 ·obtain ⟨w', z⟩ := I.cell y c e
  exact ⟨w', z.sameBut hs (I.cne y c e)⟩
 ·obtain ⟨e, n, ne, nf, d⟩ := I.pin p hp
  exact ⟨(hs.2 p.1 ne).trans e, n, ne, nf, d⟩
 ·refine (I.hok b ob e).stay (fun c w' hc q => (hs.2 c ?_).trans q) (fun _ q => q) fun _ _ q => q
  rintro rfl
  rcases hc with z | z
  ·rw [<- z, I.free] at e; cases e
  ·rw [I.free] at z; cases z
theorem Hol.forget {K : PySem.W.Frag} {H : Hp} {P : Pv} {σ : L2.St} {G : List Sl} (h : Hol K H P σ G) (i : Nat) (x : Option V) : ∃ P', Hol K H P' (σ.set i x) (G.set i .emp) /\ Go H P H P' := by
 refine ⟨P.del i, ⟨fun j s q => ?_, fun a b c h1 h2 => ?_, fun j a z => ?_, h.fbd, fun j a z => ?_, by rw [List.length_set, List.length_set]; exact h.len, h.tab⟩, .del⟩
 ·by_cases e : j = i
  ·subst e
   have hl : j < G.length := by simpa using (List.getElem?_eq_some_iff.mp q).1
   rw [List.getElem?_set_self hl] at q
   cases q
   trivial
  ·rw [List.getElem?_set_ne (Ne.symm e)] at q
   have z := h.sl j s q
   rw [Xl e]
   cases s with
   | emp => trivial
   | val t' => obtain ⟨v', e1, r'⟩ := z; exact ⟨v', e1, Rl.go .del t' v' r'⟩
   | own xs => obtain ⟨p, vs, e1, e2, e3, r'⟩ := z; exact ⟨p, vs, e1, (by show (if j = i then none else P.own j) = _; rw [if_neg e]; exact e2), e3, Rls.go .del xs vs r'⟩
 ·have h1' : (if a = i then none else P.own a) = some c := h1
  have h2' : (if b = i then none else P.own b) = some c := h2
  split at h1'
  ·cases h1'
  ·split at h2'
   ·cases h2'
   ·exact h.inj a b c h1' h2'
 ·have z' : (if j = i then none else P.own j) = some a := z
  split at z'
  ·cases z'
  ·rename_i ne
   obtain ⟨xs, q⟩ := h.only j a z'
   exact ⟨xs, by rw [List.getElem?_set_ne (Ne.symm ne)]; exact q⟩
 ·have z' : (if j = i then none else P.own j) = some a := z
  split at z'
  ·cases z'
  ·exact h.nfb j a z'
def endsA (K : PySem.W.Frag) (H : Hp) (P : Pv) (i : Nat) (D : Ends) : Ends where
 nx := fun σ' H' => ∃ G' P', Go H P H' P' /\ Hol K H' P' σ' G' /\ ∀ σ2 P2, Go H P H' P2 -> Hol K H' P2 σ2 (G'.set i .emp) -> D.nx σ2 H'
 rt := D.rt
theorem Ul {i : Nat} {n : Str} {hpos : Pos} {Q : Unit -> Shared -> Prop} (I : Inv X pins σ H s) (hN : X.N.Nodup) (hi : X.N[i]? = some n) (hn : X.env.kindOf n = some .local) (q : ∀ s', Inv X pins ((σ.set i (some .non)).set i none) H s' -> Q () s') :
  wpAny (model X.prog X.w) X.A (do bindName X.env n .none; unbindBehindTheSuite X.env n hpos) Q X.xe s := by
 refine wpAny_bind (wpAny_bindName (XR I hN hi (.inl hn) (v := .non) rfl (fun s1 I1 => ?_) (.inr hn)))
 unfold unbindBehindTheSuite
 refine wpAny_onRaise (Um I1 hN hi (v := .non) ?_ hn fun s2 I2 => q s2 I2)
 exact List.getElem?_set_self (by rw [I.len]; exact (List.getElem?_eq_some_iff.mp hi).1)
theorem handledA {Cn n : Str} {i : Nat} {C' : Addr} {sub : Str -> Bool} {c : Str} {dh : DS} {b₀ : Stmt} {suite : List Stmt} {np hpos : Pos} {D : Ends} {G : List Sl} {P : Pv} (F : InFrame X L) (hcn : XCls X.K X.mg Cn C') (hgn : Gl X Cn) (hdb : (Cn == ("__debug__" : Str)) = false) (hsub : Wc X cl sub C') (hs : sub c = true)
  (hve : ∀ C, cl c = .ref C -> PySem.W.subIn X.K (.ref C) (.type "ValueError") = some true) (hN : X.N.Nodup) (hi : X.N[i]? = some n) (hn : X.env.kindOf n = some .local)
  (hh : SVs (cxH X a) (fun _ _ => False) fl (b₀ :: suite) dh) {T : Addr} (x : Exc X pins σ H a (cl c) (some (T, .none)) s) (h : Hol X.K H P σ G)
  (q : Yt X.K (fun _ _ => False) fl H P ((noX (dh (G.set i (.val (.dict []))))).bind fun o => match o with
   | .nx G' => .ok (.nx (G'.set i .emp))
   | .rt t => .ok (.rt t)
   | _ => .stuck) D) :
  wpAny (model X.prog X.w) X.A (noteFrame (.ref a) X.env) (fun _ s₂ => wpAny (model X.prog X.w) X.A (setFlight (.ref a) none) (fun _ s₃ => wpAny (model X.prog X.w) X.A (handleBy (.ref a) X.env [.ExceptHandler (some (.Name Cn np)) (some n) (b₀ :: suite) hpos]) (SP X pins D) X.xe s₃) X.xe s₂) X.xe s := by
 refine x.note F fun T1 s1 x1 => x1.flight (fr := none) fun s2 x2 => ?_
 obtain ⟨C, ec, hC⟩ := hsub c hs
 obtain ⟨oe, vs, a0, b1, ho, hc, _⟩ := x2.ob.first
 refine wpAny_handleBy_cons (codeAny_handlers_test (XD (X := cxH X a) (inv_h x2.inv) hgn hcn.bd ?_ hdb)) (by intro z; cases z)
 refine W1 x2.inv.kIn hcn ho (hc.trans ec) hC ?_
 refine codeAny_handlers_suite_as (Exc.flight (X := cxH X a) (fr := none) (exc_h x2) fun s3 x3 => ?_)
 obtain ⟨oe3, vs3, a03, b13, ho3, hc3, _⟩ := x3.ob.first
 have hx0 : H a = none := x3.al.trk
 have I4 : Inv (cxH X a) pins σ (upd H a (XO X.K a)) s3 := by
  refine UP x3.inv x3.al ⟨⟨oe3, C, ho3, hc3.trans ec, hve C ec⟩, ⟨oe3, ho3⟩, ?_⟩
  rintro h1 h2 ⟨ob, C1, e1, e2, e3⟩ k
  exact ⟨ob, C1, k ob e1, e2, e3⟩
 refine XR (X := cxH X a) I4 hN hi (.inl hn) (v := .ref a) rfl (fun s4 I5 => ?_) (.inr hn)
 have h4 : Hol X.K (upd H a (XO X.K a)) (P.del i) (σ.set i (some (.ref a))) (G.set i (.val (.dict []))) := (h.same (ZG hx0)).setVal i (rl_exc.mpr ⟨a, rfl, Zr, h.off_new hx0⟩)
 have g4 : Go H P (upd H a (XO X.K a)) (P.del i) := (Go.same (ZG hx0)).trans .del
 refine wpAny_mono (hh pins s4 _ _ (endsA X.K H P i D) I5 ⟨_, _, h4, ?_⟩) (fun f s5 h5 => ?_) fun _ _ z => False.elim z
 ·cases ed : dh (G.set i (.val (.dict []))) with
  | stuck => rw [ed] at q; exact q.elim
  | exc c => rw [ed] at q; exact q.elim
  | ok o =>
   rw [ed] at q
   cases o with
   | nx G' => exact fun σ' H' P' g' h' => ⟨G', P', g4.trans g', h', fun σ2 P2 g2 h2 => q σ2 H' P2 g2 h2⟩
   | rt t => exact fun v H' P' g' r n => q v H' P' (g4.trans g') r fun z => (n z).back g4
   | bk G' => exact q.elim
   | ct G' => exact q.elim
 ·have ok := x2.inv.ok
  cases f with
  | next =>
   obtain ⟨σ', H', I6, G', P', g', h', q'⟩ := h5
   refine Ul (Wp ok I6) hN hi hn fun s6 I7 => ⟨_, H', I7, ?_⟩
   obtain ⟨P2, h2, g2⟩ := h'.forget i (some .non)
   obtain ⟨P3, h3, g3⟩ := h2.forget i none
   have e3 : (G'.set i Sl.emp).set i Sl.emp = G'.set i Sl.emp := List.set_set ..
   rw [e3] at h3
   exact q' _ P3 (g'.trans (g2.trans g3)) h3
  | ret u =>
   obtain ⟨v, σ', H', I6, rv, q'⟩ := h5
   exact Ul (Wp ok I6) hN hi hn fun s6 I7 => ⟨v, _, H', I7, rv, q'⟩
  | brk => obtain ⟨_, _, _, z⟩ := h5; exact False.elim z
  | cont => obtain ⟨_, _, _, z⟩ := h5; exact False.elim z
section
variable {Cn n : Str} {i : Nat} {C' : Addr} {sub : Str -> Bool} {dh : DS} {b₀ : Stmt} {suite : List Stmt} {np hpos : Pos} {ex : Expr} {es : List Expr} {k nps : Nat} {x : Str} {f : DF} {d : DA} {p cpos epos pos : Pos}
theorem ss_tryA (F : InFrame X L) (C : Clx X.prog X.w X.K X.mg X.base cl k x nps f) (hr : Room k X.A) (hg : Gl X x) (ha : AV X.nox (fun _ _ => False) (ex :: es) d) (hcn : XCls X.K X.mg Cn C') (hgn : Gl X Cn) (hsub : Wc X cl sub C')
  (hve : ∀ c, sub c = true -> ∀ C, cl c = .ref C -> PySem.W.subIn X.K (.ref C) (.type "ValueError") = some true) (hN : X.N.Nodup) (hi : X.N[i]? = some n) (hn : X.env.kindOf n = some .local)
  (hh : ∀ a, SVs (cxH X a) (fun _ _ => False) fl (b₀ :: suite) dh) (hL : ∀ G ts, d G = .ok ts -> ts.length = nps := by first | exact WW | exact VG | exact UJ | exact len_c4) (hdb : (x == ("__debug__" : Str)) = false := by decide) (hdn : (Cn == ("__debug__" : Str)) = false := by decide)
  (he : starEach (ex :: es) X.env = (false, eval ex X.env) :: starEach es X.env := by rfl) (hpl : (backTo cpos (starEach es X.env)).any (·.1) = false := by rfl) (hsw : swapsWith (.Call (.Name x p) (ex :: es) [] cpos) none epos.line X.env = pure false := by rfl) :
  SV X W fl (.Try [.Expr (.Call (.Name x p) (ex :: es) [] cpos) epos] [.ExceptHandler (some (.Name Cn np)) (some n) (b₀ :: suite) hpos] [] [] pos) (dTryA i (XM (Wt f d)) sub dh) := by
 intro pins s σ H D I ⟨G, P, h, q⟩
 obtain ⟨h', g⟩ := h.frzA
 unfold dTryA XM Wt at q
 cases ed : noX (d (frzA G)) with
 | exc c => rcases Xt (d (frzA G)) with ⟨t, z⟩ | z <;> (rw [ed] at z; cases z)
 | stuck => rw [ed] at q; exact q.elim
 | ok ts =>
  rw [ed, Res.bind_ok] at q
  have hd : d (frzA G) = .ok ts := VE ed
  refine wpAny_Try_except (wpAny_execs_cons (wpAny_Expr_any (VU C hr F.pin hg ha hL hdb he hpl I h' hd (fun z => ?_) (fun t et v u H' s' I' sm rl rv => ?_) fun c ec a T H' s' xx sm => ?_) I.quiet hsw))
  ·rw [z] at q; exact q.elim
  ·rw [et] at q
   refine wpAny_execs_nil ?_
   exact wpAny_execs_nil ⟨σ, H', I', q σ H' P (.same sm) (h.same sm)⟩
  ·rw [ec] at q
   simp only [Res.bind_exc] at q
   split at q
   ·rename_i hs
    refine handledA F hcn hgn hdn hsub hs (hve c hs) hN hi hn (hh a) xx (h.same sm) ?_
    have q' := Yt.up q (.same sm)
    revert q'
    cases dh (G.set i (.val (.dict []))) with
    | ok o => cases o <;> exact fun z => z
    | exc c' => exact fun z => z.elim
    | stuck => exact fun z => z.elim
   ·exact q.elim
end
end
end Fx
namespace Fx
open PySem PySem.Spec PyProof.Rows L2
section
variable {X : Cx} {W : Str -> Hp -> Prop} {a b c e : Expr} {es : List Expr} {da db : DE} {pos : Pos}
theorem ev_ixN {i : Nat} {x : Str} {p1 : Pos} (hi : X.N[i]? = some x) (hb : EV X W b db) (hs : Vs b) (hv : Vis X.env.scope x := by first | exact Or.inl rfl | exact Or.inr (Or.inl rfl) | exact Or.inr (Or.inr rfl)) (hd : (x == ("__debug__" : Str)) = false := by decide)
  (hcd : (x == ("__classdict__" : Str)) = false := by decide) : EV X W (.Subscript (.Name x p1) b pos) (dIxN i db) :=
 Zq (pe_ix (UM.or ix_tup) (VC hi hv hd hcd) hb hs) fun σ H Q ⟨G, P, h, q⟩ => by
  unfold dIxN at q
  cases e : G[i]? with
  | none => rw [e] at q; exact q.elim
  | some s =>
   rw [e] at q
   cases s with
   | emp => exact q.elim
   | own xs =>
    obtain ⟨p, vs, ev, ep, eh, rs⟩ := h.sl i _ e
    refine ⟨.ref p, getD_some ev, ?_⟩
    obtain ⟨q1, q2, q3⟩ := Wk q
    refine ZH h q1 q2 fun ty y H1 ey s1 h1 ry => ?_
    have q4 := Yu.up (q3 ty ey) s1
    cases ty <;> try exact q4.elim
    rename_i j
    simp only [fIx] at q4
    cases et : atP xs j with
    | none => rw [et] at q4; exact q4.elim
    | some t =>
     rw [et] at q4
     obtain ⟨v, e1, r⟩ := Vc (Rls.go (.same s1) xs vs rs) et
     exact .inl ⟨p, vs, j, v, rfl, ZB.mp ry, SqL.of (s1.kp _ _ eh Xg), e1, q4 v H1 (Same.refl H1) r⟩
   | val t =>
    obtain ⟨v, ev, rx⟩ := h.sl i _ e
    refine ⟨v, getD_some ev, ?_⟩
    obtain ⟨q1, q2, q3⟩ := Wk q
    refine ZH h q1 q2 fun ty y H1 ey s1 h1 ry => ?_
    have q4 := Yu.up (q3 ty ey) s1
    have rx1 := Rl.go (.same s1) t v rx
    cases t <;> cases ty <;> try exact q4.elim
    ·rename_i xs j
     obtain ⟨l, us, rfl, s2, r2⟩ := ZJ.mp rx1
     simp only [fIx] at q4
     cases et : atP xs j with
     | none => rw [et] at q4; exact q4.elim
     | some t =>
      rw [et] at q4
      obtain ⟨w, e1, r⟩ := Vc r2 et
      exact .inl ⟨l, us, j, w, rfl, ZB.mp ry, s2.sq, e1, q4 w H1 (Same.refl H1) r⟩
    ·rename_i xs j
     obtain ⟨l, us, rfl, s2, r2⟩ := ZO.mp rx1
     simp only [fIx] at q4
     cases et : atP xs j with
     | none => rw [et] at q4; exact q4.elim
     | some t =>
      rw [et] at q4
      obtain ⟨w, e1, r⟩ := Vc r2 et
      exact .inr ⟨l, us, j, w, rfl, ZB.mp ry, s2.sq, e1, q4 w H1 (Same.refl H1) r⟩
theorem ev_lenN {i : Nat} {x : Str} {p p1 : Pos} (hg : Gl X "len") (hm : X.mg "len" = none) (hi : X.N[i]? = some x) (hv : Vis X.env.scope x := by first | exact Or.inl rfl | exact Or.inr (Or.inl rfl) | exact Or.inr (Or.inr rfl)) (hd : (x == ("__debug__" : Str)) = false := by decide)
  (hcd : (x == ("__classdict__" : Str)) = false := by decide) (hs : starEach [.Name x p1] X.env = (false, eval (.Name x p1) X.env) :: starEach [] X.env := by rfl) : EV X W (.Call (.Name "len" p) [.Name x p1] [] pos) (dLenN i) :=
 Zq (Y9 XJ hg hm PySem.boot_len (Ye (VC hi hv hd hcd) Y2 hs) (he := hs)) fun σ H Q ⟨G, P, h, q⟩ => by
  unfold dLenN at q
  cases e : G[i]? with
  | none => rw [e] at q; exact q.elim
  | some s =>
   rw [e] at q
   cases s with
   | emp => exact q.elim
   | own xs =>
    obtain ⟨p, vs, ev, ep, eh, rs⟩ := h.sl i _ e
    refine ⟨.ref p, getD_some ev, p, vs, rfl, .inl (SqL.of eh), ?_⟩
    rw [<- rs.length]; exact ZP q
   | val t =>
    obtain ⟨v, ev, rx⟩ := h.sl i _ e
    refine ⟨v, getD_some ev, ?_⟩
    cases t <;> try exact q.elim
    ·obtain ⟨l, us, rfl, s1, r1⟩ := ZJ.mp rx
     refine ⟨l, us, rfl, .inl s1.sq, ?_⟩
     rw [<- r1.length]; exact ZP q
    ·obtain ⟨l, us, rfl, s1, r1⟩ := ZO.mp rx
     refine ⟨l, us, rfl, .inr s1.sq, ?_⟩
     rw [<- r1.length]; exact ZP q
end
theorem Wv {X : Cx} {cl : Str -> Value} {C' : Addr} : Wc X cl (subs []) C' := fun c h => by simp at h
theorem Wa {X : Cx} {cl : Str -> Value} {C' C : Addr} {x : Str} {l : List Str} (e : cl x = .ref C) (h : PySem.W.subIn X.K (.ref C) (.ref C') = some true) (r : Wc X cl (subs l) C') : Wc X cl (subs (x :: l)) C' := fun c hc => by
 simp only [subs, List.contains_cons, Bool.or_eq_true] at hc
 rcases hc with z | z
 ·have : c = x := by simpa using z
  subst this
  exact ⟨C, e, h⟩
 ·exact r c z
theorem ve_nil {X : Cx} {cl : Str -> Value} : ∀ c, subs [] c = true -> ∀ C, cl c = .ref C -> PySem.W.subIn X.K (.ref C) (.type "ValueError") = some true := fun c h => by simp at h
theorem ve_cons {X : Cx} {cl : Str -> Value} {C : Addr} {x : Str} {l : List Str} (e : cl x = .ref C) (h : PySem.W.subIn X.K (.ref C) (.type "ValueError") = some true) (r : ∀ c, subs l c = true -> ∀ C, cl c = .ref C -> PySem.W.subIn X.K (.ref C) (.type "ValueError") = some true) :
  ∀ c, subs (x :: l) c = true -> ∀ C, cl c = .ref C -> PySem.W.subIn X.K (.ref C) (.type "ValueError") = some true := fun c hc C' ec => by
 simp only [subs, List.contains_cons, Bool.or_eq_true] at hc
 rcases hc with z | z
 ·have : c = x := by simpa using z
  subst this
  rw [e] at ec
  cases ec
  exact h
 ·exact r c z C' ec
end Fx
namespace Fx
open PySem
def dUnp (st : PyData -> List Sl -> Res (List Sl)) (is : List Nat) (e : DE) : DS := fun G => (e (frz is G)).bind fun t => (st t (if Yk t then G else frz is G)).bind fun G' => .ok (.nx G')
@[simp] theorem dUnp_cons (st : PyData -> List Sl -> Res (List Sl)) (i : Nat) (is : List Nat) (e : DE) (G : List Sl) : dUnp st (i :: is) e G = (e (frz (i :: is) G)).bind fun t => (st t (if Yk t then G else frz (i :: is) G)).bind fun G' => .ok (.nx G') := rfl
@[simp] def set2 (i j : Nat) (G : List Sl) : List PyData -> Res Out
 | [x, y] => .ok (.nx ((G.set i (.val x)).set j (.val y)))
 | _ => .stuck
def dPar (i j : Nat) (is : List Nat) (d : DA) : DS := fun G => (d (frz is G)).bind fun ts => set2 i j (if YL ts then G else frz is G) ts
@[simp] theorem dPar_cons (i j k : Nat) (is : List Nat) (d : DA) (G : List Sl) : dPar i j (k :: is) d G = (d (frz (k :: is) G)).bind fun ts => set2 i j (if YL ts then G else frz (k :: is) G) ts := rfl
end Fx
namespace Fx
open PySem
def lkp (f : Str) : List (PyData × PyData) -> Option PyData
 | [] => none
 | (.str n, t) :: r => if n = f then some t else lkp f r
 | _ => none
def fFld (f : Str) : PyData -> Res PyData
 | .dict kvs => ofO (lkp f kvs)
 | _ => .stuck
end Fx
namespace Fx
open PySem PySem.Spec PyProof.Rows L2
section
variable {X : Cx} {qual : Str} {scope : Scope} {N : List Str} {y : Str} {cap : List Nat} {pins : List (Addr × Obj)} {σ : L2.St} {H : Hp} {s : Shared} {f : Addr} {cd : Value}
def Qj (mg : Str -> Option Value) (base : Heap) : Prop := ∃ bm ob, mg "__builtins__" = some (.ref bm) /\ bm ≠ builtinsNs /\ bm ≠ mainGlobals /\ base.get? bm = some ob /\ ob.cls = .type "module" /\ ob.dict = some builtinsNs /\ ob.data = .plain
theorem lam_one {x x' : Str} (h : x ∈ Xa) (h' : x' ∈ Xa) : x = x' := by
 unfold Xa at h h'
 rw [List.mem_singleton.mp h, List.mem_singleton.mp h']
end
end Fx
namespace Fx
open PySem PySem.Spec PyProof.Rows L2
theorem V1 {K : PySem.W.Frag} {x : Str} {c T : Addr} (t : PySem.W.tabIn K x = some (c, T)) : ∃ o, K.lookup c = some o := by
 unfold PySem.W.tabIn at t
 split at t
 ·split at t
  ·split at t
   ·split at t
    ·rename_i hco
     split at t
     ·cases t; exact ⟨_, hco⟩
     ·cases t
    ·cases t
   ·cases t
  ·cases t
 ·cases t
theorem Ug {K : PySem.W.Frag} {x : Str} {c T : Addr} {b : Heap} (t : PySem.W.tabIn K x = some (c, T)) (hb : K.In b) (h : PySem.W.CodeHd b c T) : ∀ h' : Heap, K.In h' -> PySem.W.CodeHd h' c T := fun h' hk => by
 obtain ⟨o0, e0⟩ := V1 t
 obtain ⟨o, vs, file, tf, flags, tg, inF, text, tt, e, r⟩ := h
 have := hb _ _ e0
 rw [e] at this
 cases this
 exact ⟨_, vs, file, tf, flags, tg, inF, text, tt, hk _ _ e0, r⟩
theorem UK {P : Program} {w : World} {K : PySem.W.Frag} {mg mb : Str -> Option Value} {k : Nat} {fa a c T : Addr} {fd : FuncData} {x x0 : Str} {f : DF} {s₁ : Shared} {vs : List Value} {ns : List Int}
  (KX : K.In s₁.heap) (hns : s₁.heap.Ns mainGlobals mg) (hb : s₁.heap.Ns builtinsNs mb) (hbb : ∀ x : Str, x ≠ "__name__" -> mb x = bootBuiltins x) (hlim : s₁.heap.NoLimit) (hg : s₁.gens = #[])
  (bmain : Qj mg s₁.heap) (htb : PySem.W.tabIn K x0 = some (c, T)) (hx0 : x0 ∈ Xa) (hno : PySem.W.noTabs K = true) (hC : PySem.W.CodeHd s₁.heap c T) (hT : s₁.heap.get? T = some (PySem.W.tabObj #[]))
  (ha : s₁.heap.get? a = some { cls := .type "list", data := .seq vs.toArray }) (hi : IntsAre vs ns) (hl : ns.length <= sizeLine) (hr : Room k callerA)
  (F : ∀ base : Heap, K.In base -> base.Ns mainGlobals mg -> Qj mg base -> PySem.W.CodeHd base c T -> FnOk P w K mg base CX0 k fa fd [x] (spF K none 1 f)) (hbind : ∀ (s : Shared) (u : Value), BindsTo s fd ⟨[u], []⟩ [(x, u)])
  (hok : f [.list (ns.map .int)] = .ok (.bool true)) :
  codeAny (model P w) callerA (.call (.ref fa) ⟨[.ref a], []⟩) (fun r s' => r = .ok (.ret (.bool true)) /\ OldK s₁.heap s'.heap /\ s'.os = s₁.os /\ AllBare s'.gens) s₁ := by
 have rv := WI hi
 have lenV := hi.length
 have haT : a ≠ T := fun e => by rw [e, hT] at ha; cases ha
 have hKT : ∀ b o, K.lookup b = some o -> b ≠ T := fun b o e z => by
  have h2 := List.all_eq_true.mp hno (b, o) (PySem.W.mem_of_lookupK e)
  have h3 := KX _ _ e
  rw [z, hT] at h3
  cases h3
  exact absurd (show false = true from h2) Bool.false_ne_true
 -- from an abstract heap in which nothing but the table and the script may be tracked
 have core : ∀ H : Hp, H T = some (.tbl #[]) -> SqL K H a (ns.map V.int) -> HOk P w H s₁.heap -> (∀ b, H b ≠ none -> b = a \/ b = T) -> (∀ o, H a = some o -> K.lookup a = none /\ ∃ ob xs, o = .frz ob (.lst xs)) ->
   codeAny (model P w) callerA (.call (.ref fa) ⟨[.ref a], []⟩) (fun r s' => r = .ok (.ret (.bool true)) /\ OldK s₁.heap s'.heap /\ s'.os = s₁.os /\ AllBare s'.gens) s₁ := by
  intro H hHT hS hok' hA hK
  have base_of : ∀ {b : Addr} {o : Obj}, s₁.heap.get? b = some o -> H b = none -> (hidT s₁.heap H).get? b = some o := fun e n => hidT_get e n
  have noD : ∀ {b : Addr} {o : Obj}, s₁.heap.get? b = some o -> b ≠ T -> (∀ xs n, o.data ≠ .seq xs n) -> H b = none := fun {b o} e nt d => by
   cases q : H b with
   | none => rfl
   | some u =>
    rcases hA b (by rw [q]; simp) with e' | e'
    ·subst e'
     rw [ha] at e; cases e
     exact absurd rfl (d _ _)
    ·exact absurd e' nt
  have nsK : ∀ {b : Addr} {m : Str -> Option Value}, s₁.heap.Ns b m -> (hidT s₁.heap H).Ns b m := fun {b m} ⟨o, es, ep, e, d, r⟩ => ⟨o, es, ep, base_of e (noD e (fun z => by rw [z, hT] at e; cases e; cases d) fun xs n z => by rw [d] at z; cases z), d, r⟩
  have hKb : K.In (hidT s₁.heap H) := fun b o e => base_of (KX b o e) (by
   cases q : H b with
   | none => rfl
   | some u =>
    rcases hA b (by rw [q]; simp) with e' | e'
    ·subst e'
     rw [(hK u q).1] at e; cases e
    ·exact absurd e' (hKT b o e))
  have hBb : Qj mg (hidT s₁.heap H) := by
   obtain ⟨bm, ob, b1, b2, b3, b4, b5, b6, b7⟩ := bmain
   exact ⟨bm, ob, b1, b2, b3, base_of b4 (noD b4 (fun z => by rw [z, hT] at b4; cases b4; cases b5) fun xs n z => by rw [b7] at z; cases z), b5, b6, b7⟩
  have hCb : PySem.W.CodeHd (hidT s₁.heap H) c T := Ug htb KX hC _ hKb
  have hM : Mod K mg (hidT s₁.heap H) := ⟨hKb, nsK hns, ⟨mb, nsK hb, hbb⟩, let ⟨mc, h1, h2⟩ := hlim; ⟨mc, nsK h1, h2⟩⟩
  have e0 : Env0 P w K mg (hidT s₁.heap H) callerA [] s₁ H := ⟨rfl, hM, fun b o e => of_hidT e, Nat.le_of_eq (US _ _), trivial, fun b hb => absurd (show b ∈ ([] : List Addr) from hb) (by simp), hok', .of_eq hg⟩
  have tk : Xd K H := fun x1 c1 T1 h1 h2 => by
   have e1 : x1 = x0 := lam_one h1 hx0
   subst e1
   rw [htb] at h2
   cases h2
   exact ⟨#[], hHT, trivial, fun pos cv z => by simp [codeAmong] at z⟩
  refine codeAny_mono ((F _ hKb (nsK hns) hBb hCb).run callerA [] s₁ H ⟨[.ref a], []⟩ [.ref a] [.ref a] _ (fun _ _ _ => False) hr e0 (hbind s₁ (.ref a)) (.cons rfl .nil) (law_sp hok tk hS)) fun r s' h => ?_
  cases r with
  | error e => exact False.elim h
  | ok fl =>
   cases fl with
   | next => exact False.elim h
   | brk => exact False.elim h
   | cont => exact False.elim h
   | ret u =>
    obtain ⟨v, H', os, bare, un, hok2, r', q⟩ := h
    have q' : v = .bl true := q
    subst q'
    obtain rfl : u = Value.bool true := r'
    have keep : ∀ b o, b ≠ T -> s₁.heap.get? b = some o -> s'.heap.get? b = some o := fun b o nb e => by
     cases q : H b with
     | none => exact un.keep b o e q (by intro z; exact absurd (show b ∈ ([] : List Addr) from z) (by simp)) (by simp)
     | some u =>
      rcases hA b (by rw [q]; simp) with e' | e'
      ·subst e'
       obtain ⟨_, ob, xs, rfl⟩ := hK u q
       have z2 := un.frzs b ob _ q
       obtain ⟨e1, _⟩ := hok' b _ q
       obtain ⟨e2, _⟩ := hok2 b _ z2
       rw [e] at e1; cases e1
       exact e2
      ·exact absurd e' nb
    obtain ⟨more, hT'⟩ := un.tbls T _ hHT
    have hTo : s'.heap.get? T = some (PySem.W.tabObj (#[] ++ more)) := hok2 T _ hT'
    refine ⟨rfl, ⟨fun b o e => ?_, fun b o e => ?_⟩, os, bare⟩
    ·by_cases nb : b = T
     ·subst nb
      rw [hT] at e
      cases e
      exact .inr (.inl ⟨(hC.tab hT).isCodeTable, rfl, #[], more, rfl, hTo⟩)
     ·exact .inl (keep b o nb e)
    ·by_cases nb : b = T
     ·subst nb; exact ⟨_, hTo⟩
     ·exact ⟨o, keep b o nb e⟩
 cases hk : K.lookup a with
 | some o =>
  have e := KX a o hk
  rw [ha] at e
  cases e
  refine core (fun b => if b = T then some (.tbl #[]) else none) (if_pos rfl) (.inr ⟨_, vs.toArray, _, hk, rfl, rfl, rfl, by rw [List.size_toArray, lenV]; exact hl, by simpa using rv⟩) (fun b u z => ?_) (fun b z => ?_) fun o z => ?_
  ·by_cases hb : b = T
   ·have z' := (if_pos hb).symm.trans z
    cases z'
    subst hb
    exact hT
   ·have z' := (if_neg hb).symm.trans z
    cases z'
  ·by_cases hb : b = T
   ·exact .inr hb
   ·exact absurd (if_neg hb) z
  ·have z' := (if_neg haT).symm.trans z
   cases z'
 | none =>
  refine core (fun b => if b = T then some (.tbl #[]) else if b = a then some (.frz { cls := .type "list", data := .seq vs.toArray } (.lst (ns.map V.int))) else none) (if_pos rfl) (.inl (.inr ⟨{ cls := .type "list", data := .seq vs.toArray }, (if_neg haT).trans (if_pos rfl)⟩)) (fun b u z => ?_) (fun b z => ?_) fun o z => ?_
  ·by_cases hb : b = T
   ·have z' := (if_pos hb).symm.trans z
    cases z'
    subst hb
    exact hT
   ·have z1 := (if_neg hb).symm.trans z
    by_cases hb2 : b = a
    ·have z' := (if_pos hb2).symm.trans z1
     cases z'
     subst hb2
     exact ⟨ha, by rw [List.length_map]; exact hl, vs, _, rv, ha⟩
    ·have z' := (if_neg hb2).symm.trans z1
     cases z'
  ·by_cases hb : b = T
   ·exact .inr hb
   ·by_cases hb2 : b = a
    ·exact .inl hb2
    ·exact absurd ((if_neg hb).trans (if_neg hb2)) z
  ·have z' := ((if_neg haT).trans (if_pos rfl)).symm.trans z
   cases z'
   exact ⟨hk, _, _, rfl⟩
theorem walk_T {l : PySem.W.OpenLaw} {n k : Nat} {q : Program} {loose : List Str} {XP : (Str -> Option Value) -> Heap -> Prop} {YP : World -> Heap -> Prop} {d d0 : DefRec} {K : Params -> PySem.W.Frag} {x x0 : Str} {f : DF}
  (hn : l.most = some n) (hn2 : n <= sizeLine) (hdf : d.params.defaults = []) (hr : Room k callerA) (hx0 : x0 ∈ Xa) (hrec : (recsOf q).find? (fun e => e.name == x0) = some d0)
  (hY : ∀ (w : World) (h : Heap), YP w h -> (K w.params).In h)
  (F : ∀ (w : World) (mg : Str -> Option Value) (fa : Addr) (h : Heap), (K w.params).In h -> h.Ns mainGlobals mg -> mg d.name = some (.ref fa) ->
   ∃ (fd : FuncData) (c T : Addr), PySem.W.tabIn (K w.params) x0 = some (c, T) /\ PySem.W.noTabs (K w.params) = true /\ (∀ (s : Shared) (u : Value), BindsTo s fd ⟨[u], []⟩ [(x, u)]) /\
    ∀ base : Heap, (K w.params).In base -> base.Ns mainGlobals mg -> Qj mg base -> PySem.W.CodeHd base c T -> FnOk l.prog w (K w.params) mg base CX0 k fa fd [x] (spF (K w.params) none 1 f))
  (hok : ∀ ns : List Int, ns.length <= n -> f [.list (ns.map .int)] = .ok (.bool true)) :
  PySem.W.WalkO q loose XP YP l.row.toRowW d [] (fun f vs => PySem.call f vs) := by
 refine Att.attach_call hn hdf fun w s₀ s₁ mg mb fa o pm cd doc a vs ns G Y ho hd hcd hmg hobj hints hlen hg => ?_
 have KX := hY w _ Y
 obtain ⟨fd, c, T, htb, hno, hb, hF⟩ := F w mg fa _ KX G.T.g hmg
 obtain ⟨hC, hT⟩ := PySem.W.tab_of G.T KX hrec htb
 have hB : Qj mg s₁.heap := by
  obtain ⟨bm, ob, b1, b2, b3, b4, b5, b6⟩ := G.T.bmain
  refine ⟨bm, ob, b1, b2, fun z => ?_, b3, b4, b5, b6⟩
  obtain ⟨o, es, ep, e, hdd, _⟩ := G.T.g
  rw [z, e] at b3; cases b3; rw [hdd] at b6; cases b6
 exact UK KX G.T.g G.T.b G.T.builtins G.T.nolimit hg hB htb hx0 hno hC hT hobj hints (Nat.le_trans hlen hn2) hr hF hb (hok ns hlen)
end Fx
namespace Sx
structure Bd where
 h : Nat -> Nat
 D : Int
 R : Nat -> Nat -> Int
end Sx
namespace Lw
open PySem Fx
structure LB where
 heads : List Nat
 D : Int
 rows : List (List Int)
abbrev eI (xs : List Int) : PyData := .list (xs.map .int)
abbrev eH (hs : List Nat) : PyData := .list (hs.map fun (h : Nat) => .int (h : Int))
def eB (b : LB) : PyData := .dict [(.str "heads", eH b.heads), (.str "divisor", .int b.D), (.str "rows", .list (b.rows.map eI))]
def LB.bd (b : LB) : Sx.Bd := ⟨fun j => b.heads.getD j 0, b.D, fun i j => (b.rows.getD i []).getD j 0⟩
@[simp] theorem bd_D (b : LB) : b.bd.D = b.D := rfl
@[simp] theorem bd_h (b : LB) (j : Nat) : b.bd.h j = b.heads.getD j 0 := rfl
theorem bd_R (b : LB) (i j : Nat) : b.bd.R i j = (b.rows.getD i []).getD j 0 := rfl
@[simp] theorem fld_heads (b : LB) : fFld "heads" (eB b) = .ok (eH b.heads) := rfl
@[simp] theorem fld_div (b : LB) : fFld "divisor" (eB b) = .ok (.int b.D) := rfl
@[simp] theorem fld_rows (b : LB) : fFld "rows" (eB b) = .ok (.list (b.rows.map eI)) := rfl
@[simp] theorem scalT_eB (b : LB) : Yk (eB b) = false := rfl
section
variable {K m : Nat} {b : LB} {t p : Nat}
theorem YQ (i j : Int) : fNe (.int i) (.int j) = .ok (.bool (!decide (i = j))) := by simp [fNe]
end
end Lw
namespace Fx
open PySem
def dHs : List ((Str -> Bool) × (Str -> Bool) × DS) -> Str -> DS
 | [], _ => fun _ => .stuck
 | (y, n, h) :: r, c => fun G => if y c then noX (h G) else if n c then dHs r c G else .stuck
@[simp] theorem dHs_cons (y n : Str -> Bool) (h : DS) (r : List ((Str -> Bool) × (Str -> Bool) × DS)) (c : Str) (G : List Sl) : dHs ((y, n, h) :: r) c G = if y c then noX (h G) else if n c then dHs r c G else .stuck := rfl
end Fx
namespace Fx
open PySem PySem.Spec PyProof.Rows L2
theorem star_tup {xs es : List Expr} {k : Nat} {pos : Pos} {env : Env} : starEach (.Tuple xs k pos :: es) env = (false, eval (.Tuple xs k pos) env) :: starEach es env := rfl
theorem star_lst {xs es : List Expr} {pos : Pos} {env : Env} : starEach (.List xs pos :: es) env = (false, eval (.List xs pos) env) :: starEach es env := rfl
end Fx
namespace Fx
open PySem PySem.Spec PyProof.Rows L2
theorem newEnvK {M : Model} {A : Around} {E : Value -> Shared -> Prop} {s : Shared} {scope : Scope} {x0 : Str} {globals : Addr} {closure : List (Str × Addr)} {qual : Str} {env : Env} {Q : Env -> Shared -> Prop}
  (h1 : ∀ (n : Nat) (cl : List (Str × Addr)), cellsFrom n scope.names cl = (x0, n) :: cl) (h2 : ∀ h : Heap, pushCells h scope.names = h.push { cls := .type "cell", data := .cell none })
  (hQ : ∀ h', h'.Ns s.heap.objs.size (fun _ => none) -> (∀ b o, s.heap.get? b = some o -> h'.get? b = some o) -> h'.IsCell (s.heap.objs.size + 1) none ->
   Q (newEnv scope s.heap.objs.size globals ((x0, s.heap.objs.size + 1) :: closure) qual none .none (some env) builtinsNs) { s with heap := h' }) :
  wpAny M A (newFunctionEnv scope globals closure [] qual none .none (some env)) Q E s := by
 simp only [newFunctionEnv, Option.isSome_some, if_true]
 refine wpAny_bind (wpAny_alloc ?_)
 refine wpAny_bind (wpAny_layCells _ (fun name kind cells => by cases hkc : kind == NameKind.cell <;> simp [hkc]) _ _ _ _ ?_)
 rw [h1, h2]
 have sz : (s.heap.push { cls := .type "dict", data := .dict #[] }).objs.size = s.heap.objs.size + 1 := Heap.size_push _ _
 rw [show ({ s with heap := s.heap.push { cls := .type "dict", data := .dict #[] } } : Shared).heap.objs.size = s.heap.objs.size + 1 from sz]
 refine wpAny_bind ?_
 rw [List.forIn_nil]
 refine wpAny_pure (wpAny_pure (hQ _ ?_ ?_ ?_))
 ·exact (Heap.Ns.new s.heap (.type "dict")).keeps fun b o e => Heap.get?_push_of_some _ e
 ·exact fun b o e => Heap.get?_push_of_some _ (Heap.get?_push_of_some _ e)
 ·exact ⟨_, by rw [<- sz]; exact Heap.get?_push_size _ rfl, rfl⟩
def cxK (X : Cx) (scope : Scope) (x0 : Str) (N : List Str) (s₀ : Shared) (H₀ : Hp) (ex : List Addr) (pn : List (Addr × Obj) := []) : Cx :=
 { X with env := compEnvC scope ((x0, s₀.heap.objs.size + 1) :: Zy X.env scope.names []) s₀.heap.objs.size X.env, N := N, s₀ := s₀, H₀ := H₀, outer := X.stack, ex := ex, fn := fun y => y == x0, pn := pn, xe := fun _ _ => False }
structure CompKk (X : Cx) (scope : Scope) (x0 : Str) (N : List Str) (nv : Nat) (cap : List Nat) : Prop where
 one : ∀ (n : Nat) (cl : List (Str × Addr)), cellsFrom n scope.names cl = (x0, n) :: cl
 pone : ∀ h : Heap, pushCells h scope.names = h.push { cls := .type "cell", data := .cell none }
 cell : ∀ y ∈ scope.names, y.2 = .cell -> y.1 = x0
 kind : scope.kind = .function
 names : ∀ y ∈ scope.names, y.2 = .local -> scope.names.lookup y.1 = some .local
 free : ∀ y ∈ scope.names, y.2 = .free -> (X.env.kindOf y.1 = some .cell \/ X.env.kindOf y.1 = some .free) /\ y.1 ≠ x0
 len : N.length = nv + cap.length
 caps : ∀ (i j : Nat) (x : Str), cap[i]? = some j -> N[nv + i]? = some x -> X.N[j]? = some x /\ ((relabel scope X.env).names.lookup x = some .cell \/ (relabel scope X.env).names.lookup x = some .free) /\ (X.env.kindOf x = some .cell \/ X.env.kindOf x = some .free) /\ x ≠ x0
section
variable {X : Cx} {scope : Scope} {x0 : Str} {N : List Str} {nv : Nat} {cap : List Nat} {pins : List (Addr × Obj)} {σ : L2.St} {H : Hp} {s : Shared} {ex : List Addr}
theorem CompKk.has (C : CompKk X scope x0 N nv cap) (ok : X.Ok) : ∀ y ∈ scope.names, y.2 = .free -> ∃ c, X.env.cells.lookup y.1 = some c := fun y hy e => ok.has y.1 (C.free y hy e).1
theorem CompKk.sub (C : CompKk X scope x0 N nv cap) (ok : X.Ok) {n : Nat} (x : Str) (c : Addr) (e : ((x0, n) :: Zy X.env scope.names []).lookup x = some c) : (x = x0 /\ c = n) \/ X.env.cells.lookup x = some c := by
 rw [List.lookup_cons] at e
 split at e
 ·rename_i q
  cases e
  exact .inl ⟨by simpa using q, rfl⟩
 ·exact .inr (Xc X.env scope.names [] (C.has ok) (fun x c e => by cases e) x c e)
theorem Xs {scope : Scope} {env : Env} {x : Str} : (relabel scope env).names.lookup x = some .cell \/ (relabel scope env).names.lookup x = some .free -> (x, NameKind.free) ∈ scope.names \/ (x, NameKind.cell) ∈ scope.names := by
 intro h
 have : ∃ k, (x, k) ∈ (relabel scope env).names /\ (k = .cell \/ k = .free) := by
  rcases h with h | h
  ·exact ⟨_, ZY h, .inl rfl⟩
  ·exact ⟨_, ZY h, .inr rfl⟩
 obtain ⟨k, hm, hk⟩ := this
 unfold relabel at hm
 obtain ⟨⟨n, k0⟩, hm0, e⟩ := List.mem_map.mp hm
 simp only at e
 split at e
 ·rename_i q
  cases e
  simp only [Bool.and_eq_true, beq_iff_eq] at q
  rw [q.1.1] at hm0
  exact .inl hm0
 ·cases e
  rcases hk with rfl | rfl
  ·exact .inr hm0
  ·exact .inl hm0
theorem CompKk.start (C : CompKk X scope x0 N nv cap) (I : Inv X pins σ H s) (hex : ∀ b ∈ ex, FpOk X pins H b /\ b < s.heap.objs.size) {h' : Heap} {t : Nat} {m : Str -> Option Value} (hn : h'.Ns s.heap.objs.size m) (hk : ∀ b o, s.heap.get? b = some o -> h'.get? b = some o) (hcl : h'.IsCell (s.heap.objs.size + 1) none) :
  Inv (cxK X scope x0 N s H ex) [] (sig nv cap σ) H { s with heap := h', toks := t } := by
 have hh := C.has I.ok
 have sub : ∀ x c, (cxK X scope x0 N s H ex).env.cells.lookup x = some c -> (x = x0 /\ c = s.heap.objs.size + 1) \/ X.env.cells.lookup x = some c := fun x c e => C.sub I.ok x c e
 have cl : ∀ x c, X.env.cells.lookup x = some c -> c < s.heap.objs.size := fun x c e => by
  obtain ⟨v, z⟩ := I.cell x c e
  exact z.lt
 have hL : s.heap.objs.size <= (cxK X scope x0 N s H ex).env.locals := Nat.le_refl _
 have stk : ∀ b ∈ frs X.stack, b < s.heap.objs.size := fun b hb => by
  obtain ⟨_, o, ho, _⟩ := I.stack.mem hb
  exact Heap.lt_size ho
 refine ⟨⟨I.ok.mod, C.kind, I.ok.glob, I.ok.blt, hL, fun x y c h1 h2 => ?_, fun x hx => ?_, fun x c h e => ?_, I.ok.hd, I.ok.frames, .inl rfl, fun b hb => ?_, fun b o e => I.bs b o e, ?_, fun b o e hb => ?_, fun b hb => ?_, I.stack, I.stkFree⟩,
  rfl, I.bare, Un.kept hk, ⟨m, hn, fun i x v e1 e2 e3 => ?_⟩, fun x c e => ?_, I.hok.fresh (Nat.le_refl _), fun x c e => ?_, fun p hp => ?_, I.hok.kept hk, ?_⟩
 ·rcases sub x c h1 with ⟨a1, a2⟩ | a <;> rcases sub y c h2 with ⟨b1, b2⟩ | b
  ·rw [a1, b1]
  ·exact absurd (a2 ▸ cl y c b : s.heap.objs.size + 1 < s.heap.objs.size) (Nat.not_lt.mpr (Nat.le_succ _))
  ·exact absurd (b2 ▸ cl x c a : s.heap.objs.size + 1 < s.heap.objs.size) (Nat.not_lt.mpr (Nat.le_succ _))
  ·exact I.ok.inj x y c a b
 ·have hx' : (relabel scope X.env).names.lookup x = some .cell \/ (relabel scope X.env).names.lookup x = some .free := hx
  show ∃ c, ((x0, s.heap.objs.size + 1) :: Zy X.env scope.names []).lookup x = some c
  rcases Xs hx' with z | z
  ·obtain ⟨c, hc⟩ := YJ X.env scope.names [] x (.inr z)
   exact ZM (List.mem_cons_of_mem _ hc)
  ·have e : x = x0 := C.cell _ z rfl
   rw [e]
   exact ZM List.mem_cons_self
 ·have hx : x = x0 := by simpa using (show (x == x0) = true from h)
  rcases sub x c e with ⟨_, a2⟩ | a
  ·rw [a2]; exact Nat.le_succ _
  ·subst hx
   have e' : ((x, s.heap.objs.size + 1) :: Zy X.env scope.names []).lookup x = some c := e
   have hb : (x == x) = true := by simp
   rw [List.lookup_cons, hb] at e'
   cases e'
   exact Nat.le_succ _
 ·obtain ⟨f, lt⟩ := hex b hb
  refine ⟨Nat.ne_of_lt lt, fun x c e => ?_⟩
  rcases sub x c e with ⟨_, a2⟩ | a
  ·rw [a2]; exact fun z => absurd (z ▸ lt : s.heap.objs.size + 1 < s.heap.objs.size) (Nat.not_lt.mpr (Nat.le_succ _))
  ·exact f.2.2.2.2.1 x c a
 ·exact Nat.le_trans I.ok.bsz I.sz
 ·obtain ⟨f, lt⟩ := hex b hb
  rcases f.2.2.2.1 with z | z
  ·exact I.ok.noex b o e z
  ·exact absurd (Nat.lt_of_lt_of_le (Heap.lt_size e) (Nat.le_trans I.ok.bsz z)) (Nat.lt_irrefl _)
 ·obtain ⟨f, lt⟩ := hex b hb
  intro z
  rcases List.mem_cons.mp (I.stkSub b z) with e | e
  ·exact f.2.1 e
  ·exact f.2.2.1 e
 ·-- the names
  have hi : nv <= i := by
   rcases Nat.lt_or_ge i nv with z | z
   ·unfold sig at e2
    rw [List.getElem?_append_left (by simpa using z), List.getElem?_replicate] at e2
    split at e2 <;> cases e2
   ·exact z
  obtain ⟨k, rfl⟩ := Nat.exists_eq_add_of_le hi
  unfold sig at e2
  rw [List.getElem?_append_right (by simp), List.getElem?_map] at e2
  have ek : nv + k - (List.replicate nv (none : Option V)).length = k := by simp
  rw [ek] at e2
  cases ec : cap[k]? with
  | none => rw [ec] at e2; cases e2
  | some j =>
   rw [ec] at e2
   have e2' : σ.getD j none = some v := by simpa using e2
   obtain ⟨c1, c2, c3, c4⟩ := C.caps k j x ec e1
   obtain ⟨m0, _, hl⟩ := I.loc
   have vis : Vis X.env.scope x := c3.elim (fun z => .inr (.inl z)) fun z => .inr (.inr z)
   obtain ⟨u, ru, lk⟩ := hl j x v c1 (getD_some e2') vis
   refine ⟨u, ru, .inr ⟨c2, ?_⟩⟩
   rcases lk with ⟨z, _⟩ | ⟨_, c, ec', o, ho, hd⟩
   ·rcases c3 with c3 | c3 <;> (rw [c3] at z; cases z)
   ·have hm : (x, NameKind.free) ∈ scope.names := by
     rcases Xs c2 with z | z
     ·exact z
     ·exact absurd (C.cell _ z rfl) c4
    obtain ⟨c', hc'⟩ := YJ X.env scope.names [] x (.inr hm)
    obtain ⟨c'', hc''⟩ := ZM hc'
    have hq : ((x0, s.heap.objs.size + 1) :: Zy X.env scope.names []).lookup x = some c'' := by
     rw [List.lookup_cons]
     have : (x == x0) = false := by simpa using c4
     rw [this]
     exact hc''
    rcases sub x c'' hq with ⟨a1, _⟩ | this
    ·exact absurd a1 c4
    ·rw [ec'] at this
     cases this
     exact ⟨c, hq, o, hk c o ho, hd⟩
 ·rcases sub x c e with ⟨_, a2⟩ | a
  ·rw [a2]; exact ⟨none, hcl⟩
  ·obtain ⟨v, o, ho, hd⟩ := I.cell x c a
   exact ⟨v, o, hk c o ho, hd⟩
 ·rcases sub x c e with ⟨_, a2⟩ | a
  ·rw [a2]; exact I.hok.fresh (Nat.le_succ _)
  ·exact I.freeC x c a
 ·exact absurd (show p ∈ ([] : List (Addr × Obj)) from hp) (by simp)
 ·show (sig nv cap σ).length = N.length
  unfold sig
  rw [C.len]
  simp
theorem CompKk.stop {H' : Hp} {s' : Shared} {σ' : L2.St} {pl : List (Addr × Obj)} (I : Inv X pins σ H s) (hex : ∀ b ∈ ex, FpOk X pins H b) (J : Inv (cxK X scope x0 N s H ex) pl σ' H' s') : Inv X pins σ H' s' :=
 I.call' J.os J.base J.hok J.bare fun b hb => by
  obtain ⟨f0, f1, f2, f3, f4, f5⟩ := hex b hb
  exact ⟨f3, f1, f4, f5⟩
theorem inv_pnK {s₀ : Shared} {H₀ : Hp} {E : Value -> Shared -> Prop} (I : Inv (cxK X scope x0 N s₀ H₀ ex) pins σ H s) : Inv ((cxK X scope x0 N s₀ H₀ ex pins).wish E) [] σ H s :=
 ⟨⟨I.ok.mod, I.ok.kind, I.ok.glob, I.ok.blt, I.ok.above, I.ok.inj, I.ok.has, I.ok.cab, I.ok.hd, I.ok.frames, I.ok.stk, I.ok.exf, I.ok.bs, I.ok.bsz, I.ok.noex, I.ok.exfs, I.ok.funs, I.ok.frf⟩, I.os, I.bare, I.base, I.loc, I.cell, I.free, I.freeC,
  fun p hp => I.pin p (show p ∈ [] ++ pins by simpa using (show p ∈ pins ++ [] from hp)), I.hok, I.len⟩
theorem inv_npK {s₀ : Shared} {H₀ : Hp} {pn : List (Addr × Obj)} {E : Value -> Shared -> Prop} (I : Inv ((cxK X scope x0 N s₀ H₀ ex pn).wish E) pins σ H s) : Inv (cxK X scope x0 N s₀ H₀ ex) (pn ++ pins) σ H s :=
 ⟨⟨I.ok.mod, I.ok.kind, I.ok.glob, I.ok.blt, I.ok.above, I.ok.inj, I.ok.has, I.ok.cab, I.ok.hd, I.ok.frames, I.ok.stk, I.ok.exf, I.ok.bs, I.ok.bsz, I.ok.noex, I.ok.exfs, I.ok.funs, I.ok.frf⟩, I.os, I.bare, I.base, I.loc, I.cell, I.free, I.freeC,
  fun p hp => I.pin p (show p ∈ pn ++ pins from by simpa using (show p ∈ [] ++ (pn ++ pins) from hp)), I.hok, I.len⟩
end
section
variable {X : Cx} {scope : Scope} {x0 : Str} {N : List Str} {nv : Nat} {cap : List Nat}
abbrev cxKT (xz : Cx -> Value -> Shared -> Prop) (X : Cx) (scope : Scope) (x0 : Str) (N : List Str) (s₀ : Shared) (H₀ : Hp) (ex : List Addr) (pn : List (Addr × Obj)) : Cx := (cxK X scope x0 N s₀ H₀ ex pn).wish (xz (cxK X scope x0 N s₀ H₀ ex pn))
theorem Vr {xz : Cx -> Value -> Shared -> Prop} {W : Str -> Hp -> Prop} {tg elt iter : Expr} {ifs : List Expr} {pos : Pos} {st : PyData -> List Sl -> Res (List Sl)} {dc : DT} {de : DE} {pins : List (Addr × Obj)} {σ : L2.St} {H2 : Hp} {s3 s4 : Shared} {P : Pv} {G : List Sl} {J : It} {fp : List Addr} {itA D : Addr} {tn : Nat -> Heap -> Prop} {ts : List PyData} {r : Res (List PyData)} {R : Result -> Shared -> Prop} {m : Str -> Option Value}
  (C : CompKk X scope x0 N nv cap) (hc : X.calm = true) (hk : Wb nv st)
  (hg : ∀ s₀ H₀ ex pn, GV (cxKT xz X scope x0 N s₀ H₀ ex pn) tg st) (ht : ∀ s₀ H₀ ex pn, (∀ b ∈ ex, ∃ o, (b, o) ∈ pn) -> CT (cxKT xz X scope x0 N s₀ H₀ ex pn) W ifs dc) (he : ∀ s₀ H₀ ex pn, (∀ b ∈ ex, ∃ o, (b, o) ∈ pn) -> EV (cxKT xz X scope x0 N s₀ H₀ ex pn) W elt de)
  (h2 : Hol X.K H2 P σ G) (hD : H2 D = none) (I3 : Inv X pins σ (upd H2 D (.lst [])) s3) (T : Turn X.prog X.w X.K tg J fp itA tn) (hf : ∀ b ∈ fp, FpOk X pins (upd H2 D (.lst [])) b /\ b < s3.heap.objs.size) (y : Yld X.K J ts H2 P) (hlen : ts.length <= 16777216)
  (hall : ZA st dc de (List.replicate nv .emp ++ capS cap G) ts = r) (hr : r ≠ .stuck) (hW : ∀ c, r = .exc c -> ∀ H', Same H2 H' -> W c H')
  (hn : s4.heap.Ns s3.heap.objs.size m) (hkp : ∀ b o, s3.heap.get? b = some o -> s4.heap.get? b = some o) (hcl : s4.heap.IsCell (s3.heap.objs.size + 1) none) (e4 : ∃ h' t, s4 = { s3 with heap := h', toks := t }) (tn0 : tn 0 s4.heap)
  (fin : ∀ s' H' σ' vs all, r = .ok all -> Inv (cxK X scope x0 N s3 (upd H2 D (.lst [])) fp) [] σ' H' s' -> H' D = some (.lst vs) -> Same H2 H' -> Rls X.K H' (P.fbd D) all vs -> R (.ok .next) s')
  (finx : ∀ pn e s', (∀ b ∈ fp, ∃ o, (b, o) ∈ pn) -> xz (cxK X scope x0 N s3 (upd H2 D (.lst [])) fp pn) e s' -> notedBy (model X.prog X.w) X.A (compEnvC scope ((x0, s3.heap.objs.size + 1) :: Zy X.env scope.names []) s3.heap.objs.size X.env) (fun e s' => R (.error e) s') e s') :
  codeAny (model X.prog X.w) X.A (.compStart (.ListComp elt [⟨tg, iter, ifs, 0⟩] scope pos) 0 (.ref itA) (.ref D) (compEnvC scope ((x0, s3.heap.objs.size + 1) :: Zy X.env scope.names []) s3.heap.objs.size X.env)) R s4 := by
 obtain ⟨h4, t4, rfl⟩ := e4
 have J4 := C.start (t := t4) I3 hf hn hkp hcl
 -- what no element may hold
 have trc : ∀ H', Same H2 H' -> (∃ vs, H' D = some (.lst vs)) -> Tr H2 P H' ⟨fun _ => none, fun a => ¬ Off P a \/ a = D⟩ := fun H' s _ a o e n q => ⟨s.kp a o e n, fun _ z => (by cases z), fun z => z.elim (fun z => z q) fun z => by rw [z, hD] at e; cases e⟩
 have offc : ∀ H', Same H2 H' -> (∃ vs, H' D = some (.lst vs)) -> ∀ p, H' p = none -> Off ⟨fun _ => none, fun a => ¬ Off P a \/ a = D⟩ p := fun H' s ⟨vs, hv⟩ p hp => ⟨fun _ z => (by cases z), fun z => z.elim (fun z => z (h2.off_new (s.free hp))) fun z => by rw [z, hv] at hp; cases hp⟩
 have fbc : ∀ H', Same H2 H' -> (∃ vs, H' D = some (.lst vs)) -> ∀ a, (¬ Off P a \/ a = D) -> H' a ≠ none := fun H' s hv a z hn => (offc H' s hv a hn).2 z
 have hCe : ∀ i, i < nv -> ∀ x, (List.replicate nv Sl.emp ++ capS cap G)[i]? = some x -> x = .emp := fun i hi x e => by
  rw [List.getElem?_append_left (by simpa using hi), List.getElem?_replicate, if_pos hi] at e
  cases e
  rfl
 have hCo : ∀ (i : Nat) xs, (List.replicate nv Sl.emp ++ capS cap G)[i]? ≠ some (.own xs) := fun i xs e => by
  by_cases hi : i < nv
  ·have := hCe i hi _ e; cases this
  ·rw [List.getElem?_append_right (by simpa using hi)] at e
   unfold capS at e
   rw [List.getElem?_map] at e
   cases ec : cap[i - (List.replicate nv Sl.emp).length]? with
   | none => rw [ec] at e; cases e
   | some j =>
    rw [ec] at e
    simp only [Option.map_some, Option.some.injEq] at e
    cases eg : G[j]? with
    | none => rw [eg] at e; cases e
    | some x => rw [eg] at e; cases x <;> cases e
 have fpo : ∀ H', (∀ b ∈ fp, H' b = none) -> ∀ b ∈ fp, FpOk (cxK X scope x0 N s3 (upd H2 D (.lst [])) fp) [] H' b := fun H' hz b hb => by
  obtain ⟨f, lt⟩ := hf b hb
  refine ⟨hz b hb, Nat.ne_of_lt lt, fun z => ?_, .inl hb, fun x c e => (C.sub I3.ok x c e).elim (fun z => by rw [z.2]; exact fun w => absurd (w ▸ lt : s3.heap.objs.size + 1 < s3.heap.objs.size) (Nat.not_lt.mpr (Nat.le_succ _))) fun z => f.2.2.2.2.1 x c z, fun p hp => absurd (show p ∈ ([] : List (Addr × Obj)) from hp) (by simp)⟩
  rcases List.mem_cons.mp (I3.stkSub b z) with e | e
  ·exact f.2.1 e
  ·exact f.2.2.1 e
 have up0 : Same H2 (upd H2 D (.lst [])) := ZG hD
 -- the loop
 have loop : ∀ s5 : Shared, s5 = { s3 with heap := h4, toks := t4 } -> codeAny (model X.prog X.w) X.A (.compLoop (.ListComp elt [⟨tg, iter, ifs, 0⟩] scope pos) 0 (.ref itA) (.ref D) (compEnvC scope ((x0, s3.heap.objs.size + 1) :: Zy X.env scope.names []) s3.heap.objs.size X.env)) R s5 := by
  rintro s5 rfl
  refine Wu (fun n s => ∃ i σ' H' vs ys, n = ts.length - i /\ i <= ts.length /\ Inv (cxK X scope x0 N s3 (upd H2 D (.lst [])) fp) [] σ' H' s /\ tn i s.heap /\ (∀ b ∈ fp, H' b = none) /\ Same H2 H' /\ H' D = some (.lst vs) /\
   Rls X.K H' ⟨fun _ => none, fun a => ¬ Off P a \/ a = D⟩ ys vs /\ Hol X.K H' ⟨fun _ => none, fun a => ¬ Off P a \/ a = D⟩ σ' (List.replicate nv .emp ++ capS cap G) /\ ((ZA st dc de (List.replicate nv .emp ++ capS cap G) (ts.drop i)).bind fun zs => .ok (ys ++ zs)) = r /\ ys.length <= i) ?_ ts.length
   ⟨0, _, _, [], [], rfl, Nat.zero_le _, J4, tn0, fun b hb => (hf b hb).1.1, up0, Zr, Z5.mpr rfl, UR h2 (trc _ up0 ⟨_, Zr⟩) (fun _ => rfl) (fbc _ up0 ⟨_, Zr⟩) (up0.tab _ h2.tab), by rw [List.drop_zero, hall]; cases r <;> rfl, Nat.le_refl _⟩
  rintro n s ⟨i, σ', H', vs, ys, rfl, hi, Ji, tni, fpn, sm, hDv, rys, hol, ecl, hyl⟩
  obtain ⟨y1, y2⟩ := y H' ⟨fun _ => none, fun a => ¬ Off P a \/ a = D⟩ (trc H' sm ⟨vs, hDv⟩) (offc H' sm ⟨vs, hDv⟩) i
  by_cases hlt : i < ts.length
  ·have et : ts[i]? = some ts[i] := by simp [hlt]
   obtain ⟨go, yl⟩ := y1 _ et
   rw [List.drop_eq_getElem_cons hlt] at ecl
   unfold ZA at ecl
   -- the turn's own data
   obtain ⟨G1, eG⟩ : ∃ G1, st ts[i] (List.replicate nv .emp ++ capS cap G) = .ok G1 := by
    rcases Xt (st ts[i] (List.replicate nv .emp ++ capS cap G)) with ⟨G1, h⟩ | h
    ·exact ⟨G1, VE h⟩
    ·rw [h] at ecl; exact absurd ecl.symm hr
   rw [eG, show noX (Res.ok G1 : Res (List Sl)) = .ok G1 from rfl, Res.bind_ok] at ecl
   obtain ⟨kl, ke⟩ := hk _ _ _ eG
   refine wpAny_mono (T.item (cxK X scope x0 N s3 (upd H2 D (.lst [])) fp) rfl rfl rfl hc i [] s σ' H' (fun _ _ => False) Ji (fpo H' fpn) tni go) (fun r' s1 hr' => ?_) fun _ _ z => z.elim
   obtain ⟨u, rfl, hr'⟩ := hr'
   refine wpAny_mono hr' (fun _ s2 hr2 => ?_) fun _ _ z => z.elim
   obtain ⟨x, H5, J5, r5, y5, tn5, fr5⟩ := hr2
   obtain ⟨sm5, rl5⟩ := yl x H5 y5
   have J5' : Inv (cxKT xz X scope x0 N s3 (upd H2 D (.lst [])) fp (ZF fp s2.heap)) [] σ' H5 s2 := inv_pnK (J5.pinned (fpo H5 fr5) (T.obj _ _ tn5))
   have pnn : ∀ b ∈ fp, ∃ o, (b, o) ∈ ZF fp s2.heap := fun b hb => by
    obtain ⟨o, e, _⟩ := T.obj _ _ tn5 b hb
    exact ⟨o, Yw hb e⟩
   have finx' := fun e s' => finx (ZF fp s2.heap) e s' pnn
   obtain ⟨g, pg, gp⟩ := hg s3 (upd H2 D (.lst [])) fp (ZF fp s2.heap)
   have hol5 := hol.same sm5
   refine wpAny_mono (pg _ s2 σ' H5 x u (fun σ6 H6 => H6 = H5 /\ ∃ P6, Go H5 ⟨fun _ => none, fun a => ¬ Off P a \/ a = D⟩ H5 P6 /\ Hol X.K H5 P6 σ6 G1) J5' r5 (gp ts[i] x σ' H5 _ _ _ hol5 rl5 ⟨G1, eG, fun σ6 P6 g6 h6 => ⟨rfl, P6, g6, h6⟩⟩)) (fun _ s6 h6 => ?_) finx'
   obtain ⟨σ6, H6, J6, rfl, P6, g6, hol6⟩ := h6
   -- on to the next turn
   have fr6 : ∀ {H8 : Hp} {s8 : Shared}, Inv (cxKT xz X scope x0 N s3 (upd H2 D (.lst [])) fp (ZF fp s2.heap)) [] σ6 H8 s8 -> ∀ b ∈ fp, H8 b = none := fun {H8 s8} J8 b hb => by
    obtain ⟨o, e⟩ := pnn b hb
    exact (J8.pin (b, o) (List.mem_append_left _ e)).2.1
   have next : ∀ {H8 : Hp} {s8 : Shared} {ys' : List PyData} {vs' : List V}, Inv (cxKT xz X scope x0 N s3 (upd H2 D (.lst [])) fp (ZF fp s2.heap)) [] σ6 H8 s8 -> Same H2 H8 -> H8 D = some (.lst vs') -> (∀ b, b ≠ D -> ∀ o, H6 b = some o -> Nt o -> H8 b = some o) ->
     Rls X.K H8 ⟨fun _ => none, fun a => ¬ Off P a \/ a = D⟩ ys' vs' -> ((ZA st dc de (List.replicate nv .emp ++ capS cap G) (ts.drop (i + 1))).bind fun zs => .ok (ys' ++ zs)) = r -> ys'.length <= i + 1 ->
     ∃ m, m < ts.length - i /\ ∃ i σ' H' vs ys, m = ts.length - i /\ i <= ts.length /\ Inv (cxK X scope x0 N s3 (upd H2 D (.lst [])) fp) [] σ' H' s8 /\ tn i s8.heap /\ (∀ b ∈ fp, H' b = none) /\ Same H2 H' /\ H' D = some (.lst vs) /\
      Rls X.K H' ⟨fun _ => none, fun a => ¬ Off P a \/ a = D⟩ ys vs /\ Hol X.K H' ⟨fun _ => none, fun a => ¬ Off P a \/ a = D⟩ σ' (List.replicate nv .emp ++ capS cap G) /\ ((ZA st dc de (List.replicate nv .emp ++ capS cap G) (ts.drop i)).bind fun zs => .ok (ys ++ zs)) = r /\ ys.length <= i := by
    intro H8 s8 ys' vs' J8 sm8 hD8 kp8 rys8 ecl8 hyl8
    refine ⟨ts.length - (i + 1), by omega, i + 1, σ6, H8, vs', ys', rfl, hlt, Inv.unpinned (pins := []) (pl := ZF fp s2.heap) (by simpa using inv_npK J8), ?_, fr6 J8, sm8, hD8, rys8, ?_, ecl8, hyl8⟩
    ·exact T.keep _ _ _ tn5 fun b hb o e => (J8.pin (b, o) (List.mem_append_left _ (Yw hb e))).1
    ·have hF : Hol X.K H6 P6.bare σ6 (List.replicate nv .emp ++ capS cap G) := Wq hCe hCo hol6 kl ke
     have ep : P6.bare = ⟨fun _ => none, fun a => ¬ Off P a \/ a = D⟩ := by
      unfold Pv.bare
      rw [g6.fbe]
     rw [ep] at hF
     have tr8 : Tr H6 ⟨fun _ => none, fun a => ¬ Off P a \/ a = D⟩ H8 ⟨fun _ => none, fun a => ¬ Off P a \/ a = D⟩ := fun a o e n q => ⟨kp8 a (fun z => q.2 (Or.inr z)) o e n, q⟩
     refine ⟨fun j x e => ?_, fun _ _ _ z => (by cases z), fun _ _ z => (by cases z), fbc H8 sm8 ⟨vs', hD8⟩, fun _ _ z => (by cases z), hF.len, sm8.tab _ h2.tab⟩
     have z := hF.sl j x e
     cases x with
     | emp => trivial
     | val t => obtain ⟨v, e1, r1⟩ := z; exact ⟨v, e1, Rl.go tr8 t v r1⟩
     | own xs => exact absurd e (hCo j xs)
   have sm6 : Same H2 H6 := sm.trans sm5
   -- behind the test
   have after : ∀ k s7 H7, Inv (cxKT xz X scope x0 N s3 (upd H2 D (.lst [])) fp (ZF fp s2.heap)) [] σ6 H7 s7 -> Same H6 H7 -> dc G1 = .ok k -> (if k = true then wpAny (model X.prog X.w) X.A (eval elt (compEnvC scope ((x0, s3.heap.objs.size + 1) :: Zy X.env scope.names []) s3.heap.objs.size X.env)) (fun x s₄ =>
      wpAny (model X.prog X.w) X.A (call (.builtin "list.append") [.ref D, x]) (fun _ s₅ => ∃ m, m < ts.length - i /\ ∃ i σ' H' vs ys, m = ts.length - i /\ i <= ts.length /\ Inv (cxK X scope x0 N s3 (upd H2 D (.lst [])) fp) [] σ' H' s₅ /\ tn i s₅.heap /\ (∀ b ∈ fp, H' b = none) /\ Same H2 H' /\ H' D = some (.lst vs) /\
      Rls X.K H' ⟨fun _ => none, fun a => ¬ Off P a \/ a = D⟩ ys vs /\ Hol X.K H' ⟨fun _ => none, fun a => ¬ Off P a \/ a = D⟩ σ' (List.replicate nv .emp ++ capS cap G) /\ ((ZA st dc de (List.replicate nv .emp ++ capS cap G) (ts.drop i)).bind fun zs => .ok (ys ++ zs)) = r /\ ys.length <= i) (notedBy (model X.prog X.w) X.A (compEnvC scope ((x0, s3.heap.objs.size + 1) :: Zy X.env scope.names []) s3.heap.objs.size X.env) fun e s' => R (.error e) s') s₄) (notedBy (model X.prog X.w) X.A (compEnvC scope ((x0, s3.heap.objs.size + 1) :: Zy X.env scope.names []) s3.heap.objs.size X.env) fun e s' => R (.error e) s') s7
     else ∃ m, m < ts.length - i /\ ∃ i σ' H' vs ys, m = ts.length - i /\ i <= ts.length /\ Inv (cxK X scope x0 N s3 (upd H2 D (.lst [])) fp) [] σ' H' s7 /\ tn i s7.heap /\ (∀ b ∈ fp, H' b = none) /\ Same H2 H' /\ H' D = some (.lst vs) /\
      Rls X.K H' ⟨fun _ => none, fun a => ¬ Off P a \/ a = D⟩ ys vs /\ Hol X.K H' ⟨fun _ => none, fun a => ¬ Off P a \/ a = D⟩ σ' (List.replicate nv .emp ++ capS cap G) /\ ((ZA st dc de (List.replicate nv .emp ++ capS cap G) (ts.drop i)).bind fun zs => .ok (ys ++ zs)) = r /\ ys.length <= i) := by
    intro k s7 H7 J7 sm7 eK
    rw [eK, Res.bind_ok] at ecl
    have sm27 : Same H2 H7 := sm6.trans sm7
    have hD7 : H7 D = some (.lst vs) := sm7.kp _ _ (sm5.kp _ _ hDv Xg) Xg
    have r7 : Rls X.K H7 ⟨fun _ => none, fun a => ¬ Off P a \/ a = D⟩ ys vs := Rls.go (.same (sm5.trans sm7)) ys vs rys
    cases k with
    | false =>
     rw [if_neg Bool.false_ne_true] at ecl ⊢
     exact next J7 sm27 hD7 (fun b _ o e n => sm7.kp b o e n) r7 ecl (by omega)
    | true =>
     rw [if_pos rfl] at ecl ⊢
     cases eY : de G1 with
     | stuck => rw [eY] at ecl; exact absurd ecl.symm hr
     | exc c =>
      rw [eY] at ecl
      refine wpAny_mono (he s3 (upd H2 D (.lst [])) fp (ZF fp s2.heap) pnn _ s7 σ6 H7 (fun _ _ => False) J7 ⟨G1, P6, hol6.same sm7, by rw [eY]; exact fun H8 s8 => hW c ecl.symm H8 (sm27.trans s8)⟩) (fun xv s8 h8 => ?_) finx'
      obtain ⟨_, _, _, _, z⟩ := h8
      exact z.elim
     | ok yv =>
      rw [eY, Res.bind_ok] at ecl
      refine wpAny_mono (he s3 (upd H2 D (.lst [])) fp (ZF fp s2.heap) pnn _ s7 σ6 H7 (fun v H8 => Same H7 H8 /\ Rl X.K H8 P6 yv v) J7 ⟨G1, P6, hol6.same sm7, by rw [eY]; exact fun v H8 s r => ⟨s, r⟩⟩) (fun xv s8 h8 => ?_) finx'
      obtain ⟨v8, H8, J8, r8, sm8, rl8⟩ := h8
      have hD8 : H8 D = some (.lst vs) := sm8.kp _ _ hD7 Xg
      have lv := rys.length
      have tr6 : Tr H8 P6 H8 ⟨fun _ => none, fun a => ¬ Off P a \/ a = D⟩ := fun a o e _ q => ⟨e, fun _ z => (by cases z), by rw [<- g6.fbe]; exact q.2⟩
      refine wpAny_mono (WT (X := cxKT xz X scope x0 N s3 (upd H2 D (.lst [])) fp (ZF fp s2.heap)) _ s8 σ6 H8 (.ref D) [v8] (.ref D) [xv] (fun w H9 => H9 = upd H8 D (.lst (vs ++ [v8]))) J8 rfl (.cons r8 .nil) ⟨D, vs, v8, rfl, rfl, hD8, by rw [sizeLine_eq]; omega, rfl⟩) (fun _ s9 h9 => ?_) finx'
      obtain ⟨_, H9, J9, _, rfl⟩ := h9
      have trD : Tr H8 ⟨fun _ => none, fun a => ¬ Off P a \/ a = D⟩ (upd H8 D (.lst (vs ++ [v8]))) ⟨fun _ => none, fun a => ¬ Off P a \/ a = D⟩ := fun a o e _ q => ⟨by rw [Zn (fun z => q.2 (Or.inr z))]; exact e, q⟩
      have smD : Same H2 (upd H8 D (.lst (vs ++ [v8]))) := (sm27.trans sm8).updL hD hD8
      refine next J9 smD Zr (fun b hb o e n => by rw [Zn hb]; exact sm8.kp b o (sm7.kp b o e n) n) (Rls.append (Rls.go trD ys vs (Rls.go (.same sm8) ys vs r7)) (Zz.mpr ⟨v8, [], rfl, Rl.go trD yv v8 (Rl.go tr6 yv v8 rl8), Z5.mpr rfl⟩)) ?_ (by simp; omega)
      rw [<- ecl]
      cases ZA st dc de (List.replicate nv .emp ++ capS cap G) (ts.drop (i + 1)) <;> simp
   rcases ht s3 (upd H2 D (.lst [])) fp (ZF fp s2.heap) pnn with ⟨rfl, rfl⟩ | ⟨cx, rfl, tvc⟩
   ·exact wpAny_tests_nil (after true s6 H6 J6 (Same.refl _) rfl)
   ·cases eK : dc G1 with
    | stuck => rw [eK] at ecl; exact absurd ecl.symm hr
    | exc c =>
     rw [eK] at ecl
     refine wpAny_tests_one (wpAny_mono (tvc _ s6 σ6 H6 (fun _ _ => False) J6 ⟨G1, P6, hol6, by rw [eK]; exact fun H7 s => hW c ecl.symm H7 (sm6.trans s)⟩) (fun b s7 h7 => ?_) finx')
     obtain ⟨_, _, z⟩ := h7
     exact z.elim
    | ok k =>
     refine wpAny_tests_one (wpAny_mono (tvc _ s6 σ6 H6 (fun b H7 => b = k /\ Same H6 H7) J6 ⟨G1, P6, hol6, by rw [eK]; exact fun H7 s => ⟨rfl, s⟩⟩) (fun b s7 h7 => ?_) finx')
     obtain ⟨H7, J7, rfl, sm7⟩ := h7
     exact after b s7 H7 J7 sm7 eK
  ·have ei : i = ts.length := by omega
   subst ei
   rw [List.drop_length] at ecl
   have ecl' : r = .ok ys := by rw [<- ecl]; simp [ZA]
   refine wpAny_mono (T.done (cxK X scope x0 N s3 (upd H2 D (.lst [])) fp) rfl rfl rfl hc _ [] s σ' H' (fun _ _ => False) Ji (fpo H' fpn) tni (y2 (Nat.le_refl _))) (fun r' s1 hr' => ?_) fun _ _ z => z.elim
   obtain ⟨rfl, J1⟩ := hr'
   have trf : Tr H' ⟨fun _ => none, fun a => ¬ Off P a \/ a = D⟩ H' (P.fbd D) := fun a o e _ q => by
    have o1 : Off P a := Classical.byContradiction fun z => q.2 (Or.inl z)
    exact ⟨e, o1.1, fun z => z.elim o1.2 fun z => q.2 (Or.inr z)⟩
   exact fin s1 H' σ' vs ys ecl' J1 hDv sm (Rls.go trf ys vs rys)
 exact codeAny_compStart_list (loop _ rfl) (T.self _ 0 _ _ _ tn0 (loop _ rfl))
end
def VX (X : Cx) (scope : Scope) (x0 : Str) (N : List Str) (xz : Cx -> Value -> Shared -> Prop) : Prop :=
 ∀ (pins : List (Addr × Obj)) (σ : L2.St) (H3 : Hp) (s3 : Shared) (fp : List Addr) (pn : List (Addr × Obj)) (e : Value) (s' : Shared), Inv X pins σ H3 s3 -> (∀ b ∈ fp, FpOk X pins H3 b /\ b < s3.heap.objs.size) -> (∀ b ∈ fp, ∃ o, (b, o) ∈ pn) ->
  xz (cxK X scope x0 N s3 H3 fp pn) e s' -> notedBy (model X.prog X.w) X.A (compEnvC scope ((x0, s3.heap.objs.size + 1) :: Zy X.env scope.names []) s3.heap.objs.size X.env) (fun x s' => ∃ m, s'.heap.Ns s3.heap.objs.size m /\ ∀ h', Heap.SameBut s3.heap.objs.size s'.heap h' -> ∀ cenv : Env, cenv.locals = s3.heap.objs.size ->
   wpAny (model X.prog X.w) X.A (PySem.passOn "comprehension.variables-let-go" x cenv : Sem Value) (fun _ _ => False) X.xe { s' with heap := h' }) e s'
theorem U6 {X : Cx} {scope : Scope} {x0 : Str} {N : List Str} : VX X scope x0 N (fun _ _ _ => False) := fun _ _ _ _ _ _ _ _ _ _ _ h => h.elim
section
variable {X : Cx} {W : Str -> Hp -> Prop} {fl : Bool} {scope : Scope} {x0 : Str} {N : List Str} {nv : Nat} {cap : List Nat} {tg elt iter : Expr} {ifs : List Expr} {pos : Pos} {st : PyData -> List Sl -> Res (List Sl)} {it : DA} {dc : DT} {de : DE} {xz : Cx -> Value -> Shared -> Prop}
theorem U8 {pins : List (Addr × Obj)} {σ : L2.St} {H : Hp} {s : Shared} {P : Pv} {G : List Sl} {use : Option (Value -> Sem Unit)} {Q : Value -> Shared -> Prop} {pos' : Pos}
  (C : CompKk X scope x0 N nv cap) (hc : X.calm = true) (hk : Wb nv st) (hi : IV X W tg iter it)
  (hX : VX X scope x0 N xz) (hg : ∀ s₀ H₀ ex pn, GV (cxKT xz X scope x0 N s₀ H₀ ex pn) tg st) (ht : ∀ s₀ H₀ ex pn, (∀ b ∈ ex, ∃ o, (b, o) ∈ pn) -> CT (cxKT xz X scope x0 N s₀ H₀ ex pn) W ifs dc) (he : ∀ s₀ H₀ ex pn, (∀ b ∈ ex, ∃ o, (b, o) ∈ pn) -> EV (cxKT xz X scope x0 N s₀ H₀ ex pn) W elt de)
  (I : Inv X pins σ H s) (h : Hol X.K H P σ G)
  (hx : ∀ c, it G = .exc c -> ∀ H', Same H H' -> W c H') (hs0 : it G ≠ .stuck)
  (fin : ∀ ts, it G = .ok ts -> ts.length <= 16777216 /\ ZA st dc de (List.replicate nv .emp ++ capS cap G) ts ≠ .stuck /\ (∀ c, ZA st dc de (List.replicate nv .emp ++ capS cap G) ts = .exc c -> ∀ H', Same H H' -> W c H') /\ ∀ all, ZA st dc de (List.replicate nv .emp ++ capS cap G) ts = .ok all ->
   ∀ D vs H' s' c, Inv X pins σ H' s' -> FpOk X pins H' c -> (∃ m, s'.heap.Ns c m) -> (X.env.locals ≠ c /\ ∀ x a, X.env.cells.lookup x = some a -> a ≠ c) -> Same H H' -> H D = none -> H' D = some (.lst vs) -> Rls X.K H' (P.fbd D) all vs ->
    compPost (model X.prog X.w) X.A X.xe use Q (.ref D) c (.ok .next) s')
  (hs : ∀ x, foldedSetIterable iter X.env x = pure x := by intro _; rfl) :
  wpAny (model X.prog X.w) X.A (comprehension (.ListComp elt [⟨tg, iter, ifs, 0⟩] scope pos) scope X.env pos' (newList []) false (eval iter X.env) use) Q X.xe s := by
 refine wpAny_comprehension_free rfl hs (XA (C.has I.ok)) C.kind C.names (wpAny_mono (hi pins s σ H (fun J H' => Same H H' /\ ∃ ts, it G = .ok ts /\ Yld X.K J ts H' P) I ⟨G, P, h, ?_⟩) (fun v s1 h1 => wpAny_mono h1 (fun itv s2 h2 => ?_) fun _ _ z => z) fun _ _ z => z)
 ·cases e : it G with
  | ok ts => exact fun J H' s y => ⟨s, ts, rfl, y⟩
  | exc c => exact hx c e
  | stuck => exact absurd e hs0
 obtain ⟨itA, fp, tn, J, H2, rfl, I2, T, tn0, f2, sm2, ts, ets, y⟩ := h2
 obtain ⟨hlen, hns, hex, fin⟩ := fin ts ets
 have hD : H2 s2.heap.objs.size = none := I2.hok.fresh (Nat.le_refl _)
 refine wpAny_newObj_type (newEnvK C.one C.pone (fun h₁ hns₁ kp hcl => ?_))
 have I3 : Inv X pins σ (upd H2 s2.heap.objs.size (.lst [])) { s2 with heap := s2.heap.push { cls := .type "list", dict := none, data := .seq ([] : List Value).toArray } } :=
  I2.laid (t' := s2.toks) (fun b u e => Heap.get?_push_of_some _ e) (Nat.le_refl _) ⟨by show 0 <= sizeLine; exact Nat.zero_le _, [], 0, .nil, Heap.get?_push_size _ rfl⟩
 have sz : (s2.heap.push { cls := .type "list", dict := none, data := .seq ([] : List Value).toArray }).objs.size = s2.heap.objs.size + 1 := Heap.size_push _ _
 have hf3 : ∀ b ∈ fp, FpOk X pins (upd H2 s2.heap.objs.size (.lst [])) b /\ b < (s2.heap.push { cls := .type "list", dict := none, data := .seq ([] : List Value).toArray }).objs.size := fun b hb => by
  obtain ⟨o, ho, _⟩ := T.obj 0 _ tn0 b hb
  have lt := Heap.lt_size ho
  obtain ⟨a1, a2⟩ := f2 b hb
  exact ⟨⟨by rw [Zn (Nat.ne_of_lt lt)]; exact a1, a2⟩, by rw [sz]; exact Nat.lt_succ_of_lt lt⟩
 have tn3 : tn 0 h₁ := T.keep 0 _ _ tn0 fun b _ o e => kp b o (Heap.get?_push_of_some _ e)
 refine Vr (s3 := { s2 with heap := s2.heap.push { cls := .type "list", dict := none, data := .seq ([] : List Value).toArray } }) (D := s2.heap.objs.size) C hc hk hg ht he (h.same sm2) hD I3 T hf3 y hlen rfl hns (fun c ec H' sm => hex c ec H' (sm2.trans sm)) hns₁ kp hcl ⟨h₁, _, rfl⟩ tn3 (fun s' H' σ' vs all hall J' hl sm r => ?_) fun pn e s' pnn hx => hX pins σ _ _ fp pn e s' I3 hf3 pnn hx
 have IX := CompKk.stop I3 (fun b hb => (hf3 b hb).1) J'
 have fo : FpOk X pins H' (s2.heap.push { cls := .type "list", dict := none, data := .seq ([] : List Value).toArray }).objs.size := I3.fpOk (Nat.le_refl _) J'.free
 obtain ⟨m, hm, _⟩ := J'.loc
 exact fin all hall _ vs H' s' _ IX fo ⟨m, hm⟩ ⟨Ne.symm fo.2.1, fun x a e => fo.2.2.2.2.1 x a e⟩ (sm2.trans sm) (sm2.free hD) hl r
theorem V2 {i : Nat} {x : Str} {pos' : Pos} {d : DS} (C : CompKk X scope x0 N nv cap) (hc : X.calm = true) (hk : Wb nv st) (hi : IV X W tg iter it)
  (hX : VX X scope x0 N xz) (hg : ∀ s₀ H₀ ex pn, GV (cxKT xz X scope x0 N s₀ H₀ ex pn) tg st) (ht : ∀ s₀ H₀ ex pn, (∀ b ∈ ex, ∃ o, (b, o) ∈ pn) -> CT (cxKT xz X scope x0 N s₀ H₀ ex pn) W ifs dc) (he : ∀ s₀ H₀ ex pn, (∀ b ∈ ex, ∃ o, (b, o) ∈ pn) -> EV (cxKT xz X scope x0 N s₀ H₀ ex pn) W elt de)
  (hN : X.N.Nodup) (hix : X.N[i]? = some x) (hx : Loc X.env.scope x) {spos : Pos} (hsw : swapsWith (.ListComp elt [⟨tg, iter, ifs, 0⟩] scope pos) (some (.Name x pos')) spos.line X.env = pure true)
  (hs : ∀ x, foldedSetIterable iter X.env x = pure x) (hf : X.fn x = true \/ X.env.scope.names.lookup x = some .local)
  (hd : ∀ D σ H, tFS X.K W fl d D σ H -> ∃ G P, Hol X.K H P σ G /\ (∀ c, it G = .exc c -> ∀ H', Same H H' -> W c H') /\ it G ≠ .stuck /\ ∀ ts, it G = .ok ts -> ts.length <= 16777216 /\ ZA st dc de (List.replicate nv .emp ++ capS cap G) ts ≠ .stuck /\ (∀ c, ZA st dc de (List.replicate nv .emp ++ capS cap G) ts = .exc c -> ∀ H', Same H H' -> W c H') /\ ∀ all, ZA st dc de (List.replicate nv .emp ++ capS cap G) ts = .ok all ->
   ∀ p vs H', Same H H' -> H p = none -> H' p = some (.lst vs) -> Rls X.K H' (P.fbd p) all vs -> D.nx (σ.set i (some (.ref p))) H') : SV X W fl (.Assign [.Name x pos'] (.ListComp elt [⟨tg, iter, ifs, 0⟩] scope pos) spos) d := by
 intro pins s σ H D I hq
 obtain ⟨G, P, h, q1, q2, q3⟩ := hd D σ H hq
 rw [exec_Assign_Name_used _ _ _ _ hsw]
 refine wpAny_bind (wpAny_standAt (wpAny_bind ?_))
 show wpAny _ X.A (do let _ <- comprehension (.ListComp elt [⟨tg, iter, ifs, 0⟩] scope pos) scope X.env _ (newList []) false (eval iter X.env) (some (assign (.Name x pos') X.env))) _ _ s
 refine wpAny_bind (wpAny_mono (U8 (use := some (assign (.Name x pos') X.env)) (Q := fun _ s' => SP X pins D .next s') C hc hk hi hX hg ht he I h q1 q2 (fun ts ets => ?_) hs) (fun _ s' hq => wpAny_pure (wpAny_pure hq)) fun _ _ e => e)
 obtain ⟨hl, n1, n2, q4⟩ := q3 ts ets
 refine ⟨hl, n1, n2, fun all hall p vs H' s' c IX fo hm hne sm hp hl r => ?_⟩
 obtain ⟨m, hm⟩ := hm
 show wpAny _ X.A (assign (.Name x pos') X.env (.ref p)) _ _ _
 refine wpAny_assign_Name (XV IX hN hix hx (v := .ref p) rfl (fun s'' I'' ch => ?_) hf)
 obtain ⟨a, hsb, ha⟩ := ch
 have hca : c ≠ a := by
  rcases ha with rfl | ha
  ·exact Ne.symm hne.1
  ·exact Ne.symm (hne.2 x a ha)
 refine ⟨m, hm.sameBut hsb hca, fun h' hs' => ⟨_, H', atC I'' fo hs', q4 all hall p vs H' sm hp hl r⟩⟩
theorem ss_setCK {i : Nat} {x : Str} {is : List Nat} {pos' spos : Pos} (C : CompKk X scope x0 N nv cap) (hc : X.calm = true) (hk : Wb nv st) (hi : IV X W tg iter it)
  (hX : VX X scope x0 N xz) (hg : ∀ s₀ H₀ ex pn, GV (cxKT xz X scope x0 N s₀ H₀ ex pn) tg st) (ht : ∀ s₀ H₀ ex pn, (∀ b ∈ ex, ∃ o, (b, o) ∈ pn) -> CT (cxKT xz X scope x0 N s₀ H₀ ex pn) W ifs dc) (he : ∀ s₀ H₀ ex pn, (∀ b ∈ ex, ∃ o, (b, o) ∈ pn) -> EV (cxKT xz X scope x0 N s₀ H₀ ex pn) W elt de)
  (hN : X.N.Nodup) (hix : X.N[i]? = some x) (hx : Loc X.env.scope x) (hsw : swapsWith (.ListComp elt [⟨tg, iter, ifs, 0⟩] scope pos) (some (.Name x pos')) spos.line X.env = pure true := by rfl)
  (hs : ∀ x, foldedSetIterable iter X.env x = pure x := by intro _; rfl) (hf : X.fn x = true \/ X.env.scope.names.lookup x = some .local := by first | exact .inl rfl | exact .inr rfl | assumption) :
  SV X W fl (.Assign [.Name x pos'] (.ListComp elt [⟨tg, iter, ifs, 0⟩] scope pos) spos) (dSet i is (dL (YX nv cap st it dc de))) :=
 V2 C hc hk hi hX hg ht he hN hix hx hsw hs hf fun D σ H ⟨G, P, h, q⟩ => by
  unfold dSet dL YX at q
  obtain ⟨P1, h1, g⟩ := h.frz is
  refine ⟨frz is G, P1, h1, ?_⟩
  cases e : it (frz is G) with
  | stuck => rw [e] at q; exact q.elim
  | exc c => rw [e] at q; exact ⟨fun c' ec H' s => by cases ec; exact q H' P1 (g.trans (.same s)), (by intro z; cases z), fun ts z => by cases z⟩
  | ok ts =>
   refine ⟨fun c' ec => (by cases ec), (by intro z; cases z), fun ts' z => ?_⟩
   cases z
   rw [e, Res.bind_ok] at q
   split at q
   ·rename_i hl
    refine ⟨hl, ?_⟩
    cases e2 : ZA st dc de (List.replicate nv .emp ++ capS cap (frz is G)) ts with
    | stuck => rw [e2] at q; exact q.elim
    | exc c => rw [e2] at q; exact ⟨fun z => (by cases z), fun c' z H' s => by cases z; exact q H' P1 (g.trans (.same s)), fun all z => by cases z⟩
    | ok all =>
     rw [e2] at q
     refine ⟨fun z => (by cases z), fun c z => (by cases z), fun all' z p vs H' s hp hl r => ?_⟩
     cases z
     have h2 := (h1.same s).setVal i (Ux h1 s hp hl r)
     exact q _ H' _ (g.trans ((Go.same s).trans .del)) h2
   ·exact q.elim
end
def Qc (scope : Scope) (env : Env) (N0 N : List Str) (nv : Nat) (cap : List Nat) (x0 : Str) : Bool :=
 (List.range cap.length).all fun i => match (cap[i]? : Option Nat), (N[nv + i]? : Option Str) with
  | some j, some x => N0[j]? == some x && cf ((relabel scope env).names.lookup x) && cf (env.kindOf x) && (x != x0)
  | _, _ => true
def VS (scope : Scope) (env : Env) (N0 N : List Str) (nv : Nat) (cap : List Nat) (x0 : Str) : Bool :=
 (scope.names.all fun y => y.2 != .cell || y.1 == x0) && (scope.kind == .function) && (scope.names.all fun y => y.2 != .local || scope.names.lookup y.1 == some .local)
  && (scope.names.all fun y => y.2 != .free || (cf (env.kindOf y.1) && y.1 != x0)) && (N.length == nv + cap.length) && Qc scope env N0 N nv cap x0
theorem compokK {X : Cx} {scope : Scope} {x0 : Str} {N : List Str} {nv : Nat} {cap : List Nat} (h1 : ∀ (n : Nat) (cl : List (Str × Addr)), cellsFrom n scope.names cl = (x0, n) :: cl) (h2 : ∀ h : Heap, pushCells h scope.names = h.push { cls := .type "cell", data := .cell none }) (h : VS scope X.env X.N N nv cap x0 = true) : CompKk X scope x0 N nv cap := by
 unfold VS at h
 simp only [Bool.and_eq_true, List.all_eq_true] at h
 obtain ⟨⟨⟨⟨⟨k1, k2⟩, k3⟩, k4⟩, k5⟩, k6⟩ := h
 refine ⟨h1, h2, fun y hy e => ?_, by simpa using k2, fun y hy e => ?_, fun y hy e => ?_, by simpa using k5, fun i j x hc hx => ?_⟩
 ·have := k1 y hy
  rw [e] at this
  simpa using this
 ·have := k3 y hy
  rw [e] at this
  simpa using this
 ·have := k4 y hy
  rw [e] at this
  have q : cf (X.env.kindOf y.1) = true /\ (y.1 != x0) = true := by simpa using this
  exact ⟨Uh q.1, by simpa using q.2⟩
 ·unfold Qc at k6
  rw [List.all_eq_true] at k6
  have hi : i < cap.length := (List.getElem?_eq_some_iff.mp hc).1
  have := k6 i (List.mem_range.mpr hi)
  rw [hc, hx] at this
  simp only [Bool.and_eq_true] at this
  exact ⟨by simpa using this.1.1.1, Uh this.1.1.2, Uh this.1.2, by simpa using this.2⟩
end Fx
namespace K15
open PySem Fx
open Lw
def YA : DS :=
  (dIf (tNot (tV (d1 fAll (dL (YX 1 [] (Z4 0) (iSeq (dVar 1)) tT (Yh Ze (Zg (dVar 0) dNil)))))))
  (Ws "BadPoint" (Zg (dC (.str (PySem.Str.ofString "an amount is a fraction without a common divisor, its lower number from 1 on"))) dNil))
  YW)
def Yc : DS :=
  dSeq (dIf (tOr (tNot (tV (d1 (fIs isList) (dVar 1)))) (tV (d2 fNe (d1 fLen (dVar 1)) (dVar 0))))
  (Ws "BadPoint" (Zg (dC (.str (PySem.Str.ofString "a point is a list with one fraction for each kind"))) dNil))
  YW)
  YA
def Zb : DF := runF 2 2 Yc
def YU : DS :=
  (dFor (Z4 1) [] (iSeq (dVar 0))
  (XM (Yh Zb (Zg (d1 fLen (d2 fIx (dVar 0) (dC (.int 0)))) (Zg (dVar 1) dNil)))))
def ZD : DS :=
  dSeq (dIf (tOr (tNot (tV (d1 (fIs isList) (d2 fIx (dVar 0) (dC (.int 0)))))) (tOr (tV (d2 fLt (d1 fLen (d2 fIx (dVar 0) (dC (.int 0)))) (dC (.int 1)))) (tV (d2 fGt (d1 fLen (d2 fIx (dVar 0) (dC (.int 0)))) (dC (.int 4))))))
  (Ws "BadPoint" (Zg (dC (.str (PySem.Str.ofString "points are lists of 1 to 4 amounts"))) dNil))
  YW)
  YU
def Zp : DS :=
  dSeq (dIf (tOr (tNot (tV (d1 (fIs isList) (dVar 0)))) (tOr (tV (d2 fLt (d1 fLen (dVar 0)) (dC (.int 1)))) (tV (d2 fGt (d1 fLen (dVar 0)) (dC (.int 8))))))
  (Ws "BadPoint" (Zg (dC (.str (PySem.Str.ofString "points are a list of 1 to 8"))) dNil))
  YW)
  ZD
def Zd : DF := runF 2 1 Zp
def Vm : DS :=
  dNev
def Vn : DS :=
  dSeq dNev
  Vm
def Vo : DS :=
  dSeq dNev
  Vn
def Vp : DS :=
  dSeq dNev
  Vo
def Vq : DS :=
  dSeq dNev
  Vp
def X5 : DS :=
  dSeq (XM (Yh Zb (Zg (d1 fLen (d2 fIx (dVar 0) (dC (.int 0)))) (Zg (dVar 1) dNil))))
  Vq
def X6 : DS :=
  dSeq (XM (Yh Zd (Zg (dVar 0) dNil)))
  X5
def ZZ : DF := runF 5 2 X6
def W4 : DS :=
  (dRet (d2 fIx (dLst (Zg (dC (.int 1)) (Zg (dTup (Zg (dC (.int 2)) (Zg (dC (.int 4)) dNil))) (Zg (dTup (Zg (dC (.int 1)) (Zg (dC (.int 0)) dNil))) (Zg (dTup (Zg (dC (.int 1)) (Zg (d1 fNeg (dC (.int 2))) dNil))) (Zg (dTup (Zg (dC (.bool true)) (Zg (dC (.int 1)) dNil))) (Zg (dC (.str (PySem.Str.ofString "1"))) (Zg (dC .none) (Zg (dTup (Zg (dC (.int 1)) dNil)) (Zg (dLst (Zg (dC (.int 1)) (Zg (dC (.int 1)) dNil))) (Zg (dTup (Zg (dC (.int 0)) (Zg (dC (.int 2)) dNil))) dNil))))))))))) (d2 fMod (dVar 0) (dC (.int 10)))))
def YH : DF := runQ 1 1 W4
def Yo : DS :=
  (dRet (dVar 3))
def Yp : DS :=
  dSeq (X8 3 [] (d2 fMod (d2 fDiv (dVar 1) (dC (.int 30))) (d1 fLen (dVar 0))) (Yh YH (Zg (d2 fDiv (dVar 1) (dC (.int 3))) dNil)))
  Yo
def Yq : DS :=
  dSeq (Ue 3 [] (WR (dVar 0)))
  Yp
def ZX : DS :=
  dSeq (dIf (tV (d2 fEq (dVar 2) (dC (.int 1))))
  (dRet (d2 fAdd (dVar 0) (dLst (Zg (dTup (Zg (dC (.int 1)) (Zg (dC (.int 1)) dNil))) dNil))))
  YW)
  Yq
def Zu : DS :=
  dSeq (dIf (tV (d2 fEq (dVar 2) (dC (.int 0))))
  (dRet (d1 UV (dVar 0)))
  YW)
  ZX
def YB : DS :=
  dSeq (dSet 2 [] (d2 fMod (dVar 1) (dC (.int 3))))
  Zu
def Zk : DF := runQ 4 2 YB
def Xh : DS :=
  (dRet (dVar 3))
def Xi : DS :=
  dSeq (X8 3 [] (d2 fMod (d2 fDiv (dVar 2) (dC (.int 7))) (dLenN 3)) (Yh Zk (Zg (dIxN 3 (dC (.int 0))) (Zg (dVar 2) dNil))))
  Xh
def Xj : DS :=
  dSeq (Ue 3 [] (YX 1 [] (Z4 0) (iSeq (dVar 0)) tT (dL (WR (dVar 0)))))
  Xi
def YD : DS :=
  dSeq (dIf (tV (d2 fEq (dVar 1) (dC (.int 4))))
  (dRet (dL (YX 1 [] (Z4 0) (iSeq (dVar 0)) tT (dLst dNil))))
  YW)
  Xj
def Yi : DS :=
  dSeq (dIf (tV (d2 fEq (dVar 1) (dC (.int 3))))
  (dRet (dLst (Zg (dL (YX 1 [] (Z4 0) (iRng (dC (.int 5))) tT (dTup (Zg (dC (.int 1)) (Zg (dC (.int 1)) dNil))))) dNil)))
  YW)
  YD
def Z0 : DS :=
  dSeq (dIf (tV (d2 fEq (dVar 1) (dC (.int 2))))
  (dRet (dL (YX 1 [0] (Z4 0) (iRng (dC (.int 9))) tT (dL (WR (d2 fIx (dVar 1) (dC (.int 0))))))))
  YW)
  Yi
def ZN : DS :=
  dSeq (dIf (tV (d2 fEq (dVar 1) (dC (.int 1))))
  (dRet (dLst dNil))
  YW)
  Z0
def ZR : DS :=
  dSeq (dIf (tV (d2 fEq (dVar 1) (dC (.int 0))))
  (dRet (d2 fIx (dLst (Zg (dC .none) (Zg (d1 UV (dVar 0)) (Zg (dC (.int 3)) dNil)))) (d2 fMod (dVar 2) (dC (.int 3)))))
  YW)
  ZN
def Zo : DF := runQ 4 3 ZR
def VP : DS :=
  (dRet (d2 fEq (dVar 7) (dC (.int 2))))
def UX : DS :=
  dSeq (dTryA 8 (XM (Wt ZZ (Zg (dVar 3) (Zg (dVar 4) dNil)))) (subs ["BadPoint"])
  (dSet 7 [] (d2 fAdd (dVar 7) (d1 fInt (d1 fIsX (dVar 8))))))
  VP
def UY : DS :=
  dSeq (dTry (XM (Wt ZZ (Zg (dVar 3) (Zg (dVar 4) dNil)))) (subs ["BadPoint"])
  (dSet 7 [] (d2 fAdd (dVar 7) (dC (.int 1)))))
  UX
def X7 : DS :=
  dSeq (dSet 7 [] (dC (.int 0)))
  UY
def XF : DS :=
  dSeq (dIf (tV (d2 fLt (dVar 5) (dC (.int 6))))
  (dSeq (dSet 3 [] (Yh Zo (Zg (dVar 3) (Zg (dVar 5) (Zg (dVar 6) dNil)))))
  (dSeq (dIf (tV (d2 fEq (dVar 5) (dC (.int 3))))
  (dSet 4 [] (dL (YX 1 [] (Z4 0) (iRng (dC (.int 5))) tT (dTup (Zg (dC (.int 1)) (Zg (dC (.int 1)) dNil))))))
  YW)
  (dIf (tV (d2 fEq (dVar 5) (dC (.int 4))))
  (dSet 4 [] (dLst dNil))
  YW)))
  (dSet 4 [] (Yh Zk (Zg (dVar 4) (Zg (dVar 6) dNil)))))
  X7
def UZ : DS :=
  dSeq (dSet 6 [] (Yh Zh (Zg (dVar 0) (Zg (dC (.int 3)) dNil))))
  XF
def U0 : DS :=
  dSeq (dSet 5 [] (d2 fMod (Yh Zh (Zg (dVar 0) (Zg (dC (.int 2)) dNil))) (dC (.int 8))))
  UZ
def U1 : DS :=
  dSeq (dSet 4 [] (dL (YX 1 [0] (Z4 0) (iRng (dVar 1)) tT (dTup (Zg (d2 fSub (d2 fMod (Yh Zh (Zg (dVar 1) (Zg (d2 fAdd (dC (.int 30)) (dVar 0)) dNil))) (dC (.int 9))) (dC (.int 4))) (Zg (dC (.int 1)) dNil))))))
  U0
def U2 : DS :=
  dSeq (dSet 3 [] (dL (YX 1 [1, 0] (Z4 0) (iRng (dVar 2)) tT (dL (YX 1 [2, 0] (Z4 0) (iRng (dVar 1)) tT (dTup (Zg (d2 fSub (d2 fMod (Yh Zh (Zg (dVar 1) (Zg (d2 fAdd (d2 fAdd (dC (.int 5)) (dVar 2)) (dVar 0)) dNil))) (dC (.int 9))) (dC (.int 4))) (Zg (dC (.int 1)) dNil))))))))
  U1
def U3 : DS :=
  dSeq (dSet 2 [] (d2 fAdd (dC (.int 2)) (d2 fMod (Yh Zh (Zg (dVar 0) (Zg (dC (.int 1)) dNil))) (dC (.int 5)))))
  U2
def d_law : DS :=
  dSeq (dSet 1 [] (d2 fAdd (dC (.int 1)) (d2 fMod (Yh Zh (Zg (dVar 0) (Zg (dC (.int 0)) dNil))) (dC (.int 4)))))
  U3
def Ud : DF := runQ 9 1 d_law
end K15
namespace K15
open PySem Fx
open Lw
theorem U7 (f : DF) : ∀ (xs : List PyData), (∀ x ∈ xs, ∃ b, f [x] = .ok (.bool b)) -> ∃ (ys : List PyData) (b : Bool), ZA (Z4 0) tT (Yh f (Zg (dVar 0) dNil)) [.emp] xs = .ok ys /\ allT ys = .ok b /\ (b = true -> ∀ x ∈ xs, f [x] = .ok (.bool true)) /\ ((∀ x ∈ xs, f [x] = .ok (.bool true)) -> b = true)
 | [], _ => ⟨[], true, rfl, rfl, (fun _ x hx => absurd hx List.not_mem_nil), fun _ => rfl⟩
 | x :: xs, h => by
  obtain ⟨b, e⟩ := h x List.mem_cons_self
  obtain ⟨ys, c, e1, e2, e3, e4⟩ := U7 f xs fun x hx => h x (List.mem_cons_of_mem _ hx)
  refine ⟨.bool b :: ys, b && c, ?_, by simp [allT, e2], fun z y hy => ?_, fun z => ?_⟩
  ·unfold ZA
   simp [e, e1]
  ·rw [Bool.and_eq_true] at z
   rcases List.mem_cons.mp hy with rfl | hy
   ·rw [e, z.1]
   ·exact e3 z.2 y hy
  ·rw [e4 fun x hx => z x (List.mem_cons_of_mem _ hx), Bool.and_true]
   have := z x List.mem_cons_self
   rw [e] at this
   cases this
   rfl
theorem comp_no (f : DF) {xs : List PyData} (h : ∀ x ∈ xs, ∃ b, f [x] = .ok (.bool b)) (hx : ∃ x ∈ xs, f [x] = .ok (.bool false)) : ∃ ys : List PyData, ZA (Z4 0) tT (Yh f (Zg (dVar 0) dNil)) [.emp] xs = .ok ys /\ allT ys = .ok false := by
 obtain ⟨ys, b, e1, e2, e3, _⟩ := U7 f xs h
 cases b with
 | false => exact ⟨ys, e1, e2⟩
 | true =>
  obtain ⟨x, hm, e⟩ := hx
  rw [e3 rfl x hm] at e
  cases e
theorem Uz {k : Nat} {xs : List PyData} (hl : xs.length = k) (hk : k <= 1000) (h : ∀ x ∈ xs, ∃ b, Ze [x] = .ok (.bool b)) (hx : ∃ x ∈ xs, Ze [x] = .ok (.bool false)) : Zb [.int k, .list xs] = .exc "BadPoint" := by
 obtain ⟨ys, e1, e2⟩ := comp_no Ze h hx
 have hl2 : k <= 16777216 := by omega
 simp [Zb, Yc, YA, runF, hl, YQ, e1, e2, hl2]
theorem VA {k : Nat} {xs : List PyData} (hl : xs.length = k) (hk : k <= 1000) (h : ∀ x ∈ xs, Ze [x] = .ok (.bool true)) : Zb [.int k, .list xs] = .ok .none := by
 obtain ⟨ys, b, e1, e2, e3, e4⟩ := U7 Ze xs fun x hx => ⟨true, h x hx⟩
 rw [e4 h] at e2
 have hl2 : k <= 16777216 := by omega
 simp [Zb, Yc, YA, runF, hl, YQ, e1, e2, hl2]
theorem Uy {k : Nat} {xs : List PyData} (hl : xs.length ≠ k) : Zb [.int k, .list xs] = .exc "BadPoint" := by
 have h : ¬ ((xs.length : Int) = (k : Int)) := by omega
 simp [Zb, Yc, runF, YQ, h]
theorem pt_kind {k : Int} {t : PyData} (h : fIs isList t = .ok (.bool false)) : Zb [.int k, t] = .exc "BadPoint" := by
 simp [Zb, Yc, runF, h, -fIs]
theorem Z6 (i j : Int) : fEq (.int i) (.int j) = .ok (.bool (decide (i = j))) := by simp [fEq]
theorem div3 : W3 3 = true := by decide
theorem div7 : W3 7 = true := by decide
theorem div30 : W3 30 = true := by decide
def ptT (p : List Int) : List PyData := p.map fun (i : Int) => fr ((i : Int) : Rat)
theorem XB (p : List Int) : (ptT p).length = p.length := by simp [ptT]
theorem UA (p : List Int) : ∀ x ∈ ptT p, Ze [x] = .ok (.bool true) := fun x hx => by
 obtain ⟨i, _, rfl⟩ := List.mem_map.mp hx
 exact WX _
theorem pt_ok {p : List Int} (h : p.length <= 4) : Zb [.int p.length, .list (ptT p)] = .ok .none := VA (XB p) (by omega) (UA p)
theorem odd_ok (c : Int) : ∃ u, YH [.int c] = .ok u /\ Ze [u] = .ok (.bool false) := by
 obtain ⟨r, m, h⟩ : ∃ r : Nat, Int.fmod c 10 = (r : Int) /\ r < 10 := XH (n := 10) (by decide)
 have g1 : Int.gcd 2 4 = 2 := by decide
 have g2 : Int.gcd 0 2 = 2 := by decide
 have top : ∀ u, atP [.int 1, .tuple [.int 2, .int 4], .tuple [.int 1, .int 0], .tuple [.int 1, .int (-2)], .tuple [.bool true, .int 1], .str "1", .none, .tuple [.int 1], .list [.int 1, .int 1], .tuple [.int 0, .int 2]] (r : Int) = some u -> YH [.int c] = .ok u := fun u hu => by
  simp [YH, W4, runQ, runF, m, hu]
 rcases (show r = 0 \/ r = 1 \/ r = 2 \/ r = 3 \/ r = 4 \/ r = 5 \/ r = 6 \/ r = 7 \/ r = 8 \/ r = 9 by omega) with rfl | rfl | rfl | rfl | rfl | rfl | rfl | rfl | rfl | rfl
 ·exact ⟨_, top _ rfl, by simp [Ze, Zm, runQ, runF]⟩
 ·exact ⟨_, top _ rfl, by simp [Ze, Zm, Zx, ZI, runQ, runF, at0, at1, YQ, YY, cd_ok, Z6, g1]⟩
 ·exact ⟨_, top _ rfl, by simp [Ze, Zm, Zx, ZI, runQ, runF, at0, at1, YQ, YY]⟩
 ·exact ⟨_, top _ rfl, by simp [Ze, Zm, Zx, ZI, runQ, runF, at0, at1, YQ, YY]⟩
 ·have w := Vu (.bool true) rfl
  exact ⟨_, top _ rfl, by simp [Ze, Zm, Zx, runQ, runF, at0, at1, YQ, w]⟩
 ·exact ⟨_, top _ rfl, by simp [Ze, Zm, runQ, runF]⟩
 ·exact ⟨_, top _ rfl, by simp [Ze, Zm, runQ, runF]⟩
 ·exact ⟨_, top _ rfl, by simp [Ze, Zm, runQ, runF, YQ]⟩
 ·exact ⟨_, top _ rfl, by simp [Ze, Zm, runQ, runF]⟩
 ·exact ⟨_, top _ rfl, by simp [Ze, Zm, Zx, ZI, runQ, runF, at0, at1, YQ, YY, cd_ok, Z6, g2]⟩
theorem WL {t : PyData} {xs : List PyData} {p : Nat} (h : p < xs.length) : Xq 3 [.val a, .val b, .val c, .own xs] t (.int p) = .ok (.nx [.val a, .val b, .val c, .own (xs.set p t)]) := by
 have : ixP xs.length (p : Int) = some p := by
  unfold ixP
  rw [if_pos (by omega), if_pos (by omega)]
  simp
 simp [Xq, this]
inductive Spt (k : Nat) : PyData -> Prop where
 | kind {t : PyData} (h : fIs isList t = .ok (.bool false)) : Spt k t
 | long {xs : List PyData} (h : xs.length = k + 1) (hf : ∀ x ∈ xs, Ze [x] = .ok (.bool true)) : Spt k (.list xs)
 | amount {xs : List PyData} (h : xs.length = k) (hf : Zb [.int k, .list xs] = .exc "BadPoint") : Spt k (.list xs)
theorem Spt.bad {k : Nat} {t : PyData} (h : Spt k t) : Zb [.int k, t] = .exc "BadPoint" := by
 cases h with
 | kind h => exact pt_kind h
 | long h _ => exact Uy (by omega)
 | amount h hf => exact hf
theorem YZ (p : List Int) (h1 : 1 <= p.length) (h4 : p.length <= 4) (c : Int) : ∃ t, Zk [.list (ptT p), .int c] = .ok t /\ Spt p.length t := by
 obtain ⟨r3, m3, h3⟩ : ∃ r : Nat, Int.fmod c 3 = (r : Int) /\ r < 3 := XH (n := 3) (by decide)
 obtain ⟨q, mq, hq⟩ := XH (c := Int.fdiv c 30) (n := p.length) (by omega)
 have hl := XB p
 have top : ∀ t : PyData, Zu [.val (.list (ptT p)), .val (.int c), .val (.int r3), .emp] = .ok (.rt t) -> Zk [.list (ptT p), .int c] = .ok t := fun t ht => by
  simp [Zk, YB, runQ, runF, m3, ht]
 rcases (show r3 = 0 \/ r3 = 1 \/ r3 = 2 by omega) with rfl | rfl | rfl
 ·exact ⟨.tuple (ptT p), top _ (by simp [Zu, Z6]), .kind rfl⟩
 ·have hs2 : p.length <= 16777215 := by omega
  refine ⟨.list (ptT p ++ [.tuple [.int 1, .int 1]]), top _ (by simp [Zu, ZX, Z6, hl, hs2]), .long (by simp [hl]) fun x hx => ?_⟩
  rcases List.mem_append.mp hx with hx | hx
  ·exact UA p x hx
  ·rw [List.mem_singleton.mp hx, show PyData.tuple [.int 1, .int 1] = fr ((1 : Int) : Rat) from (UT 1)]
   exact WX _
 ·obtain ⟨u, eu, hu⟩ := odd_ok (Int.fdiv c 3)
  have hpl : q < (ptT p).length := by omega
  have h0 : ¬ p.length = 0 := by omega
  have h0' : p ≠ [] := fun z => h0 (by rw [z]; rfl)
  have es := WL (a := .list (ptT p)) (b := .int c) (c := .int 2) (t := u) hpl
  refine ⟨.list ((ptT p).set q u), top _ ?_, .amount (by simp [hl]) (Uz (by simp [hl]) (by omega) (fun x hx => ?_) ⟨u, List.mem_set hpl u, hu⟩)⟩
  ·generalize ptT p = ls at *
   simp [Zu, ZX, Yq, Yp, Yo, Z6, div3, div30, hl, mq, eu, h0, h0', es, -Xq]
  ·rcases List.mem_or_eq_of_mem_set hx with hx | rfl
   ·exact ⟨true, UA p x hx⟩
   ·exact ⟨false, hu⟩
theorem atH (x : PyData) (xs : List PyData) : atP (x :: xs) 0 = some x := by
 have : ixP (x :: xs).length 0 = some 0 := by
  unfold ixP
  rw [if_pos (by decide), if_pos (by simp)]
  rfl
 unfold atP
 rw [this]
 rfl
def bCk : DS := (XM (Yh Zb (Zg (d1 fLen (d2 fIx (dVar 0) (dC (.int 0)))) (Zg (dVar 1) dNil))))
theorem VF (xs : List PyData) (P : List PyData) : ∀ (ys : List PyData) (s : Sl), (∀ y ∈ ys, Zb [.int xs.length, y] = .ok .none \/ Zb [.int xs.length, y] = .exc "BadPoint") -> (∃ y ∈ ys, Zb [.int xs.length, y] = .exc "BadPoint") -> forL (Z4 1) bCk ys [.val (.list (.list xs :: P)), s] = .exc "BadPoint"
 | [], _, _, h => by obtain ⟨y, hy, _⟩ := h; cases hy
 | y :: ys, s, h, hx => by
  unfold forL
  rcases h y List.mem_cons_self with e | e
  ·have hx' : ∃ y ∈ ys, Zb [.int xs.length, y] = .exc "BadPoint" := by
    obtain ⟨z, hz, ez⟩ := hx
    rcases List.mem_cons.mp hz with rfl | hz
    ·rw [e] at ez; cases ez
    ·exact ⟨z, hz, ez⟩
   have r := VF xs P ys (.val y) (fun y hy => h y (List.mem_cons_of_mem _ hy)) hx'
   have q : bCk [.val (.list (.list xs :: P)), .val y] = .ok (.nx [.val (.list (.list xs :: P)), .val y]) := by simp [bCk, atH, e]
   simp [q, r]
  ·have q : bCk [.val (.list (.list xs :: P)), .val y] = .exc "BadPoint" := by simp [bCk, atH, e]
   simp [q]
theorem WU (xs : List PyData) (P : List PyData) : ∀ (ys : List PyData) (s : Sl), (∀ y ∈ ys, Zb [.int xs.length, y] = .ok .none) -> ∃ s', forL (Z4 1) bCk ys [.val (.list (.list xs :: P)), s] = .ok (.nx [.val (.list (.list xs :: P)), s'])
 | [], s, _ => ⟨s, rfl⟩
 | y :: ys, s, h => by
  have e := h y List.mem_cons_self
  obtain ⟨s', r⟩ := WU xs P ys (.val y) (fun y hy => h y (List.mem_cons_of_mem _ hy))
  refine ⟨s', ?_⟩
  unfold forL
  have q : bCk [.val (.list (.list xs :: P)), .val y] = .ok (.nx [.val (.list (.list xs :: P)), .val y]) := by simp [bCk, atH, e]
  simp [q, r]
theorem d2e : YU = dFor (Z4 1) [] (iSeq (dVar 0)) bCk := rfl
theorem WF {t : PyData} (h : fIs isList t = .ok (.bool false)) : Zd [t] = .exc "BadPoint" := by
 simp [Zd, Zp, runF, h, -fIs]
theorem VQ {xs : List PyData} (h : xs.length < 1 \/ 8 < xs.length) : Zd [.list xs] = .exc "BadPoint" := by
 by_cases h1 : (xs.length : Int) < 1
 ·simp [Zd, Zp, runF, h1]
 ·have h2 : (8 : Int) < (xs.length : Int) := by omega
  simp [Zd, Zp, runF, h1, h2]
theorem Wj {t : PyData} {P : List PyData} (hl : P.length <= 7) (h : fIs isList t = .ok (.bool false)) : Zd [.list (t :: P)] = .exc "BadPoint" := by
 have h1 : ¬ ((P.length : Int) + 1 < 1) := by omega
 have h2 : ¬ ((8 : Int) < (P.length : Int) + 1) := by omega
 simp [Zd, Zp, ZD, runF, h1, h2, atH, h, -fIs, show fIs isList (.list (t :: P)) = .ok (.bool true) from rfl]
theorem YE {xs P : List PyData} (hl : P.length <= 7) (h : xs.length < 1 \/ 4 < xs.length) : Zd [.list (.list xs :: P)] = .exc "BadPoint" := by
 have h1 : ¬ ((P.length : Int) + 1 < 1) := by omega
 have h2 : ¬ ((8 : Int) < (P.length : Int) + 1) := by omega
 by_cases h3 : (xs.length : Int) < 1
 ·simp [Zd, Zp, ZD, runF, h1, h2, atH, h3]
 ·have h4 : (4 : Int) < (xs.length : Int) := by omega
  simp [Zd, Zp, ZD, runF, h1, h2, atH, h3, h4]
theorem WE {xs P : List PyData} (hl : P.length <= 7) (h1 : 1 <= xs.length) (h4 : xs.length <= 4) (h : ∀ y ∈ .list xs :: P, Zb [.int xs.length, y] = .ok .none \/ Zb [.int xs.length, y] = .exc "BadPoint") (hx : ∃ y ∈ .list xs :: P, Zb [.int xs.length, y] = .exc "BadPoint") : Zd [.list (.list xs :: P)] = .exc "BadPoint" := by
 have z1 : ¬ ((P.length : Int) + 1 < 1) := by omega
 have z2 : ¬ ((8 : Int) < (P.length : Int) + 1) := by omega
 have z3 : ¬ ((xs.length : Int) < 1) := by omega
 have z4 : ¬ ((4 : Int) < (xs.length : Int)) := by omega
 have e := VF xs P (.list xs :: P) .emp h hx
 simp [Zd, Zp, ZD, d2e, runF, z1, z2, atH, z3, z4, e]
theorem U5 {xs P : List PyData} (hl : P.length <= 7) (h1 : 1 <= xs.length) (h4 : xs.length <= 4) (h : ∀ y ∈ .list xs :: P, Zb [.int xs.length, y] = .ok .none) : Zd [.list (.list xs :: P)] = .ok .none := by
 have z1 : ¬ ((P.length : Int) + 1 < 1) := by omega
 have z2 : ¬ ((8 : Int) < (P.length : Int) + 1) := by omega
 have z3 : ¬ ((xs.length : Int) < 1) := by omega
 have z4 : ¬ ((4 : Int) < (xs.length : Int)) := by omega
 obtain ⟨s', e⟩ := WU xs P (.list xs :: P) .emp h
 simp [Zd, Zp, ZD, d2e, runF, z1, z2, atH, z3, z4, e]
theorem V0 {P p : PyData} (h : Zd [P] = .exc "BadPoint") : ZZ [P, p] = .exc "BadPoint" := by
 simp [ZZ, X6, runF, h]
theorem Up {xs P : List PyData} {p : PyData} (h : Zd [.list (.list xs :: P)] = .ok .none) (h2 : Zb [.int xs.length, p] = .exc "BadPoint") : ZZ [.list (.list xs :: P), p] = .exc "BadPoint" := by
 simp [ZZ, X6, X5, runF, h, atH, h2]
def ptsT (ps : List (List Int)) : List PyData := ps.map fun p => .list (ptT p)
theorem Wy (ps : List (List Int)) : (ptsT ps).length = ps.length := by simp [ptsT]
structure Pts (k : Nat) (ps : List (List Int)) : Prop where
 k1 : 1 <= k
 k4 : k <= 4
 n2 : 2 <= ps.length
 n6 : ps.length <= 6
 len : ∀ p ∈ ps, p.length = k
theorem Pts.good {k : Nat} {ps : List (List Int)} (h : Pts k ps) {y : PyData} (hy : y ∈ ptsT ps) : Zb [.int k, y] = .ok .none := by
 obtain ⟨p, hp, rfl⟩ := List.mem_map.mp hy
 rw [<- h.len p hp]
 exact pt_ok (by rw [h.len p hp]; exact h.k4)
theorem copy_pts (ps : List (List Int)) (C : List Sl) : ZA (Z4 0) tT (dL (WR (dVar 0))) [.emp] (ptsT ps) = .ok (ptsT ps) := by
 exact Ys (st := Z4 0) (e := dL (WR (dVar 0))) (C := [.emp]) (fun p => .list (ptT p)) (fun p => .list (ptT p)) ps fun p _ => ⟨[.val (.list (ptT p))], rfl, by simp⟩
theorem Pts.set_bad {k : Nat} {p : List Int} {ps : List (List Int)} (h : Pts k (p :: ps)) {q : Nat} (hq : q < ps.length + 1) {t : PyData} (ht : Spt k t) : Zd [.list ((ptsT (p :: ps)).set q t)] = .exc "BadPoint" := by
 have n2 := h.n2
 have n6 := h.n6
 have hk := h.len p List.mem_cons_self
 simp only [List.length_cons] at n2 n6
 have hl := Wy ps
 cases q with
 | zero =>
  show Zd [.list (t :: ptsT ps)] = _
  cases ht with
  | kind hkd => exact Wj (by omega) hkd
  | @long xs hx hf =>
   by_cases z : 4 < xs.length
   ·exact YE (by omega) (.inr z)
   ·have hne : ∃ y, y ∈ ptsT ps := by
     cases e : ptsT ps with
     | nil => rw [e] at hl; simp at hl; omega
     | cons y ys => exact ⟨y, List.mem_cons_self⟩
    have hb : ∀ y ∈ ptsT ps, Zb [.int xs.length, y] = .exc "BadPoint" := fun y hy => by
     obtain ⟨p', hp', rfl⟩ := List.mem_map.mp hy
     exact Uy (by rw [XB, h.len p' (List.mem_cons_of_mem _ hp')]; omega)
    refine WE (by omega) (by omega) (by omega) (fun y hy => ?_) ?_
    ·rcases List.mem_cons.mp hy with rfl | hy
     ·exact .inl (VA rfl (by omega) hf)
     ·exact .inr (hb y hy)
    ·obtain ⟨y, hy⟩ := hne
     exact ⟨y, List.mem_cons_of_mem _ hy, hb y hy⟩
  | @amount xs hx hf =>
   have k1 := h.k1
   have k4 := h.k4
   refine WE (by omega) (by omega) (by omega) (fun y hy => ?_) ⟨_, List.mem_cons_self, by rw [hx]; exact hf⟩
   rw [hx]
   rcases List.mem_cons.mp hy with rfl | hy
   ·exact .inr hf
   ·exact .inl (h.good (List.mem_cons_of_mem _ hy))
 | succ q =>
  show Zd [.list (.list (ptT p) :: (ptsT ps).set q t)] = _
  have k1 := h.k1
  have k4 := h.k4
  have hp : (ptT p).length = k := by rw [XB, hk]
  have hm : t ∈ (ptsT ps).set q t := List.mem_set (by omega) t
  refine WE (by simp; omega) (by omega) (by omega) (fun y hy => ?_) ⟨t, List.mem_cons_of_mem _ hm, by rw [hp]; exact ht.bad⟩
  rw [hp]
  rcases List.mem_cons.mp hy with rfl | hy
  ·exact .inl (h.good List.mem_cons_self)
  ·rcases List.mem_or_eq_of_mem_set hy with hy | rfl
   ·exact .inl (h.good (List.mem_cons_of_mem _ hy))
   ·exact .inr ht.bad
theorem Pts.right {k : Nat} {p : List Int} {ps : List (List Int)} (h : Pts k (p :: ps)) : Zd [.list (ptsT (p :: ps))] = .ok .none := by
 have n6 := h.n6
 have k1 := h.k1
 have k4 := h.k4
 simp only [List.length_cons] at n6
 have hk := h.len p List.mem_cons_self
 have hp : (ptT p).length = k := by rw [XB, hk]
 have hl := Wy ps
 exact U5 (P := ptsT ps) (by omega) (by omega) (by omega) fun y hy => by rw [hp]; exact h.good hy
theorem Us {k : Nat} {p : List Int} {ps : List (List Int)} (h : Pts k (p :: ps)) (w : Nat) (hw : w < 6) (c : Int) : ∃ t, Zo [.list (ptsT (p :: ps)), .int w, .int c] = .ok t /\ Zd [t] = .exc "BadPoint" := by
 have n2 := h.n2
 have n6 := h.n6
 have k1 := h.k1
 have k4 := h.k4
 have hk := h.len p List.mem_cons_self
 have hl : (ptsT (p :: ps)).length = ps.length + 1 := by rw [Wy]; rfl
 simp only [List.length_cons] at n2 n6
 rcases (show w = 0 \/ w = 1 \/ w = 2 \/ w = 3 \/ w = 4 \/ w = 5 by omega) with rfl | rfl | rfl | rfl | rfl | rfl
 ·obtain ⟨r3, m3, h3⟩ : ∃ r : Nat, Int.fmod c 3 = (r : Int) /\ r < 3 := XH (n := 3) (by decide)
  have top : ∀ t, atP [.none, .tuple (ptsT (p :: ps)), .int 3] (r3 : Int) = some t -> Zo [.list (ptsT (p :: ps)), .int (0 : Nat), .int c] = .ok t := fun t ht => by
   generalize ptsT (p :: ps) = ls at *
   simp [Zo, ZR, runQ, runF, Z6, m3, ht]
  rcases (show r3 = 0 \/ r3 = 1 \/ r3 = 2 by omega) with rfl | rfl | rfl
  ·exact ⟨_, top _ rfl, WF rfl⟩
  ·exact ⟨_, top _ rfl, WF rfl⟩
  ·exact ⟨_, top _ rfl, WF rfl⟩
 ·refine ⟨.list [], ?_, VQ (.inl (by simp))⟩
  generalize ptsT (p :: ps) = ls at *
  simp [Zo, ZR, ZN, runQ, runF, Z6]
 ·refine ⟨.list (List.replicate 9 (.list (ptT p))), ?_, VQ (.inr (by simp))⟩
  have e := Ys (st := Z4 0) (e := dL (WR (d2 fIx (dVar 1) (dC (.int 0))))) (C := [.emp, .val (.list (ptsT (p :: ps)))]) (fun t : Nat => PyData.int (t : Int)) (fun _ => .list (ptT p)) (List.range 9) fun t ht => ⟨[.val (.int (t : Int)), .val (.list (ptsT (p :: ps)))], rfl, by simp [ptsT, atH]⟩
  rw [<- Y8] at e
  have er : ((List.range 9).map fun _ => PyData.list (ptT p)) = List.replicate 9 (.list (ptT p)) := rfl
  rw [er] at e
  have r9 : Wx 9 = true := by decide
  have l9 : (rngT 0 9).length <= 16777216 := by decide
  generalize ptsT (p :: ps) = ls at *
  simp [Zo, ZR, ZN, Z0, runQ, runF, Z6, r9, l9, e]
 ·refine ⟨.list [.list (List.replicate 5 (.tuple [.int 1, .int 1]))], ?_, YE (P := []) (by simp) (.inr (by simp))⟩
  have e := Ys (st := Z4 0) (e := (dTup (Zg (dC (.int 1)) (Zg (dC (.int 1)) dNil)))) (C := [.emp]) (fun t : Nat => PyData.int (t : Int)) (fun _ => .tuple [.int 1, .int 1]) (List.range 5) fun t ht => ⟨[.val (.int (t : Int))], rfl, by simp⟩
  rw [<- Y8] at e
  have er : ((List.range 5).map fun _ => PyData.tuple [.int 1, .int 1]) = List.replicate 5 (.tuple [.int 1, .int 1]) := rfl
  rw [er] at e
  have r9 : Wx 5 = true := by decide
  have l9 : (rngT 0 5).length <= 16777216 := by decide
  generalize ptsT (p :: ps) = ls at *
  simp [Zo, ZR, ZN, Z0, Yi, runQ, runF, Z6, r9, l9, e]
 ·refine ⟨.list (.list [] :: (ps.map fun _ => .list [])), ?_, YE (by simp; omega) (.inl (by simp))⟩
  have e := Ys (st := Z4 0) (e := (dLst dNil)) (C := [.emp]) (fun p => PyData.list (ptT p)) (fun _ => .list []) (p :: ps) fun t ht => ⟨[.val (.list (ptT t))], rfl, by simp⟩
  have e' : ZA (Z4 0) tT (dLst dNil) [.emp] (ptsT (p :: ps)) = .ok (.list [] :: (ps.map fun _ => .list [])) := e
  have l9 : (ptsT (p :: ps)).length <= 16777216 := by omega
  generalize ptsT (p :: ps) = ls at *
  simp [Zo, ZR, ZN, Z0, Yi, YD, runQ, runF, Z6, l9, e']
 ·obtain ⟨q, mq, hq⟩ := XH (c := Int.fdiv c 7) (n := (ptsT (p :: ps)).length) (by omega)
  obtain ⟨t, e1, e2⟩ := YZ p (by omega) (by omega) c
  rw [hk] at e2
  refine ⟨.list ((ptsT (p :: ps)).set q t), ?_, h.set_bad (by omega) e2⟩
  have e := copy_pts (p :: ps) []
  have l9 : (ptsT (p :: ps)).length <= 16777216 := by omega
  have hh : atP (ptsT (p :: ps)) 0 = some (.list (ptT p)) := atH _ _
  have es := WL (a := .list (ptsT (p :: ps))) (b := .int 5) (c := .int c) (t := t) hq
  have hn : ¬ ((ptsT (p :: ps)).length : Int) = 0 := by omega
  have hn' : ptsT (p :: ps) ≠ [] := fun z => by rw [z] at hl; simp at hl
  generalize ptsT (p :: ps) = ls at *
  generalize ptT p = l0 at *
  simp [Zo, ZR, ZN, Z0, Yi, YD, Xj, Xi, Xh, runQ, runF, Z6, l9, e, hh, e1, div7, hn, hn', mq, es, -Xq]
theorem cells (ns : List Int) : ∃ c : Nat -> Int, ∀ k : Nat, Zh [.list (ns.map .int), .int k] = .ok (.int (c k)) :=
 ⟨fun k => Classical.choose (Qb ns k (by omega)), fun k => Classical.choose_spec (Qb ns k (by omega))⟩
theorem Uq {a b c s4 s5 P p : PyData} (e : ZZ [P, p] = .exc "BadPoint") : X7 [.val a, .val b, .val c, .val P, .val p, .val s4, .val s5, .emp, .emp] = .ok (.rt (.bool true)) := by
 have s1 : subs ["BadPoint"] "BadPoint" = true := by decide
 simp [X7, UY, UX, VP, e, s1, Z6, -subs]
theorem law_ok (ns : List Int) (_hl : ns.length <= 63) : Ud [.list (ns.map .int)] = .ok (.bool true) := by
 obtain ⟨c, hc⟩ := cells ns
 obtain ⟨k, mk, hk⟩ : ∃ r : Nat, Int.fmod (c 0) 4 = (r : Int) /\ r < 4 := XH (n := 4) (by decide)
 obtain ⟨m, mm, hm⟩ : ∃ r : Nat, Int.fmod (c 1) 5 = (r : Int) /\ r < 5 := XH (n := 5) (by decide)
 obtain ⟨w, mw, hw⟩ : ∃ r : Nat, Int.fmod (c 2) 8 = (r : Int) /\ r < 8 := XH (n := 8) (by decide)
 have c0 : Zh [.list (ns.map .int), .int 0] = .ok (.int (c 0)) := hc 0
 have c1 : Zh [.list (ns.map .int), .int 1] = .ok (.int (c 1)) := hc 1
 have c2 : Zh [.list (ns.map .int), .int 2] = .ok (.int (c 2)) := hc 2
 have c3 : Zh [.list (ns.map .int), .int 3] = .ok (.int (c 3)) := hc 3
 let row (j : Nat) : List Int := (List.range (1 + k)).map fun i => Int.fmod (c (5 + j + i)) 9 - 4
 have rlen : ∀ j, (row j).length = 1 + k := fun j => by simp [row]
 let pt : List Int := (List.range (1 + k)).map fun i => Int.fmod (c (30 + i)) 9 - 4
 have hr1 : Wx (1 + (k : Int)) = true := WO (n := 1 + k) (by omega)
 have hr2 : Wx (2 + (m : Int)) = true := WO (n := 2 + m) (by omega)
 have t1 : (1 + (k : Int)).toNat = 1 + k := by omega
 have t2 : (2 + (m : Int)).toNat = 2 + m := by omega
 have l1 : (rngT 0 (1 + k)).length <= 16777216 := by rw [Vx]; omega
 have l2 : (rngT 0 (2 + m)).length <= 16777216 := by rw [Vx]; omega
 have ei : ∀ j : Nat, ZA (Z4 0) tT (dTup (Zg (d2 fSub (d2 fMod (Yh Zh (Zg (dVar 1) (Zg (d2 fAdd (d2 fAdd (dC (.int 5)) (dVar 2)) (dVar 0)) dNil))) (dC (.int 9))) (dC (.int 4))) (Zg (dC (.int 1)) dNil))) [.emp, .val (.list (ns.map .int)), .val (.int j)] (rngT 0 (1 + k)) = .ok (ptT (row j)) := fun j => by
  have e := Ys (st := Z4 0) (e := (dTup (Zg (d2 fSub (d2 fMod (Yh Zh (Zg (dVar 1) (Zg (d2 fAdd (d2 fAdd (dC (.int 5)) (dVar 2)) (dVar 0)) dNil))) (dC (.int 9))) (dC (.int 4))) (Zg (dC (.int 1)) dNil)))) (C := [.emp, .val (.list (ns.map .int)), .val (.int j)]) (fun t : Nat => PyData.int (t : Int)) (fun i => fr ((Int.fmod (c (5 + j + i)) 9 - 4 : Int) : Rat)) (List.range (1 + k)) fun i _ => ⟨[.val (.int i), .val (.list (ns.map .int)), .val (.int j)], rfl, by
   have q := hc (5 + j + i)
   rw [show ((5 + j + i : Nat) : Int) = 5 + (j : Int) + (i : Int) by omega] at q
   rw [<- UT]
   simp [q]⟩
  rw [<- Y8] at e
  rw [e]
  simp [ptT, row, List.map_map, Function.comp_def]
 have eo := Ys (st := Z4 0) (e := (dL (YX 1 [2, 0] (Z4 0) (iRng (dVar 1)) tT (dTup (Zg (d2 fSub (d2 fMod (Yh Zh (Zg (dVar 1) (Zg (d2 fAdd (d2 fAdd (dC (.int 5)) (dVar 2)) (dVar 0)) dNil))) (dC (.int 9))) (dC (.int 4))) (Zg (dC (.int 1)) dNil)))))) (C := [.emp, .val (.int (1 + (k : Int))), .val (.list (ns.map .int))]) (fun t : Nat => PyData.int (t : Int)) (fun j => .list (ptT (row j))) (List.range (2 + m)) fun j _ => ⟨[.val (.int j), .val (.int (1 + (k : Int))), .val (.list (ns.map .int))], rfl, by
  have q := ei j
  generalize ptT (row j) = z at *
  simp [hr1, t1, l1, q]⟩
 rw [<- Y8] at eo
 have ep := Ys (st := Z4 0) (e := (dTup (Zg (d2 fSub (d2 fMod (Yh Zh (Zg (dVar 1) (Zg (d2 fAdd (dC (.int 30)) (dVar 0)) dNil))) (dC (.int 9))) (dC (.int 4))) (Zg (dC (.int 1)) dNil)))) (C := [.emp, .val (.list (ns.map .int))]) (fun t : Nat => PyData.int (t : Int)) (fun i => fr ((Int.fmod (c (30 + i)) 9 - 4 : Int) : Rat)) (List.range (1 + k)) fun i _ => ⟨[.val (.int i), .val (.list (ns.map .int))], rfl, by
   have q := hc (30 + i)
   rw [show ((30 + i : Nat) : Int) = 30 + (i : Int) by omega] at q
   rw [<- UT]
   simp [q]⟩
 rw [<- Y8] at ep
 have ep' : ZA (Z4 0) tT (dTup (Zg (d2 fSub (d2 fMod (Yh Zh (Zg (dVar 1) (Zg (d2 fAdd (dC (.int 30)) (dVar 0)) dNil))) (dC (.int 9))) (dC (.int 4))) (Zg (dC (.int 1)) dNil))) [.emp, .val (.list (ns.map .int))] (rngT 0 (1 + k)) = .ok (ptT pt) := by
  rw [ep]
  simp [ptT, pt, List.map_map, Function.comp_def]
 obtain ⟨p, ps, hps⟩ : ∃ p ps, (List.range (2 + m)).map row = p :: ps := by
  rw [show 2 + m = (1 + m) + 1 by omega, List.range_succ_eq_map]
  exact ⟨_, _, rfl⟩
 have eo' : ((List.range (2 + m)).map fun j => PyData.list (ptT (row j))) = ptsT (p :: ps) := by
  rw [<- hps]
  simp [ptsT, List.map_map, Function.comp_def]
 rw [eo'] at eo
 have hP : Pts (1 + k) (p :: ps) := by
  rw [<- hps]
  exact ⟨by omega, by omega, by simp, by simp; omega, fun q hq => by
   obtain ⟨j, _, rfl⟩ := List.mem_map.mp hq
   exact rlen j⟩
 have hpt : pt.length = 1 + k := by simp [pt]
 have top : ∀ t : PyData, XF [.val (.list (ns.map .int)), .val (.int (1 + (k : Int))), .val (.int (2 + (m : Int))), .val (.list (ptsT (p :: ps))), .val (.list (ptT pt)), .val (.int w), .val (.int (c 3)), .emp, .emp] = .ok (.rt t) -> Ud [.list (ns.map .int)] = .ok t := fun t ht => by
  generalize ptsT (p :: ps) = z at *
  generalize ptT pt = z2 at *
  simp [Ud, d_law, U3, U2, U1, U0, UZ, runQ, runF, c0, c1, c2, c3, mk, mm, mw, hr1, hr2, t1, t2, l1, l2, eo, ep', ht]
 refine top _ ?_
 by_cases w6 : w < 6
 ·obtain ⟨t, e1, e2⟩ := Us hP w w6 (c 3)
  have w6' : (w : Int) < 6 := by omega
  have r5 : Wx 5 = true := by decide
  have l5 : (rngT 0 5).length <= 16777216 := by decide
  have e5 := Ys (st := Z4 0) (e := (dTup (Zg (dC (.int 1)) (Zg (dC (.int 1)) dNil)))) (C := [.emp]) (fun t : Nat => PyData.int (t : Int)) (fun _ => .tuple [.int 1, .int 1]) (List.range 5) fun t ht => ⟨[.val (.int (t : Int))], rfl, by simp⟩
  rw [<- Y8] at e5
  generalize ((List.range 5).map fun _ => PyData.tuple [.int 1, .int 1]) = z5 at e5
  have tl := fun q => Uq (a := .list (ns.map .int)) (b := .int (1 + (k : Int))) (c := .int (2 + (m : Int))) (s4 := .int w) (s5 := .int (c 3)) (V0 (p := q) e2)
  have tl1 := tl (.list z5)
  have tl2 := tl (.list [])
  have tl3 := tl (.list (ptT pt))
  generalize ptsT (p :: ps) = z at *
  generalize ptT pt = z2 at *
  by_cases w3 : w = 3
  ·subst w3
   have e1' : Zo [.list z, .int 3, .int (c 3)] = .ok t := e1
   have tl1' : X7 [.val (.list (ns.map .int)), .val (.int (1 + (k : Int))), .val (.int (2 + (m : Int))), .val t, .val (.list z5), .val (.int 3), .val (.int (c 3)), .emp, .emp] = .ok (.rt (.bool true)) := tl1
   simp [XF, e1', Z6, r5, l5, e5, tl1']
  ·by_cases w4 : w = 4
   ·subst w4
    have e1' : Zo [.list z, .int 4, .int (c 3)] = .ok t := e1
    have tl2' : X7 [.val (.list (ns.map .int)), .val (.int (1 + (k : Int))), .val (.int (2 + (m : Int))), .val t, .val (.list []), .val (.int 4), .val (.int (c 3)), .emp, .emp] = .ok (.rt (.bool true)) := tl2
    simp [XF, e1', Z6, tl2']
   ·have w3' : ¬ (w : Int) = 3 := by omega
    have w4' : ¬ (w : Int) = 4 := by omega
    simp [XF, w6', e1, Z6, w3', w4', tl3]
 ·have w6' : ¬ (w : Int) < 6 := by omega
  obtain ⟨t, e1, e2⟩ := YZ pt (by omega) (by omega) (c 3)
  have hp0 : (ptT p).length = 1 + k := by rw [XB]; exact hP.len p List.mem_cons_self
  have b : ZZ [.list (ptsT (p :: ps)), t] = .exc "BadPoint" := Up hP.right (by rw [hp0, <- hpt]; exact e2.bad)
  have tl := Uq (a := .list (ns.map .int)) (b := .int (1 + (k : Int))) (c := .int (2 + (m : Int))) (s4 := .int w) (s5 := .int (c 3)) b
  generalize ptsT (p :: ps) = z at *
  generalize ptT pt = z2 at *
  simp [XF, w6', e1, tl]
end K15
namespace K15
open PySem PySem.Spec PyProof.Rows L2 Fx
open Lw
variable {P : Program} {w : World} {K : PySem.W.Frag} {mg : Str -> Option Value} {base : Heap} {k : Nat} {fa : Addr} {fd : FuncData}
set_option maxHeartbeats 0
set_option smartUnfolding false
def top (i : Nat) : Stmt := PySem.Challenge.pw_limitdesk_k15_mixes_refused.main.body.getD i (.Pass ⟨0, 0, 0, 0⟩)
abbrev Yv : Stmt := top 5
theorem Vg : FnScope ["value"] ["value"] (Zi Yv) := ⟨rfl, rfl, rfl, by decide +kernel, rfl, by decide +kernel, by decide +kernel⟩
theorem Vk (F : Fun K "is_whole" "is_whole" Yv fa fd) (hm : mg "is_whole" = some (.ref fa)) (b : YK K fd ["value"] []) (z_isinstance : mg "isinstance" = none) (z_int : mg "int" = none) (z_bool : mg "bool" = none) :
  Fx.Cle P w K mg base (k + 1) "is_whole" 1 Yf := by
 exact X9 F hm b Vg rfl rfl fun cdv A outer s H E hr =>
  (Zs (Z9 (Fx.ev_and (YI Fx.kit_int (show bootBuiltins "int" = some (.type "int") by decide +kernel) rfl z_isinstance rfl z_int (Zc 0)) (Fx.ev_one (Fx.ev_not (YI Fx.kit_bool (show bootBuiltins "bool" = some (.type "bool") by decide +kernel) rfl z_isinstance rfl z_bool (Zc 0)))))))
abbrev ZC : Stmt := top 6
theorem Zv : FnScope ["a", "b", "rest"] ["a", "b"] (Zi ZC) := ⟨rfl, rfl, rfl, by decide +kernel, rfl, by decide +kernel, by decide +kernel⟩
theorem XC (F : Fun K "common_divisor" "common_divisor" ZC fa fd) (hm : mg "common_divisor" = some (.ref fa)) (b : YK K fd ["a", "b"] []) (z_abs : mg "abs" = none) :
  Fx.Cle P w K mg base (k + 1) "common_divisor" 2 Z2 := by
 exact X9 F hm b Zv rfl rfl fun cdv A outer s H E hr =>
  (Zj (Yn (i := 0) Zv.nd rfl (Or.inl rfl) (Fx.ev_abs rfl z_abs (Zc 0)))
  (Zj (Yn (i := 1) Zv.nd rfl (Or.inl rfl) (Fx.ev_abs rfl z_abs (Zc 1)))
  (Zj (Fx.ss_while PassesOwn.never (Z8 (UH hr.units) (Zc 1) Zf (ZV _))
  (Zj (Yn (i := 2) Zv.nd rfl (Or.inl rfl) (Yg Ym (Zc 0) (Zc 1)))
  (Zj (Yn (i := 0) Zv.nd rfl (Or.inl rfl) (Zc 1))
  (Zs (Yn (i := 1) Zv.nd rfl (Or.inl rfl) (Zc 2))))))
  (Zs (Z9 (Zc 0))))))
abbrev ZT : Stmt := top 7
theorem We : FnScope ["value"] ["value"] (Zi ZT) := ⟨rfl, rfl, rfl, by decide +kernel, rfl, by decide +kernel, by decide +kernel⟩
theorem Wh (F : Fun K "is_fraction" "is_fraction" ZT fa fd) (hm : mg "is_fraction" = some (.ref fa)) (b : YK K fd ["value"] []) (z_isinstance : mg "isinstance" = none) (z_tuple : mg "tuple" = none) (z_len : mg "len" = none) (C_is_whole : Fx.Cle P w K mg base k "is_whole" 1 Yf) (C_common_divisor : Fx.Cle P w K mg base k "common_divisor" 2 Z2) :
  Fx.Cle P w K mg base (k + 1) "is_fraction" 1 Ze := by
 exact X9 F hm b We rfl rfl fun cdv A outer s H E hr =>
  (Zj (YV (Fx.tv_w (Ve (XU (XT (YI UL (show bootBuiltins "tuple" = some (.type "tuple") by decide +kernel) rfl z_isinstance rfl z_tuple (Zc 0)) (fun _ => rfl))) (WJ (Z8 (UH hr.units) (Y5 rfl z_len (Zc 0)) Zf (ZV _)))))
  (Zs (Z9 Fx.ev_bl))
  Yj)
  (Zj (YV (Fx.tv_w (Ve (XU (XT (ZQ (Fx.Cle.cal C_is_whole) hr rfl (Za (Xm (Zc 0) Zf (fun _ _ => rfl)) Zl)) (fun _ => rfl))) (WJ (XU (XT (ZQ (Fx.Cle.cal C_is_whole) hr rfl (Za (Xm (Zc 0) Zf (fun _ _ => rfl)) Zl)) (fun _ => rfl))))))
  (Zs (Z9 Fx.ev_bl))
  Yj)
  (Zs (Z9 (Fx.ev_and (UW Fx.op_geF (Xm (Zc 0) Zf (fun _ _ => rfl)) Zf (ZV _)) (Fx.ev_one (UW (YT hr.units) (ZQ (Fx.Cle.cal C_common_divisor) hr rfl (Za (Xm (Zc 0) Zf (fun _ _ => rfl)) (Za (Xm (Zc 0) Zf (fun _ _ => rfl)) Zl))) Zf (ZV _))))))))
abbrev ZU : Stmt := top 12
theorem Wf : FnScope ["kinds", "point"] ["kinds", "point"] (Zi ZU) := ⟨rfl, rfl, rfl, by decide +kernel, rfl, by decide +kernel, by decide +kernel⟩
theorem Wi {cl : Str -> Value} {X_BadPoint : Addr} (F : Fun K "check_point" "check_point" ZU fa fd) (hm : mg "check_point" = some (.ref fa)) (b : YK K fd ["kinds", "point"] []) (z_isinstance : mg "isinstance" = none) (z_list : mg "list" = none) (z_len : mg "len" = none) (z_all : mg "all" = none) (c_BadPoint : Fx.XCls K mg "BadPoint" X_BadPoint) (e_BadPoint : cl "BadPoint" = .ref X_BadPoint) (C_is_fraction : Fx.Cle P w K mg base k "is_fraction" 1 Ze) :
  Fx.Clx P w K mg base cl (k + 1) "check_point" 2 Zb := by
 exact Qa F hm b Wf rfl rfl fun cdv A outer s H E W hr =>
  (Zj (YV (Fx.tv_w (Ve (XU (XT (YI WC (show bootBuiltins "list" = some (.type "list") by decide +kernel) rfl z_isinstance rfl z_list (Zc 1)) (fun _ => rfl))) (WJ (Z8 (UH hr.units) (Y5 rfl z_len (Zc 1)) (Zc 0) (ZV _)))))
  (Zs (XS Z1.pin c_BadPoint e_BadPoint (Za W2 Zl) rfl))
  Yj)
  (Zs (YV (XU (XT (Fx.ev_all rfl z_all (X4 (XY (N := ["amount"]) (nv := 1) (cap := []) (XI rfl) rfl (Ya (by decide)) (VJ (Zc 1)) (Fx.compx_xw Z1) (fun _ _ _ _ => (YC (i := 0) (show List.Nodup (["amount"] : List Str) from by decide +kernel) rfl (Or.inl rfl))) (fun _ _ _ _ hp1 => YR) (fun _ _ _ _ hp1 => (ZQ (Fx.Cle.cal C_is_fraction) hr rfl (Za (Zc 0) Zl)))))) (fun _ => rfl)))
  (Zs (XS Z1.pin c_BadPoint e_BadPoint (Za W2 Zl) rfl))
  Yj)))
abbrev ZL : Stmt := top 40
theorem Y0 : FnScope ["points", "point"] ["points"] (Zi ZL) := ⟨rfl, rfl, rfl, by decide +kernel, rfl, by decide +kernel, by decide +kernel⟩
theorem XZ {cl : Str -> Value} {X_BadPoint : Addr} (F : Fun K "check_points" "check_points" ZL fa fd) (hm : mg "check_points" = some (.ref fa)) (b : YK K fd ["points"] []) (z_isinstance : mg "isinstance" = none) (z_list : mg "list" = none) (z_len : mg "len" = none) (g_MOST_POINTS : ∃ t, mg "MOST_POINTS" = some (.int 8 t)) (g_MOST_KINDS : ∃ t, mg "MOST_KINDS" = some (.int 4 t)) (c_BadPoint : Fx.XCls K mg "BadPoint" X_BadPoint) (e_BadPoint : cl "BadPoint" = .ref X_BadPoint) (C_check_point : Fx.Clx P w K mg base cl k "check_point" 2 Zb) :
  Fx.Clx P w K mg base cl (k + 1) "check_points" 1 Zd := by
 obtain ⟨t_MOST_POINTS, g_MOST_POINTS⟩ := g_MOST_POINTS; obtain ⟨t_MOST_KINDS, g_MOST_KINDS⟩ := g_MOST_KINDS; exact Qa F hm b Y0 rfl rfl fun cdv A outer s H E W hr =>
  (Zj (YV (Fx.tv_w (Ve (XU (XT (YI WC (show bootBuiltins "list" = some (.type "list") by decide +kernel) rfl z_isinstance rfl z_list (Zc 0)) (fun _ => rfl))) (Ve (Z8 VD (Y5 rfl z_len (Zc 0)) Zf (ZV _)) (WJ (Z8 Fx.op_gtF (Y5 rfl z_len (Zc 0)) (VN rfl g_MOST_POINTS) (ZV _))))))
  (Zs (XS Z1.pin c_BadPoint e_BadPoint (Za W2 Zl) rfl))
  Yj)
  (Zj (YV (Fx.tv_w (Ve (XU (XT (YI WC (show bootBuiltins "list" = some (.type "list") by decide +kernel) rfl z_isinstance rfl z_list (Xm (Zc 0) Zf (fun _ _ => rfl))) (fun _ => rfl))) (Ve (Z8 VD (Y5 rfl z_len (Xm (Zc 0) Zf (fun _ _ => rfl))) Zf (ZV _)) (WJ (Z8 Fx.op_gtF (Y5 rfl z_len (Xm (Zc 0) Zf (fun _ _ => rfl))) (VN rfl g_MOST_KINDS) (ZV _))))))
  (Zs (XS Z1.pin c_BadPoint e_BadPoint (Za W2 Zl) rfl))
  Yj)
  (Zs (Fx.ss_for (V5 Z1) rfl (VJ (Zc 0)) (YC (i := 1) Y0.nd rfl (Or.inl rfl))
  (Zs (Vf (ZQ (Fx.Clx.cal Z1.pin C_check_point) hr rfl (Za (Y5 rfl z_len (Xm (Zc 0) Zf (fun _ _ => rfl))) (Za (Zc 1) Zl)))))))))
abbrev YF : Stmt := top 42
theorem V3 : FnScope ["points", "point", "rows", "goal", "told"] ["points", "point"] (Zi YF) := ⟨rfl, rfl, rfl, by decide +kernel, rfl, by decide +kernel, by decide +kernel⟩
theorem V6 {cl : Str -> Value} (F : Fun K "told_as" "told_as" YF fa fd) (hm : mg "told_as" = some (.ref fa)) (b : YK K fd ["points", "point"] []) (z_len : mg "len" = none) (C_check_points : Fx.Clx P w K mg base cl k "check_points" 1 Zd) (C_check_point : Fx.Clx P w K mg base cl k "check_point" 2 Zb) :
  Fx.Clx P w K mg base cl (k + 1) "told_as" 2 ZZ := by
 exact Qa F hm b V3 rfl rfl fun cdv A outer s H E W hr =>
  (Zj (Vf (ZQ (Fx.Clx.cal Z1.pin C_check_points) hr rfl (Za (Zc 0) Zl)))
  (Zj (Vf (ZQ (Fx.Clx.cal Z1.pin C_check_point) hr rfl (Za (Y5 rfl z_len (Xm (Zc 0) Zf (fun _ _ => rfl))) (Za (Zc 1) Zl))))
  (Zj Xp
  (Zj Xp
  (Zj Xp
  (Zj Xp
  (Zs Xp)))))))
abbrev ZS : Stmt := top 44
theorem Wd : FnScope ["_law_script", "_law_k"] ["_law_script", "_law_k"] (Zi ZS) := ⟨rfl, rfl, rfl, by decide +kernel, rfl, by decide +kernel, by decide +kernel⟩
theorem Wg (F : Fun K "_law_cell_at" "_law_cell_at" ZS fa fd) (hm : mg "_law_cell_at" = some (.ref fa)) (b : YK K fd ["_law_script", "_law_k"] []) (z_len : mg "len" = none) :
  Fx.Cle P w K mg base (k + 1) "_law_cell_at" 2 Zh := by
 exact X9 F hm b Wd rfl rfl fun cdv A outer s H E hr =>
  (Zj (YV (Z8 VD (Zc 1) (Y5 rfl z_len (Zc 0)) (ZV _))
  (Zs (Z9 (Xm (Zc 0) (Zc 1) (fun _ _ => rfl))))
  Yj)
  (Zj (YV (Z8 (YT hr.units) (Zc 0) (Xw Zl) (ZV _))
  (Zs (Z9 Zf))
  Yj)
  (Zs (Z9 (Yg YN (Yg Fx.op_mulF (Xm (Zc 0) (Yg Ym (Zc 1) (Y5 rfl z_len (Zc 0))) (fun _ _ => rfl)) Zf) (Zc 1))))))
abbrev YG : Stmt := top 45
theorem V4 : FnScope ["_law_cell"] ["_law_cell"] (Zi YG) := ⟨rfl, rfl, rfl, by decide +kernel, rfl, by decide +kernel, by decide +kernel⟩
theorem V7 (F : Fun K "_law_odd" "_law_odd" YG fa fd) (hm : mg "_law_odd" = some (.ref fa)) (b : YK K fd ["_law_cell"] []) :
  Fx.Cle P w K mg base (k + 1) "_law_odd" 1 YH := by
 exact X9 F hm b V4 rfl rfl fun cdv A outer s H E hr =>
  (Zs (Z9 (Xm (Xw (Za Zf (Za (Y4 (Za Zf (Za Zf Zl))) (Za (Y4 (Za Zf (Za Zf Zl))) (Za (Y4 (Za Zf (Za (Fx.ev_neg Zf) Zl))) (Za (Y4 (Za Fx.ev_bl (Za Zf Zl))) (Za W2 (Za Fx.ev_non (Za (Y4 (Za Zf Zl)) (Za (Xw (Za Zf (Za Zf Zl))) (Za (Y4 (Za Zf (Za Zf Zl))) Zl))))))))))) (Yg Ym (Zc 0) Zf) (fun _ _ => rfl))))
abbrev Zt : Stmt := top 46
theorem Z3 : FnScope ["_law_point", "_law_cell", "_law_way", "_law_made"] ["_law_point", "_law_cell"] (Zi Zt) := ⟨rfl, rfl, rfl, by decide +kernel, rfl, by decide +kernel, by decide +kernel⟩
theorem Xk (F : Fun K "_law_spoilt_point" "_law_spoilt_point" Zt fa fd) (hm : mg "_law_spoilt_point" = some (.ref fa)) (b : YK K fd ["_law_point", "_law_cell"] []) (z_tuple : mg "tuple" = none) (z_list : mg "list" = none) (z_len : mg "len" = none) (C_law_odd : Fx.Cle P w K mg base k "_law_odd" 1 YH) :
  Fx.Cle P w K mg base (k + 1) "_law_spoilt_point" 2 Zk := by
 exact X9 F hm b Z3 rfl rfl fun cdv A outer s H E hr =>
  (Zj (Yn (i := 2) Z3.nd rfl (Or.inl rfl) (Yg Ym (Zc 1) Zf))
  (Zj (YV (Z8 (YT hr.units) (Zc 2) Zf (ZV _))
  (Zs (Z9 (VM rfl z_tuple (Zc 0))))
  Yj)
  (Zj (YV (Z8 (YT hr.units) (Zc 2) Zf (ZV _))
  (Zs (Z9 (Yg YN (Zc 0) (Xw (Za (Y4 (Za Zf (Za Zf Zl))) Zl)))))
  Yj)
  (Zj (Fx.ss_setO (i := 3) Z3.nd rfl (Or.inl rfl) (Vi rfl z_list (Zc 0)))
  (Zj (Vw (i := 3) rfl (Yg Ym (Yg Vj (Zc 1) Zf) (Y5 rfl z_len (Zc 0))) (ZQ (Fx.Cle.cal C_law_odd) hr rfl (Za (Yg Vj (Zc 1) Zf) Zl)))
  (Zs (Z9 (Zc 3))))))))
abbrev Z7 : Stmt := top 47
theorem Xr : FnScope ["_law_points", "_law_way", "_law_cell", "_law_made"] ["_law_points", "_law_way", "_law_cell"] (Zi Z7) := ⟨rfl, rfl, rfl, by decide +kernel, rfl, by decide +kernel, by decide +kernel⟩
theorem Wz (F : Fun K "_law_spoilt" "_law_spoilt" Z7 fa fd) (hm : mg "_law_spoilt" = some (.ref fa)) (b : YK K fd ["_law_points", "_law_way", "_law_cell"] []) (z_tuple : mg "tuple" = none) (z_range : mg "range" = none) (z_list : mg "list" = none) (z_len : mg "len" = none) (C_law_spoilt_point : Fx.Cle P w K mg base k "_law_spoilt_point" 2 Zk) :
  Fx.Cle P w K mg base (k + 1) "_law_spoilt" 3 Zo := by
 exact X9 F hm b Xr rfl rfl fun cdv A outer s H E hr =>
  (Zj (YV (Z8 (YT hr.units) (Zc 1) Zf (ZV _))
  (Zs (Z9 (Xm (Xw (Za Fx.ev_non (Za (VM rfl z_tuple (Zc 0)) (Za Zf Zl)))) (Yg Ym (Zc 2) Zf) (fun _ _ => rfl))))
  Yj)
  (Zj (YV (Z8 (YT hr.units) (Zc 1) Zf (ZV _))
  (Zs (Z9 (Xw Zl)))
  Yj)
  (Zj (YV (Z8 (YT hr.units) (Zc 1) Zf (ZV _))
  (Zs (Z9 (X4 (XY (N := ["_law_k", "_law_points"]) (nv := 1) (cap := [0]) (XI rfl) rfl (Ya (by decide)) (Xb rfl z_range Zf) YS (fun _ _ _ _ => (YC (i := 0) (show List.Nodup (["_law_k", "_law_points"] : List Str) from by decide +kernel) rfl (Or.inl rfl))) (fun _ _ _ _ _ => YR) (fun _ _ _ _ _ => (X4 (Vi rfl z_list (Xm (Zc 1) Zf (fun _ _ => rfl)))))))))
  Yj)
  (Zj (YV (Z8 (YT hr.units) (Zc 1) Zf (ZV _))
  (Zs (Z9 (Xw (Za (X4 (XY (N := ["_law_k"]) (nv := 1) (cap := []) (XI rfl) rfl (Ya (by decide)) (Xb rfl z_range Zf) YS (fun _ _ _ _ => (YC (i := 0) (show List.Nodup (["_law_k"] : List Str) from by decide +kernel) rfl (Or.inl rfl))) (fun _ _ _ _ _ => YR) (fun _ _ _ _ _ => (Y4 (Za Zf (Za Zf Zl)))))) Zl))))
  Yj)
  (Zj (YV (Z8 (YT hr.units) (Zc 1) Zf (ZV _))
  (Zs (Z9 (X4 (XY (N := ["_law_point"]) (nv := 1) (cap := []) (XI rfl) rfl (Ya (by decide)) (VJ (Zc 0)) YS (fun _ _ _ _ => (YC (i := 0) (show List.Nodup (["_law_point"] : List Str) from by decide +kernel) rfl (Or.inl rfl))) (fun _ _ _ _ _ => YR) (fun _ _ _ _ _ => (Xw Zl))))))
  Yj)
  (Zj (Fx.ss_setCO (N := ["_law_point"]) (nv := 1) (cap := []) (i := 3) (XI rfl) rfl (Ya (by decide)) (VJ (Zc 0)) YS (fun _ _ _ _ => (YC (i := 0) (show List.Nodup (["_law_point"] : List Str) from by decide +kernel) rfl (Or.inl rfl))) (fun _ _ _ _ _ => YR) (fun _ _ _ _ _ => (X4 (Vi rfl z_list (Zc 0)))) Xr.nd rfl (Or.inl rfl))
  (Zj (Vw (i := 3) rfl (Yg Ym (Yg Vj (Zc 2) Zf) (Fx.ev_lenN (i := 3) rfl z_len rfl)) (ZQ (Fx.Cle.cal C_law_spoilt_point) hr rfl (Za (Fx.ev_ixN (i := 3) rfl Zf (fun _ _ => rfl)) (Za (Zc 2) Zl))))
  (Zs (Z9 (Zc 3))))))))))
abbrev Ww : Stmt := top 48
theorem Yy : FnScope ["_law_script", "_law_kinds", "_law_many", "_law_points", "_law_point", "_law_way", "_law_cell", "_law_refused", "e"] ["_law_script"] (Zi Ww) := ⟨rfl, rfl, rfl, by decide +kernel, rfl, by decide +kernel, by decide +kernel⟩
theorem law_fn {cl : Str -> Value} {X_BadPoint : Addr} {X_LimitError : Addr} (F : Fun K "law" "law" Ww fa fd) (z_range : mg "range" = none) (z_int : mg "int" = none) (z_isinstance : mg "isinstance" = none) (z_ValueError : mg "ValueError" = none) (c_BadPoint : Fx.XCls K mg "BadPoint" X_BadPoint) (c_LimitError : Fx.XCls K mg "LimitError" X_LimitError) (e_BadPoint : cl "BadPoint" = .ref X_BadPoint) (e_LimitError : cl "LimitError" = .ref X_LimitError) (u_BadPoint_BadPoint : PySem.W.subIn K (.ref X_BadPoint) (.ref X_BadPoint) = some true) (u_BadPoint_LimitError : PySem.W.subIn K (.ref X_BadPoint) (.ref X_LimitError) = some true) (u_BadPoint_ValueError : PySem.W.subIn K (.ref X_BadPoint) (.type "ValueError") = some true) (C_law_cell_at : Fx.Cle P w K mg base k "_law_cell_at" 2 Zh) (C_law_spoilt : Fx.Cle P w K mg base k "_law_spoilt" 3 Zo) (C_law_spoilt_point : Fx.Cle P w K mg base k "_law_spoilt_point" 2 Zk) (C_told_as : Fx.Clx P w K mg base cl k "told_as" 2 ZZ) :
  FnOk P w K mg base CX0 (k + 1) fa fd ["_law_script"] (Fx.spF K none 1 Ud) := by
 exact Fx.fn_ok F Yy rfl fun cdv A outer s H E hr =>
  (Zj (Yn (i := 1) Yy.nd rfl (Or.inr rfl) (Yg YN Zf (Yg Ym (ZQ (Fx.Cle.cal C_law_cell_at) hr rfl (Za (Zc 0) (Za Zf Zl))) Zf)))
  (Zj (Yn (i := 2) Yy.nd rfl (Or.inl rfl) (Yg YN Zf (Yg Ym (ZQ (Fx.Cle.cal C_law_cell_at) hr rfl (Za (Zc 0) (Za Zf Zl))) Zf)))
  (Zj (Fx.ss_setCK (N := ["_law_k", "_law_kinds", "_law_script"]) (nv := 1) (cap := [1, 0]) (i := 3) (Fx.compokK (x0 := "_law_k") (fun _ _ => rfl) (fun _ => rfl) rfl) rfl (Ya (by decide)) (Xb rfl z_range (Zc 2)) U6 (fun _ _ _ _ => (YC (i := 0) (show List.Nodup (["_law_k", "_law_kinds", "_law_script"] : List Str) from by decide +kernel) rfl (Or.inr rfl))) (fun _ _ _ _ _ => YR) (fun _ _ _ _ _ => (X4 (XY (N := ["_law_j", "_law_script", "_law_k"]) (nv := 1) (cap := [2, 0]) (XI rfl) rfl (Ya (by decide)) (Xb rfl z_range (Zc 1)) YS (fun _ _ _ _ => (YC (i := 0) (show List.Nodup (["_law_j", "_law_script", "_law_k"] : List Str) from by decide +kernel) rfl (Or.inl rfl))) (fun _ _ _ _ _ => YR) (fun _ _ _ _ _ => (Y4 (Za (Yg UG (Yg Ym (ZQ (Fx.Cle.cal C_law_cell_at) hr rfl (Za (Zc 1) (Za (Yg YN (Yg YN Zf (Zc 2)) (Zc 0)) Zl))) Zf) Zf) (Za Zf Zl))))))) Yy.nd rfl (Or.inl rfl))
  (Zj (Ur (N := ["_law_j", "_law_script"]) (nv := 1) (cap := [0]) (i := 4) (XI rfl) rfl (Ya (by decide)) (Xb rfl z_range (Zc 1)) YS (fun _ _ _ _ => (YC (i := 0) (show List.Nodup (["_law_j", "_law_script"] : List Str) from by decide +kernel) rfl (Or.inl rfl))) (fun _ _ _ _ _ => YR) (fun _ _ _ _ _ => (Y4 (Za (Yg UG (Yg Ym (ZQ (Fx.Cle.cal C_law_cell_at) hr rfl (Za (Zc 1) (Za (Yg YN Zf (Zc 0)) Zl))) Zf) Zf) (Za Zf Zl)))) Yy.nd rfl (Or.inl rfl))
  (Zj (Yn (i := 5) Yy.nd rfl (Or.inl rfl) (Yg Ym (ZQ (Fx.Cle.cal C_law_cell_at) hr rfl (Za (Zc 0) (Za Zf Zl))) Zf))
  (Zj (Yn (i := 6) Yy.nd rfl (Or.inl rfl) (ZQ (Fx.Cle.cal C_law_cell_at) hr rfl (Za (Zc 0) (Za Zf Zl))))
  (Zj (YV (Z8 VD (Zc 5) Zf (ZV _))
  (Zj (Yn (i := 3) Yy.nd rfl (Or.inl rfl) (ZQ (Fx.Cle.cal C_law_spoilt) hr rfl (Za (Zc 3) (Za (Zc 5) (Za (Zc 6) Zl)))))
  (Zj (YV (Z8 (YT hr.units) (Zc 5) Zf (ZV _))
  (Zs (Ur (N := ["_law_k"]) (nv := 1) (cap := []) (i := 4) (XI rfl) rfl (Ya (by decide)) (Xb rfl z_range Zf) YS (fun _ _ _ _ => (YC (i := 0) (show List.Nodup (["_law_k"] : List Str) from by decide +kernel) rfl (Or.inl rfl))) (fun _ _ _ _ _ => YR) (fun _ _ _ _ _ => (Y4 (Za Zf (Za Zf Zl)))) Yy.nd rfl (Or.inl rfl)))
  Yj)
  (Zs (YV (Z8 (YT hr.units) (Zc 5) Zf (ZV _))
  (Zs (Yn (i := 4) Yy.nd rfl (Or.inl rfl) (Xw Zl)))
  Yj))))
  (Zs (Yn (i := 4) Yy.nd rfl (Or.inl rfl) (ZQ (Fx.Cle.cal C_law_spoilt_point) hr rfl (Za (Zc 4) (Za (Zc 6) Zl))))))
  (Zj (Yn (i := 7) Yy.nd rfl (Or.inl rfl) Zf)
  (Zj (Fx.ss_try (Fx.InFrame.wish Z1) C_told_as hr rfl (Za (Zc 3) (Za (Zc 4) Zl)) c_BadPoint rfl (Wa e_BadPoint u_BadPoint_BadPoint Wv) (fun _ =>
  (Zs (Yn (i := 7) Yy.nd rfl (Or.inl rfl) (Yg YN (Zc 7) Zf)))))
  (Zj (Fx.ss_tryA (i := 8) (Fx.InFrame.wish Z1) C_told_as hr rfl (Za (Zc 3) (Za (Zc 4) Zl)) c_LimitError rfl (Wa e_BadPoint u_BadPoint_LimitError Wv) (Fx.ve_cons e_BadPoint u_BadPoint_ValueError Fx.ve_nil) Yy.nd rfl rfl (fun _ =>
  (Zs (Yn (i := 7) Yy.nd rfl (Or.inl rfl) (Yg YN (Zc 7) (Fx.ev_intc rfl z_int (Fx.ev_isx rfl z_isinstance rfl z_ValueError (Zc 8))))))))
  (Zs (Z9 (UW (YT hr.units) (Zc 7) Zf (ZV _))))))))))))))
theorem all_mk {l : PySem.W.OpenLaw} {w : World} {K : PySem.W.Frag} {h : Heap} {mg : Str -> Option Value} {fa : Addr} (X : K.In h) (G : h.Ns mainGlobals mg) (hfa : mg "law" = some (.ref fa))
  {f0 f1 f2 f3 f4 f5 f6 f7 f8 f9 f10 : Addr} {od0 an0 od1 an1 od2 an2 od3 an3 od4 an4 od5 an5 od6 an6 od7 an7 od8 an8 od9 an9 od10 an10 : Option Addr} {sl0 sl1 sl2 sl3 sl4 sl5 sl6 sl7 sl8 sl9 sl10 : Array (Option Value)} {oc0 kV0 dc0 pm0 cd0 ct0 oc1 kV1 dc1 pm1 cd1 ct1 oc2 kV2 dc2 pm2 cd2 ct2 oc3 kV3 dc3 pm3 cd3 ct3 oc4 kV4 dc4 pm4 cd4 ct4 oc5 kV5 dc5 pm5 cd5 ct5 oc6 kV6 dc6 pm6 cd6 ct6 oc7 kV7 dc7 pm7 cd7 ct7 oc8 kV8 dc8 pm8 cd8 ct8 oc9 kV9 dc9 pm9 cd9 ct9 oc10 kV10 dc10 pm10 cd10 ct10 : Value}
  {tg_MOST_POINTS : Tok}
  {tg_MOST_KINDS : Tok}
  {X_BadPoint : Addr}
  {X_LimitError : Addr}
  (a0 : PySem.W.nsIn K mainGlobals "is_whole" = some (some (.ref f0))) (l0 : K.lookup f0 = some ⟨oc0, od0, .func (PySem.W.fnOf "is_whole" "is_whole" (ZW Yv) (ZE Yv) (Zi Yv) .none kV0 dc0 pm0 an0 cd0 ct0), sl0⟩) (c0 : PySem.W.codeIn K cd0 "is_whole" = true) (k0 : PySem.W.keepIn K (.ref f0) = true)
  (a1 : PySem.W.nsIn K mainGlobals "common_divisor" = some (some (.ref f1))) (l1 : K.lookup f1 = some ⟨oc1, od1, .func (PySem.W.fnOf "common_divisor" "common_divisor" (ZW ZC) (ZE ZC) (Zi ZC) .none kV1 dc1 pm1 an1 cd1 ct1), sl1⟩) (c1 : PySem.W.codeIn K cd1 "common_divisor" = true) (k1 : PySem.W.keepIn K (.ref f1) = true)
  (a2 : PySem.W.nsIn K mainGlobals "is_fraction" = some (some (.ref f2))) (l2 : K.lookup f2 = some ⟨oc2, od2, .func (PySem.W.fnOf "is_fraction" "is_fraction" (ZW ZT) (ZE ZT) (Zi ZT) .none kV2 dc2 pm2 an2 cd2 ct2), sl2⟩) (c2 : PySem.W.codeIn K cd2 "is_fraction" = true) (k2 : PySem.W.keepIn K (.ref f2) = true)
  (a3 : PySem.W.nsIn K mainGlobals "check_point" = some (some (.ref f3))) (l3 : K.lookup f3 = some ⟨oc3, od3, .func (PySem.W.fnOf "check_point" "check_point" (ZW ZU) (ZE ZU) (Zi ZU) .none kV3 dc3 pm3 an3 cd3 ct3), sl3⟩) (c3 : PySem.W.codeIn K cd3 "check_point" = true) (k3 : PySem.W.keepIn K (.ref f3) = true)
  (a4 : PySem.W.nsIn K mainGlobals "check_points" = some (some (.ref f4))) (l4 : K.lookup f4 = some ⟨oc4, od4, .func (PySem.W.fnOf "check_points" "check_points" (ZW ZL) (ZE ZL) (Zi ZL) .none kV4 dc4 pm4 an4 cd4 ct4), sl4⟩) (c4 : PySem.W.codeIn K cd4 "check_points" = true) (k4 : PySem.W.keepIn K (.ref f4) = true)
  (a5 : PySem.W.nsIn K mainGlobals "told_as" = some (some (.ref f5))) (l5 : K.lookup f5 = some ⟨oc5, od5, .func (PySem.W.fnOf "told_as" "told_as" (ZW YF) (ZE YF) (Zi YF) .none kV5 dc5 pm5 an5 cd5 ct5), sl5⟩) (c5 : PySem.W.codeIn K cd5 "told_as" = true) (k5 : PySem.W.keepIn K (.ref f5) = true)
  (a6 : PySem.W.nsIn K mainGlobals "_law_cell_at" = some (some (.ref f6))) (l6 : K.lookup f6 = some ⟨oc6, od6, .func (PySem.W.fnOf "_law_cell_at" "_law_cell_at" (ZW ZS) (ZE ZS) (Zi ZS) .none kV6 dc6 pm6 an6 cd6 ct6), sl6⟩) (c6 : PySem.W.codeIn K cd6 "_law_cell_at" = true) (k6 : PySem.W.keepIn K (.ref f6) = true)
  (a7 : PySem.W.nsIn K mainGlobals "_law_odd" = some (some (.ref f7))) (l7 : K.lookup f7 = some ⟨oc7, od7, .func (PySem.W.fnOf "_law_odd" "_law_odd" (ZW YG) (ZE YG) (Zi YG) .none kV7 dc7 pm7 an7 cd7 ct7), sl7⟩) (c7 : PySem.W.codeIn K cd7 "_law_odd" = true) (k7 : PySem.W.keepIn K (.ref f7) = true)
  (a8 : PySem.W.nsIn K mainGlobals "_law_spoilt_point" = some (some (.ref f8))) (l8 : K.lookup f8 = some ⟨oc8, od8, .func (PySem.W.fnOf "_law_spoilt_point" "_law_spoilt_point" (ZW Zt) (ZE Zt) (Zi Zt) .none kV8 dc8 pm8 an8 cd8 ct8), sl8⟩) (c8 : PySem.W.codeIn K cd8 "_law_spoilt_point" = true) (k8 : PySem.W.keepIn K (.ref f8) = true)
  (a9 : PySem.W.nsIn K mainGlobals "_law_spoilt" = some (some (.ref f9))) (l9 : K.lookup f9 = some ⟨oc9, od9, .func (PySem.W.fnOf "_law_spoilt" "_law_spoilt" (ZW Z7) (ZE Z7) (Zi Z7) .none kV9 dc9 pm9 an9 cd9 ct9), sl9⟩) (c9 : PySem.W.codeIn K cd9 "_law_spoilt" = true) (k9 : PySem.W.keepIn K (.ref f9) = true)
  (a10 : PySem.W.nsIn K mainGlobals "law" = some (some (.ref f10))) (l10 : K.lookup f10 = some ⟨oc10, od10, .func (PySem.W.fnOf "law" "law" (ZW Ww) (ZE Ww) (Zi Ww) .none kV10 dc10 pm10 an10 cd10 ct10), sl10⟩) (c10 : PySem.W.codeIn K cd10 "law" = true) (k10 : PySem.W.keepIn K (.ref f10) = true)
  (z_isinstance : PySem.W.nsIn K mainGlobals "isinstance" = some none)
  (z_int : PySem.W.nsIn K mainGlobals "int" = some none)
  (z_bool : PySem.W.nsIn K mainGlobals "bool" = some none)
  (z_abs : PySem.W.nsIn K mainGlobals "abs" = some none)
  (z_tuple : PySem.W.nsIn K mainGlobals "tuple" = some none)
  (z_len : PySem.W.nsIn K mainGlobals "len" = some none)
  (z_list : PySem.W.nsIn K mainGlobals "list" = some none)
  (z_all : PySem.W.nsIn K mainGlobals "all" = some none)
  (z_range : PySem.W.nsIn K mainGlobals "range" = some none)
  (z_ValueError : PySem.W.nsIn K mainGlobals "ValueError" = some none)
  (g_MOST_POINTS : PySem.W.nsIn K mainGlobals "MOST_POINTS" = some (some (.int 8 tg_MOST_POINTS)))
  (g_MOST_KINDS : PySem.W.nsIn K mainGlobals "MOST_KINDS" = some (some (.int 4 tg_MOST_KINDS)))
  (x_BadPoint : PySem.W.nsIn K mainGlobals "BadPoint" = some (some (.ref X_BadPoint))) (q_BadPoint : PySem.W.excIn K X_BadPoint [.type "ValueError", .type "Exception", .type "BaseException", .type "object"] "ValueError.__new__" = true)
  (x_LimitError : PySem.W.nsIn K mainGlobals "LimitError" = some (some (.ref X_LimitError))) (q_LimitError : PySem.W.excIn K X_LimitError [.type "ValueError", .type "Exception", .type "BaseException", .type "object"] "ValueError.__new__" = true)
  (u_BadPoint_BadPoint : PySem.W.subIn K (.ref X_BadPoint) (.ref X_BadPoint) = some true)
  (u_BadPoint_LimitError : PySem.W.subIn K (.ref X_BadPoint) (.ref X_LimitError) = some true)
  (u_BadPoint_ValueError : PySem.W.subIn K (.ref X_BadPoint) (.type "ValueError") = some true) :
  ∃ fd : FuncData, (∀ (s : Shared) (v : Value), BindsTo s fd ⟨[v], []⟩ [("_law_script", v)]) /\ ∀ base : Heap, K.In base -> base.Ns mainGlobals mg -> FnOk l.prog w K mg base CX0 6 fa fd ["_law_script"] (Fx.spF K none 1 Ud) := by
 have e := hfa.symm.trans (PySem.W.mg_of X G a10)
 cases e
 have F0 := Y3 (st := Yv) l0 c0 k0
 have b0 := F0.binds (ps := ["value"]) fun _ _ _ _ _ _ us hl => match us, hl with | [_], _ => rfl
 have F1 := Y3 (st := ZC) l1 c1 k1
 have b1 := F1.binds (ps := ["a", "b"]) fun _ _ _ _ _ _ us hl => match us, hl with | [_, _], _ => rfl
 have F2 := Y3 (st := ZT) l2 c2 k2
 have b2 := F2.binds (ps := ["value"]) fun _ _ _ _ _ _ us hl => match us, hl with | [_], _ => rfl
 have F3 := Y3 (st := ZU) l3 c3 k3
 have b3 := F3.binds (ps := ["kinds", "point"]) fun _ _ _ _ _ _ us hl => match us, hl with | [_, _], _ => rfl
 have F4 := Y3 (st := ZL) l4 c4 k4
 have b4 := F4.binds (ps := ["points"]) fun _ _ _ _ _ _ us hl => match us, hl with | [_], _ => rfl
 have F5 := Y3 (st := YF) l5 c5 k5
 have b5 := F5.binds (ps := ["points", "point"]) fun _ _ _ _ _ _ us hl => match us, hl with | [_, _], _ => rfl
 have F6 := Y3 (st := ZS) l6 c6 k6
 have b6 := F6.binds (ps := ["_law_script", "_law_k"]) fun _ _ _ _ _ _ us hl => match us, hl with | [_, _], _ => rfl
 have F7 := Y3 (st := YG) l7 c7 k7
 have b7 := F7.binds (ps := ["_law_cell"]) fun _ _ _ _ _ _ us hl => match us, hl with | [_], _ => rfl
 have F8 := Y3 (st := Zt) l8 c8 k8
 have b8 := F8.binds (ps := ["_law_point", "_law_cell"]) fun _ _ _ _ _ _ us hl => match us, hl with | [_, _], _ => rfl
 have F9 := Y3 (st := Z7) l9 c9 k9
 have b9 := F9.binds (ps := ["_law_points", "_law_way", "_law_cell"]) fun _ _ _ _ _ _ us hl => match us, hl with | [_, _, _], _ => rfl
 have F10 := Y3 (st := Ww) l10 c10 k10
 have b10 := F10.binds (ps := ["_law_script"]) fun _ _ _ _ _ _ us hl => match us, hl with | [_], _ => rfl
 have m_isinstance := PySem.W.mg_none_of X G z_isinstance
 have m_int := PySem.W.mg_none_of X G z_int
 have m_bool := PySem.W.mg_none_of X G z_bool
 have m_abs := PySem.W.mg_none_of X G z_abs
 have m_tuple := PySem.W.mg_none_of X G z_tuple
 have m_len := PySem.W.mg_none_of X G z_len
 have m_list := PySem.W.mg_none_of X G z_list
 have m_all := PySem.W.mg_none_of X G z_all
 have m_range := PySem.W.mg_none_of X G z_range
 have m_ValueError := PySem.W.mg_none_of X G z_ValueError
 have n_MOST_POINTS := PySem.W.mg_of X G g_MOST_POINTS
 have n_MOST_KINDS := PySem.W.mg_of X G g_MOST_KINDS
 obtain ⟨cl, hcl⟩ : ∃ cl : Str -> Value, cl "BadPoint" = .ref X_BadPoint /\ cl "LimitError" = .ref X_LimitError /\ True := ⟨fun c => if c = "BadPoint" then .ref X_BadPoint else if c = "LimitError" then .ref X_LimitError else .none, (if_pos rfl), ((if_neg (by decide)).trans (if_pos rfl)), trivial⟩
 obtain ⟨e_BadPoint, hcl⟩ := hcl
 obtain ⟨e_LimitError, hcl⟩ := hcl
 have c_BadPoint : Fx.XCls K mg "BadPoint" X_BadPoint := ⟨PySem.W.mg_of X G x_BadPoint, q_BadPoint⟩
 have c_LimitError : Fx.XCls K mg "LimitError" X_LimitError := ⟨PySem.W.mg_of X G x_LimitError, q_LimitError⟩
 refine ⟨PySem.W.fnOf "law" "law" (ZW Ww) (ZE Ww) (Zi Ww) .none kV10 dc10 pm10 an10 cd10 ct10, fun s v => .of_eq rfl, fun base _ _ => ?_⟩
 have R_is_whole := Vk (P := l.prog) (w := w) (base := base) (k := 0) F0 (PySem.W.mg_of X G a0) b0 m_isinstance m_int m_bool
 have R_common_divisor := XC (P := l.prog) (w := w) (base := base) (k := 0) F1 (PySem.W.mg_of X G a1) b1 m_abs
 have R_is_fraction := Wh (P := l.prog) (w := w) (base := base) (k := 1) F2 (PySem.W.mg_of X G a2) b2 m_isinstance m_tuple m_len (R_is_whole.mono (by decide)) (R_common_divisor.mono (by decide))
 have R_check_point := Wi (P := l.prog) (w := w) (base := base) (k := 2) (cl := cl) F3 (PySem.W.mg_of X G a3) b3 m_isinstance m_list m_len m_all c_BadPoint e_BadPoint (R_is_fraction.mono (by decide))
 have R_check_points := XZ (P := l.prog) (w := w) (base := base) (k := 3) (cl := cl) F4 (PySem.W.mg_of X G a4) b4 m_isinstance m_list m_len ⟨_, n_MOST_POINTS⟩ ⟨_, n_MOST_KINDS⟩ c_BadPoint e_BadPoint (R_check_point.mono (by decide))
 have R_told_as := V6 (P := l.prog) (w := w) (base := base) (k := 4) (cl := cl) F5 (PySem.W.mg_of X G a5) b5 m_len (R_check_points.mono (by decide)) (R_check_point.mono (by decide))
 have R_law_cell_at := Wg (P := l.prog) (w := w) (base := base) (k := 0) F6 (PySem.W.mg_of X G a6) b6 m_len
 have R_law_odd := V7 (P := l.prog) (w := w) (base := base) (k := 0) F7 (PySem.W.mg_of X G a7) b7 
 have R_law_spoilt_point := Xk (P := l.prog) (w := w) (base := base) (k := 1) F8 (PySem.W.mg_of X G a8) b8 m_tuple m_list m_len (R_law_odd.mono (by decide))
 have R_law_spoilt := Wz (P := l.prog) (w := w) (base := base) (k := 2) F9 (PySem.W.mg_of X G a9) b9 m_tuple m_range m_list m_len (R_law_spoilt_point.mono (by decide))
 exact law_fn F10 m_range m_int m_isinstance m_ValueError c_BadPoint c_LimitError e_BadPoint e_LimitError u_BadPoint_BadPoint u_BadPoint_LimitError u_BadPoint_ValueError (R_law_cell_at.mono (by decide)) (R_law_spoilt.mono (by decide)) (R_law_spoilt_point.mono (by decide)) (R_told_as.mono (by decide))
end K15
namespace K15
open PySem PySem.Spec PyProof.Rows L2 Fx
open Lw
theorem walk {l : PySem.W.OpenLaw} {q : Program} {loose : List Str} {XP : (Str -> Option Value) -> Heap -> Prop} {YP : World -> Heap -> Prop} {d : DefRec} {K : Params -> PySem.W.Frag} (hn : l.most = some 63) (hdf : d.params.defaults = [])
  (hrec : ∃ d0, (recsOf q).find? (fun e => e.name == ("raising_column" : Str)) = some d0) (hY : ∀ (w : World) (h : Heap), YP w h -> (K w.params).In h)
  (hT : ∀ P : Params, (PySem.W.tabIn (K P) "raising_column").isSome = true) (hno : ∀ P : Params, PySem.W.noTabs (K P) = true)
  (F : ∀ (w : World) (mg : Str -> Option Value) (fa : Addr) (h : Heap), (K w.params).In h -> h.Ns mainGlobals mg -> mg d.name = some (.ref fa) ->
   ∃ fd : FuncData, (∀ (s : Shared) (u : Value), BindsTo s fd ⟨[u], []⟩ [("_law_script", u)]) /\ ∀ base : Heap, (K w.params).In base -> base.Ns mainGlobals mg -> FnOk l.prog w (K w.params) mg base CX0 6 fa fd ["_law_script"] (Fx.spF (K w.params) none 1 Ud)) :
  PySem.W.WalkO q loose XP YP l.row.toRowW d [] (fun f vs => PySem.call f vs) :=
 let ⟨_, h0⟩ := hrec
 Fx.walk_T (n := 63) (k := 6) (x := "_law_script") (x0 := "raising_column") hn (by decide) hdf ⟨rfl, by decide, by decide⟩ (List.mem_singleton.mpr rfl) h0 hY (fun w mg fa h KX G hm =>
  let ⟨fd, b, z⟩ := F w mg fa h KX G hm
  let ⟨⟨c, T⟩, t⟩ := Option.isSome_iff_exists.mp (hT w.params)
  ⟨fd, c, T, t, hno w.params, b, fun base X1 X2 _ _ => z base X1 X2⟩) (fun ns hl => law_ok ns hl)
end K15
open PySem PySem.W PyProof.Rows
namespace PySem.W.Fast
def tw3290853189522288184:=0
def tw7798822700665302401:=0
def tw6029408771280937079:=0
def tw11059910086871830773:=0
def tw17161978768247973236:=0
def tw9381854648514774834:=0
def tw6979455029340492954:=0
def tw483663958301213986:=0
def tw17462667934151329442:=0
def tw8533832093325631607:=0
def tw1052519251448184347:=0
def tw460510343208257499:=0
def tw7961939800713590665:=0
def tw8823755839341694996:=0
def tw3447284809771218344:=0
def tw7729183287547866589:=0
def tw17659611951483039288:=0
def tw12160376526049680656:=0
def tw3809091927948453730:=0
def tw18232418894145849896:=0
def tw11500688491667500108:=0
def tw4527836754554299158:=0
def tw8892005968501298774:=0
def tw14108991244660836412:=0
def tw6277584751190633032:=0
def tw5366764338826484889:=0
def tw5119786624988583694:=0
def tw14427494360014213351:=0
def tw11465555175021156018:=0
def tw17401864461768043813:=0
def tw16355238839897609841:=0
def tw3422356087876366465:=0
def tw10578041430214952136:=0
def tw9493799539770661010:=0
def tw7296544124777158169:=0
def tw7291323092376372711:=0
def tw7376681807304239958:=0
def tw7292282364246160738:=0
def tw1484394854731613810:=0
def tw10314298822675038530:=0
def tw8516962417668807416:=0
def tw8666587139829018331:=0
def tw1693302327710766085:=0
def tw8802480958864084868:=0
def tw10430457030126315559:=0
def tw9591774018862959708:=0
def tw13511732047375199836:=0
def tw12876837298697561225:=0
def tw6257883511923469602:=0
def tw15734371240329783180:=0
def tw6253828907138444845:=0
def tw5183627345018105472:=0
def tw2743758655569032976:=0
def tw14606760315416874989:=0
def tw18184927287641138462:=0
def tw12996513321740433095:=0
def tw9043730309106062945:=0
def tw9979408835764892392:=0
def tw15392283191506494442:=0
def tw6368278362773085956:=0
def tw8778432451292488294:=0
def tw4764113295910684917:=0
def tw2490342086236155132:=0
def tw5591303556744016328:=0
def tw10898338009327560449:=0
def tw13416443134665695457:=0
def tw2787765835841212452:=0
def tw3735431556126056062:=0
def tw10483663505145542783:=0
def tw15206568654242544423:=0
def tw11135852568506176173:=0
def tw9998051207079874432:=0
def tw4627967530328497487:=0
def tw3953395063784580852:=0
def tw17703329946919841857:=0
def tw18061032856174210196:=0
def tw9328317604750955023:=0
def tw8738160524743046917:=0
def tw14234921476542822986:=0
def tw16764373676846202314:=0
def tw11308394695041404275:=0
def tw6599813101500751701:=0
def tw9337470653971418079:=0
def tw6203844739267459856:=0
def tw14351703458937748340:=0
def tw3112827560981447685:=0
def tw14817540754010260427:=0
def tw13067177688255774879:=0
def tw17132784063686630541:=0
def tw2417461966559852565:=0
def tw8828546543358286166:=0
def tw13592234114928932191:=0
def tw6653578385785558196:=0
def tw869566045578155627:=0
def tw12514948312498098549:=0
def tw11808976306079083161:=0
def tw7432572360094493546:=0
def tw10322371220821254875:=0
def tw15092303787137728111:=0
def tw16635767395727386031:=0
def tw5542723194922077876:=0
def tw15529873044628945788:=0
def tw16890571589571437335:=0
def tw10681725232435548370:=0
def tw17471240469348123853:=0
def tw6535729473547098625:=0
def tw3856296786492746971:=0
def tw3167812149431711089:=0
def tw5953789630840398314:=0
def tw18323469650590535760:=0
def tw893799559500452026:=0
def tw6068869717561097959:=0
def tw14808361140448923920:=0
def tw12852261375376428475:=0
def tw7237083488206150009:=0
def tw15596025261713537049:=0
def tw10605831703928672731:=0
def tw1238945331837581624:=0
def tw4092622484124222510:=0
def tw8661698613437956807:=0
def tw9447296501255180160:=0
def tw1106914438445072222:=0
def tw3028570816153400799:=0
def tw7820500763837989354:=0
def tw7595054666914500989:=0
def tw5620319890220987680:=0
def tw7658404967438096108:=0
def tw13530825323001157313:=0
def tw11503750187105481986:=0
def tw4303892493751894172:=0
def tw3034426684815358487:=0
def tw16720604018896830036:=0
def tw12096319980461215214:=0
def tw18218557701341004478:=0
def tw9064757040326677441:=0
def tw9401011274579097998:=0
def tw14714132670887584769:=0
def tw10106903808389527654:=0
def tw1455276218615511070:=0
def tw9481330780170600942:=0
def tw5493222091121097478:=0
def tw5884058160369022111:=0
def tw5177147204934488591:=0
def tw6592522962597390379:=0
def tw10098778794538259456:=0
def tw3306467969392013108:=0
def tw14799745111215940177:=0
def tw7115624033028965909:=0
def tw17020698911076063074:=0
def tw10647441641401186662:=0
def tw6878662015047877307:=0
def tw952418903945946101:=0
def tw13686104202856529045:=0
def tw13422441364191275892:=0
def tw9518245216781010470:=0
def tw1137538689086301801:=0
def tw17363795977603262734:=0
def tw7399803964923608470:=0
def tw10710027626162513764:=0
def tw15331999238015393971:=0
def tw10801075439357299201:=0
def tw4533940521748938347:=0
def tw4379252714216710039:=0
def tw9684910609641570243:=0
def tw15369193477076909175:=0
def tw11641193876607087654:=0
def tw2123064064434945669:=0
def tw2796231907302284942:=0
def tw12717691649005599406:=0
def tw5896787448635453582:=0
def tw12489062977401848922:=0
def tw9909263215809095623:=0
def tw7672168376163352380:=0
def tw8778434413873907554:=0
def tw14901622927470939976:=0
def tw15173013867542625056:=0
def tw4201608608588577698:=0
def tw4950852125300724662:=0
def tw10022930944730729852:=0
def tw14319732544002951547:=0
def tw11772979826591086109:=0
def tw10803171730498711942:=0
def tw15118809119788945557:=0
def tw11210561394237227585:=0
def tw7807630931560903760:=0
def tw13841623168640858893:=0
def tw10273998006980604990:=0
def tw487842507748956506:=0
def tw12291577903682680347:=0
def tw10785959219819497026:=0
def tw15810817953889201368:=0
def tw18172623128543121290:=0
def tw9610104559766229181:=0
def tw18431620348499962219:=0
def tw9629011561094766519:=0
def tw937269754326438032:=0
def tw15253062418967848713:=0
def tw2572640102028055249:=0
def tw14925745992484209308:=0
def tw7839514187786701859:=0
def tw4350128068574439143:=0
def tw6508157425792055503:=0
def tw17009800491837829703:=0
def tw2674570165874213894:=0
def tw4567942333362754973:=0
def tw3262423637003507011:=0
def tw613895332585226524:=0
def tw6175497886459737454:=0
def tw3056733795545856150:=0
def tw5160385927451250823:=0
def tw14596294718043796188:=0
def tw10866764436060263119:=0
def tw4944999350382467527:=0
def tw16467918845104205814:=0
def tw829393206719552379:=0
def tw13280628752895851973:=0
def tw13187372756757187737:=0
def tw8706235475522001762:=0
def tw6328742987351154221:=0
def tw11827109292161987678:=0
def tw8444617483083094454:=0
def tw17523211926295810578:=0
def tw1533297045552896856:=0
def tw15249017358369981214:=0
def tw9478788094266688116:=0
def tw14047953575377877927:=0
def tw4728687582597633979:=0
def tw7897088097622490906:=0
def tw3396886942317965321:=0
def tw9873134377717178039:=0
def tw6701156031396582988:=0
def tw9320966814724409383:=0
def tw9671347102735389571:=0
def tw1703309032095883105:=0
def tw1252671361584815293:=0
def tw10071454713282101484:=0
def tw6575567386726424185:=0
def tw3598180238333629354:=0
def tw10653461736588207455:=0
def tw11975621242420734518:=0
def tw4047995222177370290:=0
def tw17595929968111815576:=0
def tw15833587137132417926:=0
def tw5992108589528041393:=0
def tw16938869014594811472:=0
def tw14194141826736561745:=0
def tw2571495588246261042:=0
def tw4735140639041735962:=0
def tw10313694414331333096:=0
def tw1549429446997199097:=0
def tw7449156650468882435:=0
def tw17411698415228816678:=0
def tw6729178155429435535:=0
def tw8424717913961441190:=0
def tw3482083970475191974:=0
def tw3334864402245007451:=0
def tw17672907132447837275:=0
def tw3160970995137301426:=0
def tw12938400604059321880:=0
def tw17431626987949043651:=0
def tw16486691562968989095:=0
def tw8050055422175406924:=0
def tw15332862981700656115:=0
def tw10320184280047799484:=0
def tw11990197826052745442:=0
def tw9248981480438270349:=0
def tw12605323829652177338:=0
def tw442578361729847698:=0
def tw4750732417433721161:=0
def tw6011347178779499025:=0
def tw17583999415094642405:=0
def tw2257723881636571879:=0
def tw5772151727378699905:=0
def tw6564039599246168623:=0
def tw15312809857870801189:=0
def tw9248575012278997188:=0
def tw17914604061497337919:=0
end PySem.W.Fast
set_option maxRecDepth 100000 in
set_option maxHeartbeats 0 in
theorem PySem.Challenge.cw_limitdesk_k15_mixes_refused_holds : PySem.Challenge.rw_limitdesk_k15_mixes_refused.Holds := by
 w_on; o_law; k_head; (case hw => w_witness2)
 k_fill
 refine K15.walk (l := PySem.Challenge.rw_limitdesk_k15_mixes_refused) rfl rfl ⟨_, rfl⟩ (fun w h Y => PySem.W.km_in_of Y) (fun P => by kernel_rfl) (fun P => by kernel_rfl) ?F
 case F =>
  intro w mg fa h KX G hmg
  refine' K15.all_mk KX G hmg ?a0 ?l0 ?c0 ?k0 ?a1 ?l1 ?c1 ?k1 ?a2 ?l2 ?c2 ?k2 ?a3 ?l3 ?c3 ?k3 ?a4 ?l4 ?c4 ?k4 ?a5 ?l5 ?c5 ?k5 ?a6 ?l6 ?c6 ?k6 ?a7 ?l7 ?c7 ?k7 ?a8 ?l8 ?c8 ?k8 ?a9 ?l9 ?c9 ?k9 ?a10 ?l10 ?c10 ?k10 ?z_isinstance ?z_int ?z_bool ?z_abs ?z_tuple ?z_len ?z_list ?z_all ?z_range ?z_ValueError ?g_MOST_POINTS ?g_MOST_KINDS ?x_BadPoint ?q_BadPoint ?x_LimitError ?q_LimitError ?u_BadPoint_BadPoint ?u_BadPoint_LimitError ?u_BadPoint_ValueError
  (case a0 => k_is)
  (case l0 => k_is)
  (case c0 => k_is)
  (case k0 => k_is)
  (case a1 => k_is)
  (case l1 => k_is)
  (case c1 => k_is)
  (case k1 => k_is)
  (case a2 => k_is)
  (case l2 => k_is)
  (case c2 => k_is)
  (case k2 => k_is)
  (case a3 => k_is)
  (case l3 => k_is)
  (case c3 => k_is)
  (case k3 => k_is)
  (case a4 => k_is)
  (case l4 => k_is)
  (case c4 => k_is)
  (case k4 => k_is)
  (case a5 => k_is)
  (case l5 => k_is)
  (case c5 => k_is)
  (case k5 => k_is)
  (case a6 => k_is)
  (case l6 => k_is)
  (case c6 => k_is)
  (case k6 => k_is)
  (case a7 => k_is)
  (case l7 => k_is)
  (case c7 => k_is)
  (case k7 => k_is)
  (case a8 => k_is)
  (case l8 => k_is)
  (case c8 => k_is)
  (case k8 => k_is)
  (case a9 => k_is)
  (case l9 => k_is)
  (case c9 => k_is)
  (case k9 => k_is)
  (case a10 => k_is)
  (case l10 => k_is)
  (case c10 => k_is)
  (case k10 => k_is)
  (case z_isinstance => k_is)
  (case z_int => k_is)
  (case z_bool => k_is)
  (case z_abs => k_is)
  (case z_tuple => k_is)
  (case z_len => k_is)
  (case z_list => k_is)
  (case z_all => k_is)
  (case z_range => k_is)
  (case z_ValueError => k_is)
  (case g_MOST_POINTS => k_is)
  (case g_MOST_KINDS => k_is)
  (case x_BadPoint => k_is)
  (case q_BadPoint => k_exc)
  (case x_LimitError => k_is)
  (case q_LimitError => k_exc)
  (case u_BadPoint_BadPoint => k_is)
  (case u_BadPoint_LimitError => k_is)
  (case u_BadPoint_ValueError => k_is)
#print axioms PySem.Challenge.cw_limitdesk_k15_mixes_refused_holds
