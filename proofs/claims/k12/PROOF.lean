import PyProof.Rows.All
import Wide.All
import OpenK.AllK
import Wide.FinOn
import Lean
import PyProof.EqAt
import PyProof.EqKinds
import PyProof.EqLayable
import PyProof.TupleCall
import PyProof.P3Statements
import PySem.Challenge.RW_limitdesk_k12_whole_corners
set_option Elab.async false
set_option linter.all false
set_option maxRecDepth 100000
namespace L2
open PySem PySem.Spec PyProof.Rows
abbrev Key := Sum Int Str
def keyIs : Key -> Value -> Bool
 | .inl k, v => Value.isInt k v
 | .inr x, v => Value.isStrOf x v
def keyH (w : World) : Key -> Int
 | .inl k => hashInt k
 | .inr x => hashStr w x
theorem Yd : ∀ {k : Key} {v : Value}, keyIs k v = true -> (∃ i t, k = Sum.inl i /\ v = Value.int i t) \/ (∃ x t, k = Sum.inr x /\ v = Value.str x t)
 | .inl i, v, h => by
  obtain ⟨t, e⟩ := Value.isInt_shape (k := i) (v := v) h
  exact .inl ⟨i, t, rfl, e⟩
 | .inr x, v, h => by
  obtain ⟨t, e⟩ := Value.isStrOf_shape (x := x) (v := v) h
  exact .inr ⟨x, t, rfl, e⟩
theorem key_ll (a b : Int) : decide ((Sum.inl a : Key) = Sum.inl b) = (a == b) := by
 by_cases e : a = b
 ·subst e; simp
 ·have h : ¬ (Sum.inl a : Key) = Sum.inl b := fun q => e (Sum.inl.inj q)
  rw [decide_eq_false h]
  exact (beq_eq_false_iff_ne.mpr e).symm
theorem key_rr (a b : Str) : decide ((Sum.inr a : Key) = Sum.inr b) = decide (a = b) := by
 by_cases e : a = b
 ·subst e; simp
 ·have h : ¬ (Sum.inr a : Key) = Sum.inr b := fun q => e (Sum.inr.inj q)
  rw [decide_eq_false h, decide_eq_false e]
theorem key_lr (a : Int) (b : Str) : decide ((Sum.inl a : Key) = Sum.inr b) = false := decide_eq_false (fun q => nomatch q)
theorem key_rl (a : Str) (b : Int) : decide ((Sum.inr a : Key) = Sum.inl b) = false := decide_eq_false (fun q => nomatch q)
def Jo (prog : Program) (w : World) : PySem.KeyKind prog w Key where
 is := keyIs
 hash := keyH w
 inj := fun v a b ha hb => by
  rcases Yd ha with ⟨i, t, rfl, rfl⟩ | ⟨x, t, rfl, rfl⟩
  ·rcases Yd hb with ⟨j, u, rfl, e⟩ | ⟨y, u, rfl, e⟩
   ·injection e with e1 _; rw [e1]
   ·exact nomatch e
  ·rcases Yd hb with ⟨j, u, rfl, e⟩ | ⟨y, u, rfl, e⟩
   ·exact nomatch e
   ·injection e with e1 _; rw [e1]
 byValue := fun k v h => by
  rcases Yd h with ⟨i, t, rfl, rfl⟩ | ⟨x, t, rfl, rfl⟩ <;> rfl
 pyHash := fun hv h => by
  rcases Yd hv with ⟨i, t, rfl, rfl⟩ | ⟨x, t, rfl, rfl⟩
  ·exact wpAny_pyHash_int h
  ·exact wpAny_pyHash_str h
 eqBool := fun hu hv h => by
  rcases Yd hu with ⟨i, t, rfl, rfl⟩ | ⟨x, t, rfl, rfl⟩
  ·rcases Yd hv with ⟨j, u, rfl, rfl⟩ | ⟨y, u, rfl, rfl⟩
   ·rw [key_ll] at h; exact wpAny_eqBool_int h
   ·rw [key_lr] at h; exact SeqAt.EqAt.int_str i t y u _ _ _ _ h
  ·rcases Yd hv with ⟨j, u, rfl, rfl⟩ | ⟨y, u, rfl, rfl⟩
   ·rw [key_rl] at h; exact SeqAt.EqAt.str_int x t j u _ _ _ _ h
   ·rw [key_rr] at h; exact wpAny_eqBool_str h
 «strs» := fun k x t v h => by
  rcases Yd h with ⟨i, u, rfl, e⟩ | ⟨y, u, rfl, e⟩
  ·exact nomatch e
  ·injection e with e1 _
   subst e1
   cases v <;> rfl
theorem mixKind_is (prog : Program) (w : World) (k : Key) (v : Value) : (Jo prog w).is k v = keyIs k v := rfl
end L2
namespace L2
open PySem PySem.Spec PyProof.Rows
inductive V where
 | non | bl (b : Bool) | int (i : Int) | str (x : Str) | byt (b : Array UInt8) | flt (b : UInt64) | ref (a : Addr) | ty (n : String)
 deriving DecidableEq
def RelV : V -> Value -> Prop
 | .non, u => u = Value.none
 | .bl b, u => u = Value.bool b
 | .int i, u => ∃ t, u = Value.int i t
 | .str x, u => ∃ t, u = Value.str x t
 | .byt b, u => ∃ t, u = Value.bytes b t
 | .flt b, u => ∃ t, u = Value.float b t
 | .ref a, u => u = Value.ref a
 | .ty n, u => u = Value.type n
abbrev Vals : List V -> List Value -> Prop := Paired RelV
theorem Vals.length {xs : List V} {us : List Value} (r : Vals xs us) : xs.length = us.length := Paired.length r
theorem Vals.get : ∀ {xs : List V} {us : List Value} {i : Nat} {x : V}, Vals xs us -> xs[i]? = some x -> ∃ u, us[i]? = some u /\ RelV x u
 | _, _, _, _, .nil, e => by simp at e
 | _, _, 0, _, .cons r _, e => by simp at e; subst e; exact ⟨_, rfl, r⟩
 | _, _, i + 1, x, .cons _ t, e => by
  obtain ⟨u, h1, h2⟩ := Vals.get (i := i) (x := x) t (by simpa using e)
  exact ⟨u, by simpa using h1, h2⟩
theorem Vals.set {x : V} {u : Value} (r : RelV x u) : ∀ {xs : List V} {us : List Value} (i : Nat), Vals xs us -> Vals (xs.set i x) (us.set i u)
 | _, _, _, .nil => .nil
 | _, _, 0, .cons _ t => .cons r t
 | _, _, i + 1, .cons q t => .cons q (Vals.set r i t)
theorem Vals.append : ∀ {xs ys : List V} {us ws : List Value}, Vals xs us -> Vals ys ws -> Vals (xs ++ ys) (us ++ ws)
 | _, _, _, _, .nil, s => s
 | _, _, _, _, .cons r t, s => .cons r (Vals.append t s)
theorem Vals.take : ∀ {xs : List V} {us : List Value} (n : Nat), Vals xs us -> Vals (xs.take n) (us.take n)
 | _, _, 0, _ => .nil
 | _, _, _ + 1, .nil => .nil
 | _, _, n + 1, .cons r t => .cons r (Vals.take n t)
theorem Vals.drop : ∀ {xs : List V} {us : List Value} (n : Nat), Vals xs us -> Vals (xs.drop n) (us.drop n)
 | _, _, 0, r => r
 | _, _, _ + 1, .nil => .nil
 | _, _, n + 1, .cons _ t => Vals.drop n t
def RelO : Option V -> Option Value -> Prop
 | some v, some u => RelV v u
 | none, none => True
 | _, _ => False
def KV {κ : Type} : List (κ × V) -> List (κ × Value) -> Prop := Paired fun (p : κ × V) (q : κ × Value) => p.1 = q.1 /\ RelV p.2 q.2
def kV : Key -> V
 | .inl i => .int i
 | .inr x => .str x
inductive HO where
 /-- a list -/
 | lst (xs : List V)
 /-- a tuple (never changes) -/
 | tup (xs : List V)
 /-- a dict whose keys are ints and texts; one whose keys are tuples of ints and texts (the empty one is both) -/
 | dK (kvs : List (Key × V)) | dT (kvs : List (List Key × V))
 /-- a set of ints: its members, its size -/
 | set (S : Int -> Bool) (n : Nat)
 /-- an instance of the class at C, its dict at dx, its attributes -/
 | ins (C dx : Addr) (fs : List (Str × V))
 /-- the dict of the instance at x -/
 | own (x : Addr)
 /-- the dict of an exception -/
 | xd (fs : List (Str × V))
 /-- a bound method, f of x -/
 | met (f x : Addr)
 /-- a range object lo, lo + 1, .. below hi -/
 | rng (lo hi : Int)
 /-- a thing that is known to the object (the script; a dict while a loop walks it): read, never written while it is so -/
 | frz (o : Obj) (u : HO)
 /-- a code object's table -/
 | tbl (ps : Array Value)
 /-- any other thing, by what is true of its one object (a def of one's own: SetO a S n := HO.ext fun h => ..) -/
 | ext (φ : Heap -> Prop)
abbrev Hp := Addr -> Option HO
def upd (H : Hp) (a : Addr) (o : HO) : Hp := fun b => if b = a then some o else H b
theorem Zs {H : Hp} {a : Addr} {o : HO} : upd H a o a = some o := by unfold upd; rw [if_pos rfl]
theorem Zz {H : Hp} {a b : Addr} {o : HO} (h : b ≠ a) : upd H a o b = H b := by unfold upd; rw [if_neg h]
theorem zcS {H : Hp} {a : Addr} {o u : HO} : upd (upd H a o) a u = upd H a u := by
 funext b; unfold upd; split <;> rfl
theorem ZF {H : Hp} {a b : Addr} {o : HO} (h : H a = some o) (h' : H b = none) : a ≠ b := by
 intro e; subst e; rw [h] at h'; cases h'
section
variable (P : Program) (w : World)
def WM (H : Hp) (h : Heap) (a : Addr) : HO -> Prop
 | .lst xs => xs.length <= sizeLine /\ ∃ (its : List Value) (n : Nat), Vals xs its /\ h.get? a = some { cls := .type "list", data := .seq its.toArray n }
 | .tup xs => xs.length <= sizeLine /\ ∃ its : List Value, Vals xs its /\ IsTup h a its.toArray
 | .dK kvs => kvs.length <= sizeLine /\ (a == sysModules) = false /\ ∃ vs, KV kvs vs /\ h.DictOf (Jo P w) a vs
 | .dT kvs => kvs.length <= sizeLine /\ (a == sysModules) = false /\ ∃ xs : List (List Key × Addr × Value),
   Paired (fun (p : List Key × V) (q : List Key × Addr × Value) => p.1 = q.1 /\ H q.2.1 = some (.tup (p.1.map kV)) /\ RelV p.2 q.2.2) kvs xs /\
   ∃ o es ep, h.get? a = some o /\ o.ExactDict /\ o.data = .dict es ep /\ es.toList = xs.map (entryOfKey (tupleKind (Jo P w))) /\ (xs.map (·.1)).Nodup
 | .set S n => h.SetOf (intKind P w) a S n
 | .ins C dx fs => H dx = some (.own a) /\ fs.length <= 1000 /\ dx ≠ a /\ h.get? a = some (PySem.W.instObj C dx) /\
   ∃ mA, h.Ns1 dx mA /\ (∀ f, RelO (fs.lookup f) (mA f)) /\ PySem.Within mA (fs.map (·.1))
 | .own _ => ∃ o, h.get? a = some o
 | .xd fs => ∃ mA, h.Ns1 a mA /\ ∀ f, RelO (fs.lookup f) (mA f)
 | .rng lo hi => ∃ t u v, h.get? a = some { cls := .type "range", data := .fields #[.int lo t, .int hi u, .int 1 v] }
 | .frz o u => h.get? a = some o /\ WM H h a u
 | .tbl ps => h.get? a = some { cls := .none, data := .fields ps }
 | .met f x => h.get? a = some (PySem.W.methodObj (.ref f) (.ref x))
 | .ext φ => φ h /\ (∃ o, h.get? a = some o) /\ ∀ h1 h2 : Heap, φ h1 -> (∀ o, h1.get? a = some o -> h2.get? a = some o) -> φ h2
def HOk (H : Hp) (h : Heap) : Prop := ∀ a o, H a = some o -> WM P w H h a o
end
section
variable {P : Program} {w : World} {H H' : Hp} {h h' : Heap} {a : Addr} {o : HO}
theorem WM.lt (x : WM P w H h a o) : a < h.objs.size := by
 cases o with
 | lst xs => obtain ⟨_, _, _, _, e⟩ := x; exact Heap.lt_size e
 | tup xs => obtain ⟨_, _, _, p⟩ := x; exact p.lt
 | dK kvs => obtain ⟨_, _, _, _, o, _, _, e, _⟩ := x; exact Heap.lt_size e
 | dT kvs => obtain ⟨_, _, _, _, o, _, _, e, _⟩ := x; exact Heap.lt_size e
 | set S n => obtain ⟨o, _, _, _, e, _⟩ := x; exact Heap.lt_size e
 | ins C dx fs => obtain ⟨_, _, _, e, _⟩ := x; exact Heap.lt_size e
 | own y => obtain ⟨_, e⟩ := x; exact Heap.lt_size e
 | xd fs => obtain ⟨_, ⟨_, _, _, e, _⟩, _⟩ := x; exact Heap.lt_size e
 | rng lo hi => obtain ⟨_, _, _, e⟩ := x; exact Heap.lt_size e
 | frz ob u => obtain ⟨e, _⟩ := x; exact Heap.lt_size e
 | tbl ps => exact Heap.lt_size (show h.get? a = some _ from x)
 | met f y => exact Heap.lt_size (show h.get? a = some _ from x)
 | ext φ => obtain ⟨_, ⟨_, e⟩, _⟩ := x; exact Heap.lt_size e
theorem Paired.mapP {α β : Type} {F G : α -> β -> Prop} : ∀ {l₁ : List α} {l₂ : List β}, Paired F l₁ l₂ -> (∀ a b, F a b -> G a b) -> Paired G l₁ l₂
 | _, _, .nil, _ => .nil
 | _, _, .cons r t, f => .cons (f _ _ r) (Paired.mapP t f)
theorem WM.stay (x : WM P w H h a o) (k : ∀ b u, (b = a \/ H b = some (.own a)) -> h.get? b = some u -> h'.get? b = some u)
  (ho : ∀ b, H b = some (.own a) -> H' b = some (.own a)) (ht : ∀ b xs, H b = some (.tup xs) -> H' b = some (.tup xs)) : WM P w H' h' a o := by
 induction o with
 | lst xs => obtain ⟨z, its, n, r, e⟩ := x; exact ⟨z, its, n, r, k _ _ (.inl rfl) e⟩
 | tup xs => obtain ⟨z, its, r, ob, e, c⟩ := x; exact ⟨z, its, r, ob, k _ _ (.inl rfl) e, c⟩
 | dK kvs => obtain ⟨z, y, vs, r, ob, es, ep, e, c⟩ := x; exact ⟨z, y, vs, r, ob, es, ep, k _ _ (.inl rfl) e, c⟩
 | dT kvs =>
  obtain ⟨z, y, xs, r, ob, es, ep, e, c⟩ := x
  exact ⟨z, y, xs, Paired.mapP r fun p q z => ⟨z.1, ht _ _ z.2.1, z.2.2⟩, ob, es, ep, k _ _ (.inl rfl) e, c⟩
 | set S n => obtain ⟨ob, es, ep, t, e, c⟩ := x; exact ⟨ob, es, ep, t, k _ _ (.inl rfl) e, c⟩
 | ins C dx fs =>
  obtain ⟨d, z, ne, e, mA, ⟨od, es, ep, e2, c⟩, r⟩ := x
  exact ⟨ho _ d, z, ne, k _ _ (.inl rfl) e, mA, ⟨od, es, ep, k _ _ (.inr d) e2, c⟩, r⟩
 | own y => obtain ⟨ob, e⟩ := x; exact ⟨ob, k _ _ (.inl rfl) e⟩
 | xd fs => obtain ⟨mA, ⟨od, es, ep, e, c⟩, r⟩ := x; exact ⟨mA, ⟨od, es, ep, k _ _ (.inl rfl) e, c⟩, r⟩
 | rng lo hi => obtain ⟨t, u, v, e⟩ := x; exact ⟨t, u, v, k _ _ (.inl rfl) e⟩
 | frz ob u ih => obtain ⟨e, q⟩ := x; exact ⟨k _ _ (.inl rfl) e, ih q⟩
 | tbl ps =>
  have e : h.get? a = some { cls := .none, data := .fields ps } := x
  show h'.get? a = some { cls := .none, data := .fields ps }
  exact k a _ (.inl rfl) e
 | met f y =>
  have e : h.get? a = some (PySem.W.methodObj (.ref f) (.ref y)) := x
  show h'.get? a = some (PySem.W.methodObj (.ref f) (.ref y))
  exact k a _ (.inl rfl) e
 | ext φ => obtain ⟨p, ⟨o, e⟩, st⟩ := x; exact ⟨st _ _ p fun o q => k _ _ (.inl rfl) q, ⟨o, k _ _ (.inl rfl) e⟩, st⟩
theorem HOk.lt (x : HOk P w H h) (e : H a = some o) : a < h.objs.size := (x a o e).lt
theorem HOk.fresh (x : HOk P w H h) (e : h.objs.size <= a) : H a = none := by
 cases q : H a with
 | none => rfl
 | some u => exact absurd (Nat.lt_of_lt_of_le (x.lt q) e) (Nat.lt_irrefl _)
theorem HOk.kept (x : HOk P w H h) (k : ∀ b u, h.get? b = some u -> h'.get? b = some u) : HOk P w H h' := fun a o e =>
 (x a o e).stay (fun b u _ q => k b u q) (fun _ q => q) fun _ _ q => q
theorem HOk.laid (x : HOk P w H h) (k : ∀ b u, h.get? b = some u -> h'.get? b = some u) (hp : h.objs.size <= a) (new : WM P w (upd H a o) h' a o) : HOk P w (upd H a o) h' := fun b u e => by
 have hn := x.fresh hp
 by_cases hb : b = a
 ·subst hb; rw [Zs] at e; cases e; exact new
 ·rw [Zz hb] at e
  exact (x b u e).stay (fun c v _ q => k c v q) (fun c q => by rw [Zz (ZF q hn)]; exact q) fun c xs q => by rw [Zz (ZF q hn)]; exact q
end
def Rd (H : Hp) (a : Addr) (u : HO) : Prop := H a = some u \/ ∃ o, H a = some (.frz o u)
theorem Rd.ok {P : Program} {w : World} {H : Hp} {h : Heap} {a : Addr} {u : HO} (r : Rd H a u) (x : HOk P w H h) : WM P w H h a u := by
 rcases r with r | ⟨o, r⟩
 ·exact x a u r
 ·obtain ⟨_, q⟩ := x a _ r
  exact q
def Mut : Option HO -> Prop
 | some (.lst _) => True
 | some (.dK _) => True
 | some (.dT _) => True
 | some (.set _ _) => True
 | some (.ins _ _ _) => True
 | some (.ext _) => True
 | _ => False
section
variable {P : Program} {w : World} {H : Hp} {h h' : Heap} {x e : Addr} {o' : HO}
theorem HOk.write (ok : HOk P w H h) (mu : Mut (H x)) (he : e = x \/ H e = some (.own x)) (k : ∀ b u, b ≠ e -> h.get? b = some u -> h'.get? b = some u) (heo : ∃ u, h'.get? e = some u)
  (new : WM P w (upd H x o') h' x o') : HOk P w (upd H x o') h' := fun b u q => by
 have nown : ∀ c y, H c = some (.own y) -> c ≠ x := fun c y r z => by subst z; rw [r] at mu; exact mu
 have ntup : ∀ c xs, H c = some (.tup xs) -> c ≠ x := fun c xs r z => by subst z; rw [r] at mu; exact mu
 by_cases hb : b = x
 ·subst hb; rw [Zs] at q; cases q; exact new
 ·rw [Zz hb] at q
  by_cases hbe : b = e
  ·have q' : H b = some (.own x) := by
    rcases he with z | z
    ·exact absurd (hbe.trans z) hb
    ·rw [hbe]; exact z
   rw [q] at q'; cases q'
   obtain ⟨v, hv⟩ := heo
   exact ⟨v, by rw [hbe]; exact hv⟩
  ·refine (ok b u q).stay (fun c v hc r => k c v ?_ r) (fun c r => by rw [Zz (nown c b r)]; exact r) fun c xs r => by rw [Zz (ntup c xs r)]; exact r
   rcases hc with rfl | hc
   ·exact hbe
   ·rintro rfl
    rcases he with z | z
    ·exact nown c b hc z
    ·rw [hc] at z; cases z; exact hb rfl
end
structure Un (fs ex : List Addr) (H H' : Hp) (h h' : Heap) : Prop where
 keep : ∀ b o, h.get? b = some o -> H b = none -> b ∉ fs -> b ∉ ex -> h'.get? b = some o
 slot : ∀ b o, h.get? b = some o -> H b = none -> b ∈ fs -> b ∉ ex -> ∃ sl, h'.get? b = some { o with slots := sl }
 free : ∀ b o, h.get? b = some o -> H b = none -> b ∉ ex -> H' b = none
 there : ∀ b o, h.get? b = some o -> b ∉ ex -> ∃ o', h'.get? b = some o'
 tups : ∀ b xs, H b = some (.tup xs) -> H' b = some (.tup xs)
 frzs : ∀ b o u, H b = some (.frz o u) -> H' b = some (.frz o u)
 tbls : ∀ b ps, H b = some (.tbl ps) -> ∃ more, H' b = some (.tbl (ps ++ more))
section
variable {fs fs' ex ex' : List Addr} {H H1 H2 : Hp} {h h1 h2 h' : Heap} {a x e : Addr} {o : HO}
theorem Un.any (u : Un fs ex H H1 h h1) {b : Addr} {ob : Obj} (q : h.get? b = some ob) (n : H b = none) (hx : b ∉ ex) : ∃ sl, h1.get? b = some { ob with slots := sl } := by
 by_cases hb : b ∈ fs
 ·exact u.slot b ob q n hb hx
 ·exact ⟨ob.slots, u.keep b ob q n hb hx⟩
theorem Un.kept (k : ∀ b u, h.get? b = some u -> h'.get? b = some u) : Un fs ex H H h h' :=
 ⟨fun b ob q _ _ _ => k b ob q, fun b ob q _ _ _ => ⟨ob.slots, k b ob q⟩, fun _ _ _ n _ => n, fun b ob q _ => ⟨ob, k b ob q⟩, fun _ _ q => q, fun _ _ _ q => q, fun _ ps q => ⟨#[], by rw [q]; simp⟩⟩
theorem Un.refl : Un fs ex H H h h := Un.kept fun _ _ q => q
theorem Un.laid (k : ∀ b u, h.get? b = some u -> h'.get? b = some u) (hp : h.objs.size <= a) (hn : H a = none) : Un fs ex H (upd H a o) h h' where
 keep := fun b u q _ _ _ => k b u q
 slot := fun b u q _ _ _ => ⟨u.slots, k b u q⟩
 free := fun b u q n _ => by rw [Zz (Nat.ne_of_lt (Nat.lt_of_lt_of_le (Heap.lt_size q) hp))]; exact n
 there := fun b u q _ => ⟨u, k b u q⟩
 tups := fun b xs q => by rw [Zz (ZF q hn)]; exact q
 frzs := fun b u xs q => by rw [Zz (ZF q hn)]; exact q
 tbls := fun b ps q => ⟨#[], by rw [Zz (ZF q hn), q]; simp⟩
theorem Un.write (mu : Mut (H x)) (he : e = x \/ H e = some (.own x)) (k : ∀ b u, b ≠ e -> h.get? b = some u -> h'.get? b = some u) (heo : ∃ u, h'.get? e = some u) : Un fs ex H (upd H x o) h h' := by
 have hx : ∀ b, H b = none -> b ≠ x := fun b n z => by subst z; rw [n] at mu; exact mu
 have hb : ∀ b, H b = none -> b ≠ e := fun b n z => by
  subst z
  rcases he with r | r
  ·exact hx b n r
  ·rw [n] at r; cases r
 have hm : ∀ b u, H b = some u -> ¬ Mut (some u) -> b ≠ x := fun b u q nm z => by subst z; rw [q] at mu; exact nm mu
 refine ⟨fun b u q n _ _ => k b u (hb b n) q, fun b u q n _ _ => ⟨u.slots, k b u (hb b n) q⟩, fun b u q n _ => by rw [Zz (hx b n)]; exact n, fun b u q _ => ?_,
  fun b xs q => by rw [Zz (hm b _ q fun z => z)]; exact q, fun b u xs q => by rw [Zz (hm b _ q fun z => z)]; exact q, fun b ps q => ⟨#[], by rw [Zz (hm b _ q fun z => z), q]; simp⟩⟩
 by_cases hbe : b = e
 ·subst hbe; exact heo
 ·exact ⟨u, k b u hbe q⟩
end
def trk (h : Heap) (H : Hp) : List Addr := (List.range h.objs.size).filter fun a => (H a).isSome
def hidT (h : Heap) (H : Hp) : Heap := PySem.W.hideAll h (trk h H)
theorem zdV (h : Heap) (H : Hp) : (hidT h H).objs.size = h.objs.size := PySem.W.hideAll_size _ _
theorem hidT_get {h : Heap} {H : Hp} {b : Addr} {o : Obj} (e : h.get? b = some o) (n : H b = none) : (hidT h H).get? b = some o :=
 PySem.W.hideAll_get _ e fun hm => by
  have q : (H b).isSome = true := (List.mem_filter.mp hm).2
  rw [n] at q; simp at q
theorem of_hidT {h : Heap} {H : Hp} {b : Addr} {o : Obj} (e : (hidT h H).get? b = some o) : h.get? b = some o /\ H b = none := by
 have e' : h.get? b = some o := PySem.W.of_hideAll (trk h H) e
 refine ⟨e', ?_⟩
 cases q : H b with
 | none => rfl
 | some x =>
  have hm : b ∈ trk h H := List.mem_filter.mpr ⟨List.mem_range.mpr (Heap.lt_size e'), by simp [q]⟩
  have z : (hidT h H).get? b = none := PySem.W.hideAll_none (trk h H) hm
  rw [z] at e; cases e
end L2
namespace L2
open PySem PySem.Spec PyProof.Rows
structure Mod (K : PySem.W.Frag) (mg : Str -> Option Value) (base : Heap) : Prop where
 kin : K.In base
 glob : base.Ns mainGlobals mg
 blt : ∃ mb, base.Ns builtinsNs mb /\ ∀ x : Str, x ≠ "__name__" -> mb x = bootBuiltins x
 nolimit : base.NoLimit
structure Cx where
 prog : Program
 w : World
 K : PySem.W.Frag
 mg : Str -> Option Value
 base : Heap
 A : Around
 N : List Str
 s₀ : Shared
 H₀ : Hp
 env : Env
 outer : List Env
 stack : List Env
 ex : List Addr
 fn : Str -> Bool
 calm : Bool
 pn : List (Addr × Obj)
 xe : Value -> Shared -> Prop
def frs (l : List Env) : List Addr := l.filterMap (·.frame)
abbrev Cx.fs (X : Cx) : List Addr := frs X.outer
def Vis (sc : Scope) (x : Str) : Prop := sc.names.lookup x = some .local \/ sc.names.lookup x = some .cell \/ sc.names.lookup x = some .free
def Loc (sc : Scope) (x : Str) : Prop := sc.names.lookup x = some .local \/ sc.names.lookup x = some .cell
def Look (env : Env) (h : Heap) (m : Str -> Option Value) (x : Str) (u : Value) : Prop :=
 (env.kindOf x = some .local /\ m x = some u) \/ ((env.kindOf x = some .cell \/ env.kindOf x = some .free) /\ ∃ c, env.cells.lookup x = some c /\ h.IsCell c (some u))
structure Cx.Ok (X : Cx) : Prop where
 mod : Mod X.K X.mg X.base
 kind : X.env.scope.kind = .function
 glob : X.env.globals = mainGlobals
 blt : X.env.builtins = builtinsNs
 above : X.s₀.heap.objs.size <= X.env.locals
 inj : ∀ x y c, X.env.cells.lookup x = some c -> X.env.cells.lookup y = some c -> x = y
 has : ∀ x, (X.env.kindOf x = some .cell \/ X.env.kindOf x = some .free) -> ∃ c, X.env.cells.lookup x = some c
 cab : ∀ x c, X.fn x = true -> X.env.cells.lookup x = some c -> X.s₀.heap.objs.size <= c
 hd : X.calm = true -> X.A.handled = none
 frames : X.A.frames = some X.stack
 stk : X.stack = X.outer \/ (X.stack = X.env :: X.outer /\ X.env.frame = some X.env.locals)
 exf : ∀ b ∈ X.ex, b ≠ X.env.locals /\ ∀ x c, X.env.cells.lookup x = some c -> c ≠ b
 bs : ∀ b o, X.base.get? b = some o -> X.s₀.heap.get? b = some o /\ X.H₀ b = none
 bsz : X.base.objs.size <= X.s₀.heap.objs.size
 noex : ∀ b o, X.base.get? b = some o -> b ∉ X.ex
 exfs : ∀ b ∈ X.ex, b ∉ X.fs
 funs : X.s₀.heap.FunFrames X.base X.outer
 frf : ∀ b ∈ X.fs, X.H₀ b = none
structure Inv (X : Cx) (pins : List (Addr × Obj)) (σ : List (Option V)) (H : Hp) (s : Shared) : Prop where
 ok : X.Ok
 os : s.os = X.s₀.os
 bare : AllBare s.gens
 base : Un X.fs X.ex X.H₀ H X.s₀.heap s.heap
 loc : ∃ m, s.heap.Ns X.env.locals m /\ ∀ (i : Nat) (x : Str) (v : V), X.N[i]? = some x -> σ[i]? = some (some v) -> Vis X.env.scope x -> ∃ u, RelV v u /\ Look X.env s.heap m x u
 cell : ∀ x c, X.env.cells.lookup x = some c -> ∃ v, s.heap.IsCell c v
 free : H X.env.locals = none
 freeC : ∀ x c, X.env.cells.lookup x = some c -> H c = none
 pin : ∀ p ∈ X.pn ++ pins, s.heap.get? p.1 = some p.2 /\ H p.1 = none /\ p.1 ≠ X.env.locals /\ p.1 ∉ X.fs /\ ∀ v, p.2.data ≠ .cell v
 hok : HOk X.prog X.w H s.heap
 len : σ.length = X.N.length
section
variable {X : Cx} {pins : List (Addr × Obj)} {σ : List (Option V)} {H H' : Hp} {s : Shared} {h' : Heap}
theorem Cx.Ok.nofr (ok : X.Ok) {b : Addr} {o : Obj} (e : X.base.get? b = some o) : b ∉ X.fs := fun hb => by
 have := (ok.funs.mem hb).1
 rw [e] at this; cases this
theorem Inv.bs (I : Inv X pins σ H s) : ∀ b o, X.base.get? b = some o -> s.heap.get? b = some o /\ H b = none := fun b o e =>
 ⟨I.base.keep b o (I.ok.bs b o e).1 (I.ok.bs b o e).2 (I.ok.nofr e) (I.ok.noex b o e), I.base.free b o (I.ok.bs b o e).1 (I.ok.bs b o e).2 (I.ok.noex b o e)⟩
theorem Inv.bk (I : Inv X pins σ H s) : ∀ b o, X.base.get? b = some o -> s.heap.get? b = some o := fun b o e => (I.bs b o e).1
theorem Inv.mod (I : Inv X pins σ H s) : Mod X.K X.mg X.base := I.ok.mod
theorem Inv.kIn (I : Inv X pins σ H s) : X.K.In s.heap := I.ok.mod.kin.keeps I.bk
theorem Inv.lt (I : Inv X pins σ H s) : X.env.locals < s.heap.objs.size := let ⟨_, hn, _⟩ := I.loc; hn.lt
theorem Inv.sz (I : Inv X pins σ H s) : X.s₀.heap.objs.size <= s.heap.objs.size := Nat.le_trans I.ok.above (Nat.le_of_lt I.lt)
theorem Inv.nofs (I : Inv X pins σ H s) {a : Addr} (h : s.heap.objs.size <= a) : a ∉ X.fs := fun hb => by
 obtain ⟨_, o, ho, _⟩ := I.ok.funs.mem hb
 exact absurd (Nat.lt_of_lt_of_le (Heap.lt_size ho) (Nat.le_trans I.sz h)) (Nat.lt_irrefl _)
theorem Inv.cne (I : Inv X pins σ H s) : ∀ x c, X.env.cells.lookup x = some c -> c ≠ X.env.locals := fun x c e z => by
 obtain ⟨v, o, ho, hd⟩ := I.cell x c e
 obtain ⟨m, ⟨o', es, ep, ho', hd', _⟩, _⟩ := I.loc
 rw [z, ho'] at ho; cases ho; rw [hd'] at hd; cases hd
theorem Inv.funs (I : Inv X pins σ H s) : s.heap.FunFrames X.base X.outer := by
 have all : ∀ (l : List Env), (∀ b ∈ frs l, b ∈ X.fs) -> X.s₀.heap.FunFrames X.base l -> s.heap.FunFrames X.base l := by
  intro l
  induction l with
  | nil => intro _ _; trivial
  | cons env r ih =>
   intro hs hl
   obtain ⟨hk, ⟨L, o, hf, hn, ho, hd⟩, hr⟩ := hl
   have hL : L ∈ X.fs := hs L (by unfold frs; rw [List.filterMap_cons, hf]; exact List.mem_cons_self)
   obtain ⟨sl, e⟩ := I.base.slot L o ho (I.ok.frf L hL) hL fun z => I.ok.exfs L z hL
   exact ⟨hk, ⟨L, _, hf, hn, e, hd⟩, ih (fun b hb => hs b (by unfold frs; rw [List.filterMap_cons, hf]; exact List.mem_cons_of_mem _ hb)) hr⟩
 exact all X.outer (fun _ hb => hb) I.ok.funs
theorem Inv.stack (I : Inv X pins σ H s) : s.heap.FunFrames X.base X.stack := by
 rcases I.ok.stk with e | ⟨e, hf⟩
 ·rw [e]; exact I.funs
 ·rw [e]
  obtain ⟨m, hn, _⟩ := I.loc
  refine .cons (by rw [I.ok.kind]; decide) hf hn ?_ I.funs
  exact Heap.get?_none_of_le (Nat.le_trans I.ok.bsz I.ok.above)
theorem Inv.stkSub (I : Inv X pins σ H s) : ∀ b ∈ frs X.stack, b ∈ X.env.locals :: X.fs := fun b hb => by
 rcases I.ok.stk with e | ⟨e, hf⟩
 ·rw [e] at hb; exact List.mem_cons_of_mem _ hb
 ·rw [e] at hb
  unfold frs at hb
  rw [List.filterMap_cons, hf] at hb
  exact hb
theorem Inv.stkFree (I : Inv X pins σ H s) : ∀ b ∈ frs X.stack, H b = none := fun b hb => by
 rcases List.mem_cons.mp (I.stkSub b hb) with e | hb
 ·rw [e]; exact I.free
 ·obtain ⟨_, o, ho, _⟩ := I.ok.funs.mem hb
  exact I.base.free b o ho (I.ok.frf b hb) fun z => I.ok.exfs b z hb
theorem Inv.step {g' : Array GenState} {t' : Nat} {d' : Drawn} {ch : List Addr} (I : Inv X pins σ H s)
  (hch : ∀ b ∈ ch, (b ∈ X.ex \/ X.s₀.heap.objs.size <= b) /\ b ≠ X.env.locals /\ (∀ x c, X.env.cells.lookup x = some c -> c ≠ b) /\ ∀ p ∈ X.pn ++ pins, p.1 ≠ b)
  (keep : ∀ b o, b ≠ X.env.locals -> b ∉ X.fs -> b ∉ ch -> s.heap.get? b = some o -> H b = none -> h'.get? b = some o)
  (slot : ∀ b o, b ≠ X.env.locals -> b ∈ X.fs -> b ∉ ch -> s.heap.get? b = some o -> H b = none -> ∃ sl, h'.get? b = some { o with slots := sl }) (free : ∀ b o, b ∉ ch -> s.heap.get? b = some o -> H b = none -> H' b = none)
  (there : ∀ b o, b ∉ ch -> s.heap.get? b = some o -> ∃ o', h'.get? b = some o')
  (tups : ∀ b xs, H b = some (.tup xs) -> H' b = some (.tup xs)) (frzs : ∀ b o u, H b = some (.frz o u) -> H' b = some (.frz o u)) (tbls : ∀ b ps, H b = some (.tbl ps) -> ∃ more, H' b = some (.tbl (ps ++ more)))
  (ns : ∀ m, s.heap.Ns X.env.locals m -> h'.Ns X.env.locals m) (hok : HOk X.prog X.w H' h') (hg : AllBare g') :
  Inv X pins σ H' { s with heap := h', gens := g', drawn := d', toks := t' } := by
 have neL : ∀ b o, X.s₀.heap.get? b = some o -> b ≠ X.env.locals := fun b o e => Nat.ne_of_lt (Nat.lt_of_lt_of_le (Heap.lt_size e) I.ok.above)
 have neC : ∀ b o, X.s₀.heap.get? b = some o -> b ∉ X.ex -> b ∉ ch := fun b o e hx hb => by
  rcases (hch b hb).1 with z | z
  ·exact hx z
  ·exact absurd (Nat.lt_of_lt_of_le (Heap.lt_size e) z) (Nat.lt_irrefl _)
 have cellK : ∀ x c, X.env.cells.lookup x = some c -> ∀ v, s.heap.IsCell c v -> h'.IsCell c v := fun x c e v ⟨o, ho, hd⟩ => by
  have nch : c ∉ ch := fun z => (hch c z).2.2.1 x c e rfl
  by_cases hc : c ∈ X.fs
  ·obtain ⟨sl, q⟩ := slot c o (I.cne x c e) hc nch ho (I.freeC x c e)
   exact ⟨_, q, hd⟩
  ·exact ⟨o, keep c o (I.cne x c e) hc nch ho (I.freeC x c e), hd⟩
 refine ⟨I.ok, I.os, hg, ⟨fun b o e n hb hx => ?_, fun b o e n hb hx => ?_, fun b o e n hx => ?_, fun b o e hx => ?_, fun b xs e => tups b xs (I.base.tups b xs e), fun b o xs e => frzs b o xs (I.base.frzs b o xs e), fun b ps e => ?_⟩, ?_, fun x c e => ?_, ?_, fun x c e => ?_, fun p hp => ?_, hok, I.len⟩
 ·exact keep b o (neL b o e) hb (neC b o e hx) (I.base.keep b o e n hb hx) (I.base.free b o e n hx)
 ·obtain ⟨sl, e1⟩ := I.base.slot b o e n hb hx
  obtain ⟨sl', e2⟩ := slot b _ (neL b o e) hb (neC b o e hx) e1 (I.base.free b o e n hx)
  exact ⟨sl', e2⟩
 ·obtain ⟨o', e1⟩ := I.base.there b o e hx
  exact free b o' (neC b o e hx) e1 (I.base.free b o e n hx)
 ·obtain ⟨o', e1⟩ := I.base.there b o e hx
  exact there b o' (neC b o e hx) e1
 ·obtain ⟨m1, e1⟩ := I.base.tbls b ps e
  obtain ⟨m2, e2⟩ := tbls b _ e1
  exact ⟨m1 ++ m2, by rw [e2, Array.append_assoc]⟩
 ·obtain ⟨m, hn, hl⟩ := I.loc
  refine ⟨m, ns m hn, fun i x v e1 e2 e3 => ?_⟩
  obtain ⟨u, r, l⟩ := hl i x v e1 e2 e3
  refine ⟨u, r, ?_⟩
  rcases l with l | ⟨k, c, e, z⟩
  ·exact .inl l
  ·exact .inr ⟨k, c, e, cellK x c e _ z⟩
 ·obtain ⟨v, z⟩ := I.cell x c e
  exact ⟨v, cellK x c e v z⟩
 ·obtain ⟨m, ⟨o, _, _, ho, _⟩, _⟩ := I.loc
  exact free _ o (fun z => (hch _ z).2.1 rfl) ho I.free
 ·obtain ⟨v, o, ho, hd⟩ := I.cell x c e
  exact free c o (fun z => (hch c z).2.2.1 x c e rfl) ho (I.freeC x c e)
 ·obtain ⟨e, n, ne, nf, d⟩ := I.pin p hp
  have nch : p.1 ∉ ch := fun z => (hch p.1 z).2.2.2 p hp rfl
  exact ⟨keep p.1 p.2 ne nf nch e n, free p.1 p.2 nch e n, ne, nf, d⟩
theorem Inv.un {t' : Nat} (I : Inv X pins σ H s) (u : Un X.fs [] H H' s.heap h') (hok : HOk X.prog X.w H' h') : Inv X pins σ H' { s with heap := h', toks := t' } := by
 obtain ⟨m, ⟨o, es, ep, ho, r⟩, _⟩ := id I.loc
 obtain ⟨sl, hL⟩ := u.any ho I.free (by simp)
 exact I.step (g' := s.gens) (d' := s.drawn) (ch := []) (fun _ z => nomatch z) (fun b o _ hb _ e n => u.keep b o e n hb (by simp)) (fun b o _ hb _ e n => u.slot b o e n hb (by simp)) (fun b o _ e n => u.free b o e n (by simp)) (fun b o _ e => u.there b o e (by simp)) u.tups u.frzs u.tbls (fun m' hm => by
  obtain ⟨o', es', ep', ho', r'⟩ := hm
  rw [ho] at ho'; cases ho'
  exact ⟨_, es', ep', hL, r'⟩) hok I.bare
theorem Inv.call {g' : Array GenState} {t' : Nat} {d' : Drawn} {ch : List Addr} (I : Inv X pins σ H s) (u : Un (frs X.stack) ch H H' s.heap h') (hok : HOk X.prog X.w H' h') (hg : AllBare g')
  (hch : ∀ b ∈ ch, (b ∈ X.ex \/ X.s₀.heap.objs.size <= b) /\ b ≠ X.env.locals /\ (∀ x c, X.env.cells.lookup x = some c -> c ≠ b) /\ ∀ p ∈ X.pn ++ pins, p.1 ≠ b) :
  Inv X pins σ H' { s with heap := h', gens := g', drawn := d', toks := t' } := by
 obtain ⟨m, ⟨o, es, ep, ho, r⟩, _⟩ := id I.loc
 obtain ⟨sl, hL⟩ := u.any ho I.free fun z => (hch _ z).2.1 rfl
 exact I.step (ch := ch) hch (fun b o hL hb hc e n => u.keep b o e n (fun z => (List.mem_cons.mp (I.stkSub b z)).elim hL hb) hc) (fun b o _ _ hc e n => u.any e n hc) (fun b o hc e n => u.free b o e n hc) (fun b o hc e => u.there b o e hc) u.tups u.frzs u.tbls (fun m' hm => by
  obtain ⟨o', es', ep', ho', r'⟩ := hm
  rw [ho] at ho'; cases ho'
  exact ⟨_, es', ep', hL, r'⟩) hok hg
theorem Inv.turned {t' : Nat} {it : Addr} (I : Inv X pins σ H s) (k : ∀ b o, b ≠ it -> s.heap.get? b = some o -> h'.get? b = some o) (hn : H it = none) (hL : it ≠ X.env.locals)
  (h1 : it ∈ X.ex \/ X.s₀.heap.objs.size <= it) (h2 : ∀ x c, X.env.cells.lookup x = some c -> c ≠ it) (h3 : ∀ p ∈ X.pn ++ pins, p.1 ≠ it) : Inv X pins σ H { s with heap := h', toks := t' } := by
 have nit : ∀ b u, H b = some u -> b ≠ it := fun b u e z => by rw [z, hn] at e; cases e
 refine I.step (g' := s.gens) (d' := s.drawn) (ch := [it]) (fun b hb => ?_) (fun b o _ _ hc e _ => k b o (fun z => hc (by simp [z])) e) (fun b o _ _ hc e _ => ⟨o.slots, k b o (fun z => hc (by simp [z])) e⟩) (fun _ _ _ _ n => n)
  (fun b o hc e => ⟨o, k b o (fun z => hc (by simp [z])) e⟩) (fun _ _ e => e) (fun _ _ _ e => e) (fun b ps e => ⟨#[], by rw [e]; simp⟩) (fun m hm => ?_) (fun b u e => ?_) I.bare
 ·have e : b = it := by simpa using hb
  subst e
  exact ⟨h1, hL, h2, h3⟩
 ·obtain ⟨o, es, ep, ho, r⟩ := hm
  exact ⟨o, es, ep, k _ o (Ne.symm hL) ho, r⟩
 ·refine (I.hok b u e).stay (fun c v hc q => k c v ?_ q) (fun _ q => q) fun _ _ q => q
  rcases hc with z | z
  ·rw [z]; exact nit b u e
  ·exact nit c _ z
theorem Inv.tok (I : Inv X pins σ H s) (t : Nat) : Inv X pins σ H { s with toks := t } := I.un (h' := s.heap) (t' := t) Un.refl I.hok
theorem Inv.kept {t' : Nat} (I : Inv X pins σ H s) (k : ∀ b u, s.heap.get? b = some u -> h'.get? b = some u) : Inv X pins σ H { s with heap := h', toks := t' } := I.un (Un.kept k) (I.hok.kept k)
theorem Inv.laid {a : Addr} {o : HO} {t' : Nat} (I : Inv X pins σ H s) (k : ∀ b u, s.heap.get? b = some u -> h'.get? b = some u) (hp : s.heap.objs.size <= a) (new : WM X.prog X.w (upd H a o) h' a o) :
  Inv X pins σ (upd H a o) { s with heap := h', toks := t' } := I.un (Un.laid k hp (I.hok.fresh hp)) (I.hok.laid k hp new)
theorem Inv.write {x e : Addr} {o : HO} {t' : Nat} (I : Inv X pins σ H s) (mu : Mut (H x)) (he : e = x \/ H e = some (.own x)) (k : ∀ b u, b ≠ e -> s.heap.get? b = some u -> h'.get? b = some u) (heo : ∃ u, h'.get? e = some u)
  (new : WM X.prog X.w (upd H x o) h' x o) : Inv X pins σ (upd H x o) { s with heap := h', toks := t' } := I.un (Un.write mu he k heo) (I.hok.write mu he k heo new)
theorem Inv.pins_of {pins' : List (Addr × Obj)} (I : Inv X pins σ H s) (h : ∀ p ∈ pins', s.heap.get? p.1 = some p.2 /\ H p.1 = none /\ p.1 ≠ X.env.locals /\ p.1 ∉ X.fs /\ ∀ v, p.2.data ≠ .cell v) : Inv X pins' σ H s :=
 ⟨I.ok, I.os, I.bare, I.base, I.loc, I.cell, I.free, I.freeC, fun p hp => (List.mem_append.mp hp).elim (fun z => I.pin p (List.mem_append_left _ z)) (h p), I.hok, I.len⟩
theorem zbL {N : List Str} (hN : N.Nodup) {i j : Nat} {x : Str} (a : N[i]? = some x) (b : N[j]? = some x) : i = j := by
 obtain ⟨h1, e1⟩ := List.getElem?_eq_some_iff.mp a
 obtain ⟨h2, e2⟩ := List.getElem?_eq_some_iff.mp b
 exact (List.getElem_inj hN).mp (e1.trans e2.symm)
theorem JL {M : Model} {A : Around} {E : Value -> Shared -> Prop} {i : Nat} {x : Str} {v : V} {u : Value} {Q : Unit -> Shared -> Prop} (I : Inv X pins σ H s) (hN : X.N.Nodup) (hi : X.N[i]? = some x) (hx : Loc X.env.scope x) (r : RelV v u)
  (h : ∀ s', Inv X pins (σ.set i (some v)) H s' -> (∃ a, Heap.SameBut a s.heap s'.heap /\ (a = X.env.locals \/ X.env.cells.lookup x = some a)) -> Q () s') (hf : X.fn x = true \/ X.env.scope.names.lookup x = some .local := by first | exact .inl rfl | exact .inr rfl | assumption) : wpAny M A (storeName X.env x u) Q E s := by
 obtain ⟨m, hn, hl⟩ := id I.loc
 have hcls : (X.env.scope.kind == .class || (X.env.scope.kind == .module && X.env.locals != X.env.globals)) = false := by rw [I.ok.kind]; rfl
 have hiσ : i < σ.length := by rw [I.len]; exact (List.getElem?_eq_some_iff.mp hi).1
 have cne := I.cne
 have tracked : ∀ {a : Addr} {h' : Heap}, (∃ o, s.heap.get? a = some o /\ H a = none) -> Heap.SameBut a s.heap h' -> HOk X.prog X.w H h' := fun {a h'} ha hs b ob e => by
  obtain ⟨_, _, hfree⟩ := ha
  refine (I.hok b ob e).stay (fun c w' hc q => (hs.2 c ?_).trans q) (fun _ q => q) fun _ _ q => q
  rintro rfl
  rcases hc with rfl | hc
  ·rw [hfree] at e; cases e
  ·rw [hfree] at hc; cases hc
 rcases hx with hk | hk
 ·refine wpAny_storeName_local hk hn (fun h' hn' hs => ?_) hcls
  obtain ⟨oL, _, _, hoL, _⟩ := id hn
  refine h _ ⟨I.ok, I.os, I.bare, ⟨fun b o e n hb hx => ?_, fun b o e n hb hx => ?_, I.base.free, fun b o e hx => ?_, I.base.tups, I.base.frzs, I.base.tbls⟩, ⟨_, hn', fun j y v' e1 e2 e3 => ?_⟩, fun y c e => ?_, I.free, I.freeC, fun p hp => ?_, tracked ⟨oL, hoL, I.free⟩ hs, by simpa using I.len⟩ ⟨_, hs, .inl rfl⟩
  ·exact (hs.2 b (Nat.ne_of_lt (Nat.lt_of_lt_of_le (Heap.lt_size e) I.ok.above))).trans (I.base.keep b o e n hb hx)
  ·obtain ⟨sl, e1⟩ := I.base.slot b o e n hb hx
   exact ⟨sl, (hs.2 b (Nat.ne_of_lt (Nat.lt_of_lt_of_le (Heap.lt_size e) I.ok.above))).trans e1⟩
  ·obtain ⟨o', e1⟩ := I.base.there b o e hx
   exact ⟨o', (hs.2 b (Nat.ne_of_lt (Nat.lt_of_lt_of_le (Heap.lt_size e) I.ok.above))).trans e1⟩
  ·by_cases hj : j = i
   ·subst hj
    rw [hi] at e1; cases e1
    rw [List.getElem?_set_self hiσ] at e2
    cases e2
    exact ⟨u, r, .inl ⟨hk, by simp⟩⟩
   ·rw [List.getElem?_set_ne (Ne.symm hj)] at e2
    obtain ⟨u', r', q⟩ := hl j y v' e1 e2 e3
    refine ⟨u', r', ?_⟩
    rcases q with ⟨k, e⟩ | ⟨k, c, e, z⟩
    ·refine .inl ⟨k, ?_⟩
     have : y ≠ x := fun e => hj (zbL hN e1 (e ▸ hi))
     simp [this, e]
    ·exact .inr ⟨k, c, e, z.sameBut hs (cne y c e)⟩
  ·obtain ⟨w', z⟩ := I.cell y c e
   exact ⟨w', z.sameBut hs (cne y c e)⟩
  ·obtain ⟨e, n, ne, nf, d⟩ := I.pin p hp
   exact ⟨(hs.2 p.1 ne).trans e, n, ne, nf, d⟩
 ·have hfn : X.fn x = true := by
   rcases hf with z | z
   ·exact z
   ·rw [z] at hk; cases hk
  obtain ⟨c, hc⟩ := I.ok.has x (.inl hk)
  obtain ⟨w', z⟩ := I.cell x c hc
  refine wpAny_storeName_cell I.ok.kind hk hc z (fun h' hc' hs => ?_)
  obtain ⟨oc, hoc, hocd⟩ := id z
  refine h { s with heap := h' } ⟨I.ok, I.os, I.bare, ⟨fun b o e n hb hx => ?_, fun b o e n hb hx => ?_, I.base.free, fun b o e hx => ?_, I.base.tups, I.base.frzs, I.base.tbls⟩, ⟨m, hn.sameBut hs (Ne.symm (cne x c hc)), fun j y v' e1 e2 e3 => ?_⟩, fun y c' e => ?_, I.free, I.freeC, fun p hp => ?_, tracked ⟨oc, hoc, I.freeC x c hc⟩ hs, by simpa using I.len⟩ ⟨c, hs, .inr hc⟩
  ·exact (hs.2 b (Nat.ne_of_lt (Nat.lt_of_lt_of_le (Heap.lt_size e) (I.ok.cab x c hfn hc)))).trans (I.base.keep b o e n hb hx)
  ·obtain ⟨sl, e1⟩ := I.base.slot b o e n hb hx
   exact ⟨sl, (hs.2 b (Nat.ne_of_lt (Nat.lt_of_lt_of_le (Heap.lt_size e) (I.ok.cab x c hfn hc)))).trans e1⟩
  ·obtain ⟨o', e1⟩ := I.base.there b o e hx
   exact ⟨o', (hs.2 b (Nat.ne_of_lt (Nat.lt_of_lt_of_le (Heap.lt_size e) (I.ok.cab x c hfn hc)))).trans e1⟩
  ·by_cases hj : j = i
   ·subst hj
    rw [hi] at e1; cases e1
    rw [List.getElem?_set_self hiσ] at e2
    cases e2
    exact ⟨u, r, .inr ⟨.inl hk, c, hc, hc'⟩⟩
   ·rw [List.getElem?_set_ne (Ne.symm hj)] at e2
    obtain ⟨u', r', q⟩ := hl j y v' e1 e2 e3
    refine ⟨u', r', ?_⟩
    rcases q with q | ⟨k, c', e, z'⟩
    ·exact .inl q
    ·refine .inr ⟨k, c', e, z'.sameBut hs ?_⟩
     rintro rfl
     exact hj (zbL hN e1 (I.ok.inj _ _ _ e hc ▸ hi))
  ·by_cases hcc : c' = c
   ·subst hcc; exact ⟨_, hc'⟩
   ·obtain ⟨w2, z2⟩ := I.cell y c' e
    exact ⟨w2, z2.sameBut hs hcc⟩
  ·obtain ⟨e, n, ne, nf, d⟩ := I.pin p hp
   refine ⟨(hs.2 p.1 ?_).trans e, n, ne, nf, d⟩
   intro q
   rw [q, hoc] at e
   have q' : oc = p.2 := Option.some.inj e
   exact d w' (by rw [<- q']; exact hocd)
theorem zbv {M : Model} {A : Around} {E : Value -> Shared -> Prop} {i : Nat} {x : Str} {v : V} {u : Value} {Q : Unit -> Shared -> Prop} (I : Inv X pins σ H s) (hN : X.N.Nodup) (hi : X.N[i]? = some x) (hx : Loc X.env.scope x) (r : RelV v u)
  (h : ∀ s', Inv X pins (σ.set i (some v)) H s' -> Q () s') (hf : X.fn x = true \/ X.env.scope.names.lookup x = some .local := by first | exact .inl rfl | exact .inr rfl | assumption) : wpAny M A (storeName X.env x u) Q E s :=
 JL I hN hi hx r (fun s' I' _ => h s' I') hf
theorem Inv.call' {s' : Shared} {ch : List Addr} (I : Inv X pins σ H s) (ho : s'.os = s.os) (u : Un (frs X.stack) ch H H' s.heap s'.heap) (hok : HOk X.prog X.w H' s'.heap) (hg : AllBare s'.gens)
  (hch : ∀ b ∈ ch, (b ∈ X.ex \/ X.s₀.heap.objs.size <= b) /\ b ≠ X.env.locals /\ (∀ x c, X.env.cells.lookup x = some c -> c ≠ b) /\ ∀ p ∈ X.pn ++ pins, p.1 ≠ b) : Inv X pins σ H' s' := by
 obtain ⟨h', g', d', t', o'⟩ := s'
 have e : o' = s.os := ho
 subst e
 exact I.call (g' := g') (t' := t') (d' := d') u hok hg hch
end
abbrev XK := Value -> Option Addr -> Hp -> Prop
abbrev St := List (Option V)
abbrev VK := V -> Hp -> Prop
abbrev TE := St -> Hp -> VK -> Prop
abbrev TT := St -> Hp -> (Bool -> Hp -> Prop) -> Prop
abbrev TA := St -> Hp -> (List V -> Hp -> Prop) -> Prop
structure Ends where
 nx : St -> Hp -> Prop
 rt : VK
 bk : St -> Hp -> Prop := fun _ _ => False
 ct : St -> Hp -> Prop := fun _ _ => False
abbrev TS := Ends -> St -> Hp -> Prop
def EP (X : Cx) (pins : List (Addr × Obj)) (σ : St) (Q : VK) (u : Value) (s' : Shared) : Prop := ∃ v H', Inv X pins σ H' s' /\ RelV v u /\ Q v H'
def TP (X : Cx) (pins : List (Addr × Obj)) (σ : St) (Q : Bool -> Hp -> Prop) (b : Bool) (s' : Shared) : Prop := ∃ H', Inv X pins σ H' s' /\ Q b H'
def AP (X : Cx) (pins : List (Addr × Obj)) (σ : St) (Q : List V -> Hp -> Prop) (us : List Value) (s' : Shared) : Prop := ∃ vs H', Inv X pins σ H' s' /\ Vals vs us /\ Q vs H'
def SP (X : Cx) (pins : List (Addr × Obj)) (D : Ends) (f : Flow) (s' : Shared) : Prop :=
 match f with
 | .next => ∃ σ' H', Inv X pins σ' H' s' /\ D.nx σ' H'
 | .brk => ∃ σ' H', Inv X pins σ' H' s' /\ D.bk σ' H'
 | .cont => ∃ σ' H', Inv X pins σ' H' s' /\ D.ct σ' H'
 | .ret u => ∃ v σ' H', Inv X pins σ' H' s' /\ RelV v u /\ D.rt v H'
def PE (X : Cx) (e : Expr) (t : TE) : Prop :=
 ∀ (pins : List (Addr × Obj)) (s : Shared) (σ : St) (H : Hp) (Q : VK), Inv X pins σ H s -> t σ H Q -> wpAny (model X.prog X.w) X.A (eval e X.env) (EP X pins σ Q) X.xe s
def PT (X : Cx) (e : Expr) (t : TT) : Prop :=
 ∀ (pins : List (Addr × Obj)) (s : Shared) (σ : St) (H : Hp) (Q : Bool -> Hp -> Prop), Inv X pins σ H s -> t σ H Q -> wpAny (model X.prog X.w) X.A (isTrue e X.env (eval e X.env)) (TP X pins σ Q) X.xe s
def PW (X : Cx) (e : Expr) (t : TT) : Prop :=
 ∀ (whole : Sem Value) (pins : List (Addr × Obj)) (s : Shared) (σ : St) (H : Hp) (Q : Bool -> Hp -> Prop), Inv X pins σ H s -> t σ H Q -> wpAny (model X.prog X.w) X.A (isTrue e X.env whole) (TP X pins σ Q) X.xe s
theorem PW.pt {X : Cx} {e : Expr} {t : TT} (h : PW X e t) : PT X e t := h _
def PA (X : Cx) (es : List Expr) (t : TA) : Prop :=
 ∀ (pos : Pos) (pins : List (Addr × Obj)) (s : Shared) (σ : St) (H : Hp) (Q : List V -> Hp -> Prop), Inv X pins σ H s -> t σ H Q -> wpAny (model X.prog X.w) X.A (spliced (backTo pos (starEach es X.env))) (AP X pins σ Q) X.xe s
def PS (X : Cx) (st : Stmt) (t : TS) : Prop :=
 ∀ (pins : List (Addr × Obj)) (s : Shared) (σ : St) (H : Hp) (D : Ends), Inv X pins σ H s -> t D σ H -> wpAny (model X.prog X.w) X.A (exec st X.env) (SP X pins D) X.xe s
def PSs (X : Cx) (st : List Stmt) (t : TS) : Prop :=
 ∀ (pins : List (Addr × Obj)) (s : Shared) (σ : St) (H : Hp) (D : Ends), Inv X pins σ H s -> t D σ H -> wpAny (model X.prog X.w) X.A (execs st X.env) (SP X pins D) X.xe s
theorem thn {α : Type} {t : Sem α} {Q Q' : α -> Shared -> Prop} {M : Model} {A : Around} {E : Value -> Shared -> Prop} {s : Shared} (h : wpAny M A t Q E s) (hQ : ∀ a s, Q a s -> Q' a s) : wpAny M A t Q' E s := wpAny_mono h hQ fun _ _ x => x
end L2
namespace L2
open PySem PySem.Spec PyProof.Rows
section
variable {X : Cx}
def tVar (i : Nat) : TE := fun σ H Q => ∃ v, σ[i]? = some (some v) /\ Q v H
def tC (v : V) : TE := fun _ H Q => Q v H
theorem Uj {i : Nat} {x : Str} {pos : Pos} (hN : X.N[i]? = some x) (hv : Vis X.env.scope x) (hd : (x == ("__debug__" : Str)) = false := by decide) (hcd : (x == ("__classdict__" : Str)) = false := by decide) : PE X (.Name x pos) (tVar i) := by
 intro pins s σ H Q I h
 obtain ⟨v, e, h⟩ := h
 obtain ⟨m, hn, hl⟩ := I.loc
 obtain ⟨u, r, l⟩ := hl i x v hN e hv
 have fin : EP X pins σ Q u s := ⟨v, H, I, r, h⟩
 rcases l with ⟨hk, hm⟩ | ⟨hk, c, hc, hcell⟩
 ·exact wpAny_Name (wpAny_loadName_local I.ok.kind hk hn hm fin) hd
 ·rcases hk with hk | hk
  ·exact wpAny_Name (wpAny_loadName_cell I.ok.kind hk hc hcell fin) hd
  ·exact wpAny_Name (wpAny_loadName_free I.ok.kind hk hc hcell fin hcd) hd
theorem pe_int {i j pos} : PE X (.Constant (.int i) j pos) (tC (.int i)) := fun _ _ _ H _ I h => wpAny_Constant_int ⟨.int i, H, I.tok _, ⟨_, rfl⟩, h⟩
theorem pe_bl {b j pos} : PE X (.Constant (.bool b) j pos) (tC (.bl b)) := fun _ _ _ H _ I h => Constant_bool ⟨.bl b, H, I, rfl, h⟩
theorem pe_non {j pos} : PE X (.Constant .none j pos) (tC .non) := fun _ _ _ H _ I h => Constant_none ⟨.non, H, I, rfl, h⟩
def Gl (X : Cx) (x : Str) : Prop := X.env.kindOf x = some .globalImplicit
theorem za7 {E : Value -> Shared -> Prop} {pins : List (Addr × Obj)} {s : Shared} {σ : St} {H : Hp} {x : Str} {u : Value} {pos : Pos} {Q : Value -> Shared -> Prop} (I : Inv X pins σ H s) (hg : Gl X x) (hm : X.mg x = some u) (h : Q u s)
  (hd : (x == ("__debug__" : Str)) = false := by decide) : wpAny (model X.prog X.w) X.A (eval (.Name x pos) X.env) Q E s :=
 Calls.Name_function_global I.ok.kind hg (Calls.loadGlobal_global (by rw [I.ok.glob]; exact I.mod.glob.keeps I.bk) hm h) hd
theorem U0 {E : Value -> Shared -> Prop} {pins : List (Addr × Obj)} {s : Shared} {σ : St} {H : Hp} {x : Str} {u : Value} {pos : Pos} {Q : Value -> Shared -> Prop} (I : Inv X pins σ H s) (hg : Gl X x) (hm : X.mg x = none) (hv : bootBuiltins x = some u) (h : Q u s)
  (hn : x ≠ "__name__" := by decide) (hd : (x == ("__debug__" : Str)) = false := by decide) : wpAny (model X.prog X.w) X.A (eval (.Name x pos) X.env) Q E s := by
 obtain ⟨mb, h1, h2⟩ := I.mod.blt
 exact Calls.Name_function_global I.ok.kind hg (Calls.loadGlobal_builtin (by rw [I.ok.glob]; exact I.mod.glob.keeps I.bk) hm (by rw [I.ok.blt]; exact h1.keeps I.bk) ((h2 x hn).trans hv) h) hd
theorem pe_glob {x : Str} {v : V} {u : Value} {pos : Pos} (hg : Gl X x) (hm : X.mg x = some u) (r : RelV v u) (hd : (x == ("__debug__" : Str)) = false := by decide) : PE X (.Name x pos) (tC v) :=
 fun _ _ _ H _ I h => za7 I hg hm ⟨v, H, I, r, h⟩ hd
theorem pe_bltn {x : Str} {v : V} {u : Value} {pos : Pos} (hg : Gl X x) (hm : X.mg x = none) (hv : bootBuiltins x = some u) (r : RelV v u) (hn : x ≠ "__name__" := by decide) (hd : (x == ("__debug__" : Str)) = false := by decide) : PE X (.Name x pos) (tC v) :=
 fun _ _ _ H _ I h => U0 I hg hm hv ⟨v, H, I, r, h⟩ hn hd
variable {a b : Expr} {ta tb : TE} {pos : Pos}
def PC (X : Cx) (op : CmpOp) (a b : Expr) (t : TE) : Prop :=
 ∀ (pins : List (Addr × Obj)) (s : Shared) (σ : St) (H : Hp) (Q : VK), Inv X pins σ H s -> t σ H Q ->
  wpAny (model X.prog X.w) X.A (eval a X.env) (fun v s₁ => wpAny (model X.prog X.w) X.A (eval b X.env) (fun u s₂ => wpAny (model X.prog X.w) X.A (compareOp op v u) (EP X pins σ Q) X.xe s₂) X.xe s₁) X.xe s
theorem Jm (b : Expr) {op : CmpOp} (h : op ≠ .In) (h2 : op ≠ .NotIn) : behindInMarks op b = false := by
 have e1 : (op == CmpOp.In) = false := by cases op <;> first | rfl | exact absurd rfl h
 have e2 : (op == CmpOp.NotIn) = false := by cases op <;> first | rfl | exact absurd rfl h2
 cases b <;> simp [behindInMarks, e1, e2]
def tIsN (ta : TE) : TE := fun σ H Q => ta σ H fun x H1 => Q (.bl (decide (x = .non))) H1
def tNotN (ta : TE) : TE := fun σ H Q => ta σ H fun x H1 => Q (.bl (!decide (x = .non))) H1
theorem RelV.none_iff {x : V} {v : Value} (r : RelV x v) : (v == Value.none) = decide (x = .non) := by
 cases x with
 | non => cases r; rfl
 | bl _ => cases r; rfl
 | int _ => obtain ⟨t, rfl⟩ := r; rfl
 | str _ => obtain ⟨t, rfl⟩ := r; rfl
 | byt _ => obtain ⟨t, rfl⟩ := r; rfl
 | flt _ => obtain ⟨t, rfl⟩ := r; rfl
 | ref _ => cases r; rfl
 | ty _ => cases r; rfl
theorem pc_isN {j pos'} (ha : PE X a ta) : PC X .Is a (.Constant .none j pos') (tIsN ta) := by
 intro pins s σ H Q I h
 refine thn (ha pins s σ H _ I h) fun v s1 ⟨x, H1, I1, r1, q1⟩ => ?_
 exact Constant_none (is_none_gen ⟨.bl _, H1, I1, by rw [r1.none_iff]; rfl, q1⟩)
theorem pc_notN {j pos'} (ha : PE X a ta) : PC X .IsNot a (.Constant .none j pos') (tNotN ta) := by
 intro pins s σ H Q I h
 refine thn (ha pins s σ H _ I h) fun v s1 ⟨x, H1, I1, r1, q1⟩ => ?_
 exact Constant_none (isnot_none_gen ⟨.bl _, H1, I1, by rw [r1.none_iff]; rfl, q1⟩)
def tB (t : TE) : TT := fun σ H Q => t σ H fun x H1 => ∃ c, x = .bl c /\ Q c H1
theorem pt_cmp {op : CmpOp} {t : TE} (h : PC X op a b t) (h1 : behindInMarks op b = false := by first | exact Jm _ (by decide) (by decide) | rfl) : PT X (.Compare a [op] [b] pos) (tB t) := by
 intro pins s σ H Q I hw
 refine wpAny_isTrue_Compare1 (thn (h pins s σ H _ I hw) fun v s1 h1 => thn h1 fun u s2 h2 => thn h2 fun c s3 ⟨x, H1, I1, r1, q1⟩ => ?_) h1
 obtain ⟨d, rfl, q⟩ := q1
 cases r1
 exact wpAny_truthy_bool ⟨H1, I1, q⟩
variable {tA tB' : TT} {rest : List Expr}
def tAnd (t u : TT) : TT := fun σ H Q => t σ H fun c H1 => if c = true then u σ H1 Q else Q false H1
def tOr (t u : TT) : TT := fun σ H Q => t σ H fun c H1 => if c = true then Q true H1 else u σ H1 Q
def tNot (t : TT) : TT := fun σ H Q => t σ H fun c H1 => Q (!c) H1
theorem pw_and1 (ha : PT X a tA) : PW X (.BoolOp .And [a] pos) tA := by
 intro wh pins s σ H Q I h
 refine isTrue_and (thn (ha pins s σ H Q I h) fun c s1 e => ?_)
 cases c with
 | true => exact isTrue_and_nil e
 | false => exact e
theorem pw_or1 (ha : PT X a tA) : PW X (.BoolOp .Or [a] pos) tA := by
 intro wh pins s σ H Q I h
 refine isTrue_or (thn (ha pins s σ H Q I h) fun c s1 e => ?_)
 cases c with
 | false => exact isTrue_or_nil e
 | true => exact e
theorem pw_and (ha : PT X a tA) (hb : PW X (.BoolOp .And (b :: rest) pos) tB') : PW X (.BoolOp .And (a :: b :: rest) pos) (tAnd tA tB') := by
 intro wh pins s σ H Q I h
 refine isTrue_and (thn (ha pins s σ H _ I h) fun c s1 ⟨H1, I1, q1⟩ => ?_)
 cases c with
 | true => exact hb wh pins s1 σ H1 Q I1 q1
 | false => exact ⟨H1, I1, q1⟩
theorem pw_or (ha : PT X a tA) (hb : PW X (.BoolOp .Or (b :: rest) pos) tB') : PW X (.BoolOp .Or (a :: b :: rest) pos) (tOr tA tB') := by
 intro wh pins s σ H Q I h
 refine isTrue_or (thn (ha pins s σ H _ I h) fun c s1 ⟨H1, I1, q1⟩ => ?_)
 cases c with
 | true => exact ⟨H1, I1, q1⟩
 | false => exact hb wh pins s1 σ H1 Q I1 q1
theorem pt_not (ha : PT X a tA) : PT X (.UnaryOp .Not a pos) (tNot tA) := by
 intro pins s σ H Q I h
 exact isTrue_not (ha pins s σ H (fun c H1 => Q (!c) H1) I h)
def tAndV (ta tb : TE) : TE := fun σ H Q => ta σ H fun x H1 => ∃ c, x = .bl c /\ if c = true then tb σ H1 Q else Q (.bl false) H1
def tNotV (ta : TE) : TE := fun σ H Q => ta σ H fun x H1 => ∃ c, x = .bl c /\ Q (.bl (!c)) H1
theorem pe_one {op} {t : TE} (h : PE X a t) : PE X (.BoolOp op [a] pos) t := fun pins s σ H Q I hw => BoolOp_one (h pins s σ H Q I hw)
theorem pe_and (ha : PE X a ta) (hb : PE X (.BoolOp .And (b :: rest) pos) tb) : PE X (.BoolOp .And (a :: b :: rest) pos) (tAndV ta tb) := by
 intro pins s σ H Q I h
 refine BoolOp_and (thn (ha pins s σ H _ I h) fun v s1 ⟨x, H1, I1, r1, q1⟩ => ?_)
 obtain ⟨c, rfl, q1⟩ := q1
 cases r1
 refine wpAny_truthy_bool ?_
 cases c with
 | true => exact hb pins s1 σ H1 Q I1 q1
 | false => exact ⟨.bl false, H1, I1, rfl, q1⟩
theorem pe_not (ha : PE X a ta) : PE X (.UnaryOp .Not a pos) (tNotV ta) := by
 intro pins s σ H Q I h
 refine UnaryOp_ (thn (ha pins s σ H _ I h) fun v s1 ⟨x, H1, I1, r1, q1⟩ => ?_)
 obtain ⟨c, rfl, q1⟩ := q1
 cases r1
 exact not_of (wpAny_truthy_bool ⟨.bl (!c), H1, I1, rfl, q1⟩)
def tIf (t : TT) (ta tb : TE) : TE := fun σ H Q => t σ H fun c H1 => if c = true then ta σ H1 Q else tb σ H1 Q
theorem pe_ifExp {c : Expr} (hc : PT X c tA) (ha : PE X a ta) (hb : PE X b tb) : PE X (.IfExp c a b pos) (tIf tA ta tb) := by
 intro pins s σ H Q I h
 refine wpAny_IfExp (thn (hc pins s σ H _ I h) fun d s1 ⟨H1, I1, q1⟩ => ?_)
 cases d with
 | true => exact ha pins s1 σ H1 Q I1 q1
 | false => exact hb pins s1 σ H1 Q I1 q1
end
end L2
namespace L2
open PySem PySem.Spec PyProof.Rows
def SqL (K : PySem.W.Frag) (H : Hp) (a : Addr) (xs : List V) : Prop :=
 Rd H a (.lst xs) \/
  ∃ (o : Obj) (its : Array Value) (n : Nat), K.lookup a = some o /\ o.cls = .type "list" /\ o.dict = none /\ o.data = .seq its n /\ its.size <= sizeLine /\ Vals xs its.toList
def SqT (K : PySem.W.Frag) (H : Hp) (a : Addr) (xs : List V) : Prop :=
 Rd H a (.tup xs) \/
  ∃ (o : Obj) (its : Array Value) (n : Nat), K.lookup a = some o /\ o.cls = .type "tuple" /\ o.data = .seq its n /\ its.size <= sizeLine /\ Vals xs its.toList
def absV : Value -> Option V
 | .none => some .non
 | .bool b => some (.bl b)
 | .int i _ => some (.int i)
 | .str x _ => some (.str x)
 | .bytes b _ => some (.byt b)
 | .float b _ => some (.flt b)
 | .ref a => some (.ref a)
 | .type n => some (.ty n)
 | _ => none
theorem RelV.abs {x : V} {u : Value} (r : RelV x u) : absV u = some x := by
 cases x with
 | non => cases r; rfl
 | bl _ => cases r; rfl
 | int _ => obtain ⟨t, rfl⟩ := r; rfl
 | str _ => obtain ⟨t, rfl⟩ := r; rfl
 | byt _ => obtain ⟨t, rfl⟩ := r; rfl
 | flt _ => obtain ⟨t, rfl⟩ := r; rfl
 | ref _ => cases r; rfl
 | ty _ => cases r; rfl
theorem RelV.inj {x y : V} {u : Value} (r : RelV x u) (q : RelV y u) : x = y := Option.some.inj (r.abs.symm.trans q.abs)
theorem Vals.inj : ∀ {xs ys : List V} {us : List Value}, Vals xs us -> Vals ys us -> xs = ys
 | _, _, _, .nil, .nil => rfl
 | _, _, _, .cons r t, .cons r' t' => by rw [r.inj r', Vals.inj t t']
section
variable {X : Cx} {pins : List (Addr × Obj)} {σ : St} {H : Hp} {s : Shared} {a : Addr} {xs ys : List V}
theorem SqL.of {K : PySem.W.Frag} (h : H a = some (.lst xs)) : SqL K H a xs := .inl (.inl h)
theorem Inv.list (I : Inv X pins σ H s) (h : SqL X.K H a xs) : ∃ its : List Value, Vals xs its /\ PlainL s.heap a its.toArray /\ xs.length <= sizeLine := by
 rcases h with h | ⟨o, its, n, hk, hc, hd, hs, hz, r⟩
 ·obtain ⟨z, its, n, r, e⟩ := h.ok I.hok
  exact ⟨its, r, ⟨_, n, e, rfl, rfl, rfl⟩, z⟩
 ·refine ⟨its.toList, r, ⟨o, n, I.kIn a o hk, hc, hd, by simpa using hs⟩, ?_⟩
  have e := r.length
  simp only [Array.length_toList] at e
  omega
theorem Inv.tuple (I : Inv X pins σ H s) (h : SqT X.K H a xs) : ∃ its : List Value, Vals xs its /\ IsTup s.heap a its.toArray /\ xs.length <= sizeLine := by
 rcases h with h | ⟨o, its, n, hk, hc, hs, hz, r⟩
 ·obtain ⟨z, its, r, p⟩ := h.ok I.hok
  exact ⟨its, r, p, z⟩
 ·refine ⟨its.toList, r, ⟨o, I.kIn a o hk, hc, n, by simpa using hs⟩, ?_⟩
  have e := r.length
  simp only [Array.length_toList] at e
  omega
theorem Inv.list_inj (I : Inv X pins σ H s) (h : SqL X.K H a xs) (h' : SqL X.K H a ys) : xs = ys := by
 obtain ⟨its, r, ⟨o, n, e, _, _, d⟩, _⟩ := I.list h
 obtain ⟨its', r', ⟨o', n', e', _, _, d'⟩, _⟩ := I.list h'
 rw [e] at e'; cases e'
 rw [d] at d'
 injection d' with d1 _
 have : its = its' := by simpa using congrArg Array.toList d1
 subst this
 exact r.inj r'
theorem Inv.tuple_inj (I : Inv X pins σ H s) (h : SqT X.K H a xs) (h' : SqT X.K H a ys) : xs = ys := by
 obtain ⟨its, r, ⟨o, e, _, n, d⟩, _⟩ := I.tuple h
 obtain ⟨its', r', ⟨o', e', _, n', d'⟩, _⟩ := I.tuple h'
 rw [e] at e'; cases e'
 rw [d] at d'
 injection d' with d1 _
 have : its = its' := by simpa using congrArg Array.toList d1
 subst this
 exact r.inj r'
end
abbrev Cx.wish (X : Cx) (E : Value -> Shared -> Prop) : Cx := { X with xe := E }
abbrev Cx.nox (X : Cx) : Cx := X.wish fun _ _ => False
theorem Cx.Ok.wish {X : Cx} (ok : X.Ok) (E : Value -> Shared -> Prop) : (X.wish E).Ok :=
 ⟨ok.mod, ok.kind, ok.glob, ok.blt, ok.above, ok.inj, ok.has, ok.cab, ok.hd, ok.frames, ok.stk, ok.exf, ok.bs, ok.bsz, ok.noex, ok.exfs, ok.funs, ok.frf⟩
theorem Cx.Ok.unwish {X : Cx} {E : Value -> Shared -> Prop} (ok : (X.wish E).Ok) : X.Ok :=
 ⟨ok.mod, ok.kind, ok.glob, ok.blt, ok.above, ok.inj, ok.has, ok.cab, ok.hd, ok.frames, ok.stk, ok.exf, ok.bs, ok.bsz, ok.noex, ok.exfs, ok.funs, ok.frf⟩
section
variable {X : Cx} {pins : List (Addr × Obj)} {σ : St} {H : Hp} {s : Shared} {E : Value -> Shared -> Prop}
theorem Inv.wish (I : Inv X pins σ H s) (E : Value -> Shared -> Prop) : Inv (X.wish E) pins σ H s := ⟨I.ok.wish E, I.os, I.bare, I.base, I.loc, I.cell, I.free, I.freeC, I.pin, I.hok, I.len⟩
theorem Inv.unwish (I : Inv (X.wish E) pins σ H s) : Inv X pins σ H s := ⟨I.ok.unwish, I.os, I.bare, I.base, I.loc, I.cell, I.free, I.freeC, I.pin, I.hok, I.len⟩
theorem SP.unwish {D : Ends} {f : Flow} {s' : Shared} (h : SP (X.wish E) pins D f s') : SP X pins D f s' := by
 cases f with
 | next => obtain ⟨σ', H', I, q⟩ := h; exact ⟨σ', H', I.unwish, q⟩
 | brk => obtain ⟨σ', H', I, q⟩ := h; exact ⟨σ', H', I.unwish, q⟩
 | cont => obtain ⟨σ', H', I, q⟩ := h; exact ⟨σ', H', I.unwish, q⟩
 | ret u => obtain ⟨v, σ', H', I, r, q⟩ := h; exact ⟨v, σ', H', I.unwish, r, q⟩
theorem PSs.nox {st : List Stmt} {t : TS} (h : PSs X.nox st t) : PSs X st t := fun pins s σ H D I hw =>
 wpAny_mono (h pins s σ H D (I.wish _) hw) (fun _ _ q => q.unwish) fun _ _ z => False.elim z
end
section
variable {X : Cx} {st : Stmt} {rest : List Stmt} {t u : TS} {e : Expr} {te : TE} {pos : Pos}
def tNext : TS := fun D σ H => D.nx σ H
def tSeq (t u : TS) : TS := fun D σ H => t { D with nx := u D } σ H
theorem pss_nil : PSs X [] tNext := fun _ _ σ H _ I h => wpAny_execs_nil ⟨σ, H, I, h⟩
theorem Je (h1 : PS X st t) (h2 : PSs X rest u) : PSs X (st :: rest) (tSeq t u) := by
 intro pins s σ H D I h
 refine wpAny_execs_cons (thn (h1 pins s σ H { D with nx := u D } I h) fun f s1 q => ?_)
 cases f with
 | next =>
  obtain ⟨σ', H', I', q⟩ := q
  exact h2 pins s1 σ' H' D I' q
 | ret v => exact q
 | brk => exact q
 | cont => exact q
theorem zdg (h1 : PS X st t) : PSs X [st] t := by
 intro pins s σ H D I h
 refine wpAny_execs_cons (thn (h1 pins s σ H D I h) fun f s1 q => ?_)
 cases f with
 | next => exact wpAny_execs_nil q
 | ret v => exact q
 | brk => exact q
 | cont => exact q
theorem Inv.quiet {pins : List (Addr × Obj)} {σ : St} {H : Hp} {s : Shared} (I : Inv X pins σ H s) : interactive X.env = false := by simp [interactive, I.ok.kind]
def tDrop (te : TE) : TS := fun D σ H => te σ H fun _ H1 => D.nx σ H1
theorem zdi (he : PE X e te) (hs : swapsWith e none pos.line X.env = pure false := by rfl) : PS X (.Expr e pos) (tDrop te) := by
 intro pins s σ H D I h
 exact wpAny_Expr_any (thn (he pins s σ H _ I h) fun v s1 ⟨x, H1, I1, r1, q1⟩ => ⟨σ, H1, I1, q1⟩) I.quiet hs
def tRet (te : TE) : TS := fun D σ H => te σ H D.rt
theorem ps_ret (he : PE X e te) : PS X (.Return (some e) pos) (tRet te) := by
 intro pins s σ H D I h
 exact wpAny_Return_some (thn (he pins s σ H _ I h) fun v s1 ⟨x, H1, I1, r1, q1⟩ => ⟨x, σ, H1, I1, r1, q1⟩)
def tIfS (c : TT) (t u : TS) : TS := fun D σ H => c σ H fun b H1 => if b = true then t D σ H1 else u D σ H1
theorem ps_if {c : Expr} {a b : List Stmt} {tc : TT} (hc : PT X c tc) (ha : PSs X a t) (hb : PSs X b u) : PS X (.If c a b pos) (tIfS tc t u) := by
 intro pins s σ H D I h
 refine wpAny_If (thn (hc pins s σ H _ I h) fun d s1 ⟨H1, I1, q1⟩ => ?_)
 cases d with
 | true => exact ha pins s1 σ H1 D I1 q1
 | false => exact hb pins s1 σ H1 D I1 q1
def tNever : TS := fun _ _ _ => False
theorem ps_never : PS X st tNever := fun _ _ _ _ _ _ h => h.elim
end
abbrev TG := V -> St -> Hp -> (St -> Hp -> Prop) -> Prop
abbrev TGs := List V -> St -> Hp -> (St -> Hp -> Prop) -> Prop
def PG (X : Cx) (target : Expr) (t : TG) : Prop :=
 ∀ (pins : List (Addr × Obj)) (s : Shared) (σ : St) (H : Hp) (v : V) (u : Value) (Q : St -> Hp -> Prop), Inv X pins σ H s -> RelV v u -> t v σ H Q ->
  wpAny (model X.prog X.w) X.A (assign target X.env u) (fun _ s' => ∃ σ' H', Inv X pins σ' H' s' /\ Q σ' H') X.xe s
def PGs (X : Cx) (ts : List Expr) (t : TGs) : Prop :=
 ∀ (pins : List (Addr × Obj)) (s : Shared) (σ : St) (H : Hp) (vs : List V) (us : List Value) (Q : St -> Hp -> Prop), Inv X pins σ H s -> Vals vs us -> t vs σ H Q ->
  wpAny (model X.prog X.w) X.A (assignInOrder ((assignEach ts X.env).map (·.2)) us) (fun _ s' => ∃ σ' H', Inv X pins σ' H' s' /\ Q σ' H') X.xe s
abbrev TSet := V -> V -> V -> Hp -> (Hp -> Prop) -> Prop
def PSet (X : Cx) (t : TSet) : Prop :=
 ∀ (pins : List (Addr × Obj)) (s : Shared) (σ : St) (H : Hp) (o i v : V) (ov iv u : Value) (Q : Hp -> Prop), Inv X pins σ H s -> RelV o ov -> RelV i iv -> RelV v u -> t o i v H Q ->
  wpAny (model X.prog X.w) X.A (setItem ov iv u) (fun _ s' => ∃ H', Inv X pins σ H' s' /\ Q H') X.xe s
section
variable {X : Cx} {pos : Pos}
def gName (i : Nat) : TG := fun v σ H Q => Q (σ.set i (some v)) H
theorem zaV {i : Nat} {x : Str} (hN : X.N.Nodup) (hi : X.N[i]? = some x) (hx : Loc X.env.scope x) (hf : X.fn x = true \/ X.env.scope.names.lookup x = some .local := by first | exact .inl rfl | exact .inr rfl | assumption) : PG X (.Name x pos) (gName i) := by
 intro pins s σ H v u Q I r h
 exact wpAny_assign_Name (zbv I hN hi hx r (fun s' I' => ⟨_, H, I', h⟩) hf)
def gNil : TGs := fun vs σ H Q => vs = [] /\ Q σ H
def gCons (t : TG) (u : TGs) : TGs := fun vs σ H Q => ∃ v r, vs = v :: r /\ t v σ H fun σ' H' => u r σ' H' Q
theorem pgs_nil : PGs X [] gNil := by
 intro pins s σ H vs us Q I r h
 obtain ⟨e, h⟩ := h
 subst e
 cases r
 exact assignInOrder_nil ⟨σ, H, I, h⟩
theorem zbH {e : Expr} {es : List Expr} {t : TG} {u : TGs} (h1 : PG X e t) (h2 : PGs X es u)
  (hs : (assignEach (e :: es) X.env).map (·.2) = assign e X.env :: (assignEach es X.env).map (·.2) := by rfl) : PGs X (e :: es) (gCons t u) := by
 intro pins s σ H vs us Q I r h
 obtain ⟨v, vr, e1, h⟩ := h
 subst e1
 cases r with
 | cons r rr =>
  rw [hs]
  refine assignInOrder_cons (thn (h1 pins s σ H _ _ _ I r h) fun _ s1 ⟨σ1, H1, I1, q1⟩ => ?_)
  exact h2 pins s1 σ1 H1 _ _ Q I1 rr q1
def gTup (K : PySem.W.Frag) (n : Nat) (t : TGs) : TG := fun v σ H Q => ∃ a xs, v = .ref a /\ SqT K H a xs /\ xs.length = n /\ t xs σ H Q
theorem pg_tup {es : List Expr} {k : Nat} {t : TGs} {n : Nat} (hc : X.calm = true) (h : PGs X es t)
  (hn : (assignEach es X.env).length = n := by rfl) (hst : (assignEach es X.env).findIdx? (·.1) = none := by rfl) : PG X (.Tuple es k pos) (gTup X.K n t) := by
 intro pins s σ H v u Q I r hw
 obtain ⟨a, xs, e1, hq, hl, hw⟩ := hw
 subst e1
 cases r
 obtain ⟨its, rv, ht, hz⟩ := I.tuple hq
 refine assign_Tuple_tuple (I.ok.hd hc) ht (by simp [hn, <- hl, rv.length]) hst fun h' hx => ?_
 have I1 : Inv X pins σ H { s with heap := h' } := I.kept (t' := s.toks) fun b o e => hx b o (Nat.ne_of_lt (Heap.lt_size e)) e
 exact h pins _ σ H xs _ Q I1 (by simpa using rv) hw
def gSub (to ti : TE) (t : TSet) : TG := fun v σ H Q => to σ H fun o H1 => ti σ H1 fun i H2 => t o i v H2 fun H3 => Q σ H3
theorem pg_sub {o i : Expr} {to ti : TE} {t : TSet} (ho : PE X o to) (hi : PE X i ti) (hs : PSet X t)
  (ha : ∀ v, assign (.Subscript o i pos) X.env v = (do
   let ov <- holding [v] (eval o X.env)
   let iv <- holding [v, ov] (eval i X.env)
   standAt pos
   holding [v, ov, iv] (setItem ov iv v)
   release [v, ov, iv] []) := by intro _; rfl) : PG X (.Subscript o i pos) (gSub to ti t) := by
 intro pins s σ H v u Q I r h
 rw [ha]
 refine wpAny_bind (wpAny_holding (thn (ho pins s σ H _ I h) fun ov s1 ⟨x, H1, I1, r1, q1⟩ => ?_))
 refine wpAny_bind (wpAny_holding (thn (hi pins s1 σ H1 _ I1 q1) fun iv s2 ⟨y, H2, I2, r2, q2⟩ => ?_))
 refine wpAny_bind (wpAny_standAt (wpAny_bind (wpAny_holding (thn (hs pins s2 σ H2 x y v ov iv u _ I2 r1 r2 r q2) fun _ s3 ⟨H3, I3, q3⟩ => ?_))))
 exact wpAny_release ⟨σ, H3, I3, q3⟩
def tAsg (te : TE) (g : TG) : TS := fun D σ H => te σ H fun x H1 => g x σ H1 D.nx
theorem ps_asg {tg e : Expr} {te : TE} {g : TG} (he : PE X e te) (hg : PG X tg g) (hs : swapsWithSole [tg] e pos.line X.env = pure false := by rfl) (hw : swappedStores [tg] e X.env = pure none := by rfl)
  (h1 : (assignEach [tg] X.env).map (·.2) = [assign tg X.env] := by rfl) : PS X (.Assign [tg] e pos) (tAsg te g) := by
 intro pins s σ H D I h
 refine wpAny_Assign_stores (thn (he pins s σ H _ I h) fun v s1 ⟨x, H1, I1, r1, q1⟩ => ?_) hs hw
 rw [h1]
 exact thn (hg pins s1 σ H1 x v _ I1 r1 q1) fun _ s2 q => q
theorem ps_set {i : Nat} {x : Str} {e : Expr} {te : TE} {pos' : Pos} (hN : X.N.Nodup) (hi : X.N[i]? = some x) (hx : Loc X.env.scope x) (he : PE X e te) (hs : swapsWith e (some (.Name x pos')) pos.line X.env = pure false := by rfl) (hf : X.fn x = true \/ X.env.scope.names.lookup x = some .local := by first | exact .inl rfl | exact .inr rfl | assumption) :
  PS X (.Assign [.Name x pos'] e pos) (tAsg te (gName i)) := by
 intro pins s σ H D I h
 refine wpAny_Assign_Name (thn (he pins s σ H _ I h) fun v s1 ⟨y, H1, I1, r1, q1⟩ => ?_) hs
 exact zbv I1 hN hi hx r1 (fun s2 I2 => ⟨_, H1, I2, q1⟩) hf
end
section
variable {X : Cx} {pos : Pos}
def tWhile (c : TT) (tb : TS) : TS := fun D σ H => ∃ W : Nat -> St -> Hp -> Prop, (∃ m, W m σ H) /\ ∀ m σ H, W m σ H ->
 c σ H fun b H1 => if b = true then ∃ N : St -> Hp -> Prop, (∀ σ' H', N σ' H' -> ∃ m', m' < m /\ W m' σ' H') /\ tb { D with nx := N, ct := N, bk := D.nx } σ H1 else D.nx σ H1
theorem ps_while {c : Expr} {body : List Stmt} {tc : TT} {tb : TS} (hp : PassesOwn (model X.prog X.w) X.A X.env X.xe) (hc : PT X c tc) (hb : PSs X body tb) : PS X (.While c body [] pos) (tWhile tc tb) := by
 intro pins s σ H D I h
 obtain ⟨W, ⟨m0, w0⟩, turn⟩ := h
 refine wpAny_While (codeAny_whileLoop (fun n s' => ∃ σ' H', Inv X pins σ' H' s' /\ W n σ' H') ?_ m0 ⟨σ, H, I, w0⟩)
 rintro n s1 ⟨σ1, H1, I1, w1⟩
 refine wpAny_passesOwn hp (thn (hc pins s1 σ1 H1 _ I1 (turn n σ1 H1 w1)) fun b s2 ⟨H2, I2, q2⟩ => ?_)
 cases b with
 | true =>
  obtain ⟨N, hN, q2⟩ := q2
  rw [if_pos rfl]
  refine wpAny_passesOwn hp (thn (hb pins s2 σ1 H2 _ I2 q2) fun f s3 q3 => ?_)
  cases f with
  | next =>
   obtain ⟨σ3, H3, I3, n3⟩ := q3
   obtain ⟨m', hm, w3⟩ := hN σ3 H3 n3
   exact ⟨m', hm, σ3, H3, I3, w3⟩
  | cont =>
   obtain ⟨σ3, H3, I3, n3⟩ := q3
   obtain ⟨m', hm, w3⟩ := hN σ3 H3 n3
   exact ⟨m', hm, σ3, H3, I3, w3⟩
  | brk => exact q3
  | ret v => exact q3
 | false =>
  rw [if_neg Bool.false_ne_true]
  exact wpAny_execs_nil ⟨σ1, H2, I2, q2⟩
end
structure It where
 go : Nat -> Hp -> Prop
 yld : Nat -> Hp -> V -> Hp -> Prop
 stop : Nat -> Hp -> Prop
def FpOk (X : Cx) (pins : List (Addr × Obj)) (H : Hp) (b : Addr) : Prop :=
 H b = none /\ b ≠ X.env.locals /\ b ∉ X.fs /\ (b ∈ X.ex \/ X.s₀.heap.objs.size <= b) /\ (∀ x c, X.env.cells.lookup x = some c -> c ≠ b) /\ ∀ p ∈ X.pn ++ pins, p.1 ≠ b
theorem Inv.fpOk {X : Cx} {pins : List (Addr × Obj)} {σ : St} {H H' : Hp} {s : Shared} {b : Addr} (I : Inv X pins σ H s) (hb : s.heap.objs.size <= b) (hn : H' b = none) : FpOk X pins H' b := by
 refine ⟨hn, Nat.ne_of_gt (Nat.lt_of_lt_of_le I.lt hb), I.nofs hb, .inr (Nat.le_trans I.sz hb), fun x c e z => ?_, fun p hp z => ?_⟩
 ·obtain ⟨v, q⟩ := I.cell x c e
  exact absurd (Nat.lt_of_lt_of_le q.lt (by rw [z]; exact hb)) (Nat.lt_irrefl _)
 ·exact absurd (Nat.lt_of_lt_of_le (Heap.lt_size (I.pin p hp).1) (by rw [z]; exact hb)) (Nat.lt_irrefl _)
structure Turn (P : Program) (w : World) (K : PySem.W.Frag) (tg : Expr) (J : It) (fp : List Addr) (it : Addr) (tn : Nat -> Heap -> Prop) : Prop where
 mem : it ∈ fp
 obj : ∀ i h, tn i h -> ∀ b ∈ fp, ∃ o, h.get? b = some o /\ ∀ v, o.data ≠ .cell v
 keep : ∀ i h h', tn i h -> (∀ b ∈ fp, ∀ o, h.get? b = some o -> h'.get? b = some o) -> tn i h'
 item : ∀ (X : Cx), X.prog = P -> X.w = w -> X.K = K -> X.calm = true -> ∀ (i : Nat) (pins : List (Addr × Obj)) (s : Shared) (σ : St) (H : Hp) (E : Value -> Shared -> Prop), Inv X pins σ H s -> (∀ b ∈ fp, FpOk X pins H b) -> tn i s.heap -> J.go i H ->
  wpAny (model P w) X.A (pyNext (.ref it)) (fun r s1 => ∃ u, r = some u /\
   wpAny (model P w) X.A (letOwnedTupleGo tg (.ref it) u) (fun _ s2 => ∃ x H', Inv X pins σ H' s2 /\ RelV x u /\ J.yld i H x H' /\ tn (i + 1) s2.heap /\ ∀ b ∈ fp, H' b = none) E s1) E s
 done : ∀ (X : Cx), X.prog = P -> X.w = w -> X.K = K -> X.calm = true -> ∀ (i : Nat) (pins : List (Addr × Obj)) (s : Shared) (σ : St) (H : Hp) (E : Value -> Shared -> Prop), Inv X pins σ H s -> (∀ b ∈ fp, FpOk X pins H b) -> tn i s.heap -> J.stop i H ->
  wpAny (model P w) X.A (pyNext (.ref it)) (fun r s1 => r = none /\ Inv X pins σ H s1) E s
 self : ∀ (A : Around) (i : Nat) (s : Shared) (Q : Value -> Shared -> Prop) (E : Value -> Shared -> Prop), tn i s.heap -> Q (.ref it) s -> wpAny (model P w) A (pyIter (.ref it)) Q E s
abbrev TI := St -> Hp -> (It -> Hp -> Prop) -> Prop
def PIE (X : Cx) (pins : List (Addr × Obj)) (σ : St) (tg : Expr) (R : It -> Hp -> Prop) (itv : Value) (s2 : Shared) : Prop :=
 ∃ (it : Addr) (fp : List Addr) (tn : Nat -> Heap -> Prop) (J : It) (H' : Hp), itv = .ref it /\ Inv X pins σ H' s2 /\ Turn X.prog X.w X.K tg J fp it tn /\ tn 0 s2.heap /\ (∀ b ∈ fp, FpOk X pins H' b) /\ R J H'
def PI (X : Cx) (tg iter : Expr) (wi : TI) : Prop :=
 ∀ (pins : List (Addr × Obj)) (s : Shared) (σ : St) (H : Hp) (R : It -> Hp -> Prop), Inv X pins σ H s -> wi σ H R ->
  wpAny (model X.prog X.w) X.A (eval iter X.env) (fun v s1 => wpAny (model X.prog X.w) X.A (pyIter v) (PIE X pins σ tg R) X.xe s1) X.xe s
theorem go_of {M : Model} {A : Around} {E : Value -> Shared -> Prop} {s : Shared} {tg : Expr} {it : Addr} {u : Value} {o : Obj} {n : String} {vs : Array Value} {Q : Unit -> Shared -> Prop} (ho : s.heap.get? it = some o) (hc : o.cls = .type n) (hd : o.data = .fields vs)
  (hn : ["enumerate", "zip", "dict_itemiterator", "dict_reverseitemiterator", "odict_iterator", "itertools.zip_longest", "itertools.pairwise"].contains n = false) (hQ : Q () s) : wpAny M A (letOwnedTupleGo tg (.ref it) u) Q E s := by
 unfold letOwnedTupleGo
 cases tg <;> first
  | exact wpAny_pure hQ
  | (cases u <;> first
    | exact wpAny_pure hQ
    | (refine wpAny_bind (wpAny_load ho ?_)
       rw [hc, hd]
       show wpAny M A (if (["enumerate", "zip", "dict_itemiterator", "dict_reverseitemiterator", "odict_iterator", "itertools.zip_longest", "itertools.pairwise"].contains n && vs[0]? == some (rawInt _)) = true then _ else _) Q E s
       rw [if_neg (by intro h; rw [hn, Bool.false_and] at h; cases h)]
       exact wpAny_pure hQ))
def Itl (K : PySem.W.Frag) (a : Addr) : It :=
 ⟨fun i H => ∃ xs x, SqL K H a xs /\ xs[i]? = some x, fun i H x H' => H' = H /\ ∀ xs, SqL K H a xs -> xs[i]? = some x, fun i H => ∃ xs, SqL K H a xs /\ xs.length <= i⟩
def Itt (K : PySem.W.Frag) (a : Addr) : It :=
 ⟨fun i H => ∃ xs x, SqT K H a xs /\ xs[i]? = some x, fun i H x H' => H' = H /\ ∀ xs, SqT K H a xs -> xs[i]? = some x, fun i H => ∃ xs, SqT K H a xs /\ xs.length <= i⟩
def Itr (lo : Int) (n : Nat) : It := ⟨fun i _ => i < n, fun i H x H' => H' = H /\ x = .int (lo + i), fun i _ => n <= i⟩
theorem zcU {P : Program} {w : World} {K : PySem.W.Frag} {tg : Expr} (a it : Addr) : Turn P w K tg (Itl K a) [it] it (fun i h => h.IsListIter it a i) where
 mem := by simp
 obj := fun i h st b hb => by
  have e : b = it := by simpa using hb
  subst e
  obtain ⟨o, e, c, d⟩ := st
  exact ⟨o, e, fun v z => by rw [d] at z; cases z⟩
 keep := fun i h h' st k => st.at fun o e => k it (by simp) o e
 item := by
  intro X hP hw hK hc i pins s σ H E I hf st hg
  subst hP hw hK
  obtain ⟨xs, x, hq, hx⟩ := hg
  obtain ⟨its, rv, p, hz⟩ := I.list hq
  obtain ⟨u, hu, ru⟩ := rv.get hx
  obtain ⟨f0, f1, f2, f3, f4, f5⟩ := hf it (by simp)
  refine wpAny_pyNext_list_item st p.isList (x := u) (by simpa using hu) fun h' st' sb => ?_
  have I1 : Inv X pins σ H { s with heap := h' } := I.turned (t' := s.toks) (fun b o hb e => (sb.2 b hb).trans e) f0 f1 f3 f4 f5
  obtain ⟨o, e, c, d⟩ := id st'
  exact ⟨u, rfl, go_of (s := { s with heap := h' }) e c d (by decide) ⟨x, H, I1, ru, ⟨rfl, fun ys hy => by rw [I.list_inj hy hq]; exact hx⟩, st', fun b hb => (hf b hb).1⟩⟩
 done := by
  intro X hP hw hK hc i pins s σ H E I hf st hg
  subst hP hw hK
  obtain ⟨xs, hq, hx⟩ := hg
  obtain ⟨its, rv, p, hz⟩ := I.list hq
  obtain ⟨f0, f1, f2, f3, f4, f5⟩ := hf it (by simp)
  have hl := rv.length
  exact wpAny_pyNext_list_end (I.ok.hd hc) st p.isList (by simp; omega) fun h' eb => ⟨rfl, I.turned (t' := s.toks) (fun b o hb e => eb b o hb e) f0 f1 f3 f4 f5⟩
 self := fun _ _ _ _ _ st h => wpAny_pyIter_listiter st h
theorem zcj {P : Program} {w : World} {K : PySem.W.Frag} {tg : Expr} (a it : Addr) : Turn P w K tg (Itt K a) [it] it (fun i h => h.IsTupleIter it a i) where
 mem := by simp
 obj := fun i h st b hb => by
  have e : b = it := by simpa using hb
  subst e
  obtain ⟨o, e, c, d⟩ := st
  exact ⟨o, e, fun v z => by rw [d] at z; cases z⟩
 keep := fun i h h' st k => st.at fun o e => k it (by simp) o e
 item := by
  intro X hP hw hK hc i pins s σ H E I hf st hg
  subst hP hw hK
  obtain ⟨xs, x, hq, hx⟩ := hg
  obtain ⟨its, rv, p, hz⟩ := I.tuple hq
  obtain ⟨u, hu, ru⟩ := rv.get hx
  obtain ⟨f0, f1, f2, f3, f4, f5⟩ := hf it (by simp)
  refine wpAny_pyNext_tuple_item st (show s.heap.IsTuple a its.toArray from p) (x := u) (by simpa using hu) fun h' st' sb => ?_
  have I1 : Inv X pins σ H { s with heap := h' } := I.turned (t' := s.toks) (fun b o hb e => (sb.2 b hb).trans e) f0 f1 f3 f4 f5
  obtain ⟨o, e, c, d⟩ := id st'
  exact ⟨u, rfl, go_of (s := { s with heap := h' }) e c d (by decide) ⟨x, H, I1, ru, ⟨rfl, fun ys hy => by rw [I.tuple_inj hy hq]; exact hx⟩, st', fun b hb => (hf b hb).1⟩⟩
 done := by
  intro X hP hw hK hc i pins s σ H E I hf st hg
  subst hP hw hK
  obtain ⟨xs, hq, hx⟩ := hg
  obtain ⟨its, rv, p, hz⟩ := I.tuple hq
  obtain ⟨f0, f1, f2, f3, f4, f5⟩ := hf it (by simp)
  have hl := rv.length
  exact wpAny_pyNext_tuple_end (I.ok.hd hc) st (show s.heap.IsTuple a its.toArray from p) (by simp; omega) fun h' eb => ⟨rfl, I.turned (t' := s.toks) (fun b o hb e => eb b o hb e) f0 f1 f3 f4 f5⟩
 self := fun _ _ _ _ _ st h => wpAny_pyIter_tupleiter st h
theorem zck {P : Program} {w : World} {K : PySem.W.Frag} {tg : Expr} (it : Addr) (lo : Int) (n : Nat) : Turn P w K tg (Itr lo n) [it] it (fun i h => IsRangeIter h it (lo + (i : Nat) * 1) ((n : Int) - (i : Nat)) 1) where
 mem := by simp
 obj := fun i h st b hb => by
  have e : b = it := by simpa using hb
  subst e
  exact ⟨_, st, fun v z => by
   have z' : Data.fields _ = Data.cell v := z
   cases z'⟩
 keep := fun i h h' st k => k it (by simp) _ st
 item := by
  intro X hP hw hK hc i pins s σ H E I hf st hg
  subst hP hw hK
  obtain ⟨f0, f1, f2, f3, f4, f5⟩ := hf it (by simp)
  have W := Walks.range (prog := X.prog) (w := X.w) (I.ok.hd hc) it lo 1 n
  refine W.item i s _ _ hg st fun v h' tk hv st' kk => ?_
  obtain ⟨t, rfl⟩ := hv
  have I1 : Inv X pins σ H { s with heap := h', toks := tk } := I.turned (fun b o hb e => kk b o (by simpa using hb) e) f0 f1 f3 f4 f5
  refine ⟨_, rfl, go_of (s := { s with heap := h', toks := tk }) (n := "range_iterator") st' rfl rfl (by decide) ⟨.int (lo + i), H, I1, ⟨t, ?_⟩, ⟨rfl, rfl⟩, st', fun b hb => (hf b hb).1⟩⟩
  rw [Int.mul_one]
 done := by
  intro X hP hw hK hc i pins s σ H E I hf st hg
  subst hP hw hK
  obtain ⟨f0, f1, f2, f3, f4, f5⟩ := hf it (by simp)
  exact wpAny_pyNext_range_end (I.ok.hd hc) st (by have : n <= i := hg; omega) fun h' eb => ⟨rfl, I.turned (t' := s.toks) (fun b o hb e => eb b o hb e) f0 f1 f3 f4 f5⟩
 self := fun _ _ _ _ _ st h => wpAny_pyIter_rangeiter st h
end L2
namespace L2
open PySem PySem.Spec PyProof.Rows
section
variable {X : Cx} {tg : Expr}
theorem range_it {pins : List (Addr × Obj)} {σ : St} {H : Hp} {s : Shared} {R : It -> Hp -> Prop} {E : Value -> Shared -> Prop} {lo hi : Int} {t u v : Tok} {tk : Nat} (I : Inv X pins σ H s) (h1 : -(2 ^ 62) <= lo) (h2 : lo < 2 ^ 62) (h3 : -(2 ^ 62) <= hi) (h4 : hi < 2 ^ 62)
  (q : R (Itr lo (hi - lo).toNat) H) : wpAny (model X.prog X.w) X.A (pyIter (.ref s.heap.objs.size)) (PIE X pins σ tg R) E { s with heap := s.heap.push { cls := .type "range", data := .fields #[.int lo t, .int hi u, .int 1 v] }, toks := tk } := by
 refine wpAny_pyIter_range (IsRange.new ..) (small_one h1 h2 h3 h4) ?_
 have I1 : Inv X pins σ H { s with heap := s.heap.push { cls := .type "range", data := .fields #[.int lo t, .int hi u, .int 1 v] }, toks := tk } := I.kept fun b o e => Heap.get?_push_of_some _ e
 refine ⟨(s.heap.push { cls := .type "range", data := .fields #[.int lo t, .int hi u, .int 1 v] }).objs.size, [(s.heap.push { cls := .type "range", data := .fields #[.int lo t, .int hi u, .int 1 v] }).objs.size], _, _, H, rfl,
  I1.kept (t' := tk) fun b o e => Heap.get?_push_of_some _ e, zck _ lo (hi - lo).toNat, ?_, fun b hb => ?_, q⟩
 ·have e1 : lo + ((0 : Nat) : Int) * 1 = lo := by simp
  have e2 : (((hi - lo).toNat : Nat) : Int) - ((0 : Nat) : Int) = Builtin.Range.rangeSize lo hi 1 := by rw [rangeSize_one]; split <;> omega
  show IsRangeIter _ _ (lo + ((0 : Nat) : Int) * 1) ((((hi - lo).toNat : Nat) : Int) - ((0 : Nat) : Int)) 1
  rw [e1, e2]
  exact Heap.get?_push_size _ rfl
 ·have e : b = (s.heap.push { cls := .type "range", data := .fields #[.int lo t, .int hi u, .int 1 v] }).objs.size := by simpa using hb
  subst e
  exact I1.fpOk (Nat.le_refl _) (I1.hok.fresh (Nat.le_refl _))
def iRng1 (ta : TA) : TI := fun σ H R => ta σ H fun vs H1 => ∃ j : Int, vs = [.int j] /\ -(2 ^ 62) <= j /\ j < 2 ^ 62 /\ R (Itr 0 j.toNat) H1
theorem zdl {a : Expr} {ta : TA} {p pos : Pos} (hg : Gl X "range") (hm : X.mg "range" = none) (ha : PA X [a] ta) (hs : starEach [a] X.env = [(false, eval a X.env)] := by rfl) : PI X tg (.Call (.Name "range" p) [a] [] pos) (iRng1 ta) := by
 intro pins s σ H R I h
 refine Call_ (U0 I hg hm boot_range (PyProof.Rows.callWith_type1 (thn (ha pos pins s σ H _ I h) fun us s1 ⟨vs, H1, I1, r1, q1⟩ => ?_) hs rfl))
 obtain ⟨j, e, q1, q2, q⟩ := q1
 subst e
 cases r1 with
 | cons r rr =>
  cases rr
  obtain ⟨t, rfl⟩ := r
  exact call_range_1 (range_it I1 (by omega) (by omega) q1 q2 (by simpa using q))
def tFor (wi : TI) (g : TG) (tb : TS) : TS := fun D σ H => wi σ H fun J H1 => ∃ W : Nat -> Nat -> St -> Hp -> Prop, (∃ m, W 0 m σ H1) /\ ∀ i m σ H, W i m σ H ->
 (J.stop i H /\ D.nx σ H) \/ (J.go i H /\ ∃ N : St -> Hp -> Prop, (∀ σ' H', N σ' H' -> ∃ m', m' < m /\ W (i + 1) m' σ' H') /\ ∀ x H', J.yld i H x H' -> g x σ H' fun σ2 H2 => tb { D with nx := N, ct := N, bk := D.nx } σ2 H2)
def Xz (fp : List Addr) (h : Heap) : List (Addr × Obj) := fp.filterMap fun b => (h.get? b).map fun o => (b, o)
theorem Vf {fp : List Addr} {h : Heap} {b : Addr} {o : Obj} (hb : b ∈ fp) (e : h.get? b = some o) : (b, o) ∈ Xz fp h := List.mem_filterMap.mpr ⟨b, hb, by rw [e]; rfl⟩
theorem zdt {fp : List Addr} {h : Heap} {p : Addr × Obj} (hp : p ∈ Xz fp h) : p.1 ∈ fp /\ h.get? p.1 = some p.2 := by
 obtain ⟨b, hb, e⟩ := List.mem_filterMap.mp hp
 cases q : h.get? b with
 | none => rw [q] at e; cases e
 | some o =>
  rw [q] at e
  have e' : (b, o) = p := Option.some.inj e
  subst e'
  exact ⟨hb, q⟩
theorem Inv.pinned {pins : List (Addr × Obj)} {σ : St} {H : Hp} {s : Shared} {fp : List Addr} (I : Inv X pins σ H s) (hf : ∀ b ∈ fp, FpOk X pins H b) (ho : ∀ b ∈ fp, ∃ o, s.heap.get? b = some o /\ ∀ v, o.data ≠ .cell v) : Inv X (pins ++ Xz fp s.heap) σ H s :=
 I.pins_of fun p hp => (List.mem_append.mp hp).elim (fun z => I.pin p (List.mem_append_right _ z)) fun z => by
  obtain ⟨hb, e⟩ := zdt z
  obtain ⟨f0, f1, f2, _⟩ := hf p.1 hb
  obtain ⟨o, e', d⟩ := ho p.1 hb
  rw [e] at e'; cases e'
  exact ⟨e, f0, f1, f2, d⟩
theorem Inv.unpinned {pins pl : List (Addr × Obj)} {σ : St} {H : Hp} {s : Shared} (I : Inv X (pins ++ pl) σ H s) : Inv X pins σ H s := I.pins_of fun p hp => I.pin p (List.mem_append_right _ (List.mem_append_left _ hp))
theorem ps_for {iter : Expr} {body : List Stmt} {wi : TI} {g : TG} {tb : TS} {pos : Pos} (hp : PassesOwn (model X.prog X.w) X.A X.env X.xe) (hc : X.calm = true) (hi : PI X tg iter wi) (hg : PG X tg g) (hb : PSs X body tb)
  (hs : ∀ x, foldedSetIterable iter X.env x = pure x := by intro _; rfl) : PS X (.For tg iter body [] pos) (tFor wi g tb) := by
 intro pins s σ H D I h
 refine wpAny_For (thn (hi pins s σ H _ I h) fun v s1 h1 => thn h1 fun itv s2 h2 => ?_) hs
 obtain ⟨it, fp, tn, J, H2, e, I2, T, st2, f2, W, ⟨m0, w0⟩, turn⟩ := h2
 subst e
 -- what stays true of the iterator's objects through the loop
 have stat : ∀ {H' : Hp}, (∀ b ∈ fp, H' b = none) -> ∀ b ∈ fp, FpOk X pins H' b := fun hn b hb => ⟨hn b hb, (f2 b hb).2⟩
 refine codeAny_forLoop_any (fun n s' => ∃ i σ' H', Inv X pins σ' H' s' /\ tn i s'.heap /\ (∀ b ∈ fp, H' b = none) /\ W i n σ' H') ?_ m0 ⟨0, σ, H2, I2, st2, fun b hb => (f2 b hb).1, w0⟩
 rintro n s3 ⟨i, σ3, H3, I3, st3, fr3, w3⟩
 rcases turn i n σ3 H3 w3 with ⟨stop, qn⟩ | ⟨go, N, hN, step⟩
 ·refine wpAny_passesOwn hp (thn (T.done X rfl rfl rfl hc i pins s3 σ3 H3 X.xe I3 (stat fr3) st3 stop) fun r s4 ⟨hr, I4⟩ => ?_)
  subst hr
  exact wpAny_execs_nil ⟨σ3, H3, I4, qn⟩
 ·refine wpAny_passesOwn hp (thn (T.item X rfl rfl rfl hc i pins s3 σ3 H3 X.xe I3 (stat fr3) st3 go) fun r s4 ⟨u, hr, h4⟩ => ?_)
  subst hr
  refine wpAny_passesOwn hp (thn h4 fun _ s5 ⟨x, H5, I5, r5, y5, st5, fr5⟩ => ?_)
  have I5' := I5.pinned (stat fr5) (T.obj _ _ st5)
  refine wpAny_passesOwn hp (thn (hg _ s5 σ3 H5 x u _ I5' r5 (step x H5 y5)) fun _ s6 ⟨σ6, H6, I6, q6⟩ => ?_)
  refine wpAny_passesOwn hp (thn (hb _ s6 σ6 H6 _ I6 q6) fun f s7 q7 => ?_)
  have again : ∀ {σ7 : St} {H7 : Hp}, Inv X (pins ++ Xz fp s5.heap) σ7 H7 s7 -> N σ7 H7 -> ∃ m, m < n /\ ∃ i σ' H', Inv X pins σ' H' s7 /\ tn i s7.heap /\ (∀ b ∈ fp, H' b = none) /\ W i m σ' H' := fun {σ7 H7} I7 n7 => by
   obtain ⟨m', hm, w7⟩ := hN σ7 H7 n7
   refine ⟨m', hm, i + 1, σ7, H7, I7.unpinned, T.keep _ _ _ st5 fun b hb o e => (I7.pin (b, o) (List.mem_append_right _ (List.mem_append_right _ (Vf hb e)))).1, fun b hb => ?_, w7⟩
   obtain ⟨o, e, d⟩ := T.obj _ _ st5 b hb
   exact (I7.pin (b, o) (List.mem_append_right _ (List.mem_append_right _ (Vf hb e)))).2.1
  cases f with
  | next => obtain ⟨σ7, H7, I7, n7⟩ := q7; exact again I7 n7
  | cont => obtain ⟨σ7, H7, I7, n7⟩ := q7; exact again I7 n7
  | brk => obtain ⟨σ7, H7, I7, q7⟩ := q7; exact ⟨σ7, H7, I7.unpinned, q7⟩
  | ret v => obtain ⟨x7, σ7, H7, I7, r7, q7⟩ := q7; exact ⟨x7, σ7, H7, I7.unpinned, r7, q7⟩
end
end L2
namespace L2
open PySem PySem.Spec PyProof.Rows
abbrev R2 := V -> V -> Hp -> VK -> Prop
def OpR (X : Cx) (f : Value -> Value -> Sem Value) (r : R2) : Prop :=
 ∀ (pins : List (Addr × Obj)) (s : Shared) (σ : St) (H : Hp) (x y : V) (v u : Value) (Q : VK), Inv X pins σ H s -> RelV x v -> RelV y u -> r x y H Q ->
  wpAny (model X.prog X.w) X.A (f v u) (EP X pins σ Q) X.xe s
def UnR (X : Cx) (f : Value -> Sem Value) (r : V -> Hp -> VK -> Prop) : Prop :=
 ∀ (pins : List (Addr × Obj)) (s : Shared) (σ : St) (H : Hp) (x : V) (v : Value) (Q : VK), Inv X pins σ H s -> RelV x v -> r x H Q ->
  wpAny (model X.prog X.w) X.A (f v) (EP X pins σ Q) X.xe s
def Qw (X : Cx) (f : Value) (r : List V -> Hp -> VK -> Prop) : Prop :=
 ∀ (pins : List (Addr × Obj)) (s : Shared) (σ : St) (H : Hp) (xs : List V) (us : List Value) (Q : VK), Inv X pins σ H s -> Vals xs us -> r xs H Q ->
  wpAny (model X.prog X.w) X.A (call f us) (EP X pins σ Q) X.xe s
def TruR (X : Cx) (r : V -> Hp -> (Bool -> Hp -> Prop) -> Prop) : Prop :=
 ∀ (pins : List (Addr × Obj)) (s : Shared) (σ : St) (H : Hp) (x : V) (v : Value) (Q : Bool -> Hp -> Prop), Inv X pins σ H s -> RelV x v -> r x H Q ->
  wpAny (model X.prog X.w) X.A (truthy v) (TP X pins σ Q) X.xe s
def tOp (r : R2) (ta tb : TE) : TE := fun σ H Q => ta σ H fun x H1 => tb σ H1 fun y H2 => r x y H2 Q
def tUn (r : V -> Hp -> VK -> Prop) (ta : TE) : TE := fun σ H Q => ta σ H fun x H1 => r x H1 Q
def rI (C : Int -> Int -> Prop) (g : Int -> Int -> V) : R2 := fun x y H Q => ∃ i j, x = .int i /\ y = .int j /\ C i j /\ Q (g i j) H
def rI0 (g : Int -> Int -> V) : R2 := fun x y H Q => ∃ i j, x = .int i /\ y = .int j /\ Q (g i j) H
def rU (g : Int -> V) : V -> Hp -> VK -> Prop := fun x H Q => ∃ i, x = .int i /\ Q (g i) H
section
variable {X : Cx} {a b c : Expr} {ta tb tc : TE} {pos : Pos}
theorem binT (ha : PE X a ta) (hb : PE X b tb) {pins : List (Addr × Obj)} {s : Shared} {σ : St} {H : Hp} {R : V -> V -> Hp -> Prop} (I : Inv X pins σ H s)
  (h : ta σ H fun x H1 => tb σ H1 fun y H2 => R x y H2) {Q : Value -> Shared -> Prop} {f : Value -> Value -> Sem Value}
  (hf : ∀ v u s2 x y H2, Inv X pins σ H2 s2 -> RelV x v -> RelV y u -> R x y H2 -> wpAny (model X.prog X.w) X.A (f v u) Q X.xe s2) :
  wpAny (model X.prog X.w) X.A (eval a X.env) (fun v s₁ => wpAny (model X.prog X.w) X.A (eval b X.env) (fun u s₂ => wpAny (model X.prog X.w) X.A (f v u) Q X.xe s₂) X.xe s₁) X.xe s := by
 refine thn (ha pins s σ H _ I h) fun v s1 ⟨x, H1, I1, r1, q1⟩ => ?_
 refine thn (hb pins s1 σ H1 _ I1 q1) fun u s2 ⟨y, H2, I2, r2, q2⟩ => ?_
 exact hf v u s2 x y H2 I2 r1 r2 q2
theorem pe_op {op : Operator} {r : R2} (ho : OpR X (binaryOp op) r) (ha : PE X a ta) (hb : PE X b tb) : PE X (.BinOp a op b pos) (tOp r ta tb) := by
 intro pins s σ H Q I h
 exact wpAny_BinOp (binT ha hb I h fun v u s2 x y H2 I2 rx ry q => ho pins s2 σ H2 x y v u Q I2 rx ry q)
theorem pe_un {op : UnaryOp} {r : V -> Hp -> VK -> Prop} (ho : UnR X (unaryOp op) r) (ha : PE X a ta) : PE X (.UnaryOp op a pos) (tUn r ta) := by
 intro pins s σ H Q I h
 exact UnaryOp_ (thn (ha pins s σ H _ I h) fun v s1 ⟨x, H1, I1, r1, q1⟩ => ho pins s1 σ H1 x v Q I1 r1 q1)
theorem opI {f : Value -> Value -> Sem Value} {C : Int -> Int -> Prop} {g : Int -> Int -> Int}
  (rule : ∀ (i j : Int) (t u : Tok) (s : Shared) (Q : Value -> Shared -> Prop) (E : Value -> Shared -> Prop), C i j -> Q (.int (g i j) s.toks) { s with toks := s.toks + 1 } -> wpAny (model X.prog X.w) X.A (f (.int i t) (.int j u)) Q E s) :
  OpR X f (rI C fun i j => .int (g i j)) := by
 intro pins s σ H x y v u Q I rx ry h
 obtain ⟨i, j, rfl, rfl, hc, q⟩ := h
 obtain ⟨t, rfl⟩ := rx
 obtain ⟨t', rfl⟩ := ry
 exact rule i j t t' s _ _ hc ⟨.int (g i j), H, I.tok _, ⟨_, rfl⟩, q⟩
theorem opI0 {f : Value -> Value -> Sem Value} {g : Int -> Int -> Int}
  (rule : ∀ (i j : Int) (t u : Tok) (s : Shared) (Q : Value -> Shared -> Prop) (E : Value -> Shared -> Prop), Q (.int (g i j) s.toks) { s with toks := s.toks + 1 } -> wpAny (model X.prog X.w) X.A (f (.int i t) (.int j u)) Q E s) :
  OpR X f (rI0 fun i j => .int (g i j)) := by
 intro pins s σ H x y v u Q I rx ry h
 obtain ⟨i, j, rfl, rfl, q⟩ := h
 obtain ⟨t, rfl⟩ := rx
 obtain ⟨t', rfl⟩ := ry
 exact rule i j t t' s _ _ ⟨.int (g i j), H, I.tok _, ⟨_, rfl⟩, q⟩
theorem opB0 {f : Value -> Value -> Sem Value} {g : Int -> Int -> Bool}
  (rule : ∀ (i j : Int) (t u : Tok) (s : Shared) (Q : Value -> Shared -> Prop) (E : Value -> Shared -> Prop), Q (.bool (g i j)) s -> wpAny (model X.prog X.w) X.A (f (.int i t) (.int j u)) Q E s) :
  OpR X f (rI0 fun i j => .bl (g i j)) := by
 intro pins s σ H x y v u Q I rx ry h
 obtain ⟨i, j, rfl, rfl, q⟩ := h
 obtain ⟨t, rfl⟩ := rx
 obtain ⟨t', rfl⟩ := ry
 exact rule i j t t' s _ _ ⟨.bl (g i j), H, I, rfl, q⟩
def CPow (i j : Int) : Prop := 0 <= j /\ j <= 1000000 /\ i.natAbs < 2 ^ 64
theorem op_add : OpR X (binaryOp .Add) (rI0 fun i j => .int (i + j)) := opI0 fun _ _ _ _ _ _ _ q => add_int q
theorem op_sub : OpR X (binaryOp .Sub) (rI0 fun i j => .int (i - j)) := opI0 fun _ _ _ _ _ _ _ q => sub_int q
theorem op_modN : OpR X (binaryOp .Mod) (rI (fun _ j => j ≠ 0) fun i j => .int (i.fmod j)) := opI fun _ _ _ _ _ _ _ hc q => mod_int' hc q
theorem op_pow : OpR X (binaryOp .Pow) (rI CPow fun i j => .int (i ^ j.toNat)) := opI fun _ _ _ _ _ _ _ hc q => pow_int_small hc.1 hc.2.1 hc.2.2 q
theorem unI {f : Value -> Sem Value} {g : Int -> Int}
  (rule : ∀ (i : Int) (t : Tok) (s : Shared) (Q : Value -> Shared -> Prop) (E : Value -> Shared -> Prop), Q (.int (g i) s.toks) { s with toks := s.toks + 1 } -> wpAny (model X.prog X.w) X.A (f (.int i t)) Q E s) :
  UnR X f (rU fun i => .int (g i)) := by
 intro pins s σ H x v Q I rx h
 obtain ⟨i, rfl, q⟩ := h
 obtain ⟨t, rfl⟩ := rx
 exact rule i t s _ _ ⟨.int (g i), H, I.tok _, ⟨_, rfl⟩, q⟩
theorem un_neg : UnR X (unaryOp .USub) (rU fun i => .int (-i)) := unI fun _ _ _ _ _ q => neg_int q
end
section
variable {X : Cx} {a b c : Expr} {ta tb tc : TE} {pos : Pos}
theorem op_lt : OpR X (compareOp .Lt) (rI0 fun i j => .bl (decide (i < j))) := opB0 fun _ _ _ _ _ _ _ q => lt_int q
theorem op_le : OpR X (compareOp .LtE) (rI0 fun i j => .bl (decide (i <= j))) := opB0 fun _ _ _ _ _ _ _ q => le_int q
theorem op_gt : OpR X (compareOp .Gt) (rI0 fun i j => .bl (decide (j < i))) := opB0 fun _ _ _ _ _ _ _ q => gt_int q
theorem op_ge : OpR X (compareOp .GtE) (rI0 fun i j => .bl (decide (j <= i))) := opB0 fun _ _ _ _ _ _ _ q => ge_int q
theorem OpR.or {f : Value -> Value -> Sem Value} {r r' : R2} (h : OpR X f r) (h' : OpR X f r') : OpR X f (fun x y H Q => r x y H Q \/ r' x y H Q) := by
 intro pins s σ H x y v u Q I rx ry q
 rcases q with q | q
 ·exact h pins s σ H x y v u Q I rx ry q
 ·exact h' pins s σ H x y v u Q I rx ry q
theorem Zu (b : Expr) {op : CmpOp} (h : op ≠ .In := by decide) (h2 : op ≠ .NotIn := by decide) : behindInMarks op b = false := by
 have e1 : (op == CmpOp.In) = false := by cases op <;> first | rfl | exact absurd rfl h
 have e2 : (op == CmpOp.NotIn) = false := by cases op <;> first | rfl | exact absurd rfl h2
 cases b <;> simp [behindInMarks, e1, e2]
theorem pe_cmpR {op : CmpOp} {r : R2} (ho : OpR X (compareOp op) r) (ha : PE X a ta) (hb : PE X b tb) (hm : behindInMarks op b = false) : PE X (.Compare a [op] [b] pos) (tOp r ta tb) := by
 intro pins s σ H Q I h
 exact wpAny_Compare1 (binT ha hb I h fun v u s2 x y H2 I2 rx ry q => ho pins s2 σ H2 x y v u Q I2 rx ry q) hm
def tTest (t : TE) : TT := fun σ H Q => t σ H fun x H' => ∃ k, x = .bl k /\ Q k H'
theorem pt_cmpR {op : CmpOp} {r : R2} (ho : OpR X (compareOp op) r) (ha : PE X a ta) (hb : PE X b tb) (hm : behindInMarks op b = false) : PT X (.Compare a [op] [b] pos) (tTest (tOp r ta tb)) := by
 intro pins s σ H Q I h
 refine wpAny_isTrue_Compare1 (thn (ha pins s σ H _ I h) fun v s1 ⟨x, H1, I1, r1, q1⟩ => thn (hb pins s1 σ H1 _ I1 q1) fun u s2 ⟨y, H2, I2, r2, q2⟩ =>
  thn (ho pins s2 σ H2 x y v u _ I2 r1 r2 q2) fun c s3 ⟨z, H3, I3, r3, k, e, q3⟩ => ?_) hm
 subst e
 cases r3
 exact wpAny_truthy_bool ⟨H3, I3, q3⟩
def TruV (K : PySem.W.Frag) (x : V) (H : Hp) (k : Bool) : Prop :=
 match x with
 | .non => k = false
 | .bl b => k = b
 | .int i => k = (i != 0)
 | .str y => y.length <= sizeLine /\ k = ((y.length : Int) != 0)
 | .byt y => y.size <= sizeLine /\ k = ((y.size : Int) != 0)
 | .ref p => (∃ xs, SqL K H p xs /\ k = !xs.isEmpty) \/ (∃ xs, SqT K H p xs /\ k = !xs.isEmpty) \/ ∃ kvs, H p = some (.dK kvs) /\ k = !kvs.isEmpty
 | _ => False
theorem zcB {κ : Type} {kvs : List (κ × V)} {vs : List (κ × Value)} (r : KV kvs vs) : (!vs.isEmpty) = !kvs.isEmpty := by
 cases r <;> rfl
theorem QP {xs : List V} {its : List Value} (r : Vals xs its) : (!its.toArray.isEmpty) = !xs.isEmpty := by
 cases r <;> simp
theorem zag : (sizeLine : Nat) < 2 ^ 63 := by rw [sizeLine_eq]; decide
theorem tru_ok : TruR X (fun x H Q => ∃ k, TruV X.K x H k /\ Q k H) := by
 intro pins s σ H x v Q I rx h
 obtain ⟨k, e, q⟩ := h
 have hl := zag
 have hs : sizeLine = 16777216 := sizeLine_eq
 cases x with
 | non =>
  cases rx
  have e' : k = false := e
  subst e'
  exact truthy_none ⟨H, I, q⟩
 | bl b =>
  cases rx
  have e' : k = b := e
  subst e'
  exact wpAny_truthy_bool ⟨H, I, q⟩
 | int i =>
  obtain ⟨t, rfl⟩ := rx
  have e' : k = (i != 0) := e
  subst e'
  exact PySem.P.truthy_int ⟨H, I, q⟩
 | str y =>
  obtain ⟨t, rfl⟩ := rx
  obtain ⟨hy, e'⟩ : y.length <= sizeLine /\ k = ((y.length : Int) != 0) := e
  subst e'
  exact PySem.P.truthy_str (by omega) ⟨H, I.tok _, q⟩
 | byt y =>
  obtain ⟨t, rfl⟩ := rx
  obtain ⟨hy, e'⟩ : y.size <= sizeLine /\ k = ((y.size : Int) != 0) := e
  subst e'
  exact PySem.W.truthy_bytes (by omega) ⟨H, I.tok _, q⟩
 | ref p =>
  cases rx
  have e' : (∃ xs, SqL X.K H p xs /\ k = !xs.isEmpty) \/ (∃ xs, SqT X.K H p xs /\ k = !xs.isEmpty) \/ ∃ kvs, H p = some (.dK kvs) /\ k = !kvs.isEmpty := e
  rcases e' with ⟨xs, hx, e'⟩ | ⟨xs, hx, e'⟩ | ⟨kvs, hx, e'⟩
  ·subst e'
   obtain ⟨its, r, pl, hz⟩ := I.list hx
   have hlen := r.length
   exact wpAny_truthy_list pl.isList (by simp only [List.size_toArray]; omega) ⟨H, I.tok _, by rw [QP r]; exact q⟩
  ·subst e'
   obtain ⟨its, r, pl, hz⟩ := I.tuple hx
   have hlen := r.length
   exact truthy_tuple pl (by simp only [List.size_toArray]; omega) ⟨H, I.tok _, by rw [QP r]; exact q⟩
  ·subst e'
   obtain ⟨hz, hS, vs, r, m⟩ : kvs.length <= sizeLine /\ (p == sysModules) = false /\ ∃ vs, KV kvs vs /\ s.heap.DictOf (Jo X.prog X.w) p vs := I.hok p _ hx
   have hlen : kvs.length = vs.length := Paired.length r
   exact wpAny_truthy_dict hS m (by omega) ⟨H, I.tok _, by rw [zcB r]; exact q⟩
 | _ => exact (show False from e).elim
theorem pt_truth (ha : PE X a ta) (he : ∀ whole, isTrue a X.env whole = (do let v <- whole; standAt a.pos; holding [v] (truthy v))) :
  PT X a (fun σ H Q => ta σ H fun x H' => ∃ k, TruV X.K x H' k /\ Q k H') := by
 intro pins s σ H Q I h
 exact isTrue_plain (thn (ha pins s σ H _ I h) fun v s1 ⟨x, H1, I1, r1, q1⟩ => tru_ok pins s1 σ H1 x v Q I1 r1 q1) (he _)
theorem Qx {x : V} {us : List Value} (r : Vals [x] us) : ∃ u, us = [u] /\ RelV x u := by
 cases r with
 | cons r1 r2 => cases r2; exact ⟨_, rfl, r1⟩
theorem vals2 {x y : V} {us : List Value} (r : Vals [x, y] us) : ∃ u w', us = [u, w'] /\ RelV x u /\ RelV y w' := by
 cases r with
 | cons r1 r2 =>
  cases r2 with
  | cons r3 r4 => cases r4; exact ⟨_, _, rfl, r1, r3⟩
theorem call_abs : Qw X (.builtin "abs") (fun xs H Q => ∃ i, xs = [.int i] /\ Q (.int (if i < 0 then -i else i)) H) := by
 intro pins s σ H xs us Q I r h
 obtain ⟨i, rfl, q⟩ := h
 obtain ⟨u, rfl, t, rfl⟩ := Qx r
 exact call_abs_int fun u tk => ⟨.int (if i < 0 then -i else i), H, I.tok _, ⟨_, rfl⟩, q⟩
theorem zeu (hc : X.calm = true) : Qw X (.builtin "min") (fun xs H Q => ∃ i j, xs = [.int i, .int j] /\ Q (.int (if j < i then j else i)) H) := by
 intro pins s σ H xs us Q I r h
 obtain ⟨i, j, rfl, q⟩ := h
 obtain ⟨u, w', rfl, ⟨t, rfl⟩, ⟨t', rfl⟩⟩ := vals2 r
 refine min_two_ints (I.ok.hd hc) fun h' tk k => ⟨_, H, I.kept k, ?_, q⟩
 by_cases hj : j < i
 ·rw [if_pos hj, if_pos hj]; exact ⟨_, rfl⟩
 ·rw [if_neg hj, if_neg hj]; exact ⟨_, rfl⟩
end
end L2
namespace L2
open PySem PySem.Spec PyProof.Rows
structure ObjM (h : Heap) (x dx C : Addr) (mA : Str -> Option Value) : Prop where
 obj : h.get? x = some (PySem.W.instObj C dx)
 ns : h.Ns1 dx mA
 ne : dx ≠ x
theorem zdC {h : Heap} {dx : Addr} {mA : Str -> Option Value} (n : h.Ns1 dx mA) : ∃ od, h.get? dx = some od /\ ∀ name, PySem.W.lookIn name od = some (mA name) := by
 obtain ⟨o, es, ep, ho, hd, hk, _, hm⟩ := n
 refine ⟨o, ho, fun name => ?_⟩
 have e := hm name
 unfold nsFind findBy at e
 rw [<- Array.find?_toList] at e
 unfold PySem.W.lookIn
 rw [hd]
 dsimp only
 split
 ·rename_i y q
  rw [q] at e
  exact congrArg some e
 ·rename_i q
  rw [q] at e
  have a : es.toList.any (·.refKey) = false := by
   rw [List.any_eq_false]
   intro y hy
   obtain ⟨z, t, hkey⟩ := hk y (Array.mem_toList_iff.mp hy)
   simp [DictEntry.refKey, hkey]
  have a' : ¬ es.toList.any (·.refKey) = true := by rw [a]; exact Bool.false_ne_true
  rw [if_neg a']
  exact congrArg some e
theorem ObjM.look {h : Heap} {x dx C : Addr} {mA : Str -> Option Value} (I : ObjM h x dx C mA) : ∃ od, PySem.W.InstAt h x (PySem.W.instObj C dx) C (some od) /\ ∀ name, PySem.W.lookIn name od = some (mA name) :=
 let ⟨od, ho, hl⟩ := zdC I.ns
 ⟨od, ⟨I.obj, rfl, rfl, ho⟩, hl⟩
section
variable {prog : Program} {w : World} {A : Around} {E : Value -> Shared -> Prop} {s : Shared} {K : PySem.W.Frag} {x dx C f : Addr} {mA : Str -> Option Value} {name : Str} {v : Value}
theorem get_map {expr : Bool} {Q : Value -> Shared -> Prop} (X : K.In s.heap) (I : ObjM s.heap x dx C mA) (hg : PySem.W.plainGet K C name = true) (hh : PySem.W.hasDictIn K C = true)
  (ha : PySem.W.findIn K (.ref C) name = some none) (hv : mA name = some v) (hv' : PySem.W.handedIn v = true) (h : Q v { s with toks := s.toks + 1 }) :
  wpAny (model prog w) A (getAttr (.ref x) name expr) Q E s := by
 obtain ⟨od, J, hl⟩ := I.look
 exact PySem.W.get_value X J (PySem.W.plainGet_of hg).1 (PySem.W.findObj_own hh ha rfl (by rw [hl, hv])) hv' h
theorem set_map {ns : List Str} {Q : Unit -> Shared -> Prop} (X : K.In s.heap) (I : ObjM s.heap x dx C mA)
  (hs : PySem.W.findIn K (.ref C) "__setattr__" = some (some (.builtin "object.__setattr__"))) (hp : PySem.W.plainOver K C = true) (ht : PySem.W.takerIn K C name = some none) (hh : PySem.W.hasDictIn K C = true)
  (hw : PySem.Within mA ns) (hsz : ns.length <= sizeLine)
  (h : ∀ h', ObjM h' x dx C (fun y => if y = name then some v else mA y) -> Heap.SameBut dx s.heap h' -> Q () { s with heap := h', toks := s.toks + 2 }) :
  wpAny (model prog w) A (setAttr (.ref x) name v) Q E s := by
 obtain ⟨od, J, hl⟩ := I.look
 refine PySem.W.set_plain X J hs (PySem.W.osa_open (s := { s with toks := s.toks + 1 }) (r := none) X J hp ht fun b => ?_)
 obtain ⟨cd, hc, hd'⟩ := PySem.W.any_some hh
 have hx : s.heap.get? x = some ⟨.ref C, some dx, .plain, #[]⟩ := I.obj
 refine wpAny_bind (wpAny_pure (wpAny_bind (wpAny_bind (wpAny_loadPart hx (wpAny_bind (PySem.W.Looks.here (s := { s with toks := s.toks + 1 }) (PySem.W.looks_clsIn X hc) ?_))))))
 rw [hd']
 refine wpAny_pure (a := some dx) (wpAny_bind (wpAny_pure (wpAny_bind ?_)))
 refine wpAny_nsSet1 (s := { s with toks := s.toks + 1 }) I.ns fun h' hn2 hs2 => ?_
 obtain ⟨oD, esD, epD, hoD, hdD, hcD⟩ := hn2.count (PySem.Within.cons name v hw)
 refine wpAny_bind (wpAny_lookBehind hoD (by rw [hdD]; exact pastItsLine_dict (Nat.le_trans hcD (by rw [List.length_cons]; omega))) ?_)
 exact wpAny_pure (h _ ⟨(hs2.2 _ (Ne.symm I.ne)).trans I.obj, hn2, I.ne⟩ hs2)
theorem make_map {R : Result -> Shared -> Prop} {vs : List Value} {kw : List (Str × Value)} (X : K.In s.heap) (hm : PySem.W.makesIn K C = true)
  (hi : PySem.W.findIn K (.ref C) "__init__" = some (some (.ref f))) (hf : PySem.W.typeIn K (.ref f) = some (.type "function"))
  (h : codeAny (model prog w) (A.under (.builtin "type.__call__" ⟨.ref C :: vs, kw⟩)) (.call (.ref f) ⟨.ref (s.heap.objs.size + 1) :: vs, kw⟩) (PySem.W.InitBack (s.heap.objs.size + 1) R)
   { s with heap := (s.heap.push PySem.W.emptyDict).push (PySem.W.instObj C s.heap.objs.size) }) :
  codeAny (model prog w) A (.call (.ref C) ⟨vs, kw⟩) R s := by
 obtain ⟨hh, g, d, t, os⟩ := s
 exact PySem.W.make_core (PySem.W.makes_of X hm) (PySem.W.looks_findIn X hi) (fun self => PySem.W.bind_fn X self hf) (.inl rfl) h
end
def putF (f : Str) (v : V) : List (Str × V) -> List (Str × V)
 | [] => [(f, v)]
 | (g, x) :: r => if g = f then (g, v) :: r else (g, x) :: putF f v r
theorem UX (f g : Str) (v : V) : ∀ fs : List (Str × V), (putF f v fs).lookup g = if g = f then some v else fs.lookup g
 | [] => by
  show List.lookup g [(f, v)] = _
  by_cases h : g = f
  ·have hb : (g == f) = true := beq_iff_eq.mpr h
   simp only [List.lookup, hb, if_pos h]
  ·have hb : (g == f) = false := beq_eq_false_iff_ne.mpr h
   simp only [List.lookup, hb, if_neg h]
 | (k, x) :: r => by
  have ih := UX f g v r
  rw [show putF f v ((k, x) :: r) = (if k = f then (k, v) :: r else (k, x) :: putF f v r) from rfl]
  by_cases hk : k = f
  ·rw [if_pos hk]
   by_cases h : g = k
   ·have hb : (g == k) = true := beq_iff_eq.mpr h
    simp only [List.lookup, hb, if_pos (h.trans hk)]
   ·have hb : (g == k) = false := beq_eq_false_iff_ne.mpr h
    simp only [List.lookup, hb, if_neg (fun e : g = f => h (e.trans hk.symm))]
  ·rw [if_neg hk]
   by_cases h : g = k
   ·have hb : (g == k) = true := beq_iff_eq.mpr h
    simp only [List.lookup, hb, if_neg (fun e : g = f => hk (h.symm.trans e))]
   ·have hb : (g == k) = false := beq_eq_false_iff_ne.mpr h
    simp only [List.lookup, hb]
    exact ih
theorem U1 (f : Str) (v : V) : ∀ fs : List (Str × V), f ∈ (putF f v fs).map (·.1) /\ ∀ g, g ∈ fs.map (·.1) -> g ∈ (putF f v fs).map (·.1)
 | [] => ⟨by simp [putF], fun g h => by simp at h⟩
 | (k, x) :: r => by
  obtain ⟨i1, i2⟩ := U1 f v r
  rw [show putF f v ((k, x) :: r) = (if k = f then (k, v) :: r else (k, x) :: putF f v r) from rfl]
  by_cases hk : k = f
  ·rw [if_pos hk]
   subst hk
   exact ⟨by simp, fun g h => by simpa using h⟩
  ·rw [if_neg hk]
   refine ⟨?_, fun g h => ?_⟩
   ·rw [List.map_cons]
    exact List.mem_cons_of_mem _ i1
   ·rw [List.map_cons] at h ⊢
    rcases List.mem_cons.mp h with e | e
    ·exact List.mem_cons.mpr (.inl e)
    ·exact List.mem_cons_of_mem _ (i2 g e)
theorem UZ (f : Str) (v : V) : ∀ fs : List (Str × V), (putF f v fs).length <= fs.length + 1
 | [] => by simp [putF]
 | (k, x) :: r => by
  have ih := UZ f v r
  rw [show putF f v ((k, x) :: r) = (if k = f then (k, v) :: r else (k, x) :: putF f v r) from rfl]
  by_cases hk : k = f
  ·rw [if_pos hk, List.length_cons, List.length_cons]; omega
  ·rw [if_neg hk, List.length_cons, List.length_cons]; omega
theorem RelO.some_of {v : V} {o : Option Value} (r : RelO (some v) o) : ∃ u, o = some u /\ RelV v u := by
 cases o with
 | none => exact (show False from r).elim
 | some u => exact ⟨u, rfl, r⟩
theorem zdX {v : V} {u : Value} (r : RelV v u) : PySem.W.handedIn u = true := by
 cases v with
 | non => cases (show u = Value.none from r); rfl
 | bl b => cases (show u = Value.bool b from r); rfl
 | int i => obtain ⟨t, e⟩ := (show ∃ t, u = Value.int i t from r); cases e; rfl
 | str x => obtain ⟨t, e⟩ := (show ∃ t, u = Value.str x t from r); cases e; rfl
 | byt b => obtain ⟨t, e⟩ := (show ∃ t, u = Value.bytes b t from r); cases e; rfl
 | flt b => obtain ⟨t, e⟩ := (show ∃ t, u = Value.float b t from r); cases e; rfl
 | ref a => cases (show u = Value.ref a from r); rfl
 | ty n => cases (show u = Value.type n from r); rfl
section
variable {P : Program} {w : World} {H H' : Hp} {h h' : Heap} {a C dx : Addr} {fs fs' : List (Str × V)}
theorem zdU (hok : HOk P w H h) (e : H a = some (.ins C dx fs)) : ∃ mA, ObjM h a dx C mA /\ (∀ f, RelO (fs.lookup f) (mA f)) /\ PySem.Within mA (fs.map (·.1)) /\ fs.length <= 1000 /\ H dx = some (.own a) := by
 obtain ⟨d, z, ne, ob, mA, n, r, q⟩ := (show WM P w H h a (.ins C dx fs) from hok a _ e)
 exact ⟨mA, ⟨ob, n, ne⟩, r, q, z, d⟩
end
structure Cls (K : PySem.W.Frag) (C : Addr) : Prop where
 pg : PySem.W.plainGet K C Str.empty = true
 hd : PySem.W.hasDictIn K C = true
 po : PySem.W.plainOver K C = true
 sa : PySem.W.findIn K (.ref C) "__setattr__" = some (some (.builtin "object.__setattr__"))
theorem Cls.get {K : PySem.W.Frag} {C : Addr} (c : Cls K C) (f : Str) : PySem.W.plainGet K C f = true := c.pg
def Wb (K : PySem.W.Frag) (C : Addr) (f : Str) : Prop := PySem.W.findIn K (.ref C) f = some none
theorem Wb.taker {K : PySem.W.Frag} {C : Addr} {f : Str} (n : Wb K C f) : PySem.W.takerIn K C f = some none := by
 unfold PySem.W.takerIn
 rw [show PySem.W.findIn K (.ref C) f = some none from n]
 rfl
section
variable {X : Cx} {pins : List (Addr × Obj)} {σ : St} {H : Hp} {s : Shared} {a C dx : Addr} {fs : List (Str × V)} {f : Str} {v : V} {A : Around} {E : Value -> Shared -> Prop}
theorem zcE {b : Bool} {Q : Value -> Shared -> Prop} (I : Inv X pins σ H s) (e : H a = some (.ins C dx fs)) (c : Cls X.K C) (n : Wb X.K C f) (l : fs.lookup f = some v)
  (h : ∀ u s', Inv X pins σ H s' -> RelV v u -> Q u s') : wpAny (model X.prog X.w) A (getAttr (.ref a) f b) Q E s := by
 obtain ⟨mA, O, r, _, _, _⟩ := zdU I.hok e
 obtain ⟨u, hu, ru⟩ := RelO.some_of (v := v) (o := mA f) (by rw [<- l]; exact r f)
 exact get_map I.kIn O (c.get f) c.hd n hu (zdX ru) (h u _ (I.tok _) ru)
theorem zcn {y : V} {u : Value} {Q : Unit -> Shared -> Prop} (I : Inv X pins σ H s) (e : H a = some (.ins C dx fs)) (c : Cls X.K C) (n : Wb X.K C f) (hl : fs.length < 1000) (ry : RelV y u)
  (h : ∀ s', Inv X pins σ (upd H a (.ins C dx (putF f y fs))) s' -> Q () s') : wpAny (model X.prog X.w) A (setAttr (.ref a) f u) Q E s := by
 obtain ⟨mA, O, r, wi, _, ho⟩ := zdU I.hok e
 have hz : (fs.map (·.1)).length <= sizeLine := by rw [List.length_map, sizeLine_eq]; omega
 refine set_map I.kIn O c.sa c.po n.taker c.hd wi hz fun h' O' sb => h _ ?_
 have hd : ∃ o, h'.get? dx = some o := let ⟨o, _, _, e', _⟩ := O'.ns; ⟨o, e'⟩
 refine I.write (x := a) (e := dx) (by rw [e]; exact True.intro) (.inr ho) (fun b q hb z => (sb.2 b hb).trans z) hd ?_
 refine ⟨by rw [Zz O.ne]; exact ho, ?_, O.ne, O'.obj, _, O'.ns, fun g => ?_, fun g hg => ?_⟩
 ·have := UZ f y fs; omega
 ·show RelO ((putF f y fs).lookup g) (if g = f then some u else mA g)
  rw [UX]
  by_cases q : g = f
  ·rw [if_pos q, if_pos q]; exact ry
  ·rw [if_neg q, if_neg q]; exact r g
 ·by_cases q : g = f
  ·rw [q]; exact (U1 f y fs).1
  ·refine (U1 f y fs).2 g (wi g fun z => hg ?_)
   show (if g = f then some u else mA g) = none
   rw [if_neg q]; exact z
theorem Inv.made (I : Inv X pins σ H s) : Inv X pins σ (upd (upd H s.heap.objs.size (.own (s.heap.objs.size + 1))) (s.heap.objs.size + 1) (.ins C s.heap.objs.size []))
  { s with heap := (s.heap.push PySem.W.emptyDict).push (PySem.W.instObj C s.heap.objs.size) } := by
 have e1 : (s.heap.push PySem.W.emptyDict).get? s.heap.objs.size = some PySem.W.emptyDict := Heap.get?_push_size s.heap rfl
 have e2 : ((s.heap.push PySem.W.emptyDict).push (PySem.W.instObj C s.heap.objs.size)).get? (s.heap.objs.size + 1) = some (PySem.W.instObj C s.heap.objs.size) := by
  have := Heap.get?_push_size (s.heap.push PySem.W.emptyDict) (o := PySem.W.instObj C s.heap.objs.size) rfl
  rwa [Heap.size_push] at this
 have e3 : (s.heap.push PySem.W.emptyDict).Ns s.heap.objs.size (fun _ => none) := ⟨PySem.W.emptyDict, #[], _, e1, rfl, (fun e he => absurd he (by simp)), fun _ => rfl⟩
 have I1 := I.laid (a := s.heap.objs.size) (o := .own (s.heap.objs.size + 1)) (h' := s.heap.push PySem.W.emptyDict) (t' := s.toks) (fun b u q => Heap.get?_push_of_some _ q) (Nat.le_refl _) ⟨_, e1⟩
 refine I1.laid (a := s.heap.objs.size + 1) (o := .ins C s.heap.objs.size []) (t' := s.toks) (fun b u q => Heap.get?_push_of_some _ q) (Nat.le_of_eq (Heap.size_push _ _)) ?_
 have ne : s.heap.objs.size ≠ s.heap.objs.size + 1 := Nat.ne_of_lt (Nat.lt_succ_self _)
 refine ⟨by rw [Zz ne, Zs], Nat.zero_le _, ne, e2, fun _ => none, (Heap.Ns1.of_empty e3).at fun o q => Heap.get?_push_of_some _ q, fun _ => True.intro, fun y hy => absurd rfl hy⟩
theorem attr_of {prog : Program} {w : World} {env : Env} {e : Expr} {f : Str} {pos : Pos} {s : Shared} {Q : Value -> Shared -> Prop} (hb : attributeBase e f env (eval e env) = eval e env)
  (h : wpAny (model prog w) A (eval e env) (fun o s₁ => wpAny (model prog w) A (getAttr o f true) Q E s₁) E s) : wpAny (model prog w) A (eval (.Attribute e f pos) env) Q E s :=
 Attribute_any_ h (by rw [arm_eval_Attribute, hb])
end
def tFld (K : PySem.W.Frag) (ta : TE) (f : Str) : TE := fun σ H Q => ta σ H fun x H1 => ∃ a C dx fs v, x = .ref a /\ H1 a = some (.ins C dx fs) /\ Cls K C /\ Wb K C f /\ fs.lookup f = some v /\ Q v H1
def sFld (K : PySem.W.Frag) (ta tv : TE) (f : Str) : TS := fun D σ H => tv σ H fun y H1 => ta σ H1 fun x H2 => ∃ a C dx fs, x = .ref a /\ H2 a = some (.ins C dx fs) /\ Cls K C /\ Wb K C f /\ fs.length < 1000 /\
 D.nx σ (upd H2 a (.ins C dx (putF f y fs)))
section
variable {X : Cx} {o e value : Expr} {f : Str} {pos pos' tpos : Pos} {ta tv : TE}
theorem pe_fld (he : PE X e ta) (hb : attributeBase e f X.env (eval e X.env) = eval e X.env) : PE X (.Attribute e f pos) (tFld X.K ta f) := by
 intro pins s σ H Q I h
 refine attr_of hb (thn (he pins s σ H _ I h) fun u s1 ⟨x, H1, I1, rx, a, C, dx, fs, v, ex, ea, c, n, l, q⟩ => ?_)
 subst ex
 obtain rfl : u = Value.ref a := rx
 exact zcE I1 ea c n l fun u' s2 I2 ru => ⟨v, H1, I2, ru, q⟩
theorem zdh (ha : PE X o ta) (hv : PE X value tv) (hs : swapsWith value (some (.Attribute o f pos')) pos.line X.env = pure false) : PS X (.Assign [.Attribute o f pos'] value pos) (sFld X.K ta tv f) := by
 intro pins s σ H D I h
 refine plainObj_wpAny_Assign_Attribute (thn (hv pins s σ H _ I h) fun u s1 ⟨y, H1, I1, ry, q⟩ => thn (ha pins s1 σ H1 _ I1 q) fun ov s2 ⟨x, H2, I2, rx, a, C, dx, fs, ex, ea, c, n, l, q2⟩ => ?_) hs
 subst ex
 obtain rfl : ov = Value.ref a := rx
 exact zcn I2 ea c n l ry fun s3 I3 => ⟨σ, _, I3, q2⟩
end
end L2
namespace L2
open PySem PySem.Spec PyProof.Rows
structure Room (k : Nat) (A : Around) : Prop where
 hd : A.handled = none
 dp : A.depth + 3 * k + 5 < recursionLimit
 un : A.units + 16 * k + 200 < cLine
theorem Room.mono {j k : Nat} {A : Around} (r : Room k A) (h : j <= k) : Room j A := ⟨r.hd, by have := r.dp; omega, by have := r.un; omega⟩
theorem Room.deeper {k : Nat} {A : Around} (r : Room (k + 1) A) (env : Env) : Room k (A.deeper env) :=
 ⟨r.hd, by have := r.dp; show A.depth + 1 + 3 * k + 5 < _; omega, by have := r.un; show A.units + 3 + 16 * k + 200 < _; omega⟩
theorem zcz {A : Around} {C : Addr} {us : List Value} {kw : List (Str × Value)} : (A.under (.builtin "type.__call__" ⟨.ref C :: us, kw⟩)).depth = A.depth + 1 := by
 first | rfl | simp [Around.under, Code.weight, Code.isCreation, Code.isGuard, Code.isCaller, Code.frames, Code.isFrame, guardIds]
theorem zcy {A : Around} {C : Addr} {us : List Value} {kw : List (Str × Value)} : (A.under (.builtin "type.__call__" ⟨.ref C :: us, kw⟩)).units = A.units + 1 := by
 first | rfl | simp [Around.under, Code.cUnits, Code.frames, Code.isFrame]
theorem Room.make {k : Nat} {A : Around} (r : Room (k + 1) A) (C : Addr) (us : List Value) (kw : List (Str × Value)) : Room k (A.under (.builtin "type.__call__" ⟨.ref C :: us, kw⟩)) :=
 ⟨r.hd, by have := r.dp; rw [zcz]; omega, by have := r.un; rw [zcy]; omega⟩
theorem Room.depth {k : Nat} {A : Around} (r : Room k A) : A.depth < recursionLimit := by have := r.dp; omega
theorem Room.units {k : Nat} {A : Around} (r : Room k A) : A.units + 64 < cLine := by have := r.un; omega
def tNil : TA := fun _ H Q => Q [] H
def zcW (ta : TE) (tr : TA) : TA := fun σ H Q => ta σ H fun x H1 => tr σ H1 fun xs H2 => Q (x :: xs) H2
section
variable {X : Cx} {e : Expr} {es : List Expr} {te : TE} {t : TA} {pos : Pos}
theorem Y0 : PA X [] tNil := fun _ _ _ _ H Q I h => Calls.spliced_nil ⟨[], H, I, .nil, h⟩
theorem Z0 (ha : PE X e te) (hr : PA X es t) (hs : starEach (e :: es) X.env = (false, eval e X.env) :: starEach es X.env := by rfl) : PA X (e :: es) (zcW te t) := by
 intro pos pins s σ H Q I h
 rw [hs]
 show wpAny _ _ (spliced ((false, eval e X.env) :: backTo pos (starEach es X.env))) _ _ s
 refine Calls.spliced_cons (thn (ha pins s σ H _ I h) fun u s1 ⟨x, H1, I1, r1, q1⟩ => ?_)
 exact thn (hr pos pins s1 σ H1 _ I1 q1) fun us s2 ⟨xs, H2, I2, r2, q2⟩ => ⟨x :: xs, H2, I2, .cons r1 r2, q2⟩
def tTup (t : TA) : TE := fun σ H Q => t σ H fun xs H1 => xs.length <= sizeLine /\ ∀ p, H1 p = none -> Q (.ref p) (upd H1 p (.tup xs))
def tLst (t : TA) : TE := fun σ H Q => t σ H fun xs H1 => xs.length <= sizeLine /\ ∀ p, H1 p = none -> Q (.ref p) (upd H1 p (.lst xs))
theorem pe_tup {x1} (h : PA X es t) : PE X (.Tuple es x1 pos) (tTup t) := by
 intro pins s σ H Q I hq
 refine wpAny_Tuple_spliced (thn (h pos pins s σ H _ I hq) fun us s1 ⟨xs, H1, I1, r, z, q⟩ => ⟨by rw [<- r.length]; exact z, ?_⟩)
 have hf : H1 s1.heap.objs.size = none := I1.hok.fresh (Nat.le_refl _)
 refine ⟨.ref s1.heap.objs.size, upd H1 s1.heap.objs.size (.tup xs), I1.laid (t' := s1.toks) (fun b u e => Heap.get?_push_of_some _ e) (Nat.le_refl _) ?_, rfl, q _ hf⟩
 exact ⟨z, us, r, ⟨_, Heap.get?_push_size _ rfl, rfl, _, rfl⟩⟩
theorem pe_lst (h : PA X es t) : PE X (.List es pos) (tLst t) := by
 intro pins s σ H Q I hq
 refine wpAny_List_spliced (thn (h pos pins s σ H _ I hq) fun us s1 ⟨xs, H1, I1, r, z, q⟩ => ⟨by rw [<- r.length]; exact z, ?_⟩)
 have hf : H1 s1.heap.objs.size = none := I1.hok.fresh (Nat.le_refl _)
 refine ⟨.ref s1.heap.objs.size, upd H1 s1.heap.objs.size (.lst xs), I1.laid (t' := s1.toks) (fun b u e => Heap.get?_push_of_some _ e) (Nat.le_refl _) ?_, rfl, q _ hf⟩
 exact ⟨z, us, 0, r, Heap.get?_push_size _ rfl⟩
end
abbrev Sp := List V -> Hp -> VK -> XK -> Prop
abbrev CXT := List Env -> Hp -> Shared -> XK -> Value -> Shared -> Prop
structure Env0 (P : Program) (w : World) (K : PySem.W.Frag) (mg : Str -> Option Value) (base : Heap) (A : Around) (outer : List Env) (s : Shared) (H : Hp) : Prop where
 frames : A.frames = some outer
 mod : Mod K mg base
 bs : ∀ b o, base.get? b = some o -> s.heap.get? b = some o /\ H b = none
 bsz : base.objs.size <= s.heap.objs.size
 funs : s.heap.FunFrames base outer
 frf : ∀ b ∈ frs outer, H b = none
 hok : HOk P w H s.heap
 bare : AllBare s.gens
def CE (outer : List Env) (P : Program) (w : World) (H : Hp) (s : Shared) (Q : VK) (u : Value) (s' : Shared) : Prop :=
 ∃ v H', s'.os = s.os /\ AllBare s'.gens /\ Un (frs outer) [] H H' s.heap s'.heap /\ HOk P w H' s'.heap /\ RelV v u /\ Q v H'
def CR (CX : CXT) (outer : List Env) (P : Program) (w : World) (H : Hp) (s : Shared) (Q : VK) (E : XK) (r : Result) (s' : Shared) : Prop :=
 match r with
 | .ok (.ret u) => CE outer P w H s Q u s'
 | .ok _ => False
 | .error e => CX outer H s E e s'
structure FnOk (P : Program) (w : World) (K : PySem.W.Frag) (mg : Str -> Option Value) (base : Heap) (CX : CXT) (k : Nat) (f : Addr) (fd : FuncData) (ps : List Str) (sp : Sp) : Prop where
 len : ∀ vs H Q E, sp vs H Q E -> vs.length = ps.length
 run : ∀ (A : Around) (outer : List Env) (s : Shared) (H : Hp) (args : Args) (us : List Value) (vs : List V) (Q : VK) (E : XK), Room k A -> Env0 P w K mg base A outer s H -> BindsTo s fd args (ps.zip us) -> Vals vs us -> sp vs H Q E ->
  codeAny (model P w) A (.call (.ref f) args) (CR CX outer P w H s Q E) s
theorem FnOk.mono {P : Program} {w : World} {K : PySem.W.Frag} {mg : Str -> Option Value} {base : Heap} {CX : CXT} {j k : Nat} {f : Addr} {fd : FuncData} {ps : List Str} {sp : Sp} (F : FnOk P w K mg base CX j f fd ps sp) (h : j <= k) :
  FnOk P w K mg base CX k f fd ps sp := ⟨F.len, fun A outer s H args us vs Q E hr => F.run A outer s H args us vs Q E (hr.mono h)⟩
theorem Env0.make {P : Program} {w : World} {K : PySem.W.Frag} {mg : Str -> Option Value} {base : Heap} {A : Around} {outer : List Env} {s : Shared} {H : Hp} (e : Env0 P w K mg base A outer s H) (C : Addr) (us : List Value) (kw : List (Str × Value)) :
  Env0 P w K mg base (A.under (.builtin "type.__call__" ⟨.ref C :: us, kw⟩)) outer s H := ⟨by first | exact e.frames | (simpa [Around.under, Code.envs, Code.isFrame, pushEnvs] using e.frames), e.mod, e.bs, e.bsz, e.funs, e.frf, e.hok, e.bare⟩
section
variable {X : Cx} {pins : List (Addr × Obj)} {σ : St} {H : Hp} {s s' : Shared}
theorem Inv.env0 (I : Inv X pins σ H s) : Env0 X.prog X.w X.K X.mg X.base X.A X.stack s H :=
 ⟨I.ok.frames, I.ok.mod, I.bs, Nat.le_trans I.ok.bsz I.sz, I.stack, I.stkFree, I.hok, I.bare⟩
theorem Inv.after {Q : VK} {u : Value} (I : Inv X pins σ H s) (h : CE X.stack X.prog X.w H s Q u s') : EP X pins σ Q u s' := by
 obtain ⟨v, H', os, bare, un, hok, r, q⟩ := h
 obtain ⟨hh, g, d, t, os'⟩ := s'
 obtain rfl : os' = s.os := os
 exact ⟨v, H', I.call (h' := hh) (g' := g) (d' := d) (t' := t) (ch := []) un hok bare (fun b z => absurd z (by simp)), r, q⟩
end
def tCall (sp : Sp) (dvs : List V) (E : XK) (t : TA) : TE := fun σ H Q => t σ H fun vs H1 => sp (vs ++ dvs) H1 Q E
def tMake (C : Addr) (sp : Sp) (dvs : List V) (E : XK) (t : TA) : TE := fun σ H Q => t σ H fun vs H1 => ∀ x dx, H1 x = none -> H1 dx = none -> dx ≠ x ->
 sp (.ref x :: (vs ++ dvs)) (upd (upd H1 dx (.own x)) x (.ins C dx [])) (fun v H2 => v = .non /\ Q (.ref x) H2) E
def ZP (K : PySem.W.Frag) (fd : FuncData) (ps : List Str) (ds : List Value) : Prop :=
 ∀ (s : Shared) (us : List Value), K.In s.heap -> (us ++ ds).length = ps.length -> BindsTo s fd ⟨us, []⟩ (ps.zip (us ++ ds))
theorem ZP.all {K : PySem.W.Frag} {fd : FuncData} {ps : List Str} (h : ∀ us : List Value, us.length = ps.length -> bindArgs fd ⟨us, []⟩ = pure (ps.zip us)) : ZP K fd ps [] := fun s us _ hl => by
 rw [List.append_nil] at hl ⊢
 exact .of_eq (h us hl)
def Qv (CX : CXT) (X : Cx) (E : XK) : Prop := ∀ (pins : List (Addr × Obj)) (σ : St) (H : Hp) (s : Shared) (e : Value) (s' : Shared), Inv X pins σ H s -> CX X.stack H s E e s' -> X.xe e s'
section
variable {X : Cx} {CX : CXT} {k : Nat} {f C : Addr} {fd : FuncData} {ps : List Str} {sp : Sp} {dvs : List V} {ds : List Value} {E : XK} {x m : Str} {p pos apos : Pos} {e o : Expr} {es : List Expr} {ta : TE} {t : TA}
theorem run_fn {pins : List (Addr × Obj)} {σ : St} {H : Hp} {s : Shared} {Q : VK} {us : List Value} {vs : List V} (F : FnOk X.prog X.w X.K X.mg X.base CX k f fd ps sp) (hr : Room k X.A) (hb : ZP X.K fd ps ds) (hd : Vals dvs ds) (hx : Qv CX X E)
  (I : Inv X pins σ H s) (r : Vals vs us) (h : sp (vs ++ dvs) H Q E) : wpAny (model X.prog X.w) X.A (call (.ref f) us) (EP X pins σ Q) X.xe s := by
 have r2 : Vals (vs ++ dvs) (us ++ ds) := r.append hd
 have hl : (us ++ ds).length = ps.length := by rw [<- r2.length]; exact F.len _ _ _ _ h
 refine wpAny_call (codeAny_mono (F.run X.A X.stack s H ⟨us, []⟩ (us ++ ds) (vs ++ dvs) Q E hr I.env0 (hb s us I.kIn hl) r2 h) fun r s' hq => ?_)
 cases r with
 | error e => exact hx pins σ H s e s' I hq
 | ok fl =>
  cases fl with
  | ret u => exact I.after hq
  | next => exact False.elim hq
  | brk => exact False.elim hq
  | cont => exact False.elim hq
theorem zdm (F : FnOk X.prog X.w X.K X.mg X.base CX k f fd ps sp) (hr : Room k X.A) (hg : Gl X x) (hm : X.mg x = some (.ref f)) (hk : PySem.W.keepIn X.K (.ref f) = true) (hb : ZP X.K fd ps ds) (hd : Vals dvs ds) (hx : Qv CX X E)
  (ha : PA X (e :: es) t) (hdb : (x == ("__debug__" : Str)) = false := by decide) (he : starEach (e :: es) X.env = (false, eval e X.env) :: starEach es X.env := by rfl) (hpl : (backTo pos (starEach es X.env)).any (·.1) = false := by rfl) :
  PE X (.Call (.Name x p) (e :: es) [] pos) (tCall sp dvs E t) := by
 intro pins s σ H Q I h
 refine wpAny_Call_Name_kw (za7 I hg hm ?_ hdb)
 refine PySem.W.callWith_K (h₀ := X.base) I.ok.mod.kin hk (thn (ha pos pins s σ H _ I h) fun us s1 ⟨vs, H1, I1, r, q⟩ => ⟨I1.kIn, ?_⟩) he hpl
 exact run_fn F hr hb hd hx I1 r q
structure Mk (K : PySem.W.Frag) (C f : Addr) : Prop where
 makes : PySem.W.makesIn K C = true
 init : PySem.W.findIn K (.ref C) "__init__" = some (some (.ref f))
 fn : PySem.W.isFn K (.ref f) = true
 kp : PySem.W.keepIn K (.ref C) = true
theorem run_make {pins : List (Addr × Obj)} {σ : St} {H : Hp} {s : Shared} {Q : VK} {us : List Value} {vs : List V} (M : Mk X.K C f) (F : FnOk X.prog X.w X.K X.mg X.base CX k f fd ps sp) (hr : Room (k + 1) X.A) (hb : ZP X.K fd ps ds) (hd : Vals dvs ds)
  (hx : Qv CX X E) (I : Inv X pins σ H s) (r : Vals vs us)
  (h : ∀ x dx, H x = none -> H dx = none -> dx ≠ x -> sp (.ref x :: (vs ++ dvs)) (upd (upd H dx (.own x)) x (.ins C dx [])) (fun v H2 => v = .non /\ Q (.ref x) H2) E) :
  wpAny (model X.prog X.w) X.A (call (.ref C) us) (EP X pins σ Q) X.xe s := by
 have hq := h (s.heap.objs.size + 1) s.heap.objs.size (I.hok.fresh (Nat.le_succ _)) (I.hok.fresh (Nat.le_refl _)) (Nat.ne_of_lt (Nat.lt_succ_self _))
 have I2 := Inv.made (C := C) I
 have r2 : Vals (V.ref (s.heap.objs.size + 1) :: (vs ++ dvs)) (Value.ref (s.heap.objs.size + 1) :: (us ++ ds)) := .cons rfl (r.append hd)
 have hl : (Value.ref (s.heap.objs.size + 1) :: us ++ ds).length = ps.length := by
  have e := r2.length
  rw [F.len _ _ _ _ hq] at e
  exact e.symm
 refine wpAny_call (make_map (f := f) I.kIn M.makes M.init (beq_iff_eq.mp M.fn) (codeAny_mono (F.run _ X.stack _ _ ⟨Value.ref (s.heap.objs.size + 1) :: us, []⟩ (Value.ref (s.heap.objs.size + 1) :: (us ++ ds)) _ _ E (hr.make C us [])
  (I2.env0.make C us []) (hb _ (Value.ref (s.heap.objs.size + 1) :: us) I2.kIn hl) r2 hq) fun r s' hq' => ?_))
 cases r with
 | error e => exact hx pins σ _ _ e s' I2 hq'
 | ok fl =>
  cases fl with
  | ret u =>
   obtain ⟨v, H', I3, rv, ev, q3⟩ := I2.after hq'
   subst ev
   exact ⟨rv, ⟨V.ref (s.heap.objs.size + 1), H', I3, rfl, q3⟩⟩
  | next => exact False.elim hq'
  | brk => exact False.elim hq'
  | cont => exact False.elim hq'
theorem pe_make (M : Mk X.K C f) (F : FnOk X.prog X.w X.K X.mg X.base CX k f fd ps sp) (hr : Room (k + 1) X.A) (hg : Gl X x) (hm : X.mg x = some (.ref C)) (hb : ZP X.K fd ps ds) (hd : Vals dvs ds) (hx : Qv CX X E)
  (ha : PA X (e :: es) t) (hdb : (x == ("__debug__" : Str)) = false := by decide) (he : starEach (e :: es) X.env = (false, eval e X.env) :: starEach es X.env := by rfl) (hpl : (backTo pos (starEach es X.env)).any (·.1) = false := by rfl) :
  PE X (.Call (.Name x p) (e :: es) [] pos) (tMake C sp dvs E t) := by
 intro pins s σ H Q I h
 refine wpAny_Call_Name_kw (za7 I hg hm ?_ hdb)
 refine PySem.W.callWith_K (h₀ := X.base) I.ok.mod.kin M.kp (thn (ha pos pins s σ H _ I h) fun us s1 ⟨vs, H1, I1, r, q⟩ => ⟨I1.kIn, ?_⟩) he hpl
 exact run_make M F hr hb hd hx I1 r q
end
def PK (X : Cx) (kws : List Keyword) (t : TA) : Prop :=
 ∀ (pos : Pos) (pins : List (Addr × Obj)) (s : Shared) (σ : St) (H : Hp) (Q : List V -> Hp -> Prop), Inv X pins σ H s -> t σ H Q -> wpAny (model X.prog X.w) X.A (evalAll ((backToKw pos (keywordEach kws X.env)).map (·.2))) (AP X pins σ Q) X.xe s
section
variable {X : Cx} {CX : CXT} {k : Nat} {f C : Addr} {fd : FuncData} {ps ks : List Str} {sp : Sp} {E : XK} {x m : Str} {p pos apos kpos : Pos} {e o : Expr} {es : List Expr} {kws : List Keyword} {te ta : TE} {t tk : TA} {nm : Option Str}
theorem pk_nil : PK X [] tNil := fun _ _ _ _ H Q I h => wpAny_evalAll_nil ⟨[], H, I, .nil, h⟩
theorem pk_cons (ha : PE X e te) (hr : PK X kws t) : PK X (⟨nm, e, kpos⟩ :: kws) (zcW te t) := by
 intro pos pins s σ H Q I h
 show wpAny _ _ (evalAll ((do let v <- eval e X.env; standAt pos; pure v) :: (backToKw pos (keywordEach kws X.env)).map (·.2))) _ _ s
 refine wpAny_evalAll_cons (wpAny_bind (thn (ha pins s σ H _ I h) fun u s1 ⟨x, H1, I1, r1, q1⟩ => wpAny_bind (wpAny_standAt (wpAny_pure ?_))))
 exact thn (hr pos pins s1 σ H1 _ I1 q1) fun us s2 ⟨xs, H2, I2, r2, q2⟩ => ⟨x :: xs, H2, I2, .cons r1 r2, q2⟩
variable {g : List Value -> List Value -> List Value} {gV : List V -> List V -> List V}
end
structure FnScope (N P : List Str) (sc : Scope) : Prop where
 kind : sc.kind = .function
 co : sc.isCoroutine = false
 gen : sc.isGenerator = false
 nd : N.Nodup
 pre : N.take P.length = P
 par : ∀ x ∈ P, sc.names.lookup x = some .local \/ sc.names.lookup x = some .cell
 nofree : ∀ y ∈ sc.names, y.2 ≠ .free
theorem zaz {kindOf : Str -> Option NameKind} {x : Str} : ∀ {binds : List (Str × Value)} {m : Str -> Option Value}, (∀ v, (x, v) ∉ binds) -> bindL kindOf binds m x = m x
 | [], _, _ => rfl
 | (n, v) :: r, m, h => by
  unfold bindL
  rw [zaz fun w hw => h w (List.mem_cons_of_mem _ hw)]
  split
  ·have : x ≠ n := by rintro rfl; exact h v List.mem_cons_self
   simp [this]
  ·rfl
theorem zaC {kindOf : Str -> Option NameKind} {x : Str} : ∀ {binds : List (Str × Value)} {m : Str -> Option Value}, (∀ v, (x, v) ∉ binds) -> bindC kindOf binds m x = m x
 | [], _, _ => rfl
 | (n, v) :: r, m, h => by
  unfold bindC
  rw [zaC fun w hw => h w (List.mem_cons_of_mem _ hw)]
  split
  ·rfl
  ·have : x ≠ n := by rintro rfl; exact h v List.mem_cons_self
   simp [this]
theorem zaA {kindOf : Str -> Option NameKind} {x : Str} {v : Value} : ∀ {P : List Str} {vs : List Value} {i : Nat} {m : Str -> Option Value}, P.Nodup -> P[i]? = some x -> vs[i]? = some v -> kindOf x = some .local ->
  bindL kindOf (P.zip vs) m x = some v
 | [], _, _, _, _, h, _, _ => by simp at h
 | _ :: _, [], _, _, _, _, h, _ => by simp at h
 | p :: P, w :: vs, 0, m, nd, h1, h2, hk => by
  simp at h1 h2; subst h1; subst h2
  show bindL kindOf ((p, w) :: P.zip vs) m p = _
  unfold bindL
  rw [zaz fun v hv => (List.nodup_cons.mp nd).1 (List.of_mem_zip hv).1, if_pos hk]
  simp
 | p :: P, w :: vs, i + 1, m, nd, h1, h2, hk => by
  show bindL kindOf ((p, w) :: P.zip vs) m x = _
  unfold bindL
  exact zaA (i := i) (List.nodup_cons.mp nd).2 (by simpa using h1) (by simpa using h2) hk
theorem zaD {kindOf : Str -> Option NameKind} {x : Str} {v : Value} : ∀ {P : List Str} {vs : List Value} {i : Nat} {m : Str -> Option Value}, P.Nodup -> P[i]? = some x -> vs[i]? = some v -> kindOf x ≠ some .local ->
  bindC kindOf (P.zip vs) m x = some v
 | [], _, _, _, _, h, _, _ => by simp at h
 | _ :: _, [], _, _, _, _, h, _ => by simp at h
 | p :: P, w :: vs, 0, m, nd, h1, h2, hk => by
  simp at h1 h2; subst h1; subst h2
  show bindC kindOf ((p, w) :: P.zip vs) m p = _
  unfold bindC
  rw [zaC fun v hv => (List.nodup_cons.mp nd).1 (List.of_mem_zip hv).1, if_neg hk]
  simp
 | p :: P, w :: vs, i + 1, m, nd, h1, h2, hk => by
  show bindC kindOf ((p, w) :: P.zip vs) m x = _
  unfold bindC
  exact zaD (i := i) (List.nodup_cons.mp nd).2 (by simpa using h1) (by simpa using h2) hk
def start (N : List Str) (vs : List V) : St := vs.map some ++ List.replicate (N.length - vs.length) none
def cxOf (CX : CXT) (P : Program) (w : World) (K : PySem.W.Frag) (mg : Str -> Option Value) (base : Heap) (N : List Str) (qual : Str) (scope : Scope) (f : Addr) (cd : Value) (A : Around) (outer : List Env) (s : Shared) (H : Hp) (E : XK) : Cx where
 prog := P
 w := w
 K := K
 mg := mg
 base := base
 A := A.deeper (envOfC qual scope s.heap.objs.size f cd)
 N := N
 s₀ := s
 H₀ := H
 env := envOfC qual scope s.heap.objs.size f cd
 outer := outer
 stack := envOfC qual scope s.heap.objs.size f cd :: outer
 ex := []
 calm := true
 fn := fun _ => true
 pn := []
 xe := fun e s' => wpAny (model P w) (A.deeper (envOfC qual scope s.heap.objs.size f cd)) (leaving (envOfC qual scope s.heap.objs.size f cd) e) (fun _ s'' => CX outer H s E e s'') (fun e' s'' => CX outer H s E e' s'') s'
theorem zcb {sc : Scope} {n : Nat} {x : Str} (h : sc.names.lookup x = some .cell) : ∃ c, (cellsFrom n sc.names []).lookup x = some c := by
 have q := PySem.W.cellsFrom_some sc.names n [] (.inl h)
 exact Option.isSome_iff_exists.mp q
theorem zdS {CX : CXT} {P : Program} {w : World} {K : PySem.W.Frag} {mg : Str -> Option Value} {base : Heap} {N ps : List Str} {qual : Str} {scope : Scope} {f : Addr} {cd : Value} {A : Around} {outer : List Env} {s s1 : Shared} {H : Hp} {E : XK} {us : List Value} {vs : List V}
  (S : FnScope N ps scope) (hd : A.handled = none) (e0 : Env0 P w K mg base A outer s H) (hl : vs.length = ps.length) (r : Vals vs us)
  (x : InCallC s s.heap.objs.size (bindL (envOfC qual scope s.heap.objs.size f cd).kindOf (ps.zip us) fun _ => none) (cellsFrom (s.heap.objs.size + 1) scope.names []) (bindC (envOfC qual scope s.heap.objs.size f cd).kindOf (ps.zip us) fun _ => none) s1) :
  Inv (cxOf CX P w K mg base N qual scope f cd A outer s H E) [] (start N vs) H s1 := by
 have hpl : ps.length <= N.length := by have := congrArg List.length S.pre; rw [List.length_take] at this; omega
 obtain ⟨h1, tk, rfl, hk⟩ := x.done
 have noA : ∀ b : Addr, b ∉ (cxOf CX P w K mg base N qual scope f cd A outer s H E).ex := fun b z => absurd (show b ∈ ([] : List Addr) from z) (by simp)
 refine ⟨⟨e0.mod, S.kind, rfl, rfl, Nat.le_refl _, fun y z c h1 h2 => ?_, fun y hy => ?_, fun y c _ h => ?_, fun _ => hd, Around.frames_deeper e0.frames, .inr ⟨rfl, rfl⟩, fun b z => absurd z (noA b), e0.bs, e0.bsz, fun b _ _ => noA b, fun b z => absurd z (noA b), e0.funs, e0.frf⟩,
  rfl, e0.bare, Un.kept hk, ⟨_, x.toInCall.ns, fun i y v h1 h2 h3 => ?_⟩, fun y c h => ⟨_, x.cell y c h⟩, e0.hok.fresh (Nat.le_refl _), fun y c h => ?_, fun p hp => absurd (show p ∈ ([] : List (Addr × Obj)) from hp) (by simp), e0.hok.kept hk, ?_⟩
 ·exact name_of_addr x.apart (PySem.mem_of_lookup h1) (PySem.mem_of_lookup h2)
 ·have hy : scope.names.lookup y = some .cell \/ scope.names.lookup y = some .free := hy
  rcases hy with hy | hy
  ·exact zcb hy
  ·exact absurd rfl (S.nofree _ (PySem.mem_of_lookup hy))
 ·exact Nat.le_of_lt (x.above y c (PySem.mem_of_lookup h))
 ·have hi : i < vs.length := by
   unfold start at h2
   by_cases hi : i < vs.length
   ·exact hi
   ·rw [List.getElem?_append_right (by simpa using hi)] at h2
    rw [List.getElem?_replicate] at h2
    split at h2 <;> cases h2
  have ha : vs[i]? = some v := by
   unfold start at h2
   rw [List.getElem?_append_left (by simpa using hi), List.getElem?_map] at h2
   cases e : vs[i]? with
   | none => rw [e] at h2; cases h2
   | some a => rw [e] at h2; cases h2; rfl
  obtain ⟨u, hu, rv⟩ := r.get ha
  have hp : ps[i]? = some y := by
   rw [<- S.pre, List.getElem?_take_of_lt (by omega)]; exact h1
  have ndP : ps.Nodup := by rw [<- S.pre]; exact S.nd.sublist (List.take_sublist _ _)
  refine ⟨u, rv, ?_⟩
  rcases S.par y (List.mem_of_getElem? hp) with k | k
  ·exact .inl ⟨k, zaA ndP hp hu k⟩
  ·obtain ⟨c, e⟩ := zcb (n := s.heap.objs.size + 1) k
   refine .inr ⟨.inl k, c, e, ?_⟩
   have q := x.cell y c e
   rw [zaD ndP hp hu (by show scope.names.lookup y ≠ _; rw [k]; decide)] at q
   exact q
 ·exact e0.hok.fresh (Nat.le_of_lt (x.above y c (PySem.mem_of_lookup h)))
 ·unfold start
  show _ = N.length
  rw [List.length_append, List.length_map, List.length_replicate]
  omega
theorem fn_of {CX : CXT} {P : Program} {w : World} {K : PySem.W.Frag} {mg : Str -> Option Value} {base : Heap} {k : Nat} {f : Addr} {name qual : Str} {params : Arguments} {body : List Stmt} {scope : Scope} {dV kV doc pm cdv ct oc : Value} {an od : Option Addr}
  {osl : Array (Option Value)} {N ps : List Str} {sp : Sp} (lk : K.lookup f = some ⟨oc, od, .func (PySem.W.fnOf name qual params body scope dV kV doc pm an cdv ct), osl⟩) (hcd : PySem.W.codeIn K cdv qual = true) (S : FnScope N ps scope)
  (len : ∀ vs H Q E, sp vs H Q E -> vs.length = ps.length)
  (hbody : ∀ (A : Around) (outer : List Env) (s : Shared) (H : Hp) (vs : List V) (Q : VK) (E : XK), Room k (A.deeper (envOfC qual scope s.heap.objs.size f cdv)) -> sp vs H Q E ->
   ∃ t, PSs (cxOf CX P w K mg base N qual scope f cdv A outer s H E) body t /\ t { nx := fun _ H' => Q .non H', rt := Q } (start N vs) H) :
  FnOk P w K mg base CX (k + 1) f (PySem.W.fnOf name qual params body scope dV kV doc pm an cdv ct) ps sp := by
 refine ⟨len, fun A outer s H args us vs Q E hr e0 hb r hsp => ?_⟩
 have hl := len _ _ _ _ hsp
 have KX : K.In s.heap := e0.mod.kin.keeps fun b o e => (e0.bs b o e).1
 have lim : s.heap.NoLimit := e0.mod.nolimit.keeps fun b o e => (e0.bs b o e).1
 have hkind : ∀ y ∈ ps.zip us, scope.names.lookup y.1 = some .local \/ (scope.names.lookup y.1 = some .cell /\ ((cellsFrom (s.heap.objs.size + 1) scope.names []).lookup y.1).isSome = true) := fun ⟨n, v⟩ hy => by
  rcases S.par n (List.of_mem_zip hy).1 with q | q
  ·exact .inl q
  ·exact .inr ⟨q, PySem.W.cellsFrom_some _ _ _ (.inl q)⟩
 refine codeAny_call_function hr.depth (KX _ _ lk) rfl S.co S.gen rfl (PySem.W.codeRec_of KX hcd) (hb _ _ _ _ ?_)
 refine wpAny_newFunctionEnv_cells S.kind hkind fun env he s1 x => ?_
 subst he
 refine ⟨lim.keeps x.toInCall.keep, codeAny_func ?_⟩
 obtain ⟨t, ht, hq⟩ := hbody A outer s H vs Q E (hr.deeper _) hsp
 have I : Inv (cxOf CX P w K mg base N qual scope f cdv A outer s H E) [] (start N vs) H s1 := zdS S hr.hd e0 hl r x
 refine wpAny_mono (ht [] s1 (start N vs) H _ I hq) (fun fl s' hs => ?_) fun e s' hs => hs
 have fin : ∀ {σ' : St} {H' : Hp} {v : V} {u : Value}, Inv (cxOf CX P w K mg base N qual scope f cdv A outer s H E) [] σ' H' s' -> RelV v u -> Q v H' -> CE outer P w H s Q u s' :=
  fun {σ' H' v u} J rv q => ⟨v, H', J.os, J.bare, J.base, J.hok, rv, q⟩
 cases fl with
 | ret u =>
  obtain ⟨v, σ', H', J, rv, q⟩ := hs
  exact fin J rv q
 | next =>
  obtain ⟨σ', H', J, q⟩ := hs
  exact fin (v := V.non) (u := Value.none) J rfl q
 | brk =>
  obtain ⟨_, _, _, q⟩ := hs
  exact False.elim q
 | cont =>
  obtain ⟨_, _, _, q⟩ := hs
  exact False.elim q
end L2
namespace L2
open PySem PySem.Spec PyProof.Rows
section
variable {X : Cx} {x : Str} {p pos : Pos} {e : Expr} {es : List Expr} {t : TA} {id T : String} {r : List V -> Hp -> VK -> Prop}
def tCB (r : List V -> Hp -> VK -> Prop) (t : TA) : TE := fun σ H Q => t σ H fun vs H1 => r vs H1 Q
theorem Ve (hc : Qw X (.builtin id) r) (hg : Gl X x) (hm : X.mg x = none) (hv : bootBuiltins x = some (.builtin id)) (ha : PA X (e :: es) t) (hn : x ≠ "__name__" := by decide) (hdb : (x == ("__debug__" : Str)) = false := by decide)
  (he : starEach (e :: es) X.env = (false, eval e X.env) :: starEach es X.env := by rfl) (hpl : (backTo pos (starEach es X.env)).any (·.1) = false := by rfl) : PE X (.Call (.Name x p) (e :: es) [] pos) (tCB r t) := by
 intro pins s σ H Q I h
 refine wpAny_Call_Name_kw (U0 I hg hm hv ?_ hn hdb)
 exact PyProof.Rows.callWith_builtin1 (thn (ha pos pins s σ H _ I h) fun us s1 ⟨vs, H1, I1, r1, q1⟩ => hc pins s1 σ H1 vs us Q I1 r1 q1) he hpl
theorem Wm (hc : Qw X (.type T) r) (hg : Gl X x) (hm : X.mg x = none) (hv : bootBuiltins x = some (.type T)) (ha : PA X (e :: es) t) (hn : x ≠ "__name__" := by decide) (hdb : (x == ("__debug__" : Str)) = false := by decide)
  (he : starEach (e :: es) X.env = (false, eval e X.env) :: starEach es X.env := by rfl) (hpl : (backTo pos (starEach es X.env)).any (·.1) = false := by rfl) : PE X (.Call (.Name x p) (e :: es) [] pos) (tCB r t) := by
 intro pins s σ H Q I h
 refine wpAny_Call_Name_kw (U0 I hg hm hv ?_ hn hdb)
 exact PyProof.Rows.callWith_type1 (thn (ha pos pins s σ H _ I h) fun us s1 ⟨vs, H1, I1, r1, q1⟩ => hc pins s1 σ H1 vs us Q I1 r1 q1) he hpl
end
end L2
namespace HT
open PySem PyProof.Rows
def zcA : List Int -> List Int -> Bool
 | [], [] => false
 | [], _ :: _ => true
 | _ :: _, [] => false
 | x :: xs, y :: ys => if x = y then zcA xs ys else decide (x < y)
theorem lexLt_cons (x y : Int) (xs ys : List Int) : zcA (x :: xs) (y :: ys) = if x = y then zcA xs ys else decide (x < y) := rfl
theorem lexLt_nil_nil : zcA [] [] = false := rfl
theorem lexLt_nil_cons (y : Int) (ys : List Int) : zcA [] (y :: ys) = true := rfl
theorem lexLt_cons_nil (x : Int) (xs : List Int) : zcA (x :: xs) [] = false := rfl
section
open PySem.SeqAt
open PySem.AutoSeq1 (wpAny_loadPart')
open PySem.MeetsSeq PySem.MeetsSeq2 PySem.MeetsSeq3
end
section
variable {prog : Program} {w : World} {A : Around} {E : Value -> Shared -> Prop} {s : Shared}
def sIx (n d : Nat) : Option Int -> Nat
 | none => d
 | some v => if v < 0 then (v + (n : Int)).toNat else min v.toNat n
theorem sIx_none (n d : Nat) : sIx n d none = d := rfl
end
end HT
namespace L2
open PySem PySem.Spec PyProof.Rows
abbrev TO := St -> Hp -> (Option Int -> Hp -> Prop) -> Prop
def PO (X : Cx) (e : Option Expr) (t : TO) : Prop :=
 ∀ (pins : List (Addr × Obj)) (s : Shared) (σ : St) (H : Hp) (Q : Option Int -> Hp -> Prop), Inv X pins σ H s -> t σ H Q ->
  wpAny (model X.prog X.w) X.A (evalPart e X.env) (fun u s' => ∃ o H', Inv X pins σ H' s' /\ IsPart u o /\ Q o H') X.xe s
def tNoPart : TO := fun _ H Q => Q none H
def tPart (t : TE) : TO := fun σ H Q => t σ H fun x H1 => ∃ i, x = .int i /\ Q (some i) H1
section
variable {X : Cx} {e : Expr} {te : TE} {lo hi : Option Expr} {tl th : TO} {pos p2 : Pos}
theorem po_none : PO X none tNoPart := by
 intro pins s σ H Q I h
 rw [evalPart_none]
 exact wpAny_pure ⟨none, H, I, .none, h⟩
theorem po_some (h : PE X e te) : PO X (some e) (tPart te) := by
 intro pins s σ H Q I hw
 rw [evalPart_some]
 refine thn (h pins s σ H _ I hw) fun u s1 ⟨x, H1, I1, r1, q1⟩ => ?_
 obtain ⟨i, rfl, q⟩ := q1
 obtain ⟨t, rfl⟩ := r1
 exact ⟨some i, H1, I1, .int i t, q⟩
def SlR (X : Cx) (r : V -> Option Int -> Option Int -> Hp -> VK -> Prop) : Prop :=
 ∀ (pins : List (Addr × Obj)) (s : Shared) (σ : St) (H : Hp) (x : V) (v vl vu : Value) (lo hi : Option Int) (sl : Addr) (Q : VK), Inv X pins σ H s -> RelV x v -> s.heap.IsSliceOf sl vl vu .none -> IsPart vl lo -> IsPart vu hi -> r x lo hi H Q ->
  ∃ T id, typeLookup (.type T) "__getitem__" = pure (some (.builtin id)) /\ s.TypeIs v T /\ wpAny (model X.prog X.w) X.A (getItem v (.ref sl)) (EP X pins σ Q) X.xe s
def tSl (r : V -> Option Int -> Option Int -> Hp -> VK -> Prop) (te : TE) (tl th : TO) : TE := fun σ H Q => te σ H fun x H1 => tl σ H1 fun l H2 => th σ H2 fun u H3 => r x l u H3 Q
theorem pe_slice {r : V -> Option Int -> Option Int -> Hp -> VK -> Prop} (hr : SlR X r) (he : PE X e te) (hl : PO X lo tl) (hu : PO X hi th) : PE X (.Subscript e (.Slice lo hi none p2) pos) (tSl r te tl th) := by
 intro pins s σ H Q I h
 refine Subscript_ (thn (he pins s σ H _ I h) fun v s1 ⟨x, H1, I1, r1, q1⟩ => ?_)
 refine wpAny_Slice (thn (hl pins s1 σ H1 _ I1 q1) fun vl s2 ⟨l, H2, I2, pl, q2⟩ => thn (hu pins s2 σ H2 _ I2 q2) fun vu s3 ⟨u, H3, I3, pu, q3⟩ => ?_)
 rw [evalPart_none]
 refine wpAny_pure ?_
 have I4 : Inv X pins σ H3 { s3 with heap := s3.heap.push { cls := .type "slice", data := .fields #[vl, vu, .none] } } := I3.kept (t' := s3.toks) fun b ob q => Heap.get?_push_of_some _ q
 obtain ⟨T, id, hT, ht, hg⟩ := hr pins { s3 with heap := s3.heap.push { cls := .type "slice", data := .fields #[vl, vu, .none] } } σ H3 x v vl vu l u s3.heap.objs.size Q I4 r1 (Heap.IsSliceOf.new ..) pl pu q3
 show wpAny (model X.prog X.w) X.A (subscriptTail e (.Slice lo hi none p2) v (.ref s3.heap.objs.size)) (EP X pins σ Q) X.xe { s3 with heap := s3.heap.push { cls := .type "slice", data := .fields #[vl, vu, .none] } }
 exact tail_any (ops := [.ref s3.heap.objs.size, v]) ht hT hg (by with_unfolding_all rfl)
def cutV (xs : List V) (lo hi : Option Int) : List V := (xs.drop (HT.sIx xs.length 0 lo)).take (HT.sIx xs.length xs.length hi - HT.sIx xs.length 0 lo)
theorem zbl (xs : List V) (lo hi : Option Int) : (cutV xs lo hi).length <= xs.length := by
 unfold cutV
 rw [List.length_take, List.length_drop]
 omega
end
end L2
namespace L2
open PySem PySem.Spec PyProof.Rows
def ixN (n : Nat) (i : Int) : Option Nat := if 0 <= i then (if i < n then some i.toNat else none) else if -(n : Int) <= i then some (i + n).toNat else none
def atI {α : Type} (xs : List α) (i : Int) : Option α := (ixN xs.length i).bind fun j => xs[j]?
theorem zdP {n : Nat} {i : Int} {j : Nat} (h : ixN n i = some j) : seqIndex? i n = some j /\ j < n /\ -(n : Int) <= i /\ i < n := by
 unfold ixN at h
 by_cases h0 : 0 <= i
 ·rw [if_pos h0] at h
  by_cases h1 : i < n
  ·rw [if_pos h1] at h
   have e : i.toNat = j := Option.some.inj h
   exact ⟨by rw [seqIndex_of h0 h1, e], by omega, by omega, h1⟩
  ·rw [if_neg h1] at h; cases h
 ·rw [if_neg h0] at h
  by_cases h1 : -(n : Int) <= i
  ·rw [if_pos h1] at h
   have e : (i + n).toNat = j := Option.some.inj h
   exact ⟨by rw [seqIndex_neg (by omega) h1, e], by omega, h1, by omega⟩
  ·rw [if_neg h1] at h; cases h
theorem zeA {α : Type} {xs : List α} {i : Int} {v : α} (h : atI xs i = some v) : ∃ j, seqIndex? i xs.length = some j /\ xs[j]? = some v /\ j < xs.length /\ -(xs.length : Int) <= i /\ i < xs.length := by
 unfold atI at h
 cases e : ixN xs.length i with
 | none => rw [e] at h; cases h
 | some j =>
  rw [e] at h
  obtain ⟨h1, h2, h3, h4⟩ := zdP e
  exact ⟨j, h1, h, h2, h3, h4⟩
def zbo (b : Expr) : Prop := ∀ o i, subscripted b false o i = operate [o, i] (getItem o i)
def IxR (X : Cx) (r : R2) : Prop :=
 ∀ (value slice : Expr) (pins : List (Addr × Obj)) (s : Shared) (σ : St) (H : Hp) (x y : V) (v u : Value) (Q : VK), Inv X pins σ H s -> RelV x v -> RelV y u -> r x y H Q ->
  subscripted slice false v u = operate [v, u] (getItem v u) -> wpAny (model X.prog X.w) X.A (subscriptTail value slice v u) (EP X pins σ Q) X.xe s
def MtR (X : Cx) (id : String) (r : V -> List V -> Hp -> VK -> Prop) : Prop :=
 ∀ (pins : List (Addr × Obj)) (s : Shared) (σ : St) (H : Hp) (x : V) (xs : List V) (v : Value) (us : List Value) (Q : VK), Inv X pins σ H s -> RelV x v -> Vals xs us -> r x xs H Q ->
  wpAny (model X.prog X.w) X.A (call (.builtin id) (v :: us)) (EP X pins σ Q) X.xe s
section
variable {X : Cx} {a b : Expr} {ta tb : TE} {pos : Pos}
theorem IxR.or {r r' : R2} (h : IxR X r) (h' : IxR X r') : IxR X (fun x y H Q => r x y H Q \/ r' x y H Q) := by
 intro value slice pins s σ H x y v u Q I rx ry q hs
 rcases q with q | q
 ·exact h value slice pins s σ H x y v u Q I rx ry q hs
 ·exact h' value slice pins s σ H x y v u Q I rx ry q hs
theorem pe_ix {r : R2} (hr : IxR X r) (ha : PE X a ta) (hb : PE X b tb) (hs : zbo b) : PE X (.Subscript a b pos) (tOp r ta tb) := by
 intro pins s σ H Q I h
 exact Subscript_ (binT ha hb I h fun v u s2 x y H2 I2 rx ry q => hr a b pins s2 σ H2 x y v u Q I2 rx ry q (hs _ _))
def rIxL (K : PySem.W.Frag) : R2 := fun x y H Q => ∃ p xs i v, x = .ref p /\ y = .int i /\ SqL K H p xs /\ atI xs i = some v /\ Q v H
def rIxT (K : PySem.W.Frag) : R2 := fun x y H Q => ∃ p xs i v, x = .ref p /\ y = .int i /\ SqT K H p xs /\ atI xs i = some v /\ Q v H
theorem zdM : IxR X (rIxL X.K) := by
 intro value slice pins s σ H x y v u Q I rx ry h hs
 obtain ⟨p, xs, i, z, rfl, rfl, hq, he, q⟩ := h
 cases rx
 obtain ⟨t, rfl⟩ := ry
 obtain ⟨its, r, pl, hz⟩ := I.list hq
 obtain ⟨j, h1, h2, h3, h4, h5⟩ := zeA he
 obtain ⟨w, ew, rw'⟩ := r.get h2
 have hl := r.length
 have hn := zag
 have fin : EP X pins σ Q w s := ⟨z, H, I, rw', q⟩
 by_cases h0 : 0 <= i
 ·have hj : i.toNat = j := by
   rw [seqIndex_of h0 h5] at h1
   exact Option.some.inj h1
  exact item_listR pl.isList h0 (by omega) (by rw [hj]; simpa using ew) fin hs
 ·have hj : (i + (its.toArray.size : Int)).toNat = j := by
   rw [seqIndex_neg (by omega) h4] at h1
   rw [List.size_toArray, <- hl]
   exact Option.some.inj h1
  exact subscriptTail_builtinR (x := w) pl.isList.typeIs slot_list_getitem.lookup
   (wpAny_getItem_list_neg (Q := fun r s' => r = w /\ EP X pins σ Q r s') pl.isList (by omega) (by rw [List.size_toArray] <;> omega) (by omega) (by rw [hj]; simpa using ew) ⟨rfl, fin⟩) hs
theorem ix_tup : IxR X (rIxT X.K) := by
 intro value slice pins s σ H x y v u Q I rx ry h hs
 obtain ⟨p, xs, i, z, rfl, rfl, hq, he, q⟩ := h
 cases rx
 obtain ⟨t, rfl⟩ := ry
 obtain ⟨its, r, pl, hz⟩ := I.tuple hq
 obtain ⟨j, h1, h2, h3, h4, h5⟩ := zeA he
 obtain ⟨w, ew, rw'⟩ := r.get h2
 have hl := r.length
 have hn := zag
 have fin : EP X pins σ Q w s := ⟨z, H, I, rw', q⟩
 exact subscriptTail_builtinR (x := w) pl.typeIs slot_tuple_getitem.lookup
  (getItem_tuple (j := j) (Q := fun r s' => r = w /\ EP X pins σ Q r s') pl (by omega) (by omega) (by rw [List.size_toArray, <- hl]; exact h1) (by simpa using ew) ⟨rfl, fin⟩) hs
theorem zcx (its : List Value) (n j : Nat) (u : Value) : Obj.mapSeq (·.setIfInBounds j u) { cls := .type "list", data := .seq its.toArray n } = { cls := .type "list", data := .seq (its.set j u).toArray n } := by
 simp [Obj.mapSeq]
theorem Inv.lst {pins : List (Addr × Obj)} {σ : St} {H : Hp} {s : Shared} {p : Addr} {xs : List V} (I : Inv X pins σ H s) (h : H p = some (.lst xs)) :
  ∃ (its : List Value) (n : Nat), Vals xs its /\ s.heap.get? p = some { cls := .type "list", data := .seq its.toArray n } /\ xs.length <= sizeLine := by
 obtain ⟨z, its, n, r, e⟩ := I.hok p _ h
 exact ⟨its, n, r, e, z⟩
theorem Inv.lstUpd {pins : List (Addr × Obj)} {σ : St} {H : Hp} {s : Shared} {p : Addr} {xs ys : List V} {its its' : List Value} {n n' : Nat} {f : Obj -> Obj} (I : Inv X pins σ H s) (h : H p = some (.lst xs))
  (ho : s.heap.get? p = some { cls := .type "list", data := .seq its.toArray n }) (hf : f { cls := .type "list", data := .seq its.toArray n } = { cls := .type "list", data := .seq its'.toArray n' }) (r : Vals ys its') (hz : ys.length <= sizeLine) (t : Nat) :
  Inv X pins σ (upd H p (.lst ys)) { s with heap := s.heap.update p f, toks := t } := by
 have e : (s.heap.update p f).get? p = some { cls := .type "list", data := .seq its'.toArray n' } := by
  rw [Heap.get?_update_self f ho (by rw [hf] <;> rfl), hf]
 refine I.write (x := p) (e := p) (by rw [h]; trivial) (.inl rfl) (fun b u hb q => (Heap.get?_update_other _ _ (Ne.symm hb)).trans q) ⟨_, e⟩ ?_
 exact ⟨hz, its', n', r, e⟩
def rSetL : V -> V -> V -> Hp -> (Hp -> Prop) -> Prop := fun o i v H Q => ∃ p xs k j, o = .ref p /\ i = .int k /\ H p = some (.lst xs) /\ ixN xs.length k = some j /\ Q (upd H p (.lst (xs.set j v)))
theorem set_list : PSet X rSetL := by
 intro pins s σ H o i v ov iv u Q I ro ri rv h
 obtain ⟨p, xs, k, j, rfl, rfl, hp, hj, q⟩ := h
 cases ro
 obtain ⟨t, rfl⟩ := ri
 obtain ⟨its, n, r, ho, hz⟩ := I.lst hp
 obtain ⟨h1, h2, h3, h4⟩ := zdP hj
 have hl := r.length
 have hn := zag
 have I' : Inv X pins σ (upd H p (.lst (xs.set j v))) { s with heap := s.heap.update p (Obj.mapSeq (·.setIfInBounds j u)) } :=
  I.lstUpd hp ho (zcx its n j u) (r.set rv j) (by rw [List.length_set]; exact hz) s.toks
 by_cases h0 : 0 <= k
 ·have hk : k.toNat = j := by
   rw [seqIndex_of h0 h4] at h1
   exact Option.some.inj h1
  exact PySem.W.ki_setAt ho h0 (by omega) (by rw [List.size_toArray, <- hl]; exact h4) (by rw [hk]; exact ⟨_, I', q⟩)
 ·have hk : (k + (its.toArray.size : Int)).toNat = j := by
   rw [seqIndex_neg (by omega) h3] at h1
   rw [List.size_toArray, <- hl]
   exact Option.some.inj h1
  exact PySem.W.ki_setBack ho (by omega) (by rw [List.size_toArray, <- hl]; exact h3) (by omega) (by rw [hk]; exact ⟨_, I', q⟩)
theorem JN (lo hi : Option Int) (n : Nat) : (sliceBounds lo hi none n).1 = ((HT.sIx n 0 lo : Nat) : Int) /\ (sliceBounds lo hi none n).2.1 = ((HT.sIx n n hi : Nat) : Int) /\ (sliceBounds lo hi none n).2.2 = 1 := by
 refine ⟨?_, ?_, rfl⟩
 ·cases lo with
  | none => simp [sliceBounds, HT.sIx]
  | some i =>
   simp only [sliceBounds, HT.sIx, Option.getD_none, show (1 : Int) > 0 by decide, if_true]
   by_cases h : i < 0
   ·simp only [h, if_true] <;> omega
   ·simp only [h, if_false] <;> omega
 ·cases hi with
  | none => simp [sliceBounds, HT.sIx]
  | some i =>
   simp only [sliceBounds, HT.sIx, Option.getD_none, show (1 : Int) > 0 by decide, if_true]
   by_cases h : i < 0
   ·simp only [h, if_true] <;> omega
   ·simp only [h, if_false] <;> omega
theorem Q7 (its : List Value) (lo hi : Option Int) : slicePick its.toArray lo hi none = ((its.drop (HT.sIx its.length 0 lo)).take (HT.sIx its.length its.length hi - HT.sIx its.length 0 lo)).toArray := by
 obtain ⟨h1, h2, h3⟩ := JN lo hi its.toArray.size
 unfold slicePick
 rw [h1, h2, h3]
 simp only [sliceRange_one, pick_run, List.size_toArray] <;> rfl
def rSlL (K : PySem.W.Frag) : V -> Option Int -> Option Int -> Hp -> VK -> Prop := fun x lo hi H Q => ∃ a xs, x = .ref a /\ SqL K H a xs /\ ∀ p, H p = none -> Q (.ref p) (upd H p (.lst (cutV xs lo hi)))
theorem sl_list : SlR X (rSlL X.K) := by
 intro pins s σ H x v vl vu lo hi sl Q I rx hs pl pu h
 obtain ⟨a, xs, rfl, hx, q⟩ := h
 cases rx
 obtain ⟨its, r, ht, hz⟩ := I.list hx
 have hlen := r.length
 refine ⟨"list", _, slot_list_getitem.lookup, ht.isList.typeIs, ?_⟩
 refine wpAny_getItem_list_slice ht.isList hs pl pu .none (by simp) ?_ (by rw [List.size_toArray] <;> omega)
 rw [Q7, <- hlen]
 refine ⟨.ref s.heap.objs.size, _, I.laid (t' := s.toks) (o := .lst (cutV xs lo hi)) (fun b ob q => Heap.get?_push_of_some _ q) (Nat.le_refl _) ?_, rfl, q _ (I.hok.fresh (Nat.le_refl _))⟩
 exact ⟨Nat.le_trans (zbl xs lo hi) hz, _, 0, (r.drop (HT.sIx xs.length 0 lo)).take (HT.sIx xs.length xs.length hi - HT.sIx xs.length 0 lo), Heap.get?_push_size _ rfl⟩
theorem UF : Qw X (.builtin "len") (fun xs H Q => ∃ p ys, xs = [.ref p] /\ (SqL X.K H p ys \/ SqT X.K H p ys) /\ Q (.int ys.length) H) := by
 intro pins s σ H xs us Q I r h
 obtain ⟨p, ys, rfl, hq, q⟩ := h
 obtain ⟨u, rfl, rx⟩ := Qx r
 cases rx
 have hn := zag
 rcases hq with hq | hq
 ·obtain ⟨its, r', pl, hz⟩ := I.list hq
  have hlen := r'.length
  exact Calls.call_len_list pl.isList (by simp only [List.size_toArray] <;> omega) ⟨.int ys.length, H, I.tok _, ⟨s.toks + 1, by rw [List.size_toArray, hlen]⟩, q⟩
 ·obtain ⟨its, r', pl, hz⟩ := I.tuple hq
  have hlen := r'.length
  exact len_tuple pl (by simp only [List.size_toArray] <;> omega) ⟨.int ys.length, H, I.tok _, ⟨s.toks + 1, by rw [List.size_toArray, hlen]⟩, q⟩
theorem zay : Qw X (.type "list") (fun xs H Q => ∃ p ys, xs = [.ref p] /\ (SqL X.K H p ys \/ SqT X.K H p ys) /\ ∀ l, H l = none -> Q (.ref l) (upd H l (.lst ys))) := by
 intro pins s σ H xs us Q I r h
 obtain ⟨p, ys, rfl, hq, q⟩ := h
 obtain ⟨u, rfl, rx⟩ := Qx r
 cases rx
 have fin : ∀ (its : List Value), Vals ys its -> ys.length <= sizeLine -> ∀ (h' : Heap) (c' : Nat), (∀ b o', s.heap.get? b = some o' -> h'.get? b = some o') ->
   h'.get? s.heap.objs.size = some { cls := .type "list", dict := none, data := .seq its.toArray c', slots := #[] } -> EP X pins σ Q (.ref s.heap.objs.size) { s with heap := h' } := fun its r' hz h' c' kp e =>
  ⟨.ref s.heap.objs.size, _, I.laid (t' := s.toks) kp (Nat.le_refl _) (show WM X.prog X.w _ h' _ (.lst ys) from ⟨hz, its, c', r', e⟩), rfl, q _ (I.hok.fresh (Nat.le_refl _))⟩
 rcases hq with hq | hq
 ·obtain ⟨its, r', pl, hz⟩ := I.list hq
  have hlen := r'.length
  obtain ⟨o, ho, hc, n, hd⟩ := pl.isList
  exact call_list_seq p (.inl rfl) ho hc hd (fun h' c' kp e => fin its r' hz h' c' kp e) (by simp only [List.size_toArray] <;> omega)
 ·obtain ⟨its, r', pl, hz⟩ := I.tuple hq
  have hlen := r'.length
  obtain ⟨o, ho, hc, n, hd⟩ := pl
  exact call_list_seq p (.inr rfl) ho hc hd (fun h' c' kp e => fin its r' hz h' c' kp e) (by simp only [List.size_toArray] <;> omega)
theorem JD : Qw X (.type "tuple") (fun xs H Q => ∃ p ys, xs = [.ref p] /\ ((SqL X.K H p ys /\ ∀ l, H l = none -> Q (.ref l) (upd H l (.tup ys))) \/ (SqT X.K H p ys /\ Q (.ref p) H))) := by
 intro pins s σ H xs us Q I r h
 obtain ⟨p, ys, rfl, h⟩ := h
 obtain ⟨u, rfl, rx⟩ := Qx r
 cases rx
 rcases h with ⟨hq, q⟩ | ⟨hq, q⟩
 ·obtain ⟨its, r', pl, hz⟩ := I.list hq
  have hlen := r'.length
  refine call_tuple_list pl.isList (fun h' kp => ?_) (by simp only [List.size_toArray] <;> omega)
  have I1 : Inv X pins σ H { s with heap := h' } := I.kept (t' := s.toks) kp
  have I2 : Inv X pins σ (upd H h'.objs.size (.tup ys)) { s with heap := h'.push { cls := .type "tuple", data := .seq its.toArray } } :=
   I1.laid (t' := s.toks) (fun b o e => Heap.get?_push_of_some _ e) (Nat.le_refl _) (show WM X.prog X.w _ _ _ (.tup ys) from ⟨hz, its, r', IsTup.new _ _⟩)
  exact ⟨.ref h'.objs.size, _, I2, rfl, q _ (I1.hok.fresh (Nat.le_refl _))⟩
 ·obtain ⟨its, r', pl, hz⟩ := I.tuple hq
  exact call_tuple_same pl ⟨.ref p, H, I, rfl, q⟩
def tyV (K : PySem.W.Frag) (T : String) (x : V) (H : Hp) : Prop := match x with
 | .str _ => T = "str"
 | .int _ => T = "int"
 | .ref p => (T = "list" /\ ∃ xs, SqL K H p xs) \/ (T = "tuple" /\ ∃ o, K.lookup p = some o /\ o.cls = .type "tuple" /\ o.dict = none) \/
   (T = "dict" /\ ((∃ kvs, H p = some (.dK kvs)) \/ ∃ kvs, H p = some (.dT kvs))) \/ (T = "set" /\ ∃ S n, H p = some (.set S n))
 | _ => False
theorem tyV_is {pins : List (Addr × Obj)} {σ : St} {H : Hp} {s : Shared} {T : String} {x : V} {v : Value} (I : Inv X pins σ H s) (r : RelV x v) (ty : tyV X.K T x H) :
  s.TypeIs v T /\ ∀ a, v = .ref a -> ∃ ob, s.heap.get? a = some ob /\ ob.dict = none := by
 cases x with
 | str z =>
  obtain ⟨t, rfl⟩ := r
  cases (show T = "str" from ty)
  exact ⟨typeIs_str s z t, fun _ e => nomatch e⟩
 | int i =>
  obtain ⟨t, rfl⟩ := r
  cases (show T = "int" from ty)
  exact ⟨typeIs_int s i t, fun _ e => nomatch e⟩
 | ref p =>
  cases r
  rcases ty with ⟨rfl, xs, hq⟩ | ⟨rfl, o, hk, hc, hd⟩ | ⟨rfl, hk⟩ | ⟨rfl, S, n, hk⟩
  ·obtain ⟨its, _, pl, _⟩ := I.list hq
   refine ⟨pl.isList.typeIs, fun a e => ?_⟩
   cases e
   obtain ⟨o, n, e, c, hd, _⟩ := pl
   exact ⟨o, e, hd⟩
  ·refine ⟨⟨o, I.kIn p o hk, hc⟩, fun a e => ?_⟩
   cases e
   exact ⟨o, I.kIn _ o hk, hd⟩
  ·have z : ∃ o, s.heap.get? p = some o /\ o.ExactDict := by
    rcases hk with ⟨kvs, hk⟩ | ⟨kvs, hk⟩
    ·obtain ⟨_, _, _, _, o, _, _, e, ex, _⟩ := I.hok p _ hk
     exact ⟨o, e, ex⟩
    ·obtain ⟨_, _, _, _, o, _, _, e, ex, _⟩ := I.hok p _ hk
     exact ⟨o, e, ex⟩
   obtain ⟨o, e, ex⟩ := z
   refine ⟨⟨o, e, ex.1⟩, fun a e2 => ?_⟩
   cases e2
   exact ⟨o, e, ex.2.1⟩
  ·obtain ⟨o, _, _, _, e, ex, _⟩ := I.hok p _ hk
   refine ⟨⟨o, e, ex.1⟩, fun a e2 => ?_⟩
   cases e2
   exact ⟨o, e, ex.2.1⟩
 | _ => exact False.elim ty
def tBM (K : PySem.W.Frag) (T : String) (r : V -> List V -> Hp -> VK -> Prop) (to : TE) (t : TA) : TE := fun σ H Q => to σ H fun x H1 => tyV K T x H1 /\ t σ H1 fun xs H2 => r x xs H2 Q
variable {o e : Expr} {es : List Expr} {to : TE} {t : TA} {name : Str} {apos cpos : Pos} {T id : String} {r : V -> List V -> Hp -> VK -> Prop}
theorem pe_bm (pa : PlainAttrs T) (slot : Slot T name id) (hty : typeOf (.builtin id) = pure (.type "method_descriptor")) (hm : MtR X id r) (ho : PE X o to) (ha : PA X (e :: es) t)
  (hbase : attributeBase o name X.env (eval o X.env) = eval o X.env := by rfl)
  (hfew : ((backTo cpos (starEach (e :: es) X.env)).all (fun x => !x.1) && (backToKw cpos (keywordEach [] X.env)).all (fun x => x.1.isSome)
   && decide ((e :: es).length + ([] : List Keyword).length + (if ([] : List Keyword).isEmpty then 0 else 1) < 30)) = true := by rfl)
  (hline : (apos.endLine == cpos.line) = true := by rfl) (hs : starEach (e :: es) X.env = (false, eval e X.env) :: starEach es X.env := by rfl) (hplain : (backTo cpos (starEach es X.env)).any (·.1) = false := by rfl) :
  PE X (.Call (.Attribute o name apos) (e :: es) [] cpos) (tBM X.K T r to t) := by
 intro pins s σ H Q I h
 refine wpAny_Call_method_late hbase hfew hline rfl (thn (ho pins s σ H _ I h) fun v s1 ⟨x, H1, I1, r1, ty, q1⟩ => ?_)
 obtain ⟨h1, h2⟩ := tyV_is I1 r1 ty
 refine ⟨T, id, pa, slot, hty, h1, h2, ?_⟩
 have hA := ha cpos pins s1 σ H1 _ I1 q1
 rw [hs] at hA ⊢
 refine Calls.callWith_builtin (by show (false || (backTo cpos (starEach es X.env)).any (·.1)) = false; rw [hplain] <;> rfl) (Calls.evalArgs_plain ?_)
 exact thn hA fun us s2 ⟨vs, H2, I2, r2, q2⟩ => hm pins s2 σ H2 x vs v us Q I2 r1 r2 q2
end
end L2
namespace L2
open PySem PySem.Spec PyProof.Rows
def MtM (X : Cx) (id : String) (r : V -> List V -> Hp -> VK -> Prop) : Prop :=
 ∀ (pins : List (Addr × Obj)) (s : Shared) (σ : St) (H : Hp) (x : V) (xs : List V) (v : Value) (us : List Value) (Q : VK), Inv X pins σ H s -> RelV x v -> Vals xs us -> r x xs H Q ->
  wpAny (model X.prog X.w) X.A (call (.builtin id) (v :: us)) (EP X pins σ Q) X.xe s
theorem Vals.one : ∀ {x : V} {us : List Value}, Vals [x] us -> ∃ u, us = [u] /\ RelV x u
 | _, _, .cons r .nil => ⟨_, rfl, r⟩
theorem Vals.rep {xs : List V} {us : List Value} (h : Vals xs us) : ∀ k : Nat, Vals (List.replicate k xs).flatten (List.replicate k us).flatten
 | 0 => .nil
 | k + 1 => by
  rw [List.replicate_succ, List.replicate_succ, List.flatten_cons, List.flatten_cons]
  exact Vals.append h (Vals.rep h k)
theorem zal (its : List Value) : ∀ (k : Nat) (acc : List Value),
  List.foldl (fun x1 x2 => x1 ++ x2) acc.toArray (List.replicate k its.toArray) = (acc ++ (List.replicate k its).flatten).toArray
 | 0, acc => by simp
 | k + 1, acc => by
  have e : acc.toArray ++ its.toArray = (acc ++ its).toArray := by simp
  have e2 : (acc ++ its) ++ (List.replicate k its).flatten = acc ++ (List.replicate (k + 1) its).flatten := by
   rw [List.replicate_succ, List.flatten_cons, List.append_assoc]
  rw [<- e2, <- zal its k (acc ++ its), <- e, List.replicate_succ, List.foldl_cons]
section
variable {X : Cx} {pins : List (Addr × Obj)} {σ : St} {H : Hp} {s : Shared} {l b : Addr} {xs ys zs : List V}
theorem Inv.lset {its its' : List Value} {n : Nat} {f : Array Value -> Array Value} {t' : Nat} (I : Inv X pins σ H s) (hH : H l = some (.lst xs))
  (e : s.heap.get? l = some { cls := .type "list", data := .seq its.toArray n }) (hf : f its.toArray = its'.toArray) (hv : Vals ys its') (hz : ys.length <= sizeLine) :
  Inv X pins σ (upd H l (.lst ys)) { s with heap := s.heap.update l (Obj.mapSeq f), toks := t' } := by
 have q := PySem.IsL.update e f
 rw [hf] at q
 refine I.write (x := l) (e := l) (by rw [hH]; exact trivial) (.inl rfl) (fun b' u hb hu => (Heap.get?_update_other s.heap (Obj.mapSeq f) (Ne.symm hb)).trans hu) ⟨_, q⟩ ?_
 exact ⟨hz, its', _, hv, q⟩
theorem Inv.lnew {its : List Value} {t' : Nat} (I : Inv X pins σ H s) (hv : Vals ys its) (hz : ys.length <= sizeLine) :
  Inv X pins σ (upd H s.heap.objs.size (.lst ys)) { s with heap := s.heap.push { cls := .type "list", data := .seq its.toArray }, toks := t' } :=
 I.laid (fun _ _ q => Heap.get?_push_of_some _ q) (Nat.le_refl _) ⟨hz, its, 0, hv, Heap.get?_push_size _ rfl⟩
theorem Inv.fresh (I : Inv X pins σ H s) : H s.heap.objs.size = none := I.hok.fresh (Nat.le_refl _)
theorem Inv.lstM (I : Inv X pins σ H s) (hH : H l = some (.lst xs)) : xs.length <= sizeLine /\ ∃ (its : List Value) (n : Nat), Vals xs its /\ xs.length = its.length /\ s.heap.get? l = some { cls := .type "list", data := .seq its.toArray n } := by
 obtain ⟨z, its, n, r, e⟩ := I.hok l _ hH
 exact ⟨z, its, n, r, r.length, e⟩
theorem zbK {n : Nat} (h : n <= sizeLine) : Builtin.List.listTooLong n = false := by
 unfold Builtin.List.listTooLong
 exact decide_eq_false (by omega)
end
section
variable {X : Cx}
def rAppend : V -> List V -> Hp -> VK -> Prop := fun x vs H Q => ∃ l xs y, x = .ref l /\ vs = [y] /\ H l = some (.lst xs) /\ xs.length < sizeLine /\ Q .non (upd H l (.lst (xs ++ [y])))
theorem zae : MtM X "list.append" rAppend := by
 intro pins s σ H x vs v us Q I rx rv h
 obtain ⟨l, xs, y, rfl, rfl, hH, hz, q⟩ := h
 cases rx
 obtain ⟨u, rfl, ru⟩ := rv.one
 obtain ⟨z, its, n, r, hl, e⟩ := I.lstM hH
 refine call_meets F.slot_list_append ⟨_, e, rfl⟩ F.entry_list_append (F.args_list_append_2 _ _) (PySem.list_append l its.toArray n u (by rw [List.size_toArray]; omega)) ⟨e, ?_⟩
 refine ⟨.non, _, I.lset (its' := its ++ [u]) hH e (by simp) (r.append (.cons ru .nil)) ?_, rfl, q⟩
 rw [List.length_append, List.length_singleton]
 omega
def rExtend : V -> List V -> Hp -> VK -> Prop := fun x vs H Q => ∃ l b xs zs, x = .ref l /\ vs = [.ref b] /\ H l = some (.lst xs) /\ H b = some (.lst zs) /\ xs.length + zs.length <= sizeLine /\ Q .non (upd H l (.lst (xs ++ zs)))
theorem zdy : MtM X "list.extend" rExtend := by
 intro pins s σ H x vs v us Q I rx rv h
 obtain ⟨l, b, xs, zs, rfl, rfl, hH, hB, hz, q⟩ := h
 cases rx
 obtain ⟨u, rfl, ru⟩ := rv.one
 cases ru
 obtain ⟨z, its, n, r, hl, e⟩ := I.lstM hH
 obtain ⟨z2, its2, n2, r2, hl2, e2⟩ := I.lstM hB
 have hsz : its.toArray.size + its2.toArray.size <= sizeLine := by rw [List.size_toArray, List.size_toArray]; omega
 have hlong : ¬ (!its.toArray.isEmpty && Builtin.List.listTooLong (its.toArray.size + its2.toArray.size)) = true := by
  rw [zbK hsz, Bool.and_false]
  exact Bool.false_ne_true
 refine call_meets F.slot_list_extend ⟨_, e, rfl⟩ F.entry_list_extend (F.args_list_extend_2 _ _)
  (AutoSeq1.list_extend_list_list_0 l its.toArray n b its2.toArray n2 hlong (by rw [List.size_toArray]; omega) (by omega)) ⟨e, e2, ?_⟩
 refine ⟨.non, _, I.lset (its' := its ++ its2) hH e (by simp) (r.append r2) ?_, rfl, q⟩
 rw [List.length_append]
 omega
def rRep : R2 := fun x y H Q => ∃ l k xs, x = .ref l /\ y = .int k /\ H l = some (.lst xs) /\ -(2 ^ 63) <= k /\ k < 2 ^ 63 /\ xs.length * k.toNat <= sizeLine /\
 ∀ p, H p = none -> Q (.ref p) (upd H p (.lst (List.replicate k.toNat xs).flatten))
theorem len_rep {α : Type} (xs : List α) (k : Nat) : (List.replicate k xs).flatten.length = k * xs.length := by
 induction k with
 | zero => simp
 | succ k ih => rw [List.replicate_succ, List.flatten_cons, List.length_append, ih, Nat.succ_mul, Nat.add_comm]
theorem op_rep : OpR X (binaryOp .Mult) rRep := by
 intro pins s σ H x y v u Q I rx ry h
 obtain ⟨l, k, xs, rfl, rfl, hH, h1, h2, hz, q⟩ := h
 cases rx
 obtain ⟨t, rfl⟩ := ry
 obtain ⟨z, its, n, r, hl, e⟩ := I.lstM hH
 have hlen : its.toArray.size * k.toNat <= sizeLine := by rw [List.size_toArray, <- hl]; exact hz
 have hcap : ¬ its.toArray.size * k.toNat > (2 ^ 63 - 1) / 8 := by
  have : (sizeLine : Nat) <= (2 ^ 63 - 1) / 8 := by decide
  omega
 have hfit : ¬ (!Builtin.List.listFitsIndex k) = true := by
  rw [fitsIndex_both h1 h2]
  exact Bool.false_ne_true
 have hlong : ¬ Builtin.List.listTooLong (its.toArray.size * k.toNat) = true := by
  rw [zbK hlen]
  exact Bool.false_ne_true
 have hnew : List.foldl (fun x1 x2 => x1 ++ x2) #[] (List.replicate (if its.toArray.isEmpty = true then 0 else k.toNat) its.toArray) = (List.replicate k.toNat its).flatten.toArray := by
  have f0 : ∀ m : Nat, List.foldl (fun x1 x2 => x1 ++ x2) #[] (List.replicate m its.toArray) = (List.replicate m its).flatten.toArray := fun m => by
   have := zal its m []
   rw [List.nil_append] at this
   exact this
  rw [f0]
  cases its with
  | nil => simp
  | cons a r' => rw [if_neg (by simp)]
 refine wpAny_binaryOp_repeat_ref (T := "list") (U := "int") (by decide) ⟨_, e, rfl⟩ (fun s' => typeIs_int s' k t) noFill_list_mul F.fills_int_mul F.slot_int_rmul repeat_list F.slot_int_index.lookup
  (call_meets F.slot_int_rmul (typeIs_int s k t) F.entry_int_rmul (F.args_int_rmul_2 _ _) (int___rmul___int_list k t l its.toArray n)
   ⟨e, rfl, ⟨_, e, rfl⟩, call_meets F.slot_list_mul ⟨_, e, rfl⟩ F.entry_list_mul (F.args_list_mul_2 _ _) (AutoListH.list___mul___list_int_3 l its.toArray n k t hfit hcap hlong) ⟨e, ?_⟩⟩)
 rw [hnew]
 exact ⟨.ref _, _, I.lnew (t' := s.toks) (r.rep k.toNat) (by rw [len_rep, Nat.mul_comm]; exact hz), rfl, q _ I.fresh⟩
end
end L2
namespace Att
open PySem PySem.W PySem.Calls PyProof.Rows
theorem U2 {P : Params} {h : Heap} : ∀ (ns : List Int) (vs : List Value), WellAll P h vs (ns.map WData.int) -> IntsAre vs ns := by
 intro ns
 induction ns with
 | nil =>
  intro vs w
  rw [List.map_nil] at w
  cases w
  exact .nil
 | cons n ns ih =>
  intro vs w
  rw [List.map_cons] at w
  cases w with
  | cons a b =>
   cases a
   exact .cons _ _ (ih _ b)
theorem zc3 {l : OpenLaw} {n : Nat} (hn : l.most = some n) {P : Params} {h : Heap} {args : List WData} {vals : List Value}
  (hpre : l.row.toRowW.claim.pre args = true) (hwl : WellAll P h vals args) :
  ∃ a vs ns, vals = [Value.ref a] /\ args = [WData.list (ns.map WData.int)] /\ h.get? a = some { cls := .type "list", data := .seq vs.toArray } /\ IntsAre vs ns /\ ns.length <= n := by
 have hsh : WShape.hasAll [] args [.list .int] = true := (pre_splitW hpre).1
 have hc : l.pre.holds [] { args := args } = true := (pre_splitW hpre).2
 obtain ⟨d, r, rfl, h1, h2⟩ := hasAllW_cons hsh
 obtain rfl := hasAllW_nil h2
 obtain ⟨xs, rfl, h3⟩ := hasW_list h1
 obtain ⟨ns, rfl⟩ := items_int h3
 have hlen : ns.length <= n := by
  unfold OpenLaw.pre at hc
  have h4 : (WTm.not (.lt (.lit (.int (n : Int))) (.len (.arg 0)))).holds [] { args := [.list (ns.map .int)] } = true := by
   have h4 := (holds_andW hc).1
   rw [hn] at h4
   exact h4
  have h5 := condW_of h4 (w_not (w_lt w_lit (w_len_list (w_arg rfl))))
  rw [List.length_map] at h5
  refine Nat.le_of_not_lt fun q => ?_
  have q' : (n : Int) < ((ns.length : Nat) : Int) := by omega
  first
   | (rw [decide_eq_true q'] at h5; exact absurd h5 (by decide))
   | (simp at h5; omega)
 cases hwl with
 | cons w1 w2 =>
  cases w2
  cases w1 with
  | list ho hall => exact ⟨_, _, ns, rfl, rfl, ho, U2 ns _ hall, hlen⟩
theorem zdj (l : OpenLaw) (args : List WData) : l.row.toRowW.claim.post args (.bool true) args = true :=
 postW_of (r := l.row.toRowW) (X := (true == true))
  (show WShape.has [] (.bool true) .bool = true by first | rfl | decide | simp [WShape.has, WShape.arms, WShape.armsAll])
  (show (WTm.eq .res (.lit (.bool true))).value [] { args := args, res := some (.bool true), after := args } = some (.bool (true == true)) from w_eq_bool (w_res rfl) w_lit) rfl
theorem attach_call {l : OpenLaw} {n : Nat} {q : Program} {loose : List Str} {XP : (Str -> Option Value) -> Heap -> Prop} {YP : World -> Heap -> Prop} {d : DefRec}
  (hn : l.most = some n) (hdf : d.params.defaults = [])
  (call : ∀ (w : World) (s₀ s₁ : Shared) (mg mb : Str -> Option Value) (fa : Addr) (o : Obj) (pm cd doc : Value) (a : Addr) (vs : List Value) (ns : List Int),
   Ground q loose [] XP w s₀ mg mb s₁.heap -> YP w s₁.heap ->
   s₁.heap.get? fa = some o -> o.data = .func (docDef d.name d.params d.body d.scope pm cd doc) -> s₁.heap.CodeRec cd d.name -> mg d.name = some (.ref fa) ->
   s₁.heap.get? a = some { cls := .type "list", data := .seq vs.toArray } -> IntsAre vs ns -> ns.length <= n -> s₁.gens = #[] ->
   codeAny (model l.prog w) callerA (.call (.ref fa) ⟨[.ref a], []⟩) (fun r s' => r = .ok (.ret (.bool true)) /\ OldK s₁.heap s'.heap /\ s'.os = s₁.os /\ AllBare s'.gens) s₁) :
  WalkO q loose XP YP l.row.toRowW d [] (fun f vs => PySem.call f vs) := by
 intro w s₀ s₁ mg mb G Y fa o pm cd doc dV kV ho hd hcd hD hmg hg args vals as hpre hlay hrd hwl hlo
 obtain rfl : dV = .none := Dflts.none hD hdf
 obtain rfl : kV = .none := Dflts.noKw hD
 obtain ⟨a, vs, ns, rfl, rfl, hobj, hints, hlen⟩ := zc3 hn hpre hwl
 refine enter_call (codeAny_mono (call w s₀ s₁ mg mb fa o pm cd doc a vs ns G Y ho (fd_plain hd) hcd hmg hobj hints hlen hg) fun r s' hq => ?_)
 obtain ⟨rfl, h2, h3, h4⟩ := hq
 exact ⟨.inl ⟨.bool true, .bool true, [], rfl, fun _ => rfl, .bool true, zdj l _, fun _ => ⟨List.Pairwise.nil, fun _ hm => (nomatch hm)⟩⟩, h2, h3, h4⟩
end Att
namespace L2
open PySem PySem.Spec PyProof.Rows
theorem JI : ∀ {vs : List Value} {ns : List Int}, IntsAre vs ns -> Vals (ns.map V.int) vs
 | _, _, .nil => .nil
 | _, _, .cons n t h => .cons ⟨t, rfl⟩ (JI h)
def Only (H : Hp) : Prop := ∀ b, H b = none \/ ∃ o xs, H b = some (.frz o (.lst xs))
theorem law_call {P : Program} {w : World} {K : PySem.W.Frag} {mg mb : Str -> Option Value} {CX : CXT} {k : Nat} {fa a : Addr} {fd : FuncData} {x : Str} {sp : Sp} {s₁ : Shared} {vs : List Value} {ns : List Int}
  (KX : K.In s₁.heap) (hns : s₁.heap.Ns mainGlobals mg) (hb : s₁.heap.Ns builtinsNs mb) (hbb : ∀ x : Str, x ≠ "__name__" -> mb x = bootBuiltins x) (hlim : s₁.heap.NoLimit) (hg : s₁.gens = #[])
  (ha : s₁.heap.get? a = some { cls := .type "list", data := .seq vs.toArray }) (hi : IntsAre vs ns) (hl : ns.length <= sizeLine) (hr : Room k callerA)
  (F : ∀ base : Heap, K.In base -> base.Ns mainGlobals mg -> FnOk P w K mg base CX k fa fd [x] sp) (hbind : ∀ (s : Shared) (u : Value), BindsTo s fd ⟨[u], []⟩ [(x, u)])
  (hsp : ∀ H : Hp, Only H -> SqL K H a (ns.map V.int) -> sp [.ref a] H (fun v _ => v = .bl true) fun _ _ _ => False)
  (hCX : ∀ H e s', CX [] H s₁ (fun _ _ _ => False) e s' -> False) :
  codeAny (model P w) callerA (.call (.ref fa) ⟨[.ref a], []⟩) (fun r s' => r = .ok (.ret (.bool true)) /\ OldK s₁.heap s'.heap /\ s'.os = s₁.os /\ AllBare s'.gens) s₁ := by
 have rv := JI hi
 have lenV := hi.length
 -- from an abstract heap in which nothing but the script may be tracked
 have core : ∀ H : Hp, Only H -> SqL K H a (ns.map V.int) -> HOk P w H s₁.heap -> (∀ b, H b ≠ none -> b = a) -> (H a ≠ none -> K.lookup a = none) ->
   codeAny (model P w) callerA (.call (.ref fa) ⟨[.ref a], []⟩) (fun r s' => r = .ok (.ret (.bool true)) /\ OldK s₁.heap s'.heap /\ s'.os = s₁.os /\ AllBare s'.gens) s₁ := by
  intro H hO hS hok hA hK
  have base_of : ∀ {b : Addr} {o : Obj}, s₁.heap.get? b = some o -> H b = none -> (hidT s₁.heap H).get? b = some o := fun e n => hidT_get e n
  have noA : ∀ {b : Addr} {o : Obj} {es : Array DictEntry} {ep : Nat}, s₁.heap.get? b = some o -> o.data = .dict es ep -> H b = none := fun {b o es ep} e d => by
   cases q : H b with
   | none => rfl
   | some u =>
    have e' : b = a := hA b (by rw [q]; simp)
    subst e'
    rw [ha] at e; cases e
    have d' : Data.seq vs.toArray _ = Data.dict es ep := d
    cases d'
  have nsK : ∀ {b : Addr} {m : Str -> Option Value}, s₁.heap.Ns b m -> (hidT s₁.heap H).Ns b m := fun {b m} ⟨o, es, ep, e, d, r⟩ => ⟨o, es, ep, base_of e (noA e d), d, r⟩
  have hKb : K.In (hidT s₁.heap H) := fun b o e => base_of (KX b o e) (by
   cases q : H b with
   | none => rfl
   | some u =>
    have e' : b = a := hA b (by rw [q]; simp)
    subst e'
    rw [hK (by rw [q]; simp)] at e; cases e)
  have hM : Mod K mg (hidT s₁.heap H) := ⟨hKb, nsK hns, ⟨mb, nsK hb, hbb⟩, let ⟨mc, h1, h2⟩ := hlim; ⟨mc, nsK h1, h2⟩⟩
  have e0 : Env0 P w K mg (hidT s₁.heap H) callerA [] s₁ H := ⟨rfl, hM, fun b o e => of_hidT e, Nat.le_of_eq (zdV _ _), trivial, fun b hb => absurd (show b ∈ ([] : List Addr) from hb) (by simp), hok, .of_eq hg⟩
  refine codeAny_mono ((F _ hKb (nsK hns)).run callerA [] s₁ H ⟨[.ref a], []⟩ [.ref a] [.ref a] _ _ hr e0 (hbind s₁ (.ref a)) (.cons rfl .nil) (hsp H hO hS)) fun r s' h => ?_
  cases r with
  | error e => exact (hCX H e s' h).elim
  | ok fl =>
   cases fl with
   | next => exact False.elim h
   | brk => exact False.elim h
   | cont => exact False.elim h
   | ret u =>
    obtain ⟨v, H', os, bare, un, hok', r', q⟩ := h
    have q' : v = .bl true := q
    subst q'
    obtain rfl : u = Value.bool true := r'
    refine ⟨rfl, OldK.of_keep fun b o e => ?_, os, bare⟩
    cases q : H b with
    | none => exact un.keep b o e q (by intro z; exact absurd (show b ∈ ([] : List Addr) from z) (by simp)) (by simp)
    | some u =>
     rcases hO b with z | ⟨ob, xs, z⟩
     ·rw [q] at z; cases z
     ·have z2 := un.frzs b ob _ z
      obtain ⟨e1, _⟩ := hok b _ z
      obtain ⟨e2, _⟩ := hok' b _ z2
      rw [e] at e1; cases e1
      exact e2
 cases hk : K.lookup a with
 | some o =>
  -- the script is one of the module's own objects
  have e := KX a o hk
  rw [ha] at e
  cases e
  refine core (fun _ => none) (fun _ => .inl rfl) (.inr ⟨_, vs.toArray, _, hk, rfl, rfl, rfl, by rw [List.size_toArray, lenV]; exact hl, by simpa using rv⟩) (fun b u z => by have z' : (none : Option HO) = some u := z; cases z') (fun b z => absurd rfl z) fun z => absurd rfl z
 | none =>
  refine core (fun b => if b = a then some (.frz { cls := .type "list", data := .seq vs.toArray } (.lst (ns.map V.int))) else none) (fun b => ?_) (.inl (.inr ⟨{ cls := .type "list", data := .seq vs.toArray }, if_pos rfl⟩)) (fun b u z => ?_) (fun b z => ?_) fun _ => hk
  ·by_cases hb : b = a
   ·exact .inr ⟨_, _, if_pos hb⟩
   ·exact .inl (if_neg hb)
  ·by_cases hb : b = a
   ·have z' := (if_pos hb).symm.trans z
    cases z'
    subst hb
    exact ⟨ha, by rw [List.length_map]; exact hl, vs, _, rv, ha⟩
   ·have z' := (if_neg hb).symm.trans z
    cases z'
  ·by_cases hb : b = a
   ·exact hb
   ·exact absurd (if_neg hb) z
end L2
namespace L2
open PySem PySem.Spec PyProof.Rows
theorem walk_of {l : PySem.W.OpenLaw} {n k : Nat} {q : Program} {loose : List Str} {XP : (Str -> Option Value) -> Heap -> Prop} {YP : World -> Heap -> Prop} {d : DefRec} {K : Params -> PySem.W.Frag} {CX : World -> CXT} {sp : World -> Sp} {x : Str}
  (hn : l.most = some n) (hn2 : n <= sizeLine) (hdf : d.params.defaults = []) (hr : Room k callerA)
  (hY : ∀ (w : World) (h : Heap), YP w h -> (K w.params).In h)
  (F : ∀ (w : World) (mg : Str -> Option Value) (fa : Addr) (h : Heap), (K w.params).In h -> h.Ns mainGlobals mg -> mg d.name = some (.ref fa) ->
   ∃ fd : FuncData, (∀ (s : Shared) (u : Value), BindsTo s fd ⟨[u], []⟩ [(x, u)]) /\
    ∀ base : Heap, (K w.params).In base -> base.Ns mainGlobals mg -> FnOk l.prog w (K w.params) mg base (CX w) k fa fd [x] (sp w))
  (hsp : ∀ (w : World) (H : Hp) (a : Addr) (ns : List Int), ns.length <= n -> Only H -> SqL (K w.params) H a (ns.map V.int) -> sp w [.ref a] H (fun v _ => v = .bl true) fun _ _ _ => False)
  (hCX : ∀ (w : World) (H : Hp) (s : Shared) (e : Value) (s' : Shared), CX w [] H s (fun _ _ _ => False) e s' -> False) :
  PySem.W.WalkO q loose XP YP l.row.toRowW d [] (fun f vs => PySem.call f vs) := by
 refine Att.attach_call hn hdf fun w s₀ s₁ mg mb fa o pm cd doc a vs ns G Y ho hd hcd hmg hobj hints hlen hg => ?_
 have KX := hY w _ Y
 obtain ⟨fd, hb, hF⟩ := F w mg fa _ KX G.T.g hmg
 exact law_call KX G.T.g G.T.b G.T.builtins G.T.nolimit hg hobj hints (Nat.le_trans hlen hn2) hr hF hb (fun H hO hS => hsp w H a ns hlen hO hS) fun H e s' => hCX w H s₁ e s'
end L2
namespace L2
open PySem PySem.Spec PyProof.Rows
def Zm (s : Stmt) : Arguments := match s with
 | .FunctionDef _ a _ _ _ _ _ _ _ _ => a
 | _ => { posonlyargs := [], args := [], vararg := none, kwonlyargs := [], kw_defaults := [], kwarg := none, defaults := [] }
def Zl (s : Stmt) : List Stmt := match s with
 | .FunctionDef _ _ b _ _ _ _ _ _ _ => b
 | _ => []
def Zc (s : Stmt) : Scope := match s with
 | .FunctionDef _ _ _ _ _ _ sc _ _ _ => sc
 | _ => { kind := .function, names := [], isGenerator := false, isCoroutine := false }
abbrev CX0 : CXT := fun _ _ _ _ _ _ => False
abbrev E0 : XK := fun _ _ _ => False
theorem pass0 {X : Cx} : Qv CX0 X E0 := fun _ _ _ _ _ _ _ h => h.elim
structure Fun (K : PySem.W.Frag) (x qual : Str) (st : Stmt) (f : Addr) (fd : FuncData) : Prop where
 ex : ∃ (oc : Value) (od : Option Addr) (kV doc pm : Value) (an : Option Addr) (cdv ct : Value) (osl : Array (Option Value)),
  fd = PySem.W.fnOf x qual (Zm st) (Zl st) (Zc st) .none kV doc pm an cdv ct /\ K.lookup f = some ⟨oc, od, .func fd, osl⟩ /\ PySem.W.codeIn K cdv qual = true
 kp : PySem.W.keepIn K (.ref f) = true
section
variable {P : Program} {w : World} {K : PySem.W.Frag} {mg : Str -> Option Value} {base : Heap}
theorem Fun.ok {x qual : Str} {st : Stmt} {f : Addr} {fd : FuncData} {N ps : List Str} {k : Nat} {sp : Sp} (F : Fun K x qual st f fd) (S : FnScope N ps (Zc st)) (len : ∀ vs H Q E, sp vs H Q E -> vs.length = ps.length)
  (hbody : ∀ (cdv : Value) (A : Around) (outer : List Env) (s : Shared) (H : Hp) (vs : List V) (Q : VK) (E : XK), Room k (A.deeper (envOfC qual (Zc st) s.heap.objs.size f cdv)) -> sp vs H Q E ->
   ∃ t, PSs (cxOf CX0 P w K mg base N qual (Zc st) f cdv A outer s H E).nox (Zl st) t /\ t { nx := fun _ H' => Q .non H', rt := Q } (start N vs) H) : FnOk P w K mg base CX0 (k + 1) f fd ps sp := by
 obtain ⟨oc, od, kV, doc, pm, an, cdv, ct, osl, rfl, lk, hcd⟩ := F.ex
 refine fn_of lk hcd S len fun A outer s H vs Q E hr hsp => ?_
 obtain ⟨t, h, q⟩ := hbody cdv A outer s H vs Q E hr hsp
 exact ⟨t, h.nox, q⟩
theorem Fun.binds {x qual : Str} {st : Stmt} {f : Addr} {fd : FuncData} {ps : List Str} (F : Fun K x qual st f fd)
  (h : ∀ (kV doc pm : Value) (an : Option Addr) (cdv ct : Value) (us : List Value), us.length = ps.length -> bindArgs (PySem.W.fnOf x qual (Zm st) (Zl st) (Zc st) .none kV doc pm an cdv ct) ⟨us, []⟩ = pure (ps.zip us)) : ZP K fd ps [] := by
 obtain ⟨oc, od, kV, doc, pm, an, cdv, ct, osl, rfl, lk, hcd⟩ := F.ex
 exact .all (h kV doc pm an cdv ct)
theorem ZE {x qual : Str} {st : Stmt} {f : Addr} {oc : Value} {od an : Option Addr} {osl : Array (Option Value)} {kV doc pm cdv ct : Value} (l : K.lookup f = some ⟨oc, od, .func (PySem.W.fnOf x qual (Zm st) (Zl st) (Zc st) .none kV doc pm an cdv ct), osl⟩)
  (c : PySem.W.codeIn K cdv qual = true) (k : PySem.W.keepIn K (.ref f) = true) : Fun K x qual st f (PySem.W.fnOf x qual (Zm st) (Zl st) (Zc st) .none kV doc pm an cdv ct) := ⟨⟨oc, od, kV, doc, pm, an, cdv, ct, osl, rfl, l, c⟩, k⟩
end
section
variable {X : Cx}
theorem pv (i : Nat) {x : Str} {pos : Pos} (hN : X.N[i]? = some x := by rfl) (hv : Vis X.env.scope x := by first | exact Or.inl rfl | exact Or.inr (Or.inl rfl) | exact Or.inr (Or.inr rfl)) (hd : (x == ("__debug__" : Str)) = false := by decide)
  (hcd : (x == ("__classdict__" : Str)) = false := by decide) : PE X (.Name x pos) (tVar i) := Uj hN hv hd hcd
end
theorem iteF {A B : Prop} (h : B) : if false = true then A else B := by
 rw [if_neg Bool.false_ne_true]
 exact h
theorem iteT {A B : Prop} (h : A) : if true = true then A else B := by
 rw [if_pos rfl]
 exact h
end L2
namespace Fx
open PySem
inductive Sl where
 | emp | val (t : PyData) | own (xs : List PyData) | dct (es : List (PyData × PyData))
inductive Res (α : Type) where
 | ok (a : α) | exc (c : Str) | stuck
def Res.bind {α β : Type} (r : Res α) (f : α -> Res β) : Res β :=
 match r with
 | .ok a => f a
 | .exc c => .exc c
 | .stuck => .stuck
@[simp] theorem Res.bind_ok {α β : Type} (a : α) (f : α -> Res β) : Res.bind (.ok a) f = f a := rfl
@[simp] theorem Res.bind_exc {α β : Type} (c : Str) (f : α -> Res β) : Res.bind (.exc c) f = .exc c := rfl
@[simp] theorem Res.bind_stuck {α β : Type} (f : α -> Res β) : Res.bind .stuck f = .stuck := rfl
abbrev DE := List Sl -> Res PyData
abbrev DT := List Sl -> Res Bool
abbrev DA := List Sl -> Res (List PyData)
inductive Out where
 | nx (G : List Sl) | rt (t : PyData) | bk (G : List Sl) | ct (G : List Sl)
abbrev DS := List Sl -> Res Out
abbrev DF := List PyData -> Res PyData
@[simp] def frz1 (G : List Sl) (i : Nat) : List Sl :=
 match G[i]? with
 | some (.own xs) => G.set i (.val (.list xs))
 | _ => G
@[simp] def frz (is : List Nat) (G : List Sl) : List Sl := is.foldl frz1 G
@[simp] def frzA : List Sl -> List Sl
 | [] => []
 | .own xs :: r => .val (.list xs) :: frzA r
 | .emp :: r => .emp :: frzA r
 | .val t :: r => .val t :: frzA r
 | .dct _ :: r => .emp :: frzA r
@[simp] def frzS : Sl -> Sl
 | .own xs => .val (.list xs)
 | .emp => .emp
 | .val t => .val t
 | .dct _ => .emp
@[simp] theorem frzA_cons (s : Sl) (G : List Sl) : frzA (s :: G) = frzS s :: frzA G := by cases s <;> simp
mutual
def Y7 : PyData -> Bool
 | .none | .bool _ | .int _ | .str _ => true
 | .tuple xs => Ww xs
 | .list _ => false
 | .dict _ => false
def Ww : List PyData -> Bool
 | [] => true
 | x :: xs => Y7 x && Ww xs
end
@[simp] theorem scalT_tuple (xs : List PyData) : Y7 (.tuple xs) = Ww xs := by simp [Y7]
@[simp] theorem scalT_dict (xs : List (PyData × PyData)) : Y7 (.dict xs) = false := by simp [Y7]
@[simp] theorem scalT_list (xs : List PyData) : Y7 (.list xs) = false := by simp [Y7]
@[simp] theorem JR (x : PyData) (xs : List PyData) : Ww (x :: xs) = (Y7 x && Ww xs) := by simp [Ww]
@[simp] def dC (t : PyData) : DE := fun _ => .ok t
@[simp] def dVar (i : Nat) : DE := fun G => match G[i]? with
 | some (.val t) => .ok t
 | _ => .stuck
@[simp] def d1 (f : PyData -> Res PyData) (a : DE) : DE := fun G => (a G).bind f
@[simp] def d2 (f : PyData -> PyData -> Res PyData) (a b : DE) : DE := fun G => (a G).bind fun x => (b G).bind fun y => f x y
@[simp] def dNil : DA := fun _ => .ok []
@[simp] def Zd (a : DE) (r : DA) : DA := fun G => (a G).bind fun x => (r G).bind fun xs => .ok (x :: xs)
@[simp] def lenOk (xs : List PyData) : Bool := decide (xs.length <= 16777216)
@[simp] def dTup (a : DA) : DE := fun G => (a G).bind fun xs => if lenOk xs then .ok (.tuple xs) else .stuck
@[simp] def dLst (a : DA) : DE := fun G => (a G).bind fun xs => if lenOk xs then .ok (.list xs) else .stuck
@[simp] def Zn (f : DF) (a : DA) : DE := fun G => (a G).bind f
@[simp] def dIfE (c : DT) (a b : DE) : DE := fun G => (c G).bind fun k => if k then a G else b G
@[simp] def zek (a b : DE) : DE := fun G => (a G).bind fun x => match x with
 | .bool k => if k then b G else .ok (.bool false)
 | _ => .stuck
@[simp] def dNotV (a : DE) : DE := fun G => (a G).bind fun x => match x with
 | .bool k => .ok (.bool (!k))
 | _ => .stuck
def XA (i j : Int) : Bool := decide (i.natAbs.log2 + j.natAbs.log2 + 2 <= 134217728) || decide (i.natAbs < 18446744073709551616) || decide (j.natAbs < 18446744073709551616)
def QJ (j : Int) : Bool := decide (j ≠ 0) && decide (j.natAbs.log2 < 9000)
@[simp] def fAdd : PyData -> PyData -> Res PyData
 | .int i, .int j => .ok (.int (i + j))
 | .list xs, .list ys => if xs.length + ys.length <= 16777216 then .ok (.list (xs ++ ys)) else .stuck
 | _, _ => .stuck
@[simp] def fSub : PyData -> PyData -> Res PyData
 | .int i, .int j => .ok (.int (i - j))
 | _, _ => .stuck
@[simp] def fMul : PyData -> PyData -> Res PyData
 | .int i, .int j => if XA i j then .ok (.int (i * j)) else .stuck
 | _, _ => .stuck
@[simp] def fDiv : PyData -> PyData -> Res PyData
 | .int i, .int j => if QJ j then .ok (.int (i.fdiv j)) else .stuck
 | _, _ => .stuck
@[simp] def fMod : PyData -> PyData -> Res PyData
 | .int i, .int j => if j = 0 then .stuck else .ok (.int (i.fmod j))
 | _, _ => .stuck
@[simp] def fPow : PyData -> PyData -> Res PyData
 | .int i, .int j => if 0 <= j /\ j <= 1000000 /\ i.natAbs < 2 ^ 64 then .ok (.int (i ^ j.toNat)) else .stuck
 | _, _ => .stuck
@[simp] def fNeg : PyData -> Res PyData
 | .int i => .ok (.int (-i))
 | _ => .stuck
@[simp] def fLt : PyData -> PyData -> Res PyData
 | .int i, .int j => .ok (.bool (decide (i < j)))
 | _, _ => .stuck
@[simp] def fLe : PyData -> PyData -> Res PyData
 | .int i, .int j => .ok (.bool (decide (i <= j)))
 | _, _ => .stuck
@[simp] def fGt : PyData -> PyData -> Res PyData
 | .int i, .int j => .ok (.bool (decide (j < i)))
 | _, _ => .stuck
@[simp] def fGe : PyData -> PyData -> Res PyData
 | .int i, .int j => .ok (.bool (decide (j <= i)))
 | _, _ => .stuck
def ZY (d : PyData) : Bool := d.canLay0 && decide (d.depth <= 64)
def fEq : PyData -> PyData -> Res PyData
 | .int i, .int j => .ok (.bool (decide (i = j)))
 | x, y => if ZY x && ZY y then .ok (.bool (x.eqv y)) else .stuck
def fNe : PyData -> PyData -> Res PyData
 | .int i, .int j => .ok (.bool (!decide (i = j)))
 | x, y => if ZY x && ZY y then .ok (.bool (!x.eqv y)) else .stuck
@[simp] def fIsN : PyData -> Res PyData
 | .none => .ok (.bool true)
 | _ => .ok (.bool false)
@[simp] def U5 : PyData -> Res PyData
 | .none => .ok (.bool false)
 | _ => .ok (.bool true)
@[simp] def fLen : PyData -> Res PyData
 | .list xs => .ok (.int xs.length)
 | .tuple xs => .ok (.int xs.length)
 | _ => .stuck
@[simp] def fAbs : PyData -> Res PyData
 | .int i => .ok (.int (if i < 0 then -i else i))
 | _ => .stuck
def ixP (n : Nat) (i : Int) : Option Nat := if 0 <= i then (if i < n then some i.toNat else none) else if -(n : Int) <= i then some (i + n).toNat else none
def atP (xs : List PyData) (i : Int) : Option PyData := (ixP xs.length i).bind fun j => xs[j]?
@[simp] def ofO {α : Type} : Option α -> Res α
 | some a => .ok a
 | none => .stuck
@[simp] def fIx : PyData -> PyData -> Res PyData
 | .list xs, .int i => ofO (atP xs i)
 | .tuple xs, .int i => ofO (atP xs i)
 | _, _ => .stuck
@[simp] def isInt : PyData -> Bool
 | .int _ => true
 | .bool _ => true
 | _ => false
@[simp] def zdR : PyData -> Bool
 | .bool _ => true
 | _ => false
@[simp] def za9 : PyData -> Bool
 | .tuple _ => true
 | _ => false
@[simp] def isList : PyData -> Bool
 | .list _ => true
 | _ => false
@[simp] def fIs (p : PyData -> Bool) : PyData -> Res PyData
 | .dict _ => .stuck
 | .none => .ok (.bool (p .none))
 | .bool b => .ok (.bool (p (.bool b)))
 | .int b => .ok (.bool (p (.int b)))
 | .str b => .ok (.bool (p (.str b)))
 | .list b => .ok (.bool (p (.list b)))
 | .tuple b => .ok (.bool (p (.tuple b)))
@[simp] def fList : PyData -> Res (List PyData)
 | .list xs => .ok xs
 | .tuple xs => .ok xs
 | _ => .stuck
@[simp] def zd2 : PyData -> Res PyData
 | .list xs => .ok (.tuple xs)
 | .tuple xs => .ok (.tuple xs)
 | _ => .stuck
@[simp] def truth : PyData -> Res Bool
 | .none => .ok false
 | .bool b => .ok b
 | .int i => .ok (i != 0)
 | .list xs => .ok (!xs.isEmpty)
 | .tuple xs => .ok (!xs.isEmpty)
 | _ => .stuck
@[simp] def tV (a : DE) : DT := fun G => (a G).bind truth
@[simp] def tAnd (a b : DT) : DT := fun G => (a G).bind fun k => if k then b G else .ok false
@[simp] def tOr (a b : DT) : DT := fun G => (a G).bind fun k => if k then .ok true else b G
@[simp] def tNot (a : DT) : DT := fun G => (a G).bind fun k => .ok (!k)
@[simp] def dSeq (a b : DS) : DS := fun G => (a G).bind fun o => match o with
 | .nx G' => b G'
 | .rt t => .ok (.rt t)
 | .bk G' => .ok (.bk G')
 | .ct G' => .ok (.ct G')
@[simp] def ZO : DS := fun G => .ok (.nx G)
@[simp] def dNev : DS := fun _ => .stuck
def dSet (i : Nat) (is : List Nat) (e : DE) : DS := fun G => (e (frz is G)).bind fun t => .ok (.nx ((if Y7 t then G else frz is G).set i (.val t)))
@[simp] theorem zb9 (i : Nat) (e : DE) (G : List Sl) : dSet i [] e G = (e G).bind fun t => .ok (.nx (G.set i (.val t))) := by
 unfold dSet
 show (e G).bind _ = _
 congr 1
 funext t
 show Res.ok (Out.nx ((if Y7 t = true then G else G).set i (.val t))) = _
 rw [ite_self]
@[simp] theorem dSet_cons (i j : Nat) (is : List Nat) (e : DE) (G : List Sl) : dSet i (j :: is) e G = (e (frz (j :: is) G)).bind fun t => .ok (.nx ((if Y7 t then G else frz (j :: is) G).set i (.val t))) := rfl
@[simp] def WL (i : Nat) (is : List Nat) (e : DA) : DS := fun G => (e (frz is G)).bind fun xs => if i < G.length then .ok (.nx ((frz is G).set i (.own xs))) else .stuck
@[simp] def dRet (e : DE) : DS := fun G => (e (frzA G)).bind fun t => .ok (.rt t)
@[simp] def dIf (c : DT) (a b : DS) : DS := fun G => (c (frzA G)).bind fun k => if k then a G else b G
@[simp] def zaH (i : Nat) (G' : List Sl) (t : PyData) : Res Out :=
 match G'[i]? with
 | some (.own xs) => if xs.length < 16777216 then .ok (.nx (G'.set i (.own (xs ++ [t])))) else .stuck
 | _ => .stuck
@[simp] def QH (G : List Sl) (i : Nat) : Bool := match G[i]? with
 | some (.own _) => true
 | _ => false
def dApp (i : Nat) (is : List Nat) (e : DE) : DS := fun G => if QH G i then (e (frz is G)).bind fun t => zaH i (if Y7 t then G else frz is G) t else .stuck
@[simp] theorem dApp_nil (i : Nat) (e : DE) (G : List Sl) : dApp i [] e G = if QH G i then (e G).bind fun t => zaH i G t else .stuck := by
 unfold dApp
 congr 1
 show (e G).bind _ = _
 congr 1
 funext t
 show zaH i (if Y7 t = true then G else G) t = _
 rw [ite_self]
@[simp] theorem dApp_cons (i j : Nat) (is : List Nat) (e : DE) (G : List Sl) : dApp i (j :: is) e G = if QH G i then (e (frz (j :: is) G)).bind fun t => zaH i (if Y7 t then G else frz (j :: is) G) t else .stuck := rfl
def forL (st : PyData -> List Sl -> Res (List Sl)) (b : DS) : List PyData -> List Sl -> Res Out
 | [], G => .ok (.nx G)
 | t :: ts, G => (st t G).bind fun G1 => (b G1).bind fun o => match o with
  | .nx G' => forL st b ts G'
  | .ct G' => forL st b ts G'
  | .bk G' => .ok (.nx G')
  | .rt t => .ok (.rt t)
@[simp] def dFor (st : PyData -> List Sl -> Res (List Sl)) (is : List Nat) (it : DA) (b : DS) : DS := fun G => (it (frz is G)).bind fun ts => forL st b ts (frz is G)
@[simp] def Zi (i : Nat) : PyData -> List Sl -> Res (List Sl) := fun t G => .ok (G.set i (.val t))
def Xq (c : DT) (b : DS) : Nat -> List Sl -> Res Out
 | 0, _ => .stuck
 | n + 1, G => (c (frzA G)).bind fun k => if k then (b G).bind fun o => match o with
   | .nx G' => Xq c b n G'
   | .ct G' => Xq c b n G'
   | .bk G' => .ok (.nx G')
   | .rt t => .ok (.rt t)
  else .ok (.nx G)
@[simp] def X2 (fuel : List Sl -> Nat) (c : DT) (b : DS) : DS := fun G => Xq c b (fuel G) G
@[simp] def noX {α : Type} : Res α -> Res α
 | .ok a => .ok a
 | _ => .stuck
def runF (n np : Nat) (b : DS) : DF := fun ts => if ts.length = np then (b (ts.map .val ++ List.replicate (n - np) .emp)).bind fun o => match o with
  | .rt t => .ok t
  | .nx _ => .ok .none
  | _ => .stuck
 else .stuck
theorem zdw {α : Type} (r : Res α) : (∃ a, noX r = .ok a) \/ noX r = .stuck := by
 cases r
 ·exact .inl ⟨_, rfl⟩
 ·exact .inr rfl
 ·exact .inr rfl
theorem noX_ok {α : Type} {r : Res α} {a : α} (h : noX r = .ok a) : r = .ok a := by
 cases r <;> simp at h
 rw [h]
def runQ (n np : Nat) (b : DS) : DF := fun ts => noX (runF n np b ts)
theorem zbz (n np : Nat) (b : DS) (ts : List PyData) (c : Str) : runQ n np b ts ≠ .exc c := by
 unfold runQ
 cases runF n np b ts <;> simp
def rngT (lo : Int) (n : Nat) : List PyData := (List.range n).map fun (k : Nat) => .int (lo + (k : Int))
def X3 (j : Int) : Bool := decide (j.natAbs <= 1000000000000)
theorem ZZ {n : Nat} (h : n <= 1000000000) : X3 (n : Int) = true := by
 unfold X3
 exact decide_eq_true (by omega)
theorem Vd {j : Int} (h : X3 j = true) : -(2 ^ 62) <= j /\ j < 2 ^ 62 := by
 have h' : j.natAbs <= 1000000000000 := of_decide_eq_true h
 omega
@[simp] def iRng (a : DE) : DA := fun G => (a G).bind fun x => match x with
 | .int j => if X3 j = true then .ok (rngT 0 j.toNat) else .stuck
 | _ => .stuck
@[simp] def iRng2 (a b : DE) : DA := fun G => (a G).bind fun x => (b G).bind fun y => match x, y with
 | .int i, .int j => if X3 i = true /\ X3 j = true then .ok (rngT i (j - i).toNat) else .stuck
 | _, _ => .stuck
theorem fLt_b : ∀ x y, (∃ k, fLt x y = .ok (.bool k)) \/ fLt x y = .stuck := by intro x y; cases x <;> cases y <;> simp
theorem fGt_b : ∀ x y, (∃ k, fGt x y = .ok (.bool k)) \/ fGt x y = .stuck := by intro x y; cases x <;> cases y <;> simp
theorem fGe_b : ∀ x y, (∃ k, fGe x y = .ok (.bool k)) \/ fGe x y = .stuck := by intro x y; cases x <;> cases y <;> simp
theorem fEq_b : ∀ x y, (∃ k, fEq x y = .ok (.bool k)) \/ fEq x y = .stuck := by
 intro x y
 unfold fEq
 split
 ·exact .inl ⟨_, rfl⟩
 ·split
  ·exact .inl ⟨_, rfl⟩
  ·exact .inr rfl
theorem fNe_b : ∀ x y, (∃ k, fNe x y = .ok (.bool k)) \/ fNe x y = .stuck := by
 intro x y
 unfold fNe
 split
 ·exact .inl ⟨_, rfl⟩
 ·split
  ·exact .inl ⟨_, rfl⟩
  ·exact .inr rfl
@[simp] def iSeq (a : DE) : DA := fun G => (a G).bind fun x => match x with
 | .list xs => .ok xs
 | .tuple xs => .ok xs
 | _ => .stuck
def Vv : Nat -> List PyData -> List PyData
 | _, [] => []
 | n, x :: r => .tuple [.int n, x] :: Vv (n + 1) r
def zipT : List PyData -> List PyData -> List PyData
 | x :: xs, y :: ys => .tuple [x, y] :: zipT xs ys
 | _, _ => []
@[simp] def iEnum (a : DA) : DA := fun G => (a G).bind fun xs => .ok (Vv 0 xs)
@[simp] def iZip (a b : DA) : DA := fun G => (a G).bind fun xs => (b G).bind fun ys => .ok (zipT xs ys)
@[simp] def Xf (i j : Nat) : PyData -> List Sl -> Res (List Sl)
 | .tuple [x, y], G => .ok ((G.set i (.val x)).set j (.val y))
 | _, _ => .stuck
@[simp] def capS (cap : List Nat) (G : List Sl) : List Sl := cap.map fun i => match (G[i]? : Option Sl) with
 | some (.val t) => .val t
 | _ => .emp
def Ym (st : PyData -> List Sl -> Res (List Sl)) (c : DT) (e : DE) (C : List Sl) : List PyData -> Res (List PyData)
 | [] => .ok []
 | t :: ts => (noX (st t C)).bind fun G1 => (c G1).bind fun k => if k then (e G1).bind fun y => (Ym st c e C ts).bind fun ys => .ok (y :: ys) else Ym st c e C ts
@[simp] def YD (nv : Nat) (cap : List Nat) (st : PyData -> List Sl -> Res (List Sl)) (it : DA) (c : DT) (e : DE) : DA := fun G => (it G).bind fun ts => if ts.length <= 16777216 then Ym st c e (List.replicate nv .emp ++ capS cap G) ts else .stuck
@[simp] def tT : DT := fun _ => .ok true
@[simp] def dIxN (i : Nat) (k : DE) : DE := fun G => match G[i]? with
 | some (.own xs) => (k G).bind fun y => fIx (.list xs) y
 | some (.val t) => (k G).bind fun y => fIx t y
 | _ => .stuck
@[simp] def dLenN (i : Nat) : DE := fun G => match G[i]? with
 | some (.own xs) => .ok (.int xs.length)
 | some (.val t) => fLen t
 | _ => .stuck
def sIxT (n d : Nat) : Option Int -> Nat
 | none => d
 | some i => if i < 0 then (i + n).toNat else min i.toNat n
def cutT (xs : List PyData) (lo hi : Option Int) : List PyData := (xs.drop (sIxT xs.length 0 lo)).take (sIxT xs.length xs.length hi - sIxT xs.length 0 lo)
abbrev DP := List Sl -> Res (Option Int)
@[simp] def pNo : DP := fun _ => .ok none
@[simp] def pAt (a : DE) : DP := fun G => (a G).bind fun x => match x with
 | .int i => .ok (some i)
 | _ => .stuck
@[simp] def oCut (a : DE) (lo hi : DP) : DA := fun G => (a G).bind fun x => (lo G).bind fun l => (hi G).bind fun h => match x with
 | .list xs => .ok (cutT xs l h)
 | _ => .stuck
@[simp] def dL (a : DA) : DE := fun G => (a G).bind fun xs => .ok (.list xs)
@[simp] def oLst (a : DA) : DA := fun G => (a G).bind fun xs => if lenOk xs then .ok xs else .stuck
@[simp] def zdu (a : DE) : DA := fun G => (a G).bind fList
def allT : List PyData -> Res Bool
 | [] => .ok true
 | .bool k :: r => (allT r).bind fun m => .ok (k && m)
 | _ => .stuck
theorem zeD : ∀ {xs : List PyData} {k : Bool}, allT xs = .ok k -> ∃ bs : List Bool, xs = bs.map .bool /\ k = bs.all id
 | [], k, h => by simp [allT] at h; exact ⟨[], rfl, by simp [<- h]⟩
 | x :: r, k, h => by
  cases x with
  | bool b =>
   simp only [allT] at h
   cases e : allT r with
   | ok m =>
    rw [e] at h
    simp at h
    obtain ⟨bs, h1, h2⟩ := zeD e
    exact ⟨b :: bs, by simp [h1], by simp [<- h, h2]⟩
   | exc c => rw [e] at h; cases h
   | stuck => rw [e] at h; cases h
  | none => simp [allT] at h
  | int _ => simp [allT] at h
  | str _ => simp [allT] at h
  | list _ => simp [allT] at h
  | tuple _ => simp [allT] at h
  | dict _ => simp [allT] at h
theorem zcg : ∀ (xs : List PyData) (c : Str), allT xs ≠ .exc c
 | [], c => by simp [allT]
 | x :: r, c => by
  cases x with
  | bool b =>
   simp only [allT]
   cases e : allT r with
   | ok m => simp
   | exc c' => exact absurd e (zcg r c')
   | stuck => simp
  | none => simp [allT]
  | int _ => simp [allT]
  | str _ => simp [allT]
  | list _ => simp [allT]
  | tuple _ => simp [allT]
  | dict _ => simp [allT]
@[simp] def fAll : PyData -> Res PyData
 | .list xs => (allT xs).bind fun k => .ok (.bool k)
 | _ => .stuck
@[simp] def JP (i : Nat) (G' : List Sl) (t kt : PyData) : Res Out :=
 match G'[i]?, kt with
 | some (.own xs), .int j => match ixP xs.length j with
  | some m => .ok (.nx (G'.set i (.own (xs.set m t))))
  | none => .stuck
 | _, _ => .stuck
def WJ (i : Nat) (is : List Nat) (k e : DE) : DS := fun G => (e (frz is G)).bind fun t => if QH (if Y7 t then G else frz is G) i then (k (frz is G)).bind fun kt => JP i (if Y7 t then G else frz is G) t kt else .stuck
@[simp] theorem dSetIt_nil (i : Nat) (k e : DE) (G : List Sl) : WJ i [] k e G = (e G).bind fun t => if QH G i then (k G).bind fun kt => JP i G t kt else .stuck := by
 unfold WJ
 show (e G).bind _ = _
 congr 1
 funext t
 show (if QH (if Y7 t = true then G else G) i = true then (k G).bind fun kt => JP i (if Y7 t = true then G else G) t kt else .stuck) = _
 rw [ite_self]
@[simp] theorem dSetIt_cons (i j : Nat) (is : List Nat) (k e : DE) (G : List Sl) : WJ i (j :: is) k e G = (e (frz (j :: is) G)).bind fun t => if QH (if Y7 t then G else frz (j :: is) G) i then (k (frz (j :: is) G)).bind fun kt => JP i (if Y7 t then G else frz (j :: is) G) t kt else .stuck := rfl
theorem zc6 {i : Nat} : ∀ t G c, Zi i t G ≠ .exc c := by intro t G c; simp
theorem zc5 {i j : Nat} : ∀ t G c, Xf i j t G ≠ .exc c := by
 intro t G c
 unfold Xf
 split <;> simp
def zaJ (nv : Nat) (st : PyData -> List Sl -> Res (List Sl)) : Prop := ∀ t G G1, st t G = .ok G1 -> G1.length = G.length /\ ∀ i, nv <= i -> G1[i]? = G[i]?
theorem ZS {nv i : Nat} (h : i < nv) : zaJ nv (Zi i) := by
 intro t G G1 e
 simp at e
 subst e
 refine ⟨by simp, fun j hj => ?_⟩
 rw [List.getElem?_set_ne (by omega)]
theorem zaj {nv i j : Nat} (h : i < nv) (h2 : j < nv) : zaJ nv (Xf i j) := by
 intro t G G1 e
 unfold Xf at e
 split at e
 ·cases e
  refine ⟨by simp, fun k hk => ?_⟩
  rw [List.getElem?_set_ne (by omega), List.getElem?_set_ne (by omega)]
 ·cases e
end Fx
namespace Fx
open PySem
theorem za6 {x m : Nat} (h : x < 2 ^ m) : x.log2 <= m := by
 by_cases hx : x = 0
 ·subst hx; simp
 ·exact Nat.le_of_lt ((Nat.log2_lt hx).mpr h)
theorem YE {i j : Int} {m n : Nat} (hi : i.natAbs < 2 ^ m) (hj : j.natAbs < 2 ^ n) (h : m + n + 2 <= 134217728) : XA i j = true := by
 have h1 := za6 hi
 have h2 := za6 hj
 simp only [XA, Bool.or_eq_true, decide_eq_true_eq]
 omega
theorem mulOk_r {i j : Int} (hj : j.natAbs < 18446744073709551616) : XA i j = true := by
 simp only [XA, Bool.or_eq_true, decide_eq_true_eq]
 exact .inr hj
theorem zdx {i j : Int} (hi : i.natAbs < 18446744073709551616) : XA i j = true := by
 simp only [XA, Bool.or_eq_true, decide_eq_true_eq]
 exact .inl (.inr hi)
theorem Jw {j : Int} {m : Nat} (h0 : j ≠ 0) (hj : j.natAbs < 2 ^ m) (h : m < 9000) : QJ j = true := by
 have h2 := za6 hj
 simp only [QJ, Bool.and_eq_true, decide_eq_true_eq]
 exact ⟨h0, by omega⟩
theorem ZL {i j : Int} {m n : Nat} (hi : i.natAbs < 2 ^ m) (hj : j.natAbs < 2 ^ n) : (i * j).natAbs < 2 ^ (m + n) := by
 rw [Int.natAbs_mul, Nat.pow_add]
 exact Nat.mul_lt_mul'' hi hj
theorem Jn {i j : Int} {m : Nat} (hi : i.natAbs < 2 ^ m) (hj : j.natAbs < 2 ^ m) : (i + j).natAbs < 2 ^ (m + 1) := by
 have := Int.natAbs_add_le i j
 rw [Nat.pow_succ]; omega
theorem JY {m n : Nat} (h : m <= n) : 2 ^ m <= 2 ^ n := Nat.pow_le_pow_right (by decide) h
def fr (q : Rat) : PyData := .tuple [.int q.num, .int (q.den : Int)]
structure Sz (n : Nat) (q : Rat) : Prop where
 num : q.num.natAbs < 2 ^ n
 den : q.den < 2 ^ n
theorem Sz.mono {m n : Nat} {q : Rat} (h : Sz m q) (l : m <= n) : Sz n q := ⟨Nat.lt_of_lt_of_le h.num (JY l), Nat.lt_of_lt_of_le h.den (JY l)⟩
theorem Sz.denI {n : Nat} {q : Rat} (h : Sz n q) : ((q.den : Int)).natAbs < 2 ^ n := by rw [Int.natAbs_natCast]; exact h.den
theorem WG (q : Rat) : (q.den : Int) ≠ 0 := by have := q.den_nz; omega
theorem U7 {u l : Int} {n : Nat} (hl : l ≠ 0) (h1 : u.natAbs < 2 ^ n) (h2 : l.natAbs < 2 ^ n) : Sz n (Rat.divInt u l) := by
 constructor
 ·rw [Rat.num_divInt]
  refine Nat.lt_of_le_of_lt ?_ h1
  have e : (l.sign * u / (l.gcd u : Int)).natAbs <= (l.sign * u).natAbs := Int.natAbs_ediv_le_natAbs _ _
  refine Nat.le_trans e ?_
  rw [Int.natAbs_mul, Int.natAbs_sign_of_ne_zero hl, Nat.one_mul]
  exact Nat.le_refl _
 ·rw [Rat.den_divInt, if_neg hl]
  exact Nat.lt_of_le_of_lt (Nat.div_le_self _ _) h2
theorem zba (q : Rat) : Int.gcd q.num q.den = 1 := q.reduced
def uGcd : List Sl -> Nat := fun G => match (G[1]? : Option Sl) with
 | some (.val (.int b)) => b.natAbs + 1
 | _ => 0
def gcdC : DT := tV (d2 fNe (dVar 1) (dC (.int 0)))
def gcdB : DS := dSeq (dSet 2 [] (d2 fMod (dVar 0) (dVar 1))) (dSeq (dSet 0 [] (dVar 1)) (dSet 1 [] (dVar 2)))
theorem gcd_step {a b : Int} (ha : 0 <= a) (hb : 0 <= b) : Int.gcd b (a % b) = Int.gcd a b := by
 obtain ⟨m, rfl⟩ := Int.eq_ofNat_of_zero_le ha
 obtain ⟨n, rfl⟩ := Int.eq_ofNat_of_zero_le hb
 rw [<- Int.natCast_emod, Int.gcd_natCast_natCast, Int.gcd_natCast_natCast, Nat.gcd_comm n, <- Nat.gcd_rec, Nat.gcd_comm]
theorem zbT : ∀ (n : Nat) (a b : Int) (s : Sl), 0 <= a -> 0 <= b -> b.natAbs < n ->
  ∃ s', Xq gcdC gcdB n [.val (.int a), .val (.int b), s] = .ok (.nx [.val (.int (Int.gcd a b)), .val (.int 0), s'])
 | 0, a, b, s, ha, hb, h => by omega
 | n + 1, a, b, s, ha, hb, h => by
  unfold Xq
  by_cases hz : b = 0
  ·subst hz
   refine ⟨s, ?_⟩
   simp [gcdC, fNe, Int.natAbs_of_nonneg ha]
  ·have hf : Int.fmod a b = a % b := Int.fmod_eq_emod_of_nonneg a hb
   have h1 : 0 <= a % b := Int.emod_nonneg a hz
   have h2 : a % b < b := Int.emod_lt_of_pos a (by omega)
   obtain ⟨s', e⟩ := zbT n b (a % b) (.val (.int (a % b))) hb h1 (by omega)
   refine ⟨s', ?_⟩
   rw [gcd_step ha hb] at e
   simpa [gcdC, gcdB, fNe, hz, hf] using e
def dGcd : DS := dSeq (dSet 0 [] (d1 fAbs (dVar 0))) (dSeq (dSet 1 [] (d1 fAbs (dVar 1))) (dSeq (X2 uGcd gcdC gcdB) (dRet (dVar 0))))
theorem abs_if (a : Int) : (if a < 0 then -a else a) = (a.natAbs : Int) := by split <;> omega
theorem gcd_ok (a b : Int) : runF 3 2 dGcd [.int a, .int b] = .ok (.int (Int.gcd a b)) := by
 obtain ⟨s', e⟩ := zbT (b.natAbs + 1) a.natAbs b.natAbs .emp (Int.natCast_nonneg _) (Int.natCast_nonneg _) (by simp)
 have g : Int.gcd (a.natAbs : Int) (b.natAbs : Int) = Int.gcd a b := by simp [Int.gcd]
 rw [g] at e
 simp [runF, dGcd, abs_if, uGcd, e]
end Fx
namespace Fx
open PySem
theorem Jt {st : PyData -> List Sl -> Res (List Sl)} {b : DS} (Inv : Nat -> List Sl -> Prop) : ∀ (ts : List PyData) (k : Nat) (G : List Sl), Inv k G ->
  (∀ i t G, ts[i]? = some t -> Inv (k + i) G -> ∃ G1, st t G = .ok G1 /\ ∃ G2, (b G1 = .ok (.nx G2) \/ b G1 = .ok (.ct G2)) /\ Inv (k + i + 1) G2) ->
  ∃ G', forL st b ts G = .ok (.nx G') /\ Inv (k + ts.length) G'
 | [], k, G, h0, _ => ⟨G, rfl, h0⟩
 | t :: ts, k, G, h0, hs => by
  obtain ⟨G1, e1, G2, e2, h2⟩ := hs 0 t G rfl h0
  obtain ⟨G', e3, h3⟩ := Jt Inv ts (k + 1) G2 h2 fun i t' G' ht hi => by
   have := hs (i + 1) t' G' (by simpa using ht) (by rw [<- Nat.add_assoc, Nat.add_right_comm]; exact hi)
   simpa [Nat.add_assoc, Nat.add_comm, Nat.add_left_comm] using this
  refine ⟨G', ?_, by simpa [Nat.add_assoc, Nat.add_comm, Nat.add_left_comm] using h3⟩
  rw [forL, e1, Res.bind_ok]
  rcases e2 with e2 | e2 <;> rw [e2, Res.bind_ok] <;> exact e3
theorem zbU {st : PyData -> List Sl -> Res (List Sl)} {b : DS} (Inv : Nat -> List Sl -> Prop) (R : PyData -> Prop) : ∀ (ts : List PyData) (k : Nat) (G : List Sl), Inv k G ->
  (∀ i t G, ts[i]? = some t -> Inv (k + i) G -> ∃ G1, st t G = .ok G1 /\ ((∃ G2, (b G1 = .ok (.nx G2) \/ b G1 = .ok (.ct G2)) /\ Inv (k + i + 1) G2) \/ ∃ r, b G1 = .ok (.rt r) /\ R r)) ->
  (∃ G', forL st b ts G = .ok (.nx G') /\ Inv (k + ts.length) G') \/ ∃ r, forL st b ts G = .ok (.rt r) /\ R r
 | [], k, G, h0, _ => .inl ⟨G, rfl, h0⟩
 | t :: ts, k, G, h0, hs => by
  obtain ⟨G1, e1, h⟩ := hs 0 t G rfl h0
  rcases h with ⟨G2, e2, h2⟩ | ⟨r, e2, hr⟩
  ·rcases zbU Inv R ts (k + 1) G2 h2 (fun i t' G' ht hi => by
    have := hs (i + 1) t' G' (by simpa using ht) (by rw [<- Nat.add_assoc, Nat.add_right_comm]; exact hi)
    simpa [Nat.add_assoc, Nat.add_comm, Nat.add_left_comm] using this) with ⟨G', e3, h3⟩ | ⟨r, e3, hr⟩
   ·refine .inl ⟨G', ?_, by simpa [Nat.add_assoc, Nat.add_comm, Nat.add_left_comm] using h3⟩
    rw [forL, e1, Res.bind_ok]
    rcases e2 with e2 | e2 <;> rw [e2, Res.bind_ok] <;> exact e3
   ·refine .inr ⟨r, ?_, hr⟩
    rw [forL, e1, Res.bind_ok]
    rcases e2 with e2 | e2 <;> rw [e2, Res.bind_ok] <;> exact e3
  ·refine .inr ⟨r, ?_, hr⟩
   rw [forL, e1, Res.bind_ok, e2, Res.bind_ok]
theorem Wx (lo : Int) (n : Nat) : (rngT lo n).length = n := by simp [rngT]
theorem zda {lo : Int} {n i : Nat} {t : PyData} (h : (rngT lo n)[i]? = some t) : i < n /\ t = .int (lo + (i : Int)) := by
 unfold rngT at h
 rw [List.getElem?_map] at h
 by_cases hi : i < n
 ·rw [List.getElem?_eq_getElem (by simpa using hi)] at h
  simp at h
  exact ⟨hi, h.symm⟩
 ·rw [List.getElem?_eq_none (by simpa using hi)] at h
  cases h
theorem V7 {st : PyData -> List Sl -> Res (List Sl)} {b : DS} {n : Nat} {G : List Sl} (Inv : Nat -> List Sl -> Prop) (h0 : Inv 0 G)
  (hs : ∀ i G, i < n -> Inv i G -> ∃ G1, st (.int (i : Int)) G = .ok G1 /\ ∃ G2, (b G1 = .ok (.nx G2) \/ b G1 = .ok (.ct G2)) /\ Inv (i + 1) G2) :
  ∃ G', forL st b (rngT 0 n) G = .ok (.nx G') /\ Inv n G' := by
 obtain ⟨G', e, h⟩ := Jt Inv (rngT 0 n) 0 G h0 fun i t G ht hi => by
  obtain ⟨hl, rfl⟩ := zda ht
  simpa using hs i G hl (by simpa using hi)
 refine ⟨G', e, ?_⟩
 rw [Wx] at h
 simpa using h
theorem zbb {st : PyData -> List Sl -> Res (List Sl)} {b : DS} {n : Nat} {G : List Sl} (Inv : Nat -> List Sl -> Prop) (R : PyData -> Prop) (h0 : Inv 0 G)
  (hs : ∀ i G, i < n -> Inv i G -> ∃ G1, st (.int (i : Int)) G = .ok G1 /\ ((∃ G2, (b G1 = .ok (.nx G2) \/ b G1 = .ok (.ct G2)) /\ Inv (i + 1) G2) \/ ∃ r, b G1 = .ok (.rt r) /\ R r)) :
  (∃ G', forL st b (rngT 0 n) G = .ok (.nx G') /\ Inv n G') \/ ∃ r, forL st b (rngT 0 n) G = .ok (.rt r) /\ R r := by
 rcases zbU Inv R (rngT 0 n) 0 G h0 (fun i t G ht hi => by
  obtain ⟨hl, rfl⟩ := zda ht
  simpa using hs i G hl (by simpa using hi)) with ⟨G', e, h⟩ | h
 ·refine .inl ⟨G', e, ?_⟩
  rw [Wx] at h
  simpa using h
 ·exact .inr h
theorem Z3 {α : Type} {st : PyData -> List Sl -> Res (List Sl)} {e : DE} {C : List Sl} (inj f : α -> PyData) : ∀ (xs : List α), (∀ x ∈ xs, ∃ G1, st (inj x) C = .ok G1 /\ e G1 = .ok (f x)) -> Ym st tT e C (xs.map inj) = .ok (xs.map f)
 | [], _ => rfl
 | t :: ts, h => by
  obtain ⟨G1, e1, e2⟩ := h t List.mem_cons_self
  have ih := Z3 inj f ts fun t' ht => h t' (List.mem_cons_of_mem _ ht)
  rw [List.map_cons]
  unfold Ym
  simp [e1, e2, ih]
theorem Q0 {α : Type} {st : PyData -> List Sl -> Res (List Sl)} {c : DT} {e : DE} {C : List Sl} (inj f : α -> PyData) (p : α -> Bool) : ∀ (xs : List α), (∀ x ∈ xs, ∃ G1, st (inj x) C = .ok G1 /\ c G1 = .ok (p x) /\ (p x = true -> e G1 = .ok (f x))) ->
  Ym st c e C (xs.map inj) = .ok ((xs.filter p).map f)
 | [], _ => rfl
 | t :: ts, h => by
  obtain ⟨G1, e1, e2, e3⟩ := h t List.mem_cons_self
  have ih := Q0 inj f p ts fun t' ht => h t' (List.mem_cons_of_mem _ ht)
  rw [List.map_cons]
  unfold Ym
  cases hp : p t with
  | false => simp [e1, e2, ih, hp]
  | true => simp [e1, e2, e3 hp, ih, hp]
theorem VI (n : Nat) : rngT 0 n = (List.range n).map fun (k : Nat) => PyData.int (k : Int) := by simp [rngT]
theorem Sz.ofInt {n : Nat} {i : Int} (h : i.natAbs < 2 ^ n) (h1 : 0 < n) : Sz n (i : Rat) := ⟨by simpa using h, by
 have : 2 ^ 1 <= 2 ^ n := JY h1
 simp; omega⟩
theorem Sz.zero : Sz 1 0 := ⟨by decide, by decide⟩
theorem zcM (a b : Rat) : a + b = Rat.divInt (a.num * b.den + b.num * a.den) (a.den * b.den) := by
 have := Rat.divInt_add_divInt a.num b.num (WG a) (WG b)
 rw [Rat.num_divInt_den, Rat.num_divInt_den] at this
 exact this
theorem QO (a b : Rat) : a * b = Rat.divInt (a.num * b.num) (a.den * b.den) := by
 have := Rat.divInt_mul_divInt a.num b.num (d₁ := a.den) (d₂ := b.den)
 rw [Rat.num_divInt_den, Rat.num_divInt_den] at this
 exact this
theorem Sz.add {m n : Nat} {a b : Rat} (ha : Sz m a) (hb : Sz n b) : Sz (m + n + 1) (a + b) := by
 rw [zcM]
 have h1 := ZL ha.num hb.denI
 have h2 := ZL hb.num ha.denI
 rw [Nat.add_comm n m] at h2
 exact U7 (Int.mul_ne_zero (WG a) (WG b)) (Jn h1 h2) (Nat.lt_of_lt_of_le (ZL ha.denI hb.denI) (JY (Nat.le_succ _)))
theorem Sz.mul {m n : Nat} {a b : Rat} (ha : Sz m a) (hb : Sz n b) : Sz (m + n) (a * b) := by
 rw [QO]
 exact U7 (Int.mul_ne_zero (WG a) (WG b)) (ZL ha.num hb.num) (ZL ha.denI hb.denI)
theorem Ue {α : Type} {f : α -> PyData} : ∀ (xs : List α), (∀ x ∈ xs, (f x).canLay0 = true) -> PyData.canLayAll0 (xs.map f) = true
 | [], _ => by simp [PyData.canLayAll0]
 | x :: xs, h => by simp [PyData.canLayAll0, h x List.mem_cons_self, Ue xs fun y hy => h y (List.mem_cons_of_mem _ hy)]
theorem Qb {α : Type} {f : α -> PyData} {n : Nat} : ∀ (xs : List α), (∀ x ∈ xs, (f x).depth <= n) -> PyData.depthAll (xs.map f) <= n
 | [], _ => by simp [PyData.depthAll]
 | x :: xs, h => by
  have h1 := h x List.mem_cons_self
  have h2 := Qb (f := f) (n := n) xs fun y hy => h y (List.mem_cons_of_mem _ hy)
  simp only [List.map_cons, PyData.depthAll]
  omega
def Shp (n : Nat) (t : PyData) : Prop := t.canLay0 = true /\ t.depth <= n
theorem Shp.ok {n : Nat} {t : PyData} (h : Shp n t) (hn : n <= 64) : ZY t = true := by
 simp [ZY, h.1]; exact Nat.le_trans h.2 hn
theorem zc2 (i : Int) : Shp 0 (.int i) := ⟨by simp [PyData.canLay0], by simp [PyData.depth]⟩
theorem Q9 {α : Type} {f : α -> PyData} {n : Nat} {xs : List α} (h : ∀ x ∈ xs, Shp n (f x)) : Shp (n + 1) (.list (xs.map f)) := by
 refine ⟨by simp [PyData.canLay0, Ue xs fun x hx => (h x hx).1], ?_⟩
 have := Qb (f := f) (n := n) xs fun x hx => (h x hx).2
 simp [PyData.depth]; omega
theorem zc1 {α : Type} {f : α -> PyData} {n : Nat} {xs : List α} (h : ∀ x ∈ xs, Shp n (f x)) : Shp (n + 1) (.tuple (xs.map f)) := by
 refine ⟨by simp [PyData.canLay0, Ue xs fun x hx => (h x hx).1], ?_⟩
 have := Qb (f := f) (n := n) xs fun x hx => (h x hx).2
 simp [PyData.depth]; omega
theorem shp_pair {n : Nat} {a b : PyData} (ha : Shp n a) (hb : Shp n b) : Shp (n + 1) (.tuple [a, b]) := by
 have := zc1 (f := id) (n := n) (xs := [a, b]) (by intro x hx; simp at hx; rcases hx with rfl | rfl <;> assumption)
 simpa using this
theorem zby (q : Rat) : Shp 1 (fr q) := shp_pair (zc2 _) (zc2 _)
mutual
theorem zb1 : ∀ (t : PyData), t.canLay0 = true -> t.eqv t = true
 | .none, _ => by simp [PyData.eqv]
 | .bool b, _ => by simp [PyData.eqv]
 | .int i, _ => by simp [PyData.eqv]
 | .str x, _ => by simp [PyData.eqv]
 | .list xs, h => by simp only [PyData.eqv]; exact Vu xs (by simpa [PyData.canLay0] using h)
 | .tuple xs, h => by simp only [PyData.eqv]; exact Vu xs (by simpa [PyData.canLay0] using h)
 | .dict _, h => by simp [PyData.canLay0] at h
theorem Vu : ∀ (ts : List PyData), PyData.canLayAll0 ts = true -> PyData.eqvAll ts ts = true
 | [], _ => by simp [PyData.eqvAll]
 | t :: ts, h => by
  simp only [PyData.canLayAll0, Bool.and_eq_true] at h
  simp [PyData.eqvAll, zb1 t h.1, Vu ts h.2]
end
theorem eqv_fr (a b : Rat) : PyData.eqv (fr a) (fr b) = decide (a = b) := by
 have : (a = b) ↔ (a.num = b.num /\ (a.den : Int) = b.den) := ⟨fun h => by subst h; exact ⟨rfl, rfl⟩, fun ⟨h1, h2⟩ => Rat.ext h1 (by exact_mod_cast h2)⟩
 by_cases h : a = b
 ·subst h; rw [zb1 _ (zby a).1]; simp
 ·simp only [fr, PyData.eqv, PyData.eqvAll, Bool.and_true]
  rw [decide_eq_false h]
  have := fun z => h (this.mpr z)
  by_cases h1 : a.num = b.num
  ·have h2 : (a.den : Int) ≠ b.den := fun z => this ⟨h1, z⟩
   simp [h1]; exact_mod_cast h2
  ·simp [h1]
theorem fNe_fr (a b : Rat) : fNe (fr a) (fr b) = .ok (.bool (!decide (a = b))) := by
 unfold fNe
 split
 ·rename_i e1 e2; cases e1
 ·simp [(zby a).ok (by decide), (zby b).ok (by decide), eqv_fr]
end Fx
namespace Lw
open PySem Fx
abbrev VA : List Sl -> Nat := uGcd
abbrev UQ : List Sl -> Nat := uGcd
def QZ : DS :=
  (dRet (zek (d1 (fIs isInt) (dVar 0)) (dNotV (d1 (fIs zdR) (dVar 0)))))
def YV : DF := runQ 1 1 QZ
def VW : DS :=
  (dRet (dVar 0))
def VX : DS :=
  dSeq (X2 VA (tV (d2 fNe (dVar 1) (dC (.int 0))))
  (dSeq (dSet 2 [] (d2 fMod (dVar 0) (dVar 1)))
  (dSeq (dSet 0 [] (dVar 1))
  (dSet 1 [] (dVar 2)))))
  VW
def VY : DS :=
  dSeq (dSet 1 [] (d1 fAbs (dVar 1)))
  VX
def UK : DS :=
  dSeq (dSet 0 [] (d1 fAbs (dVar 0)))
  VY
def YF : DF := runQ 3 2 UK
def UN : DS :=
  (dRet (dTup (Zd (d2 fDiv (dVar 0) (dVar 2)) (Zd (d2 fDiv (dVar 1) (dVar 2)) dNil))))
def UO : DS :=
  dSeq (dIf (tV (d2 fLt (dVar 1) (dC (.int 0))))
  (dSet 2 [] (d1 fNeg (dVar 2)))
  ZO)
  UN
def UP : DS :=
  dSeq (dSet 2 [] (Zn YF (Zd (dVar 0) (Zd (dVar 1) dNil))))
  UO
def zb8 : DS :=
  dSeq (dIf (tV (d2 fEq (dVar 1) (dC (.int 0))))
  dNev
  ZO)
  UP
def Uo : DF := runQ 3 2 zb8
def zej : DS :=
  (dRet (d2 fLt (d2 fMul (d2 fIx (dVar 0) (dC (.int 0))) (d2 fIx (dVar 1) (dC (.int 1)))) (d2 fMul (d2 fIx (dVar 1) (dC (.int 0))) (d2 fIx (dVar 0) (dC (.int 1))))))
def V8 : DF := runQ 2 2 zej
def Qp : DS :=
  (dRet (zek (Zn YV (Zd (dVar 0) dNil)) (d2 fLe (d1 fAbs (dVar 0)) (dC (.int 999999999999)))))
def YK : DF := runQ 1 1 Qp
def Us : DS :=
  (dRet (dTup (Zd (d1 zd2 (dVar 2)) (Zd (dVar 3) dNil))))
def Ut : DS :=
  dSeq (dIf (tNot (tV (Zn YK (Zd (dVar 3) dNil))))
  dNev
  ZO)
  Us
def Uu : DS :=
  dSeq (dIf (tNot (tV (d1 fAll (dL (YD 1 [] (Zi 0) (iSeq (dVar 2)) tT (Zn YK (Zd (dVar 0) dNil)))))))
  dNev
  ZO)
  Ut
def Uv : DS :=
  dSeq (dIf (tOr (tNot (tV (d1 (fIs isList) (dVar 2)))) (tV (d2 fNe (d1 fLen (dVar 2)) (dVar 0))))
  dNev
  ZO)
  Uu
def Uw : DS :=
  dSeq (dSet 3 [] (d2 fIx (dVar 1) (dC (.int 1))))
  Uv
def Ux : DS :=
  dSeq (dSet 2 [] (d2 fIx (dVar 1) (dC (.int 0))))
  Uw
def QW : DS :=
  dSeq (dIf (tOr (tNot (tV (d1 (fIs za9) (dVar 1)))) (tV (d2 fNe (d1 fLen (dVar 1)) (dC (.int 2)))))
  dNev
  ZO)
  Ux
def XM : DF := runQ 4 2 QW
def Qq : DS :=
  (dRet (dTup (Zd (dVar 0) (Zd (d1 zd2 (dL (YD 1 [0] (Zi 0) (iSeq (dVar 1)) tT (Zn XM (Zd (dVar 1) (Zd (dVar 0) dNil)))))) dNil))))
def Qr : DS :=
  dSeq (dIf (tOr (tNot (tV (d1 (fIs isList) (dVar 1)))) (tV (d2 fGt (d1 fLen (dVar 1)) (dC (.int 10)))))
  dNev
  ZO)
  Qq
def zat : DS :=
  dSeq (dIf (tOr (tNot (tV (Zn YV (Zd (dVar 0) dNil)))) (tOr (tV (d2 fLt (dVar 0) (dC (.int 1)))) (tV (d2 fGt (dVar 0) (dC (.int 4))))))
  dNev
  ZO)
  Qr
def WU : DF := runQ 2 2 zat
def XZ : DS :=
  (dRet (d2 fAdd (d2 fMul (d2 fIx (dVar 0) (d2 fMod (dVar 1) (d1 fLen (dVar 0)))) (dC (.int 31))) (dVar 1)))
def Y3 : DS :=
  dSeq (dIf (tV (d2 fEq (dVar 0) (dLst dNil)))
  (dRet (dC (.int 0)))
  ZO)
  XZ
def XB : DS :=
  dSeq (dIf (tV (d2 fLt (dVar 1) (d1 fLen (dVar 0))))
  (dRet (d2 fIx (dVar 0) (dVar 1)))
  ZO)
  Y3
def Zj : DF := runQ 2 2 XB
def Wg : DS :=
  (dRet (dVar 2))
def Wh : DS :=
  dSeq (dIf (tV (d2 fGt (dVar 2) (dVar 1)))
  (dRet (d2 fSub (d2 fSub (dVar 2) (d2 fMul (dC (.int 2)) (dVar 1))) (dC (.int 1))))
  ZO)
  Wg
def W2 : DS :=
  dSeq (dSet 2 [] (d2 fMod (dVar 0) (d2 fAdd (d2 fMul (dC (.int 2)) (dVar 1)) (dC (.int 1)))))
  Wh
def ZM : DF := runQ 3 2 W2
def UA : DS :=
  (dRet (dTup (Zd (dVar 1) (Zd (dVar 4) dNil))))
def UB : DS :=
  dSeq (dFor (Zi 5) [] (iRng (dVar 2))
  (dSeq (dSet 6 [] (d2 fAdd (dC (.int 8)) (d2 fMul (dVar 5) (d2 fAdd (dVar 1) (dC (.int 1))))))
  (dSeq (dSet 7 [] (dL (YD 1 [0, 6, 3] (Zi 0) (iRng (dVar 1)) tT (Zn ZM (Zd (Zn Zj (Zd (dVar 1) (Zd (d2 fAdd (dVar 2) (dVar 0)) dNil))) (Zd (dVar 3) dNil))))))
  (dSeq (dSet 8 [] (Zn ZM (Zd (Zn Zj (Zd (dVar 0) (Zd (d2 fAdd (dVar 6) (dVar 1)) dNil))) (Zd (dVar 3) dNil))))
  (dSeq (dIf (tV (d2 fEq (d2 fMod (Zn Zj (Zd (dVar 0) (Zd (dC (.int 4)) dNil))) (dC (.int 2))) (dC (.int 1))))
  (dSet 8 [] (d1 fAbs (dVar 8)))
  ZO)
  (dApp 4 [] (dTup (Zd (dVar 7) (Zd (dVar 8) dNil)))))))))
  UA
def W3 : DS :=
  dSeq (WL 4 [] (oLst dNil))
  UB
def Wa : DS :=
  dSeq (dIf (tV (d2 fGt (dVar 3) (dC (.int 9))))
  (dSeq (dSet 1 [] (d2 fAdd (dC (.int 1)) (d2 fMod (dVar 1) (dC (.int 2)))))
  (dSet 2 [] (d2 fMod (dVar 2) (dC (.int 4)))))
  ZO)
  W3
def Xw : DS :=
  dSeq (dIf (tV (d2 fEq (d2 fMod (Zn Zj (Zd (dVar 0) (Zd (dC (.int 3)) dNil))) (dC (.int 6))) (dC (.int 5))))
  (dSeq (dSet 1 [] (dC (.int 4)))
  (dSeq (dSet 2 [] (dC (.int 10)))
  (dSet 3 [] (dC (.int 2)))))
  ZO)
  Wa
def UC : DS :=
  dSeq (dSet 3 [] (d2 fIx (dLst (Zd (dC (.int 3)) (Zd (dC (.int 3)) (Zd (dC (.int 9)) (Zd (d2 fSub (d2 fPow (dC (.int 10)) (dC (.int 12))) (dC (.int 1))) dNil))))) (d2 fMod (Zn Zj (Zd (dVar 0) (Zd (dC (.int 2)) dNil))) (dC (.int 4)))))
  Xw
def UD : DS :=
  dSeq (dSet 2 [] (d2 fMod (Zn Zj (Zd (dVar 0) (Zd (dC (.int 1)) dNil))) (dC (.int 6))))
  UC
def QY : DS :=
  dSeq (dSet 1 [] (d2 fAdd (dC (.int 1)) (d2 fMod (Zn Zj (Zd (dVar 0) (Zd (dC (.int 0)) dNil))) (dC (.int 3)))))
  UD
def XN : DF := runQ 9 1 QY
def UE : DS :=
  (dRet (dL (YD 1 [] (Zi 0) (iSeq (dVar 0)) tT (dTup (Zd (dL (zdu (d2 fIx (dVar 0) (dC (.int 0))))) (Zd (d2 fIx (dVar 0) (dC (.int 1))) dNil))))))
def Xu : DF := runQ 1 1 UE
def Ql : DS :=
  (dRet (dVar 0))
def Qm : DS :=
  dSeq (X2 UQ (tV (d2 fNe (dVar 1) (dC (.int 0))))
  (dSeq (dSet 2 [] (d2 fMod (dVar 0) (dVar 1)))
  (dSeq (dSet 0 [] (dVar 1))
  (dSet 1 [] (dVar 2)))))
  Ql
def Qn : DS :=
  dSeq (dSet 1 [] (d1 fAbs (dVar 1)))
  Qm
def Jz : DS :=
  dSeq (dSet 0 [] (d1 fAbs (dVar 0)))
  Qn
def Yy : DF := runQ 3 2 Jz
def Uy : DS :=
  (dRet (dTup (Zd (d2 fDiv (dVar 0) (dVar 2)) (Zd (d2 fDiv (dVar 1) (dVar 2)) dNil))))
def Uz : DS :=
  dSeq (dIf (tV (d2 fLt (dVar 1) (dC (.int 0))))
  (dSet 2 [] (d1 fNeg (dVar 2)))
  ZO)
  Uy
def QX : DS :=
  dSeq (dSet 2 [] (Zn Yy (Zd (dVar 0) (Zd (dVar 1) dNil))))
  Uz
def YU : DF := runQ 3 2 QX
def zas : DS :=
  (dRet (Zn YU (Zd (d2 fAdd (d2 fMul (d2 fMul (d2 fIx (dVar 0) (dC (.int 0))) (d2 fIx (dVar 1) (dC (.int 1)))) (d2 fIx (dVar 2) (dC (.int 1)))) (d2 fMul (d2 fMul (d2 fIx (dVar 2) (dC (.int 0))) (d2 fIx (dVar 1) (dC (.int 0)))) (d2 fIx (dVar 0) (dC (.int 1))))) (Zd (d2 fMul (d2 fMul (d2 fIx (dVar 0) (dC (.int 1))) (d2 fIx (dVar 1) (dC (.int 1)))) (d2 fIx (dVar 2) (dC (.int 1)))) dNil))))
def Wo : DF := runQ 3 3 zas
def VQ : DS :=
  (dRet (dVar 2))
def VR : DS :=
  dSeq (dFor (Zi 3) [] (iRng (d1 fLen (dVar 1)))
  (dSet 2 [] (Zn Wo (Zd (dVar 2) (Zd (d2 fIx (dVar 1) (dVar 3)) (Zd (dTup (Zd (d2 fIx (dVar 0) (dVar 3)) (Zd (dC (.int 1)) dNil))) dNil))))))
  VQ
def Qh : DS :=
  dSeq (dSet 2 [] (dTup (Zd (dC (.int 0)) (Zd (dC (.int 1)) dNil))))
  VR
def Xi : DF := runQ 4 2 Qh
def zbh : DS :=
  (dRet (d2 fLt (d2 fMul (d2 fIx (dVar 0) (dC (.int 0))) (d2 fIx (dVar 1) (dC (.int 1)))) (d2 fMul (d2 fIx (dVar 1) (dC (.int 0))) (d2 fIx (dVar 0) (dC (.int 1))))))
def Yo : DF := runQ 2 2 zbh
def Qg : DS :=
  (dRet (zek (d1 (fIs isInt) (dVar 0)) (dNotV (d1 (fIs zdR) (dVar 0)))))
def Xh : DF := runQ 1 1 Qg
def XW : DS :=
  (dRet (d2 fEq (Zn Yy (Zd (d2 fIx (dVar 0) (dC (.int 0))) (Zd (d2 fIx (dVar 0) (dC (.int 1))) dNil))) (dC (.int 1))))
def XX : DS :=
  dSeq (dIf (tOr (tNot (tV (Zn Xh (Zd (d2 fIx (dVar 0) (dC (.int 0))) dNil)))) (tOr (tNot (tV (Zn Xh (Zd (d2 fIx (dVar 0) (dC (.int 1))) dNil)))) (tV (d2 fLt (d2 fIx (dVar 0) (dC (.int 1))) (dC (.int 1))))))
  (dRet (dC (.bool false)))
  ZO)
  XW
def Wr : DS :=
  dSeq (dIf (tOr (tNot (tV (d1 (fIs za9) (dVar 0)))) (tV (d2 fNe (d1 fLen (dVar 0)) (dC (.int 2)))))
  (dRet (dC (.bool false)))
  ZO)
  XX
def ZW : DF := runQ 1 1 Wr
end Lw
namespace Lw
open PySem Fx
theorem cd_ok (a b : Int) : YF [.int a, .int b] = .ok (.int (Int.gcd a b)) := by show noX (runF 3 2 dGcd [.int a, .int b]) = _; rw [gcd_ok]; rfl
theorem ld_ok (a b : Int) : Yy [.int a, .int b] = .ok (.int (Int.gcd a b)) := by show noX (runF 3 2 dGcd [.int a, .int b]) = _; rw [gcd_ok]; rfl
theorem zbY {u : Int} {g : Nat} : u.fdiv (g : Int) = u / (g : Int) := Int.fdiv_eq_ediv_of_nonneg _ (Int.natCast_nonneg _)
theorem zdY {u l : Int} {n : Nat} (hl : l ≠ 0) (h2 : l.natAbs < 2 ^ n) (hn : n < 9000) : Uo [.int u, .int l] = .ok (fr (Rat.divInt u l)) := by
 have hg : 0 < Int.gcd u l := Nat.pos_of_ne_zero (by simp [hl])
 have hgl : Int.gcd u l <= l.natAbs := Nat.le_of_dvd (by omega) (Int.gcd_dvd_natAbs_right u l)
 have d1 : QJ (Int.gcd u l : Int) = true := Jw (m := n) (by omega) (by rw [Int.natAbs_natCast]; omega) hn
 have d2 : QJ (-(Int.gcd u l : Int)) = true := Jw (m := n) (by omega) (by rw [Int.natAbs_neg, Int.natAbs_natCast]; omega) hn
 have hd1 : (Int.gcd u l : Int) ∣ u := Int.gcd_dvd_left ..
 have hd2 : (Int.gcd u l : Int) ∣ l := Int.gcd_dvd_right ..
 by_cases c : l < 0
 ·have e1 : u.fdiv (-(Int.gcd u l : Int)) = (Rat.divInt u l).num := by
   rw [Rat.num_divInt, Int.sign_eq_neg_one_of_neg c, Int.gcd_comm l u, Int.neg_one_mul]
   obtain ⟨k, hk⟩ := hd1
   generalize hG : (Int.gcd u l : Int) = G at *
   have hG0 : 0 < G := by omega
   rw [hk, Int.fdiv_eq_ediv_of_dvd ⟨-k, by rw [Int.neg_mul_neg]⟩]
   rw [Int.ediv_neg, <- Int.mul_neg, Int.mul_ediv_cancel_left _ (by omega), Int.mul_ediv_cancel_left _ (by omega)]
  have e2 : l.fdiv (-(Int.gcd u l : Int)) = ((Rat.divInt u l).den : Int) := by
   rw [Rat.den_divInt, if_neg hl, Int.gcd_comm l u]
   obtain ⟨k, hk⟩ := hd2
   have hna : ((l.natAbs / Int.gcd u l : Nat) : Int) = -l / (Int.gcd u l : Int) := by
    rw [Int.natCast_ediv]
    have : (l.natAbs : Int) = -l := by omega
    rw [this]
   rw [hna]
   generalize hG : (Int.gcd u l : Int) = G at *
   have hG0 : 0 < G := by omega
   rw [hk, Int.fdiv_eq_ediv_of_dvd ⟨-k, by rw [Int.neg_mul_neg]⟩]
   rw [Int.ediv_neg, <- Int.mul_neg, Int.mul_ediv_cancel_left _ (by omega), Int.mul_ediv_cancel_left _ (by omega)]
  simp [Uo, runQ, runF, zb8, UP, UO, UN, fEq, cd_ok, hl, c, d2, e1, e2, fr]
 ·have e1 : u.fdiv (Int.gcd u l : Int) = (Rat.divInt u l).num := by
   rw [Rat.num_divInt, Int.sign_eq_one_of_pos (by omega), Int.gcd_comm l u, Int.one_mul, zbY]
  have e2 : l.fdiv (Int.gcd u l : Int) = ((Rat.divInt u l).den : Int) := by
   rw [Rat.den_divInt, if_neg hl, Int.gcd_comm l u, zbY, Int.natCast_ediv]
   have : (l.natAbs : Int) = l := by omega
   rw [this]
  simp [Uo, runQ, runF, zb8, UP, UO, UN, fEq, cd_ok, hl, c, d1, e1, e2, fr]
theorem at0 (x y : PyData) : atP [x, y] 0 = some x := rfl
theorem at1 (x y : PyData) : atP [x, y] 1 = some y := rfl
section
variable {a b : Rat} {m n : Nat}
theorem zcf (ha : Sz m a) (hb : Sz n b) (h : m + n < 8999) : V8 [fr a, fr b] = .ok (.bool (decide (a < b))) := by
 have o1 : XA a.num b.den = true := YE ha.num hb.denI (by omega)
 have o2 : XA b.num a.den = true := YE hb.num ha.denI (by omega)
 simp [V8, runQ, runF, zej, at0, at1, o1, o2, fr, Rat.lt_iff]
end
theorem isfr_ok (q : Rat) : ZW [fr q] = .ok (.bool true) := by
 have w : ∀ i : Int, Xh [.int i] = .ok (.bool true) := fun i => by simp [Xh, runQ, runF, Qg]
 have hd : ¬ ((q.den : Int) < 1) := by have := q.den_nz; omega
 simp [ZW, runQ, runF, Wr, XX, XW, fr, at0, at1, w, ld_ok, hd, fNe, fEq, zba]
theorem at_lt {ns : List Int} {k : Int} (h0 : 0 <= k) (h : k < ns.length) : ∃ c : Int, atP (ns.map .int) k = some (.int c) := by
 have hk : k.toNat < ns.length := by omega
 refine ⟨ns[k.toNat], ?_⟩
 simp [atP, ixP, h0, h, hk]
theorem Vr : ∀ ns : List Int, ZY (.list (ns.map .int)) = true := by
 intro ns
 have h1 : ∀ ns : List Int, PyData.canLayAll0 (ns.map .int) = true := by
  intro ns
  induction ns with
  | nil => simp [PyData.canLayAll0]
  | cons n ns ih => simp [PyData.canLayAll0, PyData.canLay0, ih]
 have h2 : ∀ ns : List Int, PyData.depthAll (ns.map .int) = 0 := by
  intro ns
  induction ns with
  | nil => simp [PyData.depthAll]
  | cons n ns ih => simp [PyData.depthAll, PyData.depth, ih]
 simp [ZY, PyData.canLay0, PyData.depth, h1, h2]
theorem zd8 (ns : List Int) : PyData.eqv (.list (ns.map .int)) (.list []) = ns.isEmpty := by
 cases ns <;> simp [PyData.eqv, PyData.eqvAll]
theorem V3 : ZY (.list []) = true := Vr []
theorem W8 (ns : List Int) (k : Int) (h0 : 0 <= k) : ∃ c : Int, Zj [.list (ns.map .int), .int k] = .ok (.int c) := by
 by_cases h : k < ns.length
 ·obtain ⟨c, e⟩ := at_lt h0 h
  exact ⟨c, by simp [Zj, runQ, runF, XB, Y3, XZ, h, e]⟩
 ·by_cases hz : ns = []
  ·subst hz
   exact ⟨0, by
    have z := V3
    have hk : ¬ k < 0 := by omega
    simp [Zj, runQ, runF, XB, Y3, fEq, z, hk, PyData.eqv, PyData.eqvAll]⟩
  ·have hl : (0 : Int) < ns.length := by
    have : ns.length ≠ 0 := by simpa using hz
    omega
   have hf : Int.fmod k ns.length = k % ns.length := Int.fmod_eq_emod_of_nonneg _ (by omega)
   obtain ⟨c, e⟩ := at_lt (ns := ns) (k := k % ns.length) (Int.emod_nonneg _ (by omega)) (Int.emod_lt_of_pos _ hl)
   have hE : ns.isEmpty = false := by simpa using hz
   have o : XA c 31 = true := mulOk_r (by decide)
   refine ⟨c * 31 + k, ?_⟩
   simp [Zj, runQ, runF, XB, Y3, XZ, h, fEq, Vr, V3, zd8, hE, hz, hf, e, o]
theorem zad (c w : Int) (hw : 0 <= w) (hs : w.natAbs < 2 ^ 67) : ∃ r : Int, ZM [.int c, .int w] = .ok (.int r) /\ -w <= r /\ r <= w := by
 have o : XA 2 w = true := zdx (by decide)
 have hm : 2 * w + 1 ≠ 0 := by omega
 have hf : Int.fmod c (2 * w + 1) = c % (2 * w + 1) := Int.fmod_eq_emod_of_nonneg _ (by omega)
 have h1 : 0 <= c % (2 * w + 1) := Int.emod_nonneg _ hm
 have h2 : c % (2 * w + 1) < 2 * w + 1 := Int.emod_lt_of_pos _ (by omega)
 by_cases h : w < c % (2 * w + 1)
 ·refine ⟨c % (2 * w + 1) - 2 * w - 1, ?_, by omega, by omega⟩
  simp [ZM, runQ, runF, W2, Wh, Wg, o, hm, hf, h]
 ·refine ⟨c % (2 * w + 1), ?_, by omega, by omega⟩
  simp [ZM, runQ, runF, W2, Wh, Wg, o, hm, hf, h]
theorem zbN {u l : Int} {n : Nat} (hl : l ≠ 0) (h2 : l.natAbs < 2 ^ n) (hn : n < 9000) : YU [.int u, .int l] = .ok (fr (Rat.divInt u l)) := by
 have e := zdY (u := u) hl h2 hn
 rw [<- e]
 by_cases c : l < 0 <;> simp [YU, Uo, runQ, runF, QX, Uz, Uy, zb8, UP, UO, UN, fEq, hl, c, cd_ok, ld_ok]
@[simp] def noD : PyData -> Bool
 | .dict _ => false
 | _ => true
theorem whole_ok (t : PyData) (h : noD t = true) : YV [t] = .ok (.bool (match t with | .int _ => true | _ => false)) := by
 cases t <;> simp [YV, runQ, runF, QZ] at h ⊢
theorem JG (i : Int) : YV [.int i] = .ok (.bool true) := whole_ok (.int i) rfl
theorem zdZ (w : Int) : (PyData.tuple [.int w, .int 1]) = fr (w : Rat) := by simp [fr]
theorem fr_zero : (PyData.tuple [.int 0, .int 1]) = fr 0 := by simp [fr]
theorem zah {a b : Rat} {m n : Nat} (ha : Sz m a) (hb : Sz n b) (h : m + n < 8999) : Yo [fr a, fr b] = .ok (.bool (decide (a < b))) := zcf ha hb h
theorem add_ok {a b c : Rat} {m n k : Nat} (ha : Sz m a) (hb : Sz n b) (hc : Sz k c) (h : m + n + k < 8999) : Wo [fr a, fr b, fr c] = .ok (fr (a + c * b)) := by
 have o1 : XA a.num b.den = true := YE ha.num hb.denI (by omega)
 have o2 : XA (a.num * b.den) c.den = true := YE (ZL ha.num hb.denI) hc.denI (by omega)
 have o3 : XA c.num b.num = true := YE hc.num hb.num (by omega)
 have o4 : XA (c.num * b.num) a.den = true := YE (ZL hc.num hb.num) ha.denI (by omega)
 have o5 : XA a.den b.den = true := YE ha.denI hb.denI (by omega)
 have o6 : XA (a.den * b.den) c.den = true := YE (ZL ha.denI hb.denI) hc.denI (by omega)
 have z : (a.den : Int) * b.den * c.den ≠ 0 := Int.mul_ne_zero (Int.mul_ne_zero (WG a) (WG b)) (WG c)
 have e := zbN (u := a.num * b.den * c.den + c.num * b.num * a.den) (n := m + n + k) z (ZL (ZL ha.denI hb.denI) hc.denI) (by omega)
 have q : a + c * b = Rat.divInt (a.num * b.den * c.den + c.num * b.num * a.den) (a.den * b.den * c.den) := by
  have e1 : c * b = Rat.divInt (c.num * b.num) (c.den * b.den) := QO c b
  have e2 : a = Rat.divInt a.num a.den := (Rat.num_divInt_den a).symm
  have e3 := Rat.divInt_add_divInt a.num (c.num * b.num) (WG a) (Int.mul_ne_zero (WG c) (WG b))
  rw [e1]
  conv => lhs; rw [e2]
  rw [e3]
  congr 1
  ·rw [Int.mul_assoc a.num, Int.mul_comm (b.den : Int)]
  ·rw [Int.mul_assoc, Int.mul_comm (b.den : Int)]
 rw [q]
 simp [Wo, runQ, runF, zas, at0, at1, atP, ixP, o1, o2, o3, o4, o5, o6, e, fr]
def dot : List Int -> List Rat -> Rat
 | w :: ws, p :: ps => (w : Rat) * p + dot ws ps
 | _, _ => 0
theorem Jv : ∀ (ws : List Int) (ps : List Rat) (i : Nat) (w : Int) (p : Rat), ws[i]? = some w -> ps[i]? = some p -> dot (ws.take (i + 1)) (ps.take (i + 1)) = dot (ws.take i) (ps.take i) + (w : Rat) * p
 | w :: ws, p :: ps, 0, w', p', h1, h2 => by
  simp at h1 h2; subst h1; subst h2
  simp [dot, Rat.add_comm]
 | w :: ws, p :: ps, i + 1, w', p', h1, h2 => by
  simp at h1 h2
  have ih := Jv ws ps i w' p' h1 h2
  simp only [List.take_succ_cons, dot]
  rw [ih, Rat.add_assoc]
 | [], _, i, w', p', h1, h2 => by simp at h1
 | _ :: _, [], i, w', p', h1, h2 => by simp at h2
structure WP (m n : Nat) (ws : List Int) (ps : List Rat) : Prop where
 w : ∀ x ∈ ws, x.natAbs < 2 ^ m
 p : ∀ x ∈ ps, Sz n x
 m1 : 0 < m
 len : ws.length = ps.length
def wSz (m n i : Nat) : Nat := 1 + i * (m + n + 1)
theorem WP.sz {m n : Nat} {ws : List Int} {ps : List Rat} (h : WP m n ws ps) : ∀ i, i <= ps.length -> Sz (wSz m n i) (dot (ws.take i) (ps.take i))
 | 0, _ => by simpa [dot, wSz] using Sz.zero
 | i + 1, hi => by
  have hw : i < ws.length := by rw [h.len]; exact hi
  have hp : i < ps.length := hi
  rw [Jv ws ps i ws[i] ps[i] (by simp [hw]) (by simp [hp])]
  have s1 := h.sz i (Nat.le_of_succ_le hi)
  have s2 := (Sz.ofInt (h.w _ (List.getElem_mem hw)) h.m1).mul (h.p _ (List.getElem_mem hp))
  have := s1.add s2
  refine this.mono ?_
  simp only [wSz, Nat.succ_mul]; omega
theorem Xn {α : Type} {f : α -> PyData} {xs : List α} {i : Nat} (h : i < xs.length) : atP (xs.map f) (i : Int) = some (f xs[i]) := by
 simp [atP, ixP, h]
theorem wSz_le {m n i j : Nat} (h : i <= j) : wSz m n i <= wSz m n j := by
 unfold wSz
 have := Nat.mul_le_mul_right (m + n + 1) h
 omega
def isSeq (t : PyData) (xs : List PyData) : Prop := t = .list xs \/ t = .tuple xs
def zaE : DS := dSet 2 [] (Zn Wo (Zd (dVar 2) (Zd (d2 fIx (dVar 1) (dVar 3)) (Zd (dTup (Zd (d2 fIx (dVar 0) (dVar 3)) (Zd (dC (.int 1)) dNil))) dNil))))
theorem zch {m n : Nat} {ws : List Int} {ps : List Rat} {t : PyData} (ht : isSeq t (ws.map .int)) (h : WP m n ws ps) (hb : wSz m n ps.length + m + n < 8000) (i : Nat) (hi : i < ps.length) :
  zaE [.val t, .val (.list (ps.map fr)), .val (fr (dot (ws.take i) (ps.take i))), .val (.int i)] = .ok (.nx [.val t, .val (.list (ps.map fr)), .val (fr (dot (ws.take (i + 1)) (ps.take (i + 1)))), .val (.int i)]) := by
 have hw : i < ws.length := by rw [h.len]; exact hi
 have s1 := h.sz i (Nat.le_of_lt hi)
 have s2 := h.p _ (List.getElem_mem hi)
 have s3 := Sz.ofInt (h.w _ (List.getElem_mem hw)) h.m1
 have l1 := wSz_le (m := m) (n := n) (Nat.le_of_lt hi)
 have a := add_ok s1 s2 s3 (by omega)
 have i1 : atP (ps.map fr) (i : Int) = some (fr ps[i]) := Xn hi
 have i2 : atP (ws.map .int) (i : Int) = some (.int ws[i]) := Xn hw
 rw [Jv ws ps i ws[i] ps[i] (by simp [hw]) (by simp [hi])]
 rcases ht with rfl | rfl <;> simp [zaE, i1, i2, zdZ, a]
theorem zci {m n : Nat} {ws : List Int} {ps : List Rat} {t : PyData} (ht : isSeq t (ws.map .int)) (h : WP m n ws ps) (hb : wSz m n ps.length + m + n < 8000) :
  ∃ s, forL (Zi 3) zaE (rngT 0 ps.length) [.val t, .val (.list (ps.map fr)), .val (fr 0), .emp] = .ok (.nx [.val t, .val (.list (ps.map fr)), .val (fr (dot ws ps)), s]) := by
 obtain ⟨G', e, hG⟩ := V7 (st := Zi 3) (b := zaE) (n := ps.length) (G := [.val t, .val (.list (ps.map fr)), .val (fr 0), .emp]) (fun i G => ∃ s, G = [.val t, .val (.list (ps.map fr)), .val (fr (dot (ws.take i) (ps.take i))), s]) ⟨.emp, by simp [dot]⟩ fun i G hi ⟨s, hG⟩ => by
   subst hG
   exact ⟨_, rfl, _, .inl (zch ht h hb i hi), ⟨_, rfl⟩⟩
 obtain ⟨s, rfl⟩ := hG
 have e1 : dot (ws.take ps.length) (ps.take ps.length) = dot ws ps := by rw [List.take_length, <- h.len, List.take_length]
 rw [e1] at e
 exact ⟨s, e⟩
theorem weigh_ok {m n : Nat} {ws : List Int} {ps : List Rat} {t : PyData} (ht : isSeq t (ws.map .int)) (h : WP m n ws ps) (hb : wSz m n ps.length + m + n < 8000) (hl : ps.length < 1000) : Xi [t, .list (ps.map fr)] = .ok (fr (dot ws ps)) := by
 obtain ⟨s, e⟩ := zci ht h hb
 have hl2 := ZZ (n := ps.length) (by omega)
 simp only [zaE] at e
 simp [Xi, runQ, runF, Qh, VR, VQ, fr_zero, hl2, e]
theorem Vz {α β : Type} {f : α -> PyData} {g : β -> PyData} : ∀ (xs : List α) (ys : List β), zipT (xs.map f) (ys.map g) = (xs.zip ys).map fun p => .tuple [f p.1, g p.2]
 | [], ys => by simp [zipT]
 | x :: xs, [] => by simp [zipT]
 | x :: xs, y :: ys => by simp [zipT, Vz xs ys]
end Lw
namespace Lw
open PySem Fx
abbrev Lim := List Int × Int
def limL (l : Lim) : PyData := .tuple [.list (l.1.map .int), .int l.2]
def limT (l : Lim) : PyData := .tuple [.tuple (l.1.map .int), .int l.2]
structure DeskOk (k w : Nat) (ls : List Lim) : Prop where
 k1 : 1 <= k
 k4 : k <= 4
 len : ls.length <= 10
 ws : ∀ l ∈ ls, l.1.length = k /\ (∀ x ∈ l.1, x.natAbs <= w) /\ l.2.natAbs <= w
 small : (k = 4 /\ ls.length = 10 /\ w = 2) \/ (k <= 3 /\ ls.length <= 5 /\ w <= 9) \/ (k <= 2 /\ ls.length <= 3 /\ w = 999999999999)
theorem Um {c : Int} {n : Nat} (h : 0 < n) : ∃ r : Nat, Int.fmod c (n : Int) = (r : Int) /\ r < n := by
 rw [Int.fmod_eq_emod_of_nonneg _ (by omega)]
 have h1 := Int.emod_nonneg c (b := (n : Int)) (by omega)
 have h2 := Int.emod_lt_of_pos c (b := (n : Int)) (by omega)
 exact ⟨(c % n).toNat, by omega, by omega⟩
def zcL : DS := (dSeq (dSet 6 [] (d2 fAdd (dC (.int 8)) (d2 fMul (dVar 5) (d2 fAdd (dVar 1) (dC (.int 1))))))
  (dSeq (dSet 7 [] (dL (YD 1 [0, 6, 3] (Zi 0) (iRng (dVar 1)) tT (Zn ZM (Zd (Zn Zj (Zd (dVar 1) (Zd (d2 fAdd (dVar 2) (dVar 0)) dNil))) (Zd (dVar 3) dNil))))))
  (dSeq (dSet 8 [] (Zn ZM (Zd (Zn Zj (Zd (dVar 0) (Zd (d2 fAdd (dVar 6) (dVar 1)) dNil))) (Zd (dVar 3) dNil))))
  (dSeq (dIf (tV (d2 fEq (d2 fMod (Zn Zj (Zd (dVar 0) (Zd (dC (.int 4)) dNil))) (dC (.int 2))) (dC (.int 1))))
  (dSet 8 [] (d1 fAbs (dVar 8)))
  ZO)
  (dApp 4 [] (dTup (Zd (dVar 7) (Zd (dVar 8) dNil))))))))
theorem zav (ns : List Int) (at_ w : Nat) (hw : w <= 999999999999) : ∀ (ks : List Nat), ∃ rs : List Int, Ym (Zi 0) tT (Zn ZM (Zd (Zn Zj (Zd (dVar 1) (Zd (d2 fAdd (dVar 2) (dVar 0)) dNil))) (Zd (dVar 3) dNil)))
  [.emp, .val (.list (ns.map .int)), .val (.int at_), .val (.int w)] (ks.map fun (k : Nat) => PyData.int (k : Int)) = .ok (rs.map .int) /\ rs.length = ks.length /\ ∀ x ∈ rs, x.natAbs <= w
 | [] => ⟨[], rfl, rfl, by simp⟩
 | k :: ks => by
  obtain ⟨rs, e, hl, hb⟩ := zav ns at_ w hw ks
  obtain ⟨c, e1⟩ := W8 ns ((at_ : Int) + (k : Int)) (by omega)
  obtain ⟨r, e2, h1, h2⟩ := zad c w (by omega) (by omega)
  refine ⟨r :: rs, ?_, by simp [hl], ?_⟩
  ·rw [List.map_cons]
   unfold Ym
   simp [e1, e2, e]
  ·intro x hx
   rcases List.mem_cons.mp hx with rfl | hx
   ·omega
   ·exact hb x hx
theorem zec (ns : List Int) (k many w i : Nat) (hk : 1 <= k /\ k <= 4) (hi : i < 100) (hw : w <= 999999999999) (xs : List PyData) (hx : xs.length < 100) (s6 s7 s8 : Sl) : ∃ (l : Lim) (s6' s7' s8' : Sl), (l.1.length = k /\ (∀ x ∈ l.1, x.natAbs <= w) /\ l.2.natAbs <= w) /\
  zcL [.val (.list (ns.map .int)), .val (.int k), .val (.int many), .val (.int w), .own xs, .val (.int i), s6, s7, s8] = .ok (.nx [.val (.list (ns.map .int)), .val (.int k), .val (.int many), .val (.int w), .own (xs ++ [limL l]), .val (.int i), s6', s7', s8']) := by
 obtain ⟨a, e1'⟩ : ∃ a : Nat, (8 : Int) + (i : Int) * ((k : Int) + 1) = (a : Int) := ⟨8 + i * (k + 1), by simp⟩
 obtain ⟨rs, e1, hl, hb⟩ := zav ns a w hw (List.range k)
 have hk2 := ZZ (n := k) (by omega)
 obtain ⟨c, e2⟩ := W8 ns ((a : Int) + (k : Int)) (by omega)
 obtain ⟨r, e3, h1, h2⟩ := zad c w (by omega) (by omega)
 obtain ⟨c4, e4⟩ := W8 ns 4 (by omega)
 have m1 : XA (i : Int) ((k : Int) + 1) = true := zdx (by omega)
 have hxl : xs.length < 16777216 := by omega
 have hk3 : k <= 16777216 := by omega
 rw [<- VI] at e1
 have e1k : (if (rngT 0 k).length <= 16777216 then Ym (Zi 0) tT (Zn ZM (Zd (Zn Zj (Zd (dVar 1) (Zd (d2 fAdd (dVar 2) (dVar 0)) dNil))) (Zd (dVar 3) dNil)))
  [.emp, .val (.list (ns.map .int)), .val (.int a), .val (.int w)] (rngT 0 k) else .stuck) = .ok (rs.map .int) := by rw [Wx, if_pos hk3, e1]
 have step : ∀ G, zcL [.val (.list (ns.map .int)), .val (.int k), .val (.int many), .val (.int w), .own xs, .val (.int i), s6, s7, s8] = .ok (.nx G) ↔
   (dSeq (dIf (tV (d2 fEq (d2 fMod (Zn Zj (Zd (dVar 0) (Zd (dC (.int 4)) dNil))) (dC (.int 2))) (dC (.int 1)))) (dSet 8 [] (d1 fAbs (dVar 8))) ZO) (dApp 4 [] (dTup (Zd (dVar 7) (Zd (dVar 8) dNil)))))
    [.val (.list (ns.map .int)), .val (.int k), .val (.int many), .val (.int w), .own xs, .val (.int i), .val (.int a), .val (.list (rs.map .int)), .val (.int r)] = .ok (.nx G) := fun G => by
  unfold zcL
  simp only [dSeq, zb9, d2, dC, dVar, Res.bind_ok, dL, YD, iRng, capS, List.map_cons, List.map_nil, Zn, Zd, dNil]
  simp [m1, e1', hk2, e1k, e2, e3]
 by_cases h4 : Int.fmod c4 2 = 1
 ·refine ⟨(rs, (r.natAbs : Int)), .val (.int a), .val (.list (rs.map .int)), .val (.int (r.natAbs : Int)), ⟨by simpa using hl, hb, by simp; omega⟩, (step _).mpr ?_⟩
  have ha : (if r < 0 then -r else r) = (r.natAbs : Int) := abs_if r
  simp [e4, fEq, h4, ha, hxl, limL]
 ·refine ⟨(rs, r), .val (.int a), .val (.list (rs.map .int)), .val (.int r), ⟨by simpa using hl, hb, by omega⟩, (step _).mpr ?_⟩
  simp [e4, fEq, h4, hxl, limL]
theorem zed (ns : List Int) (k many w : Nat) (hk : 1 <= k /\ k <= 4) (hm : many <= 10) (hw : w <= 999999999999) : ∃ (ls : List Lim) (G' : List Sl), ls.length = many /\ (∀ l ∈ ls, l.1.length = k /\ (∀ x ∈ l.1, x.natAbs <= w) /\ l.2.natAbs <= w) /\
  (∃ s5 s6 s7 s8, G' = [.val (.list (ns.map .int)), .val (.int k), .val (.int many), .val (.int w), .own (ls.map limL), s5, s6, s7, s8]) /\
  forL (Zi 5) zcL (rngT 0 many) [.val (.list (ns.map .int)), .val (.int k), .val (.int many), .val (.int w), .own [], .emp, .emp, .emp, .emp] = .ok (.nx G') := by
 obtain ⟨G', e, ls, s5, s6, s7, s8, hl, hb, rfl⟩ := V7 (st := Zi 5) (b := zcL) (n := many) (G := [.val (.list (ns.map .int)), .val (.int k), .val (.int many), .val (.int w), .own [], .emp, .emp, .emp, .emp])
  (fun i G => ∃ (ls : List Lim) (s5 s6 s7 s8 : Sl), ls.length = i /\ (∀ l ∈ ls, l.1.length = k /\ (∀ x ∈ l.1, x.natAbs <= w) /\ l.2.natAbs <= w) /\ G = [.val (.list (ns.map .int)), .val (.int k), .val (.int many), .val (.int w), .own (ls.map limL), s5, s6, s7, s8])
  ⟨[], .emp, .emp, .emp, .emp, rfl, by simp, rfl⟩ fun i G hi ⟨ls, s5, s6, s7, s8, hl, hb, hG⟩ => by
   subst hG
   obtain ⟨l, s6', s7', s8', hlk, e⟩ := zec ns k many w i hk (by omega) hw (ls.map limL) (by rw [List.length_map]; omega) s6 s7 s8
   refine ⟨_, rfl, _, .inl e, ls ++ [l], .val (.int i), s6', s7', s8', by simp [hl], ?_, by simp⟩
   intro l' hl'
   rcases List.mem_append.mp hl' with h | h
   ·exact hb l' h
   ·simp at h; subst h; exact hlk
 exact ⟨ls, _, hl, hb, ⟨s5, s6, s7, s8, rfl⟩, e⟩
theorem at4 {a b c d : PyData} {r : Nat} (h : r < 4) : atP [a, b, c, d] (r : Int) = some (if r = 0 then a else if r = 1 then b else if r = 2 then c else d) := by
 match r, h with
 | 0, _ => rfl
 | 1, _ => rfl
 | 2, _ => rfl
 | 3, _ => rfl
theorem big12' : (10 : Int) ^ 12 = 1000000000000 := by decide
theorem U9 (ns : List Int) (k many w : Nat) (hk : 1 <= k /\ k <= 4) (hm : many <= 10) (hw : w <= 999999999999) (hs : (k = 4 /\ many = 10 /\ w = 2) \/ (k <= 3 /\ many <= 5 /\ w <= 9) \/ (k <= 2 /\ many <= 3 /\ w = 999999999999)) :
  ∃ (ls : List Lim), DeskOk k w ls /\ W3 [.val (.list (ns.map .int)), .val (.int k), .val (.int many), .val (.int w), .emp, .emp, .emp, .emp, .emp] = .ok (.rt (.tuple [.int k, .list (ls.map limL)])) := by
 obtain ⟨ls, G', hl, hb, ⟨s5, s6, s7, s8, rfl⟩, e⟩ := zed ns k many w hk hm hw
 have h2 := ZZ (n := many) (by omega)
 refine ⟨ls, ⟨hk.1, hk.2, by omega, hb, by rw [hl]; exact hs⟩, ?_⟩
 simp only [zcL] at e
 simp [W3, UB, UA, h2, e]
theorem desk_ok (ns : List Int) : ∃ (k w : Nat) (ls : List Lim), DeskOk k w ls /\ XN [.list (ns.map .int)] = .ok (.tuple [.int k, .list (ls.map limL)]) := by
 obtain ⟨c0, e0⟩ := W8 ns 0 (by omega)
 obtain ⟨c1, e1⟩ := W8 ns 1 (by omega)
 obtain ⟨c2, e2⟩ := W8 ns 2 (by omega)
 obtain ⟨c3, e3⟩ := W8 ns 3 (by omega)
 obtain ⟨r0, m0, h0⟩ : ∃ r : Nat, Int.fmod c0 3 = (r : Int) /\ r < 3 := Um (n := 3) (by decide)
 obtain ⟨r1, m1, h1⟩ : ∃ r : Nat, Int.fmod c1 6 = (r : Int) /\ r < 6 := Um (n := 6) (by decide)
 obtain ⟨r2, m2, h2⟩ : ∃ r : Nat, Int.fmod c2 4 = (r : Int) /\ r < 4 := Um (n := 4) (by decide)
 obtain ⟨r3, m3, h3⟩ : ∃ r : Nat, Int.fmod c3 6 = (r : Int) /\ r < 6 := Um (n := 6) (by decide)
 have a4 := at4 (a := .int 3) (b := .int 3) (c := .int 9) (d := .int 999999999999) h2
 obtain ⟨w, aw, hw⟩ : ∃ w : Nat, atP [.int 3, .int 3, .int 9, .int 999999999999] (r2 : Int) = some (.int w) /\ (w <= 9 \/ w = 999999999999) := by
  rw [a4]
  by_cases q0 : r2 = 0
  ·exact ⟨3, by simp [q0], .inl (by decide)⟩
  ·by_cases q1 : r2 = 1
   ·exact ⟨3, by simp [q1], .inl (by decide)⟩
   ·by_cases q2 : r2 = 2
    ·exact ⟨9, by simp [q2], .inl (by decide)⟩
    ·exact ⟨999999999999, by simp [q0, q1, q2], .inr rfl⟩
 -- the three ways
 have top : ∀ (G : List Sl) (t : PyData), Xw [.val (.list (ns.map .int)), .val (.int (1 + (r0 : Int))), .val (.int r1), .val (.int w), .emp, .emp, .emp, .emp, .emp] = .ok (.rt t) -> XN [.list (ns.map .int)] = .ok t := fun _ t h => by
  simp [XN, runQ, runF, QY, UD, UC, e0, e1, e2, m0, m1, m2, big12', aw, h]
 by_cases h35 : r3 = 5
 ·obtain ⟨ls, ok, e⟩ := U9 ns 4 10 2 (by decide) (by decide) (by decide) (.inl (by decide))
  refine ⟨_, _, ls, ok, top [] _ ?_⟩
  simp [Xw, Wa, e3, m3, h35, fEq]
  exact e
 ·have h35' : ¬ ((r3 : Int) = 5) := by omega
  rcases hw with hw | hw
  ·obtain ⟨ls, ok, e⟩ := U9 ns (1 + r0) r1 w (by omega) (by omega) (by omega) (.inr (.inl (by omega)))
   refine ⟨_, _, ls, ok, top [] _ ?_⟩
   have hw9 : ¬ (9 < (w : Int)) := by omega
   simp [Xw, Wa, e3, m3, h35', fEq, hw9]
   exact e
  ·obtain ⟨rk, mk, hk⟩ : ∃ r : Nat, Int.fmod (1 + (r0 : Int)) 2 = (r : Int) /\ r < 2 := Um (n := 2) (by decide)
   obtain ⟨rm, mm, hm⟩ : ∃ r : Nat, Int.fmod (r1 : Int) 4 = (r : Int) /\ r < 4 := Um (n := 4) (by decide)
   obtain ⟨ls, ok, e⟩ := U9 ns (1 + rk) rm w (by omega) (by omega) (by omega) (.inr (.inr (by omega)))
   refine ⟨_, _, ls, ok, top [] _ ?_⟩
   have hw9 : 9 < (w : Int) := by omega
   simp [Xw, Wa, e3, m3, h35', fEq, hw9, mk, mm]
   exact e
end Lw
namespace Lw
open PySem Fx
theorem zen (ls : List Lim) (h : ls.length <= 1000) : Xu [.list (ls.map limL)] = .ok (.list (ls.map limL)) := by
 have e := Z3 (st := Zi 0) (e := (dTup (Zd (dL (zdu (d2 fIx (dVar 0) (dC (.int 0))))) (Zd (d2 fIx (dVar 0) (dC (.int 1))) dNil)))) (C := [.emp]) limL limL ls fun l _ => ⟨[.val (limL l)], rfl, by simp [limL, at0, at1]⟩
 have hl : ls.length <= 16777216 := by omega
 simp [Xu, runQ, runF, UE, hl, e]
theorem zbS {i : Int} (h : i.natAbs <= 999999999999) : YK [.int i] = .ok (.bool true) := by
 have : (if i < 0 then -i else i) <= 999999999999 := by split <;> omega
 simp [YK, runQ, runF, Qp, JG, this]
theorem zaI {α : Type} : ∀ (xs : List α), allT (xs.map fun _ => PyData.bool true) = .ok true
 | [] => rfl
 | _ :: xs => by simp [allT, zaI xs]
structure LimOk (k w : Nat) (l : Lim) : Prop where
 len : l.1.length = k
 ws : ∀ x ∈ l.1, x.natAbs <= w
 bd : l.2.natAbs <= w
theorem limit_ok {k w : Nat} {l : Lim} (h : LimOk k w l) (hw : w <= 999999999999) (hk : k <= 1000) : XM [.int k, limL l] = .ok (limT l) := by
 have e := Z3 (st := Zi 0) (e := (Zn YK (Zd (dVar 0) dNil))) (C := [.emp]) PyData.int (fun _ => PyData.bool true) l.1 fun x hx => ⟨[.val (.int x)], rfl, by simp [zbS (Nat.le_trans (h.ws x hx) hw)]⟩
 have hl : l.1.length <= 16777216 := by rw [h.len]; omega
 have hb := zbS (Nat.le_trans h.bd hw)
 have a := zaI l.1
 obtain rfl := h.len
 simp [XM, runQ, runF, QW, Ux, Uw, Uv, Uu, Ut, Us, limL, limT, at0, at1, fNe, hl, e, hb, a]
theorem DeskOk.wb {k w : Nat} {ls : List Lim} (h : DeskOk k w ls) : w <= 999999999999 := by rcases h.small with h | h | h <;> omega
theorem zcG {k w : Nat} {ls : List Lim} (h : ∀ l ∈ ls, LimOk k w l) (hw : w <= 999999999999) (hk : 1 <= k /\ k <= 4) (hl : ls.length <= 10) : WU [.int k, .list (ls.map limL)] = .ok (.tuple [.int k, .tuple (ls.map limT)]) := by
 have e := Z3 (st := Zi 0) (e := (Zn XM (Zd (dVar 1) (Zd (dVar 0) dNil)))) (C := [.emp, .val (.int k)]) limL limT ls fun l hm => ⟨[.val (limL l), .val (.int k)], rfl, by simp [limit_ok (h l hm) hw (by omega)]⟩
 have h1 : ¬ ((k : Int) < 1) := by omega
 have h2 : ¬ (4 < (k : Int)) := by omega
 have h3 : ¬ (10 < (ls.length : Int)) := by omega
 have h4 : ls.length <= 16777216 := by omega
 simp [WU, runQ, runF, zat, Qr, Qq, JG, h1, h2, h3, h4, e]
end Lw
namespace Fx
open PySem PySem.Spec PyProof.Rows L2
def LD (o : HO) : Prop := (∃ vs, o = .lst vs) \/ ∃ kvs, o = .dT kvs
def CO (c : Addr) (q : Str) : HO := .ext fun h => ∃ oc vs t, h.get? c = some oc /\ oc.data = .fields vs /\ vs[1]? = some (.str q t)
def lamNames : List Str := ["raising_column"]
def lamQ (x : Str) : Str := x ++ ".<locals>." ++ "<lambda>"
def Vg (K : PySem.W.Frag) (H : Hp) : Prop := ∀ x c T, x ∈ lamNames -> PySem.W.tabIn K x = some (c, T) ->
 ∃ ps, H T = some (.tbl ps) /\ TriplesOk ps.toList /\ ∀ pos cv, codeAmong pos ps.toList = some cv -> ∃ c', cv = .ref c' /\ H c' = some (CO c' (lamQ x))
def Nt (o : HO) : Prop := ∀ ps, o ≠ .tbl ps
theorem not_nt {o : HO} (h : ¬ Nt o) : ∃ ps, o = .tbl ps := Classical.byContradiction fun z => h fun ps e => z ⟨ps, e⟩
theorem Ul {xs : List V} : Nt (.lst xs) := fun _ z => by cases z
theorem nt_tup {xs : List V} : Nt (.tup xs) := fun _ z => by cases z
theorem nt_ins {C dx : Addr} {fs : List (Str × V)} : Nt (.ins C dx fs) := fun _ z => by cases z
theorem zbJ {o : Obj} {u : HO} : Nt (.frz o u) := fun _ z => by cases z
theorem nt_ext {φ : Heap -> Prop} : Nt (.ext φ) := fun _ z => by cases z
theorem nt_dT {kvs : List (List Key × V)} : Nt (.dT kvs) := fun _ z => by cases z
theorem LD.nt {o : HO} (h : LD o) : Nt o := by rcases h with ⟨_, rfl⟩ | ⟨_, rfl⟩ <;> exact fun _ z => by cases z
structure Same (H H' : Hp) : Prop where
 kp : ∀ b o, H b = some o -> Nt o -> H' b = some o
 free : ∀ {b}, H' b = none -> H b = none
 tab : ∀ K, Vg K H -> Vg K H'
 tbk : ∀ b ps, H b = some (.tbl ps) -> ∃ qs, H' b = some (.tbl qs)
theorem Same.refl (H : Hp) : Same H H := ⟨fun _ _ h _ => h, fun h => h, fun _ h => h, fun _ ps h => ⟨ps, h⟩⟩
theorem Same.trans {H H1 H2 : Hp} (a : Same H H1) (b : Same H1 H2) : Same H H2 := ⟨fun c o h n => b.kp c o (a.kp c o h n) n, fun h => a.free (b.free h), fun K h => b.tab K (a.tab K h), fun c ps h => let ⟨qs, h1⟩ := a.tbk c ps h; b.tbk c qs h1⟩
theorem Vg.mono {K : PySem.W.Frag} {H H' : Hp} (h : Vg K H) (e : ∀ b o, H b = some o -> ¬ LD o -> H' b = some o) : Vg K H' := fun x c T hx ht => by
 obtain ⟨ps, h1, h2, h3⟩ := h x c T hx ht
 refine ⟨ps, e _ _ h1 (fun z => by rcases z with ⟨_, z⟩ | ⟨_, z⟩ <;> cases z), h2, fun pos cv hc => ?_⟩
 obtain ⟨c', e1, e2⟩ := h3 pos cv hc
 exact ⟨c', e1, e _ _ e2 (fun z => by rcases z with ⟨_, z⟩ | ⟨_, z⟩ <;> cases z)⟩
theorem Same.of {H H' : Hp} (e : ∀ b o, H b = some o -> H' b = some o) : Same H H' where
 kp := fun b o h _ => e b o h
 free := fun {b} h => by
  cases q : H b with
  | none => rfl
  | some o => rw [e b o q] at h; cases h
 tab := fun K h => Vg.mono h fun b o q _ => e b o q
 tbk := fun b ps h => ⟨ps, e b _ h⟩
structure Pv where
 own : Nat -> Option Addr
 fb : Addr -> Prop
def Off (P : Pv) (a : Addr) : Prop := (∀ i, P.own i ≠ some a) /\ ¬ P.fb a
def Tr (H : Hp) (P : Pv) (H' : Hp) (P' : Pv) : Prop := ∀ a o, H a = some o -> Nt o -> Off P a -> H' a = some o /\ Off P' a
theorem Tr.refl (H : Hp) (P : Pv) : Tr H P H P := fun _ _ h _ o => ⟨h, o⟩
theorem Tr.same {H H' : Hp} {P : Pv} (e : Same H H') : Tr H P H' P := fun a o h n q => ⟨e.kp a o h n, q⟩
structure Go (H : Hp) (P : Pv) (H' : Hp) (P' : Pv) : Prop where
 mv : ∀ a o, H a = some o -> Nt o -> (∀ i, P.own i ≠ some a) -> H' a = some o /\ ∀ i, P'.own i ≠ some a
 fbe : P'.fb = P.fb
 free : ∀ {b}, H' b = none -> H b = none
 tab : ∀ K, Vg K H -> Vg K H'
 tbk : ∀ b ps, H b = some (.tbl ps) -> ∃ qs, H' b = some (.tbl qs)
theorem Go.refl (H : Hp) (P : Pv) : Go H P H P := ⟨fun _ _ h _ o => ⟨h, o⟩, rfl, fun h => h, fun _ h => h, fun _ ps h => ⟨ps, h⟩⟩
theorem Go.trans {H H1 H2 : Hp} {P P1 P2 : Pv} (a : Go H P H1 P1) (b : Go H1 P1 H2 P2) : Go H P H2 P2 := ⟨fun c o h n q =>
 let ⟨h1, q1⟩ := a.mv c o h n q
 b.mv c o h1 n q1, b.fbe.trans a.fbe, fun h => a.free (b.free h), fun K h => b.tab K (a.tab K h), fun c ps h => let ⟨qs, h1⟩ := a.tbk c ps h; b.tbk c qs h1⟩
theorem Go.same {H H' : Hp} {P : Pv} (e : Same H H') : Go H P H' P := ⟨fun a o h n q => ⟨e.kp a o h n, q⟩, rfl, fun h => e.free h, e.tab, e.tbk⟩
theorem Go.tr {H H' : Hp} {P P' : Pv} (g : Go H P H' P') : Tr H P H' P' := fun a o h n q => ⟨(g.mv a o h n q.1).1, (g.mv a o h n q.1).2, by rw [g.fbe]; exact q.2⟩
theorem Go.all {H H' : Hp} {P P' : Pv} (g : Go H P H' P') (ho : ∀ i, P.own i = none) : Same H H' := ⟨fun b o e n => (g.mv b o e n fun i => by rw [ho i]; exact fun z => by cases z).1, fun h => g.free h, g.tab, g.tbk⟩
def ModL (K : PySem.W.Frag) (a : Addr) (xs : List V) : Prop :=
 ∃ (o : Obj) (its : Array Value) (n : Nat), K.lookup a = some o /\ o.cls = .type "list" /\ o.dict = none /\ o.data = .seq its n /\ its.size <= sizeLine /\ Vals xs its.toList
def SL (K : PySem.W.Frag) (H : Hp) (P : Pv) (a : Addr) (xs : List V) : Prop := (Rd H a (.lst xs) /\ Off P a) \/ ModL K a xs
def ST (K : PySem.W.Frag) (H : Hp) (P : Pv) (a : Addr) (xs : List V) : Prop := H a = some (.tup xs) /\ Off P a
theorem SL.sq {K : PySem.W.Frag} {H : Hp} {P : Pv} {a : Addr} {xs : List V} (h : SL K H P a xs) : SqL K H a xs := by
 rcases h with ⟨h, _⟩ | h
 ·exact .inl h
 ·exact .inr h
theorem ST.sq {K : PySem.W.Frag} {H : Hp} {P : Pv} {a : Addr} {xs : List V} (h : ST K H P a xs) : SqT K H a xs := .inl (.inl h.1)
theorem Rd.go {H H' : Hp} {P P' : Pv} {a : Addr} {u : HO} (g : Tr H P H' P') (n : Nt u) (h : Rd H a u) (o : Off P a) : Rd H' a u /\ Off P' a := by
 rcases h with h | ⟨ob, h⟩
 ·exact ⟨.inl (g _ _ h n o).1, (g _ _ h n o).2⟩
 ·exact ⟨.inr ⟨ob, (g _ _ h zbJ o).1⟩, (g _ _ h zbJ o).2⟩
theorem SL.go {K : PySem.W.Frag} {H H' : Hp} {P P' : Pv} {a : Addr} {xs : List V} (g : Tr H P H' P') (h : SL K H P a xs) : SL K H' P' a xs := by
 rcases h with ⟨h, o⟩ | h
 ·exact .inl (Fx.Rd.go g Ul h o)
 ·exact .inr h
theorem ST.go {K : PySem.W.Frag} {H H' : Hp} {P P' : Pv} {a : Addr} {xs : List V} (g : Tr H P H' P') (h : ST K H P a xs) : ST K H' P' a xs := g _ _ h.1 nt_tup h.2
def XO (K : PySem.W.Frag) (a : Addr) : HO := .ext fun h => ∃ ob C, h.get? a = some ob /\ ob.cls = .ref C /\ PySem.W.subIn K (.ref C) (.type "ValueError") = some true
mutual
def Rl (K : PySem.W.Frag) (H : Hp) (P : Pv) : PyData -> V -> Prop
 | .none, v => v = .non
 | .bool b, v => v = .bl b
 | .int i, v => v = .int i
 | .str x, v => v = .str x
 | .list xs, v => ∃ a vs, v = .ref a /\ SL K H P a vs /\ Rls K H P xs vs
 | .tuple xs, v => ∃ a vs, v = .ref a /\ ST K H P a vs /\ Rls K H P xs vs
 | .dict xs, v => (xs = [] /\ ∃ a, v = .ref a /\ H a = some (XO K a) /\ Off P a) \/ (xs ≠ [] /\ ∃ a C dx fs, v = .ref a /\ H a = some (.ins C dx fs) /\ Off P a /\ Cls K C /\ Rlp K H P C xs fs) \/
   ∃ a ob kvs, v = .ref a /\ H a = some (.frz ob (.dT kvs)) /\ Off P a /\ Rld K H P xs kvs
def Rls (K : PySem.W.Frag) (H : Hp) (P : Pv) : List PyData -> List V -> Prop
 | [], vs => vs = []
 | x :: xs, vs => ∃ v r, vs = v :: r /\ Rl K H P x v /\ Rls K H P xs r
def Rlp (K : PySem.W.Frag) (H : Hp) (P : Pv) (C : Addr) : List (PyData × PyData) -> List (Str × V) -> Prop
 | [], fs => fs = []
 | (k, t) :: xs, fs => ∃ n v r, fs = (n, v) :: r /\ k = .str n /\ Wb K C n /\ Rl K H P t v /\ Rlp K H P C xs r
def Rld (K : PySem.W.Frag) (H : Hp) (P : Pv) : List (PyData × PyData) -> List (List Key × V) -> Prop
 | [], _ => False
 | (k, t) :: xs, kvs => k = .none /\ t = .none /\ Rlk K H P xs kvs
def Rlk (K : PySem.W.Frag) (H : Hp) (P : Pv) : List (PyData × PyData) -> List (List Key × V) -> Prop
 | [], kvs => kvs = []
 | (k, t) :: xs, kvs => ∃ ns v r, kvs = (List.map Sum.inl ns, v) :: r /\ k = .tuple (List.map .int ns) /\ Rl K H P t v /\ Rlk K H P xs r
end
mutual
theorem Rl.go {K : PySem.W.Frag} {H H' : Hp} {P P' : Pv} (g : Tr H P H' P') : ∀ (t : PyData) (v : V), Rl K H P t v -> Rl K H' P' t v
 | .none, v, h => by simpa only [Rl] using h
 | .bool b, v, h => by simpa only [Rl] using h
 | .int i, v, h => by simpa only [Rl] using h
 | .str x, v, h => by simpa only [Rl] using h
 | .list xs, v, h => by
  simp only [Rl] at h ⊢
  obtain ⟨a, vs, e, s, r⟩ := h
  exact ⟨a, vs, e, s.go g, Rls.go g xs vs r⟩
 | .tuple xs, v, h => by
  simp only [Rl] at h ⊢
  obtain ⟨a, vs, e, s, r⟩ := h
  exact ⟨a, vs, e, s.go g, Rls.go g xs vs r⟩
 | .dict xs, v, h => by
  simp only [Rl] at h ⊢
  rcases h with ⟨e, a, e2, s, o⟩ | ⟨e, a, C, dx, fs, e2, s, o, c, r⟩ | ⟨a, ob, kvs, e2, s, o, r⟩
  ·exact .inl ⟨e, a, e2, g a _ s nt_ext o⟩
  ·exact .inr (.inl ⟨e, a, C, dx, fs, e2, (g a _ s nt_ins o).1, (g a _ s nt_ins o).2, c, Rlp.go g xs fs r⟩)
  ·exact .inr (.inr ⟨a, ob, kvs, e2, (g a _ s zbJ o).1, (g a _ s zbJ o).2, Rld.go g xs kvs r⟩)
theorem Rls.go {K : PySem.W.Frag} {H H' : Hp} {P P' : Pv} (g : Tr H P H' P') : ∀ (ts : List PyData) (vs : List V), Rls K H P ts vs -> Rls K H' P' ts vs
 | [], vs, h => by simpa only [Rls] using h
 | x :: xs, vs, h => by
  simp only [Rls] at h ⊢
  obtain ⟨v, r, e, q, t⟩ := h
  exact ⟨v, r, e, Rl.go g x v q, Rls.go g xs r t⟩
theorem Rlp.go {K : PySem.W.Frag} {H H' : Hp} {P P' : Pv} {C : Addr} (g : Tr H P H' P') : ∀ (ts : List (PyData × PyData)) (fs : List (Str × V)), Rlp K H P C ts fs -> Rlp K H' P' C ts fs
 | [], vs, h => by simpa only [Rlp] using h
 | (k, t) :: xs, vs, h => by
  simp only [Rlp] at h ⊢
  obtain ⟨n, v, r, e, e2, na, q, z⟩ := h
  exact ⟨n, v, r, e, e2, na, Rl.go g t v q, Rlp.go g xs r z⟩
theorem Rld.go {K : PySem.W.Frag} {H H' : Hp} {P P' : Pv} (g : Tr H P H' P') : ∀ (ts : List (PyData × PyData)) (kvs : List (List Key × V)), Rld K H P ts kvs -> Rld K H' P' ts kvs
 | [], kvs, h => by simp only [Rld] at h
 | (k, t) :: xs, kvs, h => by
  simp only [Rld] at h ⊢
  exact ⟨h.1, h.2.1, Rlk.go g xs kvs h.2.2⟩
theorem Rlk.go {K : PySem.W.Frag} {H H' : Hp} {P P' : Pv} (g : Tr H P H' P') : ∀ (ts : List (PyData × PyData)) (kvs : List (List Key × V)), Rlk K H P ts kvs -> Rlk K H' P' ts kvs
 | [], kvs, h => by simpa only [Rlk] using h
 | (k, t) :: xs, kvs, h => by
  simp only [Rlk] at h ⊢
  obtain ⟨ns, v, r, e, e2, q, z⟩ := h
  exact ⟨ns, v, r, e, e2, Rl.go g t v q, Rlk.go g xs r z⟩
end
section
variable {K : PySem.W.Frag} {H H' : Hp} {P P' : Pv}
theorem Wd {v : V} : Rl K H P .none v ↔ v = .non := by simp only [Rl]
theorem YG {b : Bool} {v : V} : Rl K H P (.bool b) v ↔ v = .bl b := by simp only [Rl]
theorem Zx {i : Int} {v : V} : Rl K H P (.int i) v ↔ v = .int i := by simp only [Rl]
theorem QN {x : Str} {v : V} : Rl K H P (.str x) v ↔ v = .str x := by simp only [Rl]
theorem ZR {xs : List PyData} {v : V} : Rl K H P (.list xs) v ↔ ∃ a vs, v = .ref a /\ SL K H P a vs /\ Rls K H P xs vs := by simp only [Rl]
theorem ZK {xs : List PyData} {v : V} : Rl K H P (.tuple xs) v ↔ ∃ a vs, v = .ref a /\ ST K H P a vs /\ Rls K H P xs vs := by simp only [Rl]
theorem zaS {xs : List (PyData × PyData)} {v : V} : Rl K H P (.dict xs) v ↔ (xs = [] /\ ∃ a, v = .ref a /\ H a = some (XO K a) /\ Off P a) \/ (xs ≠ [] /\ ∃ a C dx fs, v = .ref a /\ H a = some (.ins C dx fs) /\ Off P a /\ Cls K C /\ Rlp K H P C xs fs) \/ ∃ a ob kvs, v = .ref a /\ H a = some (.frz ob (.dT kvs)) /\ Off P a /\ Rld K H P xs kvs := by simp only [Rl]
theorem rld_cons {k t : PyData} {xs : List (PyData × PyData)} {kvs : List (List Key × V)} : Rld K H P ((k, t) :: xs) kvs ↔ k = .none /\ t = .none /\ Rlk K H P xs kvs := by simp only [Rld]
theorem rl_obj {n : Str} {t : PyData} {xs : List (PyData × PyData)} {v : V} : Rl K H P (.dict ((.str n, t) :: xs)) v ↔ ∃ a C dx fs, v = .ref a /\ H a = some (.ins C dx fs) /\ Off P a /\ Cls K C /\ Rlp K H P C ((.str n, t) :: xs) fs := by
 rw [zaS]
 refine ⟨fun h => ?_, fun h => .inr (.inl ⟨by simp, h⟩)⟩
 rcases h with ⟨z, _⟩ | ⟨_, h⟩ | ⟨a, ob, kvs, _, _, _, r⟩
 ·cases z
 ·exact h
 ·cases (rld_cons.mp r).1
theorem zdc {C : Addr} {fs : List (Str × V)} : Rlp K H P C [] fs ↔ fs = [] := by simp only [Rlp]
theorem zbF {C : Addr} {k t : PyData} {xs : List (PyData × PyData)} {fs : List (Str × V)} : Rlp K H P C ((k, t) :: xs) fs ↔ ∃ n v r, fs = (n, v) :: r /\ k = .str n /\ Wb K C n /\ Rl K H P t v /\ Rlp K H P C xs r := by simp only [Rlp]
theorem ZG {vs : List V} : Rls K H P [] vs ↔ vs = [] := by simp only [Rls]
theorem Zr {x : PyData} {xs : List PyData} {vs : List V} : Rls K H P (x :: xs) vs ↔ ∃ v r, vs = v :: r /\ Rl K H P x v /\ Rls K H P xs r := by simp only [Rls]
theorem Rls.length : ∀ {ts : List PyData} {vs : List V}, Rls K H P ts vs -> ts.length = vs.length
 | [], vs, h => by rw [ZG.mp h]; rfl
 | t :: ts, vs, h => by
  obtain ⟨v, r, rfl, _, q⟩ := Zr.mp h
  simp only [List.length_cons, Rls.length q]
theorem Rls.getT : ∀ {ts : List PyData} {vs : List V} {i : Nat} {t : PyData}, Rls K H P ts vs -> ts[i]? = some t -> ∃ v, vs[i]? = some v /\ Rl K H P t v
 | [], vs, i, v, h, e => by simp at e
 | t :: ts, vs, 0, t', h, e => by
  obtain ⟨v', r, rfl, q, _⟩ := Zr.mp h
  simp at e; subst e
  exact ⟨v', rfl, q⟩
 | t :: ts, vs, i + 1, t', h, e => by
  obtain ⟨v', r, rfl, _, q⟩ := Zr.mp h
  exact Rls.getT (i := i) q (by simpa using e)
theorem Rls.append : ∀ {ts us : List PyData} {vs ws : List V}, Rls K H P ts vs -> Rls K H P us ws -> Rls K H P (ts ++ us) (vs ++ ws)
 | [], us, vs, ws, h, q => by rw [ZG.mp h]; exact q
 | t :: ts, us, vs, ws, h, q => by
  obtain ⟨v, r, rfl, a, b⟩ := Zr.mp h
  exact Zr.mpr ⟨v, r ++ ws, rfl, a, Rls.append b q⟩
theorem Rls.set : ∀ {ts : List PyData} {vs : List V} {t : PyData} {v : V} (i : Nat), Rls K H P ts vs -> Rl K H P t v -> Rls K H P (ts.set i t) (vs.set i v)
 | [], vs, t, v, i, h, q => by rw [ZG.mp h]; exact ZG.mpr rfl
 | t' :: ts, vs, t, v, 0, h, q => by
  obtain ⟨v', r, rfl, a, b⟩ := Zr.mp h
  exact Zr.mpr ⟨v, r, rfl, q, b⟩
 | t' :: ts, vs, t, v, i + 1, h, q => by
  obtain ⟨v', r, rfl, a, b⟩ := Zr.mp h
  exact Zr.mpr ⟨v', r.set i v, rfl, a, Rls.set i b q⟩
theorem Rls.drop : ∀ {ts : List PyData} {vs : List V} (n : Nat), Rls K H P ts vs -> Rls K H P (ts.drop n) (vs.drop n)
 | ts, vs, 0, h => h
 | [], vs, n + 1, h => by rw [ZG.mp h]; exact ZG.mpr rfl
 | t :: ts, vs, n + 1, h => by
  obtain ⟨v', r, rfl, a, b⟩ := Zr.mp h
  exact Rls.drop n b
theorem Rls.take : ∀ {ts : List PyData} {vs : List V} (n : Nat), Rls K H P ts vs -> Rls K H P (ts.take n) (vs.take n)
 | ts, vs, 0, h => ZG.mpr rfl
 | [], vs, n + 1, h => by rw [ZG.mp h]; exact ZG.mpr rfl
 | t :: ts, vs, n + 1, h => by
  obtain ⟨v', r, rfl, a, b⟩ := Zr.mp h
  exact Zr.mpr ⟨v', r.take n, rfl, a, Rls.take n b⟩
theorem rls_ints (ns : List Int) : Rls K H P (ns.map .int) (ns.map V.int) := by
 induction ns with
 | nil => exact ZG.mpr rfl
 | cons n ns ih => exact Zr.mpr ⟨.int n, _, rfl, Zx.mpr rfl, ih⟩
end
def SlOk (K : PySem.W.Frag) (H : Hp) (P : Pv) (i : Nat) (x : Option V) : Sl -> Prop
 | .emp => True
 | .val t => ∃ v, x = some v /\ Rl K H P t v
 | .own xs => ∃ p vs, x = some (.ref p) /\ P.own i = some p /\ H p = some (.lst vs) /\ Rls K H P xs vs
 | .dct es => ∃ p kvs, x = some (.ref p) /\ P.own i = some p /\ H p = some (.dT kvs) /\ Rlk K H P es kvs
def Sl.mine : Sl -> Prop
 | .own _ | .dct _ => True
 | _ => False
structure Hol (K : PySem.W.Frag) (H : Hp) (P : Pv) (σ : L2.St) (G : List Sl) : Prop where
 sl : ∀ i s, G[i]? = some s -> SlOk K H P i (σ.getD i none) s
 inj : ∀ i j a, P.own i = some a -> P.own j = some a -> i = j
 only : ∀ i a, P.own i = some a -> ∃ s, G[i]? = some s /\ s.mine
 fbd : ∀ a, P.fb a -> ∃ o, H a = some o /\ LD o
 nfb : ∀ i a, P.own i = some a -> ¬ P.fb a
 len : σ.length = G.length
 tab : Vg K H
theorem getD_some {σ : L2.St} {i : Nat} {v : V} (h : σ.getD i none = some v) : σ[i]? = some (some v) := by
 rw [List.getD_eq_getElem?_getD] at h
 cases e : σ[i]? with
 | none => rw [e] at h; cases h
 | some x => rw [e] at h; simp at h; rw [h]
section
variable {K : PySem.W.Frag} {H H' : Hp} {P P' : Pv} {σ : L2.St} {G : List Sl}
theorem Hol.dom (h : Hol K H P σ G) {i : Nat} {a : Addr} (e : P.own i = some a) : ∃ o, H a = some o /\ LD o := by
 obtain ⟨s, q, m⟩ := h.only i a e
 have z := h.sl i _ q
 cases s with
 | emp => exact m.elim
 | val t => exact m.elim
 | own xs =>
  obtain ⟨p, vs, _, e', q', _⟩ := z
  rw [e] at e'; cases e'
  exact ⟨_, q', .inl ⟨vs, rfl⟩⟩
 | dct es =>
  obtain ⟨p, vs, _, e', q', _⟩ := z
  rw [e] at e'; cases e'
  exact ⟨_, q', .inr ⟨vs, rfl⟩⟩
theorem Hol.nofb (h : Hol K H P σ G) {p : Addr} (e : H p = none) : ¬ P.fb p := fun z => by obtain ⟨o, q, _⟩ := h.fbd p z; rw [e] at q; cases q
theorem Hol.off_new (h : Hol K H P σ G) {p : Addr} (e : H p = none) : Off P p := by
 refine ⟨fun i z => ?_, h.nofb e⟩
 obtain ⟨vs, q, _⟩ := h.dom z
 rw [e] at q
 cases q
theorem Hol.ld (h : Hol K H P σ G) {a : Addr} (z : ¬ Off P a) : ∃ o, H a = some o /\ LD o := by
 by_cases q : ∃ i, P.own i = some a
 ·obtain ⟨i, q⟩ := q; exact h.dom q
 ·by_cases w : P.fb a
  ·exact h.fbd a w
  ·exact (z ⟨fun i e => q ⟨i, e⟩, w⟩).elim
theorem Hol.same (h : Hol K H P σ G) (e : Same H H') : Hol K H' P σ G where
 sl := fun i s q => by
  have z := h.sl i s q
  cases s with
  | emp => trivial
  | val t => obtain ⟨v, e1, r⟩ := z; exact ⟨v, e1, Rl.go (.same e) t v r⟩
  | own xs => obtain ⟨p, vs, e1, e2, e3, r⟩ := z; exact ⟨p, vs, e1, e2, e.kp _ _ e3 Ul, Rls.go (.same e) xs vs r⟩
  | dct es => obtain ⟨p, vs, e1, e2, e3, r⟩ := z; exact ⟨p, vs, e1, e2, e.kp _ _ e3 nt_dT, Rlk.go (.same e) es vs r⟩
 inj := h.inj
 only := h.only
 fbd := fun a z => let ⟨o, q, m⟩ := h.fbd a z; ⟨o, e.kp _ _ q m.nt, m⟩
 nfb := h.nfb
 len := h.len
 tab := e.tab K h.tab
def Pv.del (P : Pv) (i : Nat) : Pv := ⟨fun j => if j = i then none else P.own j, P.fb⟩
def Pv.put (P : Pv) (i : Nat) (p : Addr) : Pv := ⟨fun j => if j = i then some p else P.own j, P.fb⟩
theorem Tr.del {i : Nat} : Tr H P H (P.del i) := fun a o h _ q => ⟨h, fun j z => by
 have z' : (if j = i then none else P.own j) = some a := z
 split at z'
 ·cases z'
 ·exact q.1 j z', q.2⟩
theorem Go.del {i : Nat} : Go H P H (P.del i) := ⟨fun a o h _ q => ⟨h, fun j z => by
 have z' : (if j = i then none else P.own j) = some a := z
 split at z'
 ·cases z'
 ·exact q j z'⟩, rfl, fun h => h, fun _ h => h, fun _ ps h => ⟨ps, h⟩⟩
theorem Go.put {i : Nat} {p : Addr} (hp : H p = none) : Go H P H (P.put i p) := ⟨fun a o h _ q => ⟨h, fun j z => by
 have z' : (if j = i then some p else P.own j) = some a := z
 split at z'
 ·cases z'; rw [hp] at h; cases h
 ·exact q j z'⟩, rfl, fun h => h, fun _ h => h, fun _ ps h => ⟨ps, h⟩⟩
theorem VM {σ : L2.St} {i : Nat} {x : Option V} (h : i < σ.length) : (σ.set i x).getD i none = x := by
 rw [List.getD_eq_getElem?_getD, List.getElem?_set_self h]; rfl
theorem U3 {σ : L2.St} {i j : Nat} {x : Option V} (h : j ≠ i) : (σ.set i x).getD j none = σ.getD j none := by
 rw [List.getD_eq_getElem?_getD, List.getD_eq_getElem?_getD, List.getElem?_set_ne (Ne.symm h)]
theorem Hol.setVal (h : Hol K H P σ G) (i : Nat) {t : PyData} {v : V} (r : Rl K H P t v) : Hol K H (P.del i) (σ.set i (some v)) (G.set i (.val t)) where
 sl := fun j s q => by
  by_cases e : j = i
  ·subst e
   have hl : j < G.length := by
    have := (List.getElem?_eq_some_iff.mp q).1
    simpa using this
   rw [List.getElem?_set_self hl] at q
   cases q
   refine ⟨v, ?_, Rl.go .del t v r⟩
   exact VM (by rw [h.len]; exact hl)
  ·rw [List.getElem?_set_ne (Ne.symm e)] at q
   have z := h.sl j s q
   rw [U3 e]
   cases s with
   | emp => trivial
   | val t' => obtain ⟨v', e1, r'⟩ := z; exact ⟨v', e1, Rl.go .del t' v' r'⟩
   | own xs => obtain ⟨p, vs, e1, e2, e3, r'⟩ := z; exact ⟨p, vs, e1, (by show (if j = i then none else P.own j) = _; rw [if_neg e]; exact e2), e3, Rls.go .del xs vs r'⟩
   | dct es => obtain ⟨p, vs, e1, e2, e3, r'⟩ := z; exact ⟨p, vs, e1, (by show (if j = i then none else P.own j) = _; rw [if_neg e]; exact e2), e3, Rlk.go .del es vs r'⟩
 inj := fun a b c h1 h2 => by
  have h1' : (if a = i then none else P.own a) = some c := h1
  have h2' : (if b = i then none else P.own b) = some c := h2
  split at h1'
  ·cases h1'
  ·split at h2'
   ·cases h2'
   ·exact h.inj a b c h1' h2'
 only := fun j a z => by
  have z' : (if j = i then none else P.own j) = some a := z
  split at z'
  ·cases z'
  ·rename_i ne
   obtain ⟨xs, q, m⟩ := h.only j a z'
   exact ⟨xs, by rw [List.getElem?_set_ne (Ne.symm ne)]; exact q, m⟩
 fbd := h.fbd
 nfb := fun j a z => by
  have z' : (if j = i then none else P.own j) = some a := z
  split at z'
  ·cases z'
  ·exact h.nfb j a z'
 len := by rw [List.length_set, List.length_set]; exact h.len
 tab := h.tab
theorem ZB {p : Addr} {o : HO} (h : H p = none) : Same H (upd H p o) := .of fun b u q => by rw [Zz (ZF q h)]; exact q
theorem Hol.upOwn (h : Hol K H P σ G) {i : Nat} {ys xs : List PyData} {vs : List V} {p : Addr} (hi : G[i]? = some (.own ys)) (hp : P.own i = some p) (r : Rls K H P xs vs) : Hol K (upd H p (.lst vs)) P σ (G.set i (.own xs)) /\ Go H P (upd H p (.lst vs)) P := by
 have hpl := h.dom hp
 have g0 : Go H P (upd H p (.lst vs)) P := ⟨fun a o e _ q => ⟨by rw [Zz (fun z => q i (by rw [z]; exact hp))]; exact e, q⟩, rfl, fun {b} w => by
  by_cases z : b = p
  ·rw [z, Zs] at w; cases w
  ·rw [Zz z] at w; exact w, fun K t => Vg.mono t fun b o e nl => by
  rw [Zz (fun z => by obtain ⟨us, w, m⟩ := hpl; rw [z, w] at e; cases e; exact nl m)]; exact e, fun b ps e => ⟨ps, by rw [Zz (fun z => by obtain ⟨us, w, m⟩ := hpl; rw [z, w] at e; cases e; rcases m with ⟨_, m⟩ | ⟨_, m⟩ <;> cases m)]; exact e⟩⟩
 have gg := g0.tr
 have hl : i < G.length := (List.getElem?_eq_some_iff.mp hi).1
 refine ⟨⟨fun j s q => ?_, h.inj, fun j a z => ?_, fun a z => ?_, h.nfb, by rw [List.length_set]; exact h.len, g0.tab K h.tab⟩, g0⟩
 ·by_cases e : j = i
  ·subst e
   rw [List.getElem?_set_self hl] at q
   cases q
   obtain ⟨p', vs', e1, e2, _, _⟩ := h.sl j _ hi
   rw [hp] at e2; cases e2
   exact ⟨p, vs, e1, hp, Zs, Rls.go gg xs vs r⟩
  ·rw [List.getElem?_set_ne (Ne.symm e)] at q
   have z := h.sl j s q
   cases s with
   | emp => trivial
   | val t' => obtain ⟨v', e1, r'⟩ := z; exact ⟨v', e1, Rl.go gg t' v' r'⟩
   | own xs' =>
    obtain ⟨p', vs', e1, e2, e3, r'⟩ := z
    refine ⟨p', vs', e1, e2, ?_, Rls.go gg xs' vs' r'⟩
    rw [Zz (fun z => e (h.inj j i p' e2 (by rw [z]; exact hp)))]
    exact e3
   | dct xs' =>
    obtain ⟨p', vs', e1, e2, e3, r'⟩ := z
    refine ⟨p', vs', e1, e2, ?_, Rlk.go gg xs' vs' r'⟩
    rw [Zz (fun z => e (h.inj j i p' e2 (by rw [z]; exact hp)))]
    exact e3
 ·by_cases e : j = i
  ·subst e; exact ⟨_, List.getElem?_set_self hl, trivial⟩
  ·obtain ⟨xs', q, m⟩ := h.only j a z
   exact ⟨xs', by rw [List.getElem?_set_ne (Ne.symm e)]; exact q, m⟩
 ·rw [Zz (fun e => h.nfb i p hp (by rw [<- e]; exact z))]
  exact h.fbd a z
end
section
variable {K : PySem.W.Frag} {H H' : Hp} {P P' : Pv} {σ : L2.St} {G : List Sl}
theorem Hol.frz1 (h : Hol K H P σ G) (i : Nat) : ∃ P', Hol K H P' σ (Fx.frz1 G i) /\ Go H P H P' := by
 unfold Fx.frz1
 split
 ·rename_i xs q
  obtain ⟨p, vs, e1, e2, e3, r⟩ := h.sl i _ q
  have off : Off (P.del i) p := ⟨fun j z => by
   have z' : (if j = i then none else P.own j) = some p := z
   split at z'
   ·cases z'
   ·rename_i ne; exact ne (h.inj j i p z' e2), h.nfb i p e2⟩
  have r0 : Rl K H (P.del i) (.list xs) (.ref p) := ZR.mpr ⟨p, vs, rfl, .inl ⟨.inl e3, off⟩, Rls.go .del xs vs r⟩
  refine ⟨P.del i, ⟨fun j s z => ?_, ?_, ?_, h.fbd, ?_, by rw [List.length_set]; exact h.len, h.tab⟩, .del⟩
  ·by_cases e : j = i
   ·subst e
    rw [List.getElem?_set_self (List.getElem?_eq_some_iff.mp q).1] at z
    cases z
    exact ⟨.ref p, e1, r0⟩
   ·rw [List.getElem?_set_ne (Ne.symm e)] at z
    have z := h.sl j s z
    cases s with
    | emp => trivial
    | val t' => obtain ⟨v', e1, r'⟩ := z; exact ⟨v', e1, Rl.go .del t' v' r'⟩
    | own xs => obtain ⟨p, vs, e1, e2, e3, r'⟩ := z; exact ⟨p, vs, e1, (by show (if j = i then none else P.own j) = _; rw [if_neg e]; exact e2), e3, Rls.go .del xs vs r'⟩
    | dct es => obtain ⟨p, vs, e1, e2, e3, r'⟩ := z; exact ⟨p, vs, e1, (by show (if j = i then none else P.own j) = _; rw [if_neg e]; exact e2), e3, Rlk.go .del es vs r'⟩
  ·intro a b c h1 h2
   have h1' : (if a = i then none else P.own a) = some c := h1
   have h2' : (if b = i then none else P.own b) = some c := h2
   split at h1'
   ·cases h1'
   ·split at h2'
    ·cases h2'
    ·exact h.inj a b c h1' h2'
  ·intro j a z
   have z' : (if j = i then none else P.own j) = some a := z
   split at z'
   ·cases z'
   ·rename_i ne
    obtain ⟨xs, q, m⟩ := h.only j a z'
    exact ⟨xs, by rw [List.getElem?_set_ne (Ne.symm ne)]; exact q, m⟩
  ·intro j a z
   have z' : (if j = i then none else P.own j) = some a := z
   split at z'
   ·cases z'
   ·exact h.nfb j a z'
 ·exact ⟨P, h, .refl _ _⟩
theorem Hol.frz (is : List Nat) : ∀ {P : Pv} {G : List Sl}, Hol K H P σ G -> ∃ P', Hol K H P' σ (Fx.frz is G) /\ Go H P H P' := by
 induction is with
 | nil => exact fun {P G} h => ⟨P, h, .refl _ _⟩
 | cons i is ih =>
  intro P G h
  obtain ⟨P1, h1, g1⟩ := h.frz1 i
  obtain ⟨P2, h2, g2⟩ := ih h1
  exact ⟨P2, h2, g1.trans g2⟩
theorem WA : ∀ (G : List Sl) (i : Nat), (frzA G)[i]? = (G[i]?).map fun s => match s with | .own xs => .val (.list xs) | .dct _ => .emp | s => s
 | [], i => by simp [frzA]
 | .own xs :: r, 0 => by simp [frzA]
 | .emp :: r, 0 => by simp [frzA]
 | .val t :: r, 0 => by simp [frzA]
 | .dct t :: r, 0 => by simp [frzA]
 | .own xs :: r, i + 1 => by simp [frzA, WA r i]
 | .emp :: r, i + 1 => by simp [frzA, WA r i]
 | .val t :: r, i + 1 => by simp [frzA, WA r i]
 | .dct t :: r, i + 1 => by simp [frzA, WA r i]
theorem XR : ∀ (G : List Sl), (frzA G).length = G.length
 | [] => rfl
 | .own xs :: r => by simp [frzA, XR r]
 | .emp :: r => by simp [frzA, XR r]
 | .val t :: r => by simp [frzA, XR r]
 | .dct t :: r => by simp [frzA, XR r]
def Pv.bare (P : Pv) : Pv := ⟨fun _ => none, P.fb⟩
theorem Hol.frzA (h : Hol K H P σ G) : Hol K H P.bare σ (Fx.frzA G) /\ Go H P H P.bare := by
 have g0 : Go H P H P.bare := ⟨fun a o e _ q => ⟨e, fun _ z => (by cases z)⟩, rfl, fun h => h, fun _ h => h, fun _ ps h => ⟨ps, h⟩⟩
 have gg := g0.tr
 refine ⟨⟨fun j s z => ?_, fun _ _ _ z => (by cases z), fun _ _ z => (by cases z), h.fbd, fun _ _ z => (by cases z), by rw [XR]; exact h.len, h.tab⟩, g0⟩
 rw [WA] at z
 cases q : G[j]? with
 | none => rw [q] at z; cases z
 | some s' =>
  rw [q] at z
  have w := h.sl j s' q
  cases s' with
  | emp => cases z; trivial
  | val t => cases z; obtain ⟨v, e, r⟩ := w; exact ⟨v, e, Rl.go gg t v r⟩
  | dct t => cases z; trivial
  | own xs =>
   cases z
   obtain ⟨p, vs, e1, e2, e3, r⟩ := w
   exact ⟨.ref p, e1, ZR.mpr ⟨p, vs, rfl, .inl ⟨.inl e3, fun _ z => (by cases z), h.nfb j p e2⟩, Rls.go gg xs vs r⟩⟩
end
end Fx
namespace Fx
open PySem PySem.Spec PyProof.Rows L2
def YA (K : PySem.W.Frag) (W : Str -> Hp -> Prop) (H : Hp) (P : Pv) (r : Res PyData) (Q : VK) : Prop :=
 match r with
 | .ok t => ∀ v H', Same H H' -> Rl K H' P t v -> Q v H'
 | .exc c => ∀ H', Same H H' -> W c H'
 | .stuck => False
def tF (K : PySem.W.Frag) (W : Str -> Hp -> Prop) (d : DE) : TE := fun σ H Q => ∃ G P, Hol K H P σ G /\ YA K W H P (d G) Q
def zcN (K : PySem.W.Frag) (W : Str -> Hp -> Prop) (H : Hp) (P : Pv) (r : Res (List PyData)) (Q : List V -> Hp -> Prop) : Prop :=
 match r with
 | .ok ts => ∀ vs H', Same H H' -> Rls K H' P ts vs -> Q vs H'
 | .exc c => ∀ H', Same H H' -> W c H'
 | .stuck => False
def tFA (K : PySem.W.Frag) (W : Str -> Hp -> Prop) (d : DA) : TA := fun σ H Q => ∃ G P, Hol K H P σ G /\ zcN K W H P (d G) Q
def Qu (W : Str -> Hp -> Prop) (H : Hp) (r : Res Bool) (Q : Bool -> Hp -> Prop) : Prop :=
 match r with
 | .ok b => ∀ H', Same H H' -> Q b H'
 | .exc c => ∀ H', Same H H' -> W c H'
 | .stuck => False
def tFT (K : PySem.W.Frag) (W : Str -> Hp -> Prop) (d : DT) : TT := fun σ H Q => ∃ G P, Hol K H P σ G /\ Qu W H (d G) Q
def Pv.fbd (P : Pv) (p : Addr) : Pv := ⟨P.own, fun a => P.fb a \/ a = p⟩
def NewL (K : PySem.W.Frag) (H : Hp) (P : Pv) (H' : Hp) (P' : Pv) (t : PyData) (v : V) : Prop :=
 ∃ p us xs, v = .ref p /\ t = .list xs /\ H' p = some (.lst us) /\ Rls K H' (P'.fbd p) xs us /\ ∀ o, H p = some o -> Nt o -> ∃ i, P.own i = some p
theorem NewL.back {K : PySem.W.Frag} {H H1 H' : Hp} {P P1 P' : Pv} {t : PyData} {v : V} (g : Go H P H1 P1) (n : NewL K H1 P1 H' P' t v) : NewL K H P H' P' t v := by
 obtain ⟨p, us, xs, e1, e2, e3, r, q⟩ := n
 refine ⟨p, us, xs, e1, e2, e3, r, fun o e nt => Classical.byContradiction fun z => ?_⟩
 have := g.mv p o e nt fun i w => z ⟨i, w⟩
 obtain ⟨i, w⟩ := q o this.1 nt
 exact this.2 i w
def Wu (K : PySem.W.Frag) (W : Str -> Hp -> Prop) (fl : Bool) (H : Hp) (P : Pv) (r : Res Out) (D : Ends) : Prop :=
 match r with
 | .ok (.nx G') => ∀ σ' H' P', Go H P H' P' -> Hol K H' P' σ' G' -> D.nx σ' H'
 | .ok (.bk G') => ∀ σ' H' P', Go H P H' P' -> Hol K H' P' σ' G' -> D.bk σ' H'
 | .ok (.ct G') => ∀ σ' H' P', Go H P H' P' -> Hol K H' P' σ' G' -> D.ct σ' H'
 | .ok (.rt t) => ∀ v H' P', Go H P H' P' -> Rl K H' P' t v -> (fl = true -> NewL K H P H' P' t v) -> D.rt v H'
 | .exc c => ∀ H' P', Go H P H' P' -> W c H'
 | .stuck => False
def tFS (K : PySem.W.Frag) (W : Str -> Hp -> Prop) (fl : Bool) (d : DS) : TS := fun D σ H => ∃ G P, Hol K H P σ G /\ Wu K W fl H P (d G) D
def EV (X : Cx) (W : Str -> Hp -> Prop) (e : Expr) (d : DE) : Prop := PE X e (tF X.K W d)
def AV (X : Cx) (W : Str -> Hp -> Prop) (es : List Expr) (d : DA) : Prop := PA X es (tFA X.K W d)
def TV (X : Cx) (W : Str -> Hp -> Prop) (e : Expr) (d : DT) : Prop := PT X e (tFT X.K W d)
def TW (X : Cx) (W : Str -> Hp -> Prop) (e : Expr) (d : DT) : Prop := PW X e (tFT X.K W d)
def SV (X : Cx) (W : Str -> Hp -> Prop) (fl : Bool) (st : Stmt) (d : DS) : Prop := PS X st (tFS X.K W fl d)
def SVs (X : Cx) (W : Str -> Hp -> Prop) (fl : Bool) (st : List Stmt) (d : DS) : Prop := PSs X st (tFS X.K W fl d)
theorem Zv {X : Cx} {e : Expr} {t t' : TE} (h : PE X e t) (w : ∀ σ H Q, t' σ H Q -> t σ H Q) : PE X e t' := fun pins s σ H Q I q => h pins s σ H Q I (w σ H Q q)
theorem zdn {X : Cx} {e : List Expr} {t t' : TA} (h : PA X e t) (w : ∀ σ H Q, t' σ H Q -> t σ H Q) : PA X e t' := fun pos pins s σ H Q I q => h pos pins s σ H Q I (w σ H Q q)
theorem zaT {X : Cx} {e : Expr} {t t' : TT} (h : PT X e t) (w : ∀ σ H Q, t' σ H Q -> t σ H Q) : PT X e t' := fun pins s σ H Q I q => h pins s σ H Q I (w σ H Q q)
theorem zdf {X : Cx} {e : Expr} {t t' : TT} (h : PW X e t) (w : ∀ σ H Q, t' σ H Q -> t σ H Q) : PW X e t' := fun wh pins s σ H Q I q => h wh pins s σ H Q I (w σ H Q q)
theorem XQ {X : Cx} {e : Stmt} {t t' : TS} (h : PS X e t) (w : ∀ D σ H, t' D σ H -> t D σ H) : PS X e t' := fun pins s σ H D I q => h pins s σ H D I (w D σ H q)
theorem zbG {X : Cx} {e : List Stmt} {t t' : TS} (h : PSs X e t) (w : ∀ D σ H, t' D σ H -> t D σ H) : PSs X e t' := fun pins s σ H D I q => h pins s σ H D I (w D σ H q)
theorem ZD {K : PySem.W.Frag} {W : Str -> Hp -> Prop} {σ : L2.St} {G : List Sl} {H : Hp} {P : Pv} {a : DE} (h : Hol K H P σ G) {Q : VK}
  (hx : ∀ c, a G = .exc c -> ∀ H', Same H H' -> W c H') (hs : a G ≠ .stuck)
  (q : ∀ t v H', a G = .ok t -> Same H H' -> Hol K H' P σ G -> Rl K H' P t v -> Q v H') : tF K W a σ H Q := by
 refine ⟨G, P, h, ?_⟩
 unfold YA
 cases e : a G with
 | ok t => exact fun v H' s r => q t v H' e s (h.same s) r
 | exc c => exact hx c e
 | stuck => exact hs e
theorem W9 {K : PySem.W.Frag} {W : Str -> Hp -> Prop} {σ : L2.St} {G : List Sl} {H : Hp} {P : Pv} {a : DT} (h : Hol K H P σ G) {Q : Bool -> Hp -> Prop}
  (hx : ∀ c, a G = .exc c -> ∀ H', Same H H' -> W c H') (hs : a G ≠ .stuck)
  (q : ∀ t H', a G = .ok t -> Same H H' -> Hol K H' P σ G -> Q t H') : tFT K W a σ H Q := by
 refine ⟨G, P, h, ?_⟩
 unfold Qu
 cases e : a G with
 | ok t => exact fun H' s => q t H' e s (h.same s)
 | exc c => exact hx c e
 | stuck => exact hs e
theorem Wv {K : PySem.W.Frag} {W : Str -> Hp -> Prop} {σ : L2.St} {G : List Sl} {H : Hp} {P : Pv} {a : DA} (h : Hol K H P σ G) {Q : List V -> Hp -> Prop}
  (hx : ∀ c, a G = .exc c -> ∀ H', Same H H' -> W c H') (hs : a G ≠ .stuck)
  (q : ∀ t v H', a G = .ok t -> Same H H' -> Hol K H' P σ G -> Rls K H' P t v -> Q v H') : tFA K W a σ H Q := by
 refine ⟨G, P, h, ?_⟩
 unfold zcN
 cases e : a G with
 | ok t => exact fun v H' s r => q t v H' e s (h.same s) r
 | exc c => exact hx c e
 | stuck => exact hs e
section
variable {X : Cx} {W : Str -> Hp -> Prop} {a b c e : Expr} {es : List Expr} {da db : DE} {pos : Pos}
theorem Za (i : Nat) {x : Str} {pos : Pos} (hN : X.N[i]? = some x := by rfl) (hv : Vis X.env.scope x := by first | exact Or.inl rfl | exact Or.inr (Or.inl rfl) | exact Or.inr (Or.inr rfl)) (hd : (x == ("__debug__" : Str)) = false := by decide)
  (hcd : (x == ("__classdict__" : Str)) = false := by decide) : EV X W (.Name x pos) (dVar i) :=
 Zv (Uj hN hv hd hcd) fun σ H Q ⟨G, P, h, q⟩ => by
  unfold dVar at q
  cases e : G[i]? with
  | none => rw [e] at q; exact q.elim
  | some s =>
   rw [e] at q
   cases s with
   | emp => exact q.elim
   | own xs => exact q.elim
   | dct xs => exact q.elim
   | val t =>
    obtain ⟨v, e1, r⟩ := h.sl i _ e
    exact ⟨v, getD_some e1, q v H (Same.refl H) r⟩
theorem Zf {i j pos} : EV X W (.Constant (.int i) j pos) (dC (.int i)) := Zv pe_int fun σ H Q ⟨G, P, h, q⟩ => q _ H (Same.refl H) (Zx.mpr rfl)
theorem UJ {b j pos} : EV X W (.Constant (.bool b) j pos) (dC (.bool b)) := Zv pe_bl fun σ H Q ⟨G, P, h, q⟩ => q _ H (Same.refl H) (YG.mpr rfl)
theorem zd4 {j pos} : EV X W (.Constant .none j pos) (dC .none) := Zv pe_non fun σ H Q ⟨G, P, h, q⟩ => q _ H (Same.refl H) (Wd.mpr rfl)
theorem VO {x : Str} {i : Int} {t : Tok} {pos : Pos} (hg : Gl X x) (hm : X.mg x = some (.int i t)) (hd : (x == ("__debug__" : Str)) = false := by decide) : EV X W (.Name x pos) (dC (.int i)) :=
 Zv (pe_glob (v := .int i) hg hm ⟨t, rfl⟩ hd) fun σ H Q ⟨G, P, h, q⟩ => q _ H (Same.refl H) (Zx.mpr rfl)
def Fop (X : Cx) (W : Str -> Hp -> Prop) (r : R2) (f : PyData -> PyData -> Res PyData) : Prop :=
 ∀ (H : Hp) (P : Pv) (σ : L2.St) (G : List Sl) (x y : V) (tx ty : PyData) (Q : VK), Hol X.K H P σ G -> Rl X.K H P tx x -> Rl X.K H P ty y -> YA X.K W H P (f tx ty) Q -> r x y H Q
theorem Vy {a : Res PyData} {f : PyData -> Res PyData} {K : PySem.W.Frag} {H : Hp} {P : Pv} {Q : VK} (q : YA K W H P (a.bind f) Q) :
  (∀ c, a = .exc c -> ∀ H', Same H H' -> W c H') /\ a ≠ .stuck /\ ∀ t, a = .ok t -> YA K W H P (f t) Q := by
 cases a with
 | ok t => exact ⟨fun c e => (by cases e), (by intro e; cases e), fun t' e => by cases e; exact q⟩
 | exc c => exact ⟨fun c' e => by cases e; exact q, (by intro e; cases e), fun t e => by cases e⟩
 | stuck => exact q.elim
theorem YA.up {K : PySem.W.Frag} {H H' : Hp} {P : Pv} {r : Res PyData} {Q : VK} (q : YA K W H P r Q) (s : Same H H') : YA K W H' P r Q := by
 cases r with
 | ok t => exact fun v H2 s2 r2 => q v H2 (s.trans s2) r2
 | exc c => exact fun H2 s2 => q H2 (s.trans s2)
 | stuck => exact q
theorem zbs {r : R2} {f : PyData -> PyData -> Res PyData} (hf : Fop X W r f) {σ : L2.St} {H : Hp} {Q : VK} (h : tF X.K W (d2 f da db) σ H Q) : tOp r (tF X.K W da) (tF X.K W db) σ H Q := by
 obtain ⟨G, P, h, q⟩ := h
 unfold d2 at q
 obtain ⟨q1, q2, q3⟩ := Vy q
 refine ZD h q1 q2 fun tx x H1 ex s1 h1 rx => ?_
 obtain ⟨q4, q5, q6⟩ := Vy (q3 tx ex)
 refine ZD h1 (fun c e H' s => q4 c e H' (s1.trans s)) q5 fun ty y H2 ey s2 h2 ry => ?_
 exact hf H2 P σ G x y tx ty Q h2 (Rl.go (.same s2) tx x rx) ry ((q6 ty ey).up (s1.trans s2))
theorem Zy {op : Operator} {r : R2} {f : PyData -> PyData -> Res PyData} (ho : OpR X (binaryOp op) r /\ Fop X W r f) (ha : EV X W a da) (hb : EV X W b db) : EV X W (.BinOp a op b pos) (d2 f da db) :=
 Zv (pe_op ho.1 ha hb) fun σ H Q h => zbs ho.2 h
theorem zan {op : CmpOp} {r : R2} {f : PyData -> PyData -> Res PyData} (ho : OpR X (compareOp op) r /\ Fop X W r f) (ha : EV X W a da) (hb : EV X W b db) (hm : behindInMarks op b = false) : EV X W (.Compare a [op] [b] pos) (d2 f da db) :=
 Zv (pe_cmpR ho.1 ha hb hm) fun σ H Q h => zbs ho.2 h
theorem zbV {C : Int -> Int -> Prop} {g : Int -> Int -> V} {f : PyData -> PyData -> Res PyData}
  (h : ∀ (H : Hp) (P : Pv) (tx ty : PyData) (Q : VK), YA X.K W H P (f tx ty) Q -> ∃ i j, tx = .int i /\ ty = .int j /\ C i j /\ Q (g i j) H) : Fop X W (rI C g) f := fun H P σ G x y tx ty Q hh rx ry q => by
 obtain ⟨i, j, rfl, rfl, c, q'⟩ := h H P tx ty Q q
 exact ⟨i, j, Zx.mp rx, Zx.mp ry, c, q'⟩
theorem U4 {g : Int -> Int -> V} {f : PyData -> PyData -> Res PyData}
  (h : ∀ (H : Hp) (P : Pv) (tx ty : PyData) (Q : VK), YA X.K W H P (f tx ty) Q -> ∃ i j, tx = .int i /\ ty = .int j /\ Q (g i j) H) : Fop X W (rI0 g) f := fun H P σ G x y tx ty Q hh rx ry q => by
 obtain ⟨i, j, rfl, rfl, q'⟩ := h H P tx ty Q q
 exact ⟨i, j, Zx.mp rx, Zx.mp ry, q'⟩
theorem Yk {K : PySem.W.Frag} {H : Hp} {P : Pv} {Q : VK} {i : Int} (q : YA K W H P (.ok (.int i)) Q) : Q (.int i) H := q _ H (Same.refl H) (Zx.mpr rfl)
theorem ZH {K : PySem.W.Frag} {H : Hp} {P : Pv} {Q : VK} {i : Bool} (q : YA K W H P (.ok (.bool i)) Q) : Q (.bl i) H := q _ H (Same.refl H) (YG.mpr rfl)
theorem SL.off {K : PySem.W.Frag} {H : Hp} {P : Pv} {a : Addr} {xs : List V} (h : H a = some (.lst xs)) (o : Off P a) : SL K H P a xs := .inl ⟨.inl h, o⟩
def rCatS (K : PySem.W.Frag) : R2 := fun x y H Q => ∃ l b xs zs, x = .ref l /\ y = .ref b /\ SqL K H l xs /\ SqL K H b zs /\ xs.length + zs.length <= sizeLine /\ ∀ p, H p = none -> Q (.ref p) (upd H p (.lst (xs ++ zs)))
theorem op_catS : OpR X (binaryOp .Add) (rCatS X.K) := by
 intro pins s σ H x y v u Q I rx ry h
 obtain ⟨l, b, xs, zs, rfl, rfl, hH, hB, hz, q⟩ := h
 cases rx
 cases ry
 obtain ⟨its, r, ⟨o, n, e, hc, hd, hs⟩, z⟩ := I.list hH
 obtain ⟨its2, r2, ⟨o2, n2, e2, hc2, hd2, hs2⟩, z2⟩ := I.list hB
 obtain ⟨c1, c2, c3, c4⟩ := o
 obtain ⟨k1, k2, k3, k4⟩ := o2
 simp only at hc hd hs hc2 hd2 hs2
 subst hc hd hs hc2 hd2 hs2
 have l1 := r.length
 have l2 := r2.length
 refine concat_meets ⟨_, e, rfl⟩ ⟨_, e2, rfl⟩ noFill_list_add seq_list_add PySem.F.slot_list_add PySem.F.entry_list_add (PySem.F.args_list_add_2 _ _) (list_addW l b its.toArray its2.toArray n n2 none none c4 k4 (by simp; omega)) ⟨e, e2, ?_⟩
 have ea : its.toArray ++ its2.toArray = (its ++ its2).toArray := by simp
 rw [ea]
 exact ⟨.ref _, _, I.lnew (t' := s.toks) (r.append r2) (by rw [List.length_append]; omega), rfl, q _ I.fresh⟩
theorem Ya : OpR X (binaryOp .Add) (fun x y H Q => rI0 (fun i j => .int (i + j)) x y H Q \/ rCatS X.K x y H Q) /\ Fop X W (fun x y H Q => rI0 (fun i j => .int (i + j)) x y H Q \/ rCatS X.K x y H Q) fAdd :=
 ⟨op_add.or op_catS, fun H P σ G x y tx ty Q h rx ry q => by
  cases tx <;> cases ty <;> try exact q.elim
  ·exact .inl ⟨_, _, Zx.mp rx, Zx.mp ry, Yk q⟩
  ·rename_i xs ys
   refine .inr ?_
   obtain ⟨l, us, rfl, s1, r1⟩ := ZR.mp rx
   obtain ⟨m, ws, rfl, s2, r2⟩ := ZR.mp ry
   simp only [fAdd] at q
   split at q
   ·rename_i hz
    have e1 := r1.length
    have e2 := r2.length
    refine ⟨l, m, us, ws, rfl, rfl, s1.sq, s2.sq, by rw [sizeLine_eq]; omega, fun p hp => q _ _ (ZB hp) (ZR.mpr ⟨p, us ++ ws, rfl, .off Zs (h.off_new hp), ?_⟩)⟩
    exact (Rls.go (.same (ZB hp)) xs us r1).append (Rls.go (.same (ZB hp)) ys ws r2)
   ·exact q.elim⟩
theorem WR : OpR X (binaryOp .Sub) (rI0 fun i j => .int (i - j)) /\ Fop X W (rI0 fun i j => .int (i - j)) fSub :=
 ⟨op_sub, U4 fun H P tx ty Q q => by
  cases tx <;> cases ty <;> try exact q.elim
  exact ⟨_, _, rfl, rfl, Yk q⟩⟩
theorem mulOk_ok {i j : Int} (h : XA i j = true) : IntMulOk i j := by
 have bits : ∀ k : Int, Builtin.Int.intBits k <= k.natAbs.log2 + 1 := fun k => by
  unfold Builtin.Int.intBits
  split <;> omega
 simp only [XA, Bool.or_eq_true, decide_eq_true_eq] at h
 rcases h with (h | h) | h
 ·have h1 := bits i
  have h2 := bits j
  unfold IntMulOk
  intro z
  simp only [Bool.and_eq_true, decide_eq_true_eq, Builtin.Int.intTooBig] at z
  have := z.2
  simp only [bitsLine] at this
  omega
 ·exact .of_left (intBits_le_64 (by omega) (by omega))
 ·exact .of_right (intBits_le_64 (by omega) (by omega))
theorem Yj : OpR X (binaryOp .Mult) (rI (fun i j => XA i j = true) fun i j => .int (i * j)) /\ Fop X W (rI (fun i j => XA i j = true) fun i j => .int (i * j)) fMul :=
 ⟨opI fun _ _ _ _ _ _ _ hc q => mul_int q (mulOk_ok hc), zbV fun H P tx ty Q q => by
  cases tx <;> cases ty <;> try exact q.elim
  simp only [fMul] at q
  split at q
  ·rename_i hc; exact ⟨_, _, rfl, rfl, hc, Yk q⟩
  ·exact q.elim⟩
theorem zb3 {i j : Int} (h : QJ j = true) : j ≠ 0 /\ Builtin.divisionGoesByPylong i j = false := by
 simp only [QJ, Bool.and_eq_true, decide_eq_true_eq] at h
 refine ⟨h.1, ?_⟩
 unfold Builtin.divisionGoesByPylong
 have e : (j == 0) = false := by simpa using h.1
 simp only [e]
 have : ¬ (j.natAbs.log2 / 30 + 1 > 300) := by omega
 simp [this]
theorem UU : OpR X (binaryOp .FloorDiv) (rI (fun _ j => QJ j = true) fun i j => .int (i.fdiv j)) /\ Fop X W (rI (fun _ j => QJ j = true) fun i j => .int (i.fdiv j)) fDiv :=
 ⟨opI fun _ _ _ _ _ _ _ hc q => floordiv_int (zb3 (i := 0) hc).1 q (.inl (zb3 hc).2), zbV fun H P tx ty Q q => by
  cases tx <;> cases ty <;> try exact q.elim
  simp only [fDiv] at q
  split at q
  ·rename_i hc; exact ⟨_, _, rfl, rfl, hc, Yk q⟩
  ·exact q.elim⟩
theorem Y1 : OpR X (binaryOp .Mod) (rI (fun _ j => j ≠ 0) fun i j => .int (i.fmod j)) /\ Fop X W (rI (fun _ j => j ≠ 0) fun i j => .int (i.fmod j)) fMod :=
 ⟨op_modN, zbV fun H P tx ty Q q => by
  cases tx <;> cases ty <;> try exact q.elim
  simp only [fMod] at q
  split at q
  ·exact q.elim
  ·rename_i hc; exact ⟨_, _, rfl, rfl, hc, Yk q⟩⟩
theorem op_powF : OpR X (binaryOp .Pow) (rI CPow fun i j => .int (i ^ j.toNat)) /\ Fop X W (rI CPow fun i j => .int (i ^ j.toNat)) fPow :=
 ⟨op_pow, zbV fun H P tx ty Q q => by
  cases tx <;> cases ty <;> try exact q.elim
  simp only [fPow] at q
  split at q
  ·rename_i hc; exact ⟨_, _, rfl, rfl, hc, Yk q⟩
  ·exact q.elim⟩
theorem WE : OpR X (compareOp .Lt) (rI0 fun i j => .bl (decide (i < j))) /\ Fop X W (rI0 fun i j => .bl (decide (i < j))) fLt :=
 ⟨op_lt, U4 fun H P tx ty Q q => by
  cases tx <;> cases ty <;> try exact q.elim
  exact ⟨_, _, rfl, rfl, ZH q⟩⟩
theorem op_leF : OpR X (compareOp .LtE) (rI0 fun i j => .bl (decide (i <= j))) /\ Fop X W (rI0 fun i j => .bl (decide (i <= j))) fLe :=
 ⟨op_le, U4 fun H P tx ty Q q => by
  cases tx <;> cases ty <;> try exact q.elim
  exact ⟨_, _, rfl, rfl, ZH q⟩⟩
theorem Vk : OpR X (compareOp .Gt) (rI0 fun i j => .bl (decide (j < i))) /\ Fop X W (rI0 fun i j => .bl (decide (j < i))) fGt :=
 ⟨op_gt, U4 fun H P tx ty Q q => by
  cases tx <;> cases ty <;> try exact q.elim
  exact ⟨_, _, rfl, rfl, ZH q⟩⟩
theorem op_geF : OpR X (compareOp .GtE) (rI0 fun i j => .bl (decide (j <= i))) /\ Fop X W (rI0 fun i j => .bl (decide (j <= i))) fGe :=
 ⟨op_ge, U4 fun H P tx ty Q q => by
  cases tx <;> cases ty <;> try exact q.elim
  exact ⟨_, _, rfl, rfl, ZH q⟩⟩
mutual
theorem Rl.reads {pins : List (Addr × Obj)} {σ : L2.St} {H : Hp} {s : Shared} {P : Pv} (I : Inv X pins σ H s) : ∀ (t : PyData) (v : V) (u : Value), t.canLay0 = true -> Rl X.K H P t v -> RelV v u -> ∃ as, Reads s.heap u t as
 | .none, v, u, _, h, r => by rw [Wd.mp h] at r; cases r; exact ⟨_, .none⟩
 | .bool b, v, u, hl, h, r => by rw [YG.mp h] at r; cases r; exact ⟨_, .bool b⟩
 | .int i, v, u, hl, h, r => by rw [Zx.mp h] at r; obtain ⟨t, rfl⟩ := r; exact ⟨_, .int i t⟩
 | .str x, v, u, hl, h, r => by rw [QN.mp h] at r; obtain ⟨t, rfl⟩ := r; exact ⟨_, .str x t⟩
 | .list xs, v, u, hl, h, r => by
  obtain ⟨a, vs, rfl, sl, rs⟩ := ZR.mp h
  cases r
  obtain ⟨its, rv, ⟨o, n, e, hc, hd, hs⟩, z⟩ := I.list sl.sq
  obtain ⟨as, ra⟩ := Rls.reads I xs vs its (by simpa [PyData.canLay0] using hl) rs rv
  exact ⟨_, .list e hc hs (by simpa using ra)⟩
 | .tuple xs, v, u, hl, h, r => by
  obtain ⟨a, vs, rfl, sl, rs⟩ := ZK.mp h
  cases r
  obtain ⟨its, rv, ⟨o, e, hc, n, hs⟩, z⟩ := I.tuple sl.sq
  obtain ⟨as, ra⟩ := Rls.reads I xs vs its (by simpa [PyData.canLay0] using hl) rs rv
  exact ⟨_, .tuple e hc hs (by simpa using ra)⟩
 | .dict _, v, u, hl, h, r => by simp [PyData.canLay0] at hl
theorem Rls.reads {pins : List (Addr × Obj)} {σ : L2.St} {H : Hp} {s : Shared} {P : Pv} (I : Inv X pins σ H s) : ∀ (ts : List PyData) (vs : List V) (us : List Value), PyData.canLayAll0 ts = true -> Rls X.K H P ts vs -> Vals vs us -> ∃ as, ReadsAll s.heap us ts as
 | [], vs, us, _, h, r => by rw [ZG.mp h] at r; cases r; exact ⟨_, .nil⟩
 | t :: ts, vs, us, hl, h, r => by
  simp only [PyData.canLayAll0, Bool.and_eq_true] at hl
  obtain ⟨v, vs', rfl, h1, h2⟩ := Zr.mp h
  cases r with
  | cons r1 r2 =>
   obtain ⟨as, ra⟩ := Rl.reads I t v _ hl.1 h1 r1
   obtain ⟨bs, rb⟩ := Rls.reads I ts vs' _ hl.2 h2 r2
   exact ⟨_, .cons ra rb⟩
end
theorem YM {t : PyData} (h : ZY t = true) : t.canLay0 = true := by
 unfold ZY at h
 rw [Bool.and_eq_true] at h
 exact h.1
def rEqD (K : PySem.W.Frag) (k : Bool -> Bool) : R2 := fun x y H Q => ∃ P tx ty, Rl K H P tx x /\ Rl K H P ty y /\ ZY tx = true /\ ZY ty = true /\ Q (.bl (k (tx.eqv ty))) H
theorem op_eqD (hu : X.A.units + 64 < cLine) : OpR X (compareOp .Eq) (rEqD X.K fun k => k) := by
 intro pins s σ H x y v u Q I rx ry h
 obtain ⟨P, tx, ty, hx, hy, sx, sy, q⟩ := h
 obtain ⟨as, ra⟩ := Rl.reads I tx x v (YM sx) hx rx
 obtain ⟨bs, rb⟩ := Rl.reads I ty y u (YM sy) hy ry
 exact SeqAt.compareEq_shaped ra rb sx sy hu ⟨.bl _, H, I, rfl, q⟩
theorem op_neD (hu : X.A.units + 64 < cLine) : OpR X (compareOp .NotEq) (rEqD X.K fun k => !k) := by
 intro pins s σ H x y v u Q I rx ry h
 obtain ⟨P, tx, ty, hx, hy, sx, sy, q⟩ := h
 obtain ⟨as, ra⟩ := Rl.reads I tx x v (YM sx) hx rx
 obtain ⟨bs, rb⟩ := Rl.reads I ty y u (YM sy) hy ry
 exact SeqAt.compareNe_shaped ra rb sx sy hu ⟨.bl _, H, I, rfl, q⟩
def rEqI (k : Bool -> Bool) : R2 := rI0 fun i j => .bl (k (decide (i = j)))
theorem op_eqI : OpR X (compareOp .Eq) (rEqI fun k => k) := opB0 fun i j _ _ _ _ _ q => eq_int (by rw [Bool.beq_eq_decide_eq]; exact q)
theorem op_neI : OpR X (compareOp .NotEq) (rEqI fun k => !k) := opB0 fun i j _ _ _ _ _ q => ne_int (by rw [bne, Bool.beq_eq_decide_eq]; exact q)
theorem WT (hu : X.A.units + 64 < cLine) : OpR X (compareOp .Eq) (fun x y H Q => rEqI (fun k => k) x y H Q \/ rEqD X.K (fun k => k) x y H Q) /\ Fop X W (fun x y H Q => rEqI (fun k => k) x y H Q \/ rEqD X.K (fun k => k) x y H Q) fEq :=
 ⟨op_eqI.or (op_eqD hu), fun H P σ G x y tx ty Q h rx ry q => by
  unfold fEq at q
  split at q
  ·exact .inl ⟨_, _, Zx.mp rx, Zx.mp ry, ZH q⟩
  ·split at q
   ·rename_i hc
    rw [Bool.and_eq_true] at hc
    exact .inr ⟨P, tx, ty, rx, ry, hc.1, hc.2, ZH q⟩
   ·exact q.elim⟩
theorem WS (hu : X.A.units + 64 < cLine) : OpR X (compareOp .NotEq) (fun x y H Q => rEqI (fun k => !k) x y H Q \/ rEqD X.K (fun k => !k) x y H Q) /\ Fop X W (fun x y H Q => rEqI (fun k => !k) x y H Q \/ rEqD X.K (fun k => !k) x y H Q) fNe :=
 ⟨op_neI.or (op_neD hu), fun H P σ G x y tx ty Q h rx ry q => by
  unfold fNe at q
  split at q
  ·exact .inl ⟨_, _, Zx.mp rx, Zx.mp ry, ZH q⟩
  ·split at q
   ·rename_i hc
    rw [Bool.and_eq_true] at hc
    exact .inr ⟨P, tx, ty, rx, ry, hc.1, hc.2, ZH q⟩
   ·exact q.elim⟩
theorem tUn_of {r : V -> Hp -> VK -> Prop} {f : PyData -> Res PyData} (hf : ∀ (H : Hp) (P : Pv) (x : V) (tx : PyData) (Q : VK), Rl X.K H P tx x -> YA X.K W H P (f tx) Q -> r x H Q) {σ : L2.St} {H : Hp} {Q : VK} (h : tF X.K W (d1 f da) σ H Q) :
  tUn r (tF X.K W da) σ H Q := by
 obtain ⟨G, P, h, q⟩ := h
 unfold d1 at q
 obtain ⟨q1, q2, q3⟩ := Vy q
 exact ZD h q1 q2 fun tx x H1 ex s1 h1 rx => hf H1 P x tx Q rx ((q3 tx ex).up s1)
theorem Uq (ha : EV X W a da) : EV X W (.UnaryOp .USub a pos) (d1 fNeg da) :=
 Zv (pe_un un_neg ha) fun σ H Q h => tUn_of (r := rU fun i => .int (-i)) (fun H P x tx Q rx q => by
  cases tx <;> try exact q.elim
  exact ⟨_, Zx.mp rx, Yk q⟩) h
theorem bindA {a : Res PyData} {f : PyData -> Res (List PyData)} {K : PySem.W.Frag} {H : Hp} {P : Pv} {Q : List V -> Hp -> Prop} (q : zcN K W H P (a.bind f) Q) :
  (∀ c, a = .exc c -> ∀ H', Same H H' -> W c H') /\ a ≠ .stuck /\ ∀ t, a = .ok t -> zcN K W H P (f t) Q := by
 cases a with
 | ok t => exact ⟨fun c e => (by cases e), (by intro e; cases e), fun t' e => by cases e; exact q⟩
 | exc c => exact ⟨fun c' e => by cases e; exact q, (by intro e; cases e), fun t e => by cases e⟩
 | stuck => exact q.elim
theorem bindAA {a : Res (List PyData)} {f : List PyData -> Res (List PyData)} {K : PySem.W.Frag} {H : Hp} {P : Pv} {Q : List V -> Hp -> Prop} (q : zcN K W H P (a.bind f) Q) :
  (∀ c, a = .exc c -> ∀ H', Same H H' -> W c H') /\ a ≠ .stuck /\ ∀ t, a = .ok t -> zcN K W H P (f t) Q := by
 cases a with
 | ok t => exact ⟨fun c e => (by cases e), (by intro e; cases e), fun t' e => by cases e; exact q⟩
 | exc c => exact ⟨fun c' e => by cases e; exact q, (by intro e; cases e), fun t e => by cases e⟩
 | stuck => exact q.elim
theorem zce {a : Res (List PyData)} {f : List PyData -> Res PyData} {K : PySem.W.Frag} {H : Hp} {P : Pv} {Q : VK} (q : YA K W H P (a.bind f) Q) :
  (∀ c, a = .exc c -> ∀ H', Same H H' -> W c H') /\ a ≠ .stuck /\ ∀ t, a = .ok t -> YA K W H P (f t) Q := by
 cases a with
 | ok t => exact ⟨fun c e => (by cases e), (by intro e; cases e), fun t' e => by cases e; exact q⟩
 | exc c => exact ⟨fun c' e => by cases e; exact q, (by intro e; cases e), fun t e => by cases e⟩
 | stuck => exact q.elim
theorem bindTE {a : Res Bool} {f : Bool -> Res PyData} {K : PySem.W.Frag} {H : Hp} {P : Pv} {Q : VK} (q : YA K W H P (a.bind f) Q) :
  (∀ c, a = .exc c -> ∀ H', Same H H' -> W c H') /\ a ≠ .stuck /\ ∀ t, a = .ok t -> YA K W H P (f t) Q := by
 cases a with
 | ok t => exact ⟨fun c e => (by cases e), (by intro e; cases e), fun t' e => by cases e; exact q⟩
 | exc c => exact ⟨fun c' e => by cases e; exact q, (by intro e; cases e), fun t e => by cases e⟩
 | stuck => exact q.elim
theorem bindT {a : Res Bool} {f : Bool -> Res Bool} {H : Hp} {Q : Bool -> Hp -> Prop} (q : Qu W H (a.bind f) Q) :
  (∀ c, a = .exc c -> ∀ H', Same H H' -> W c H') /\ a ≠ .stuck /\ ∀ t, a = .ok t -> Qu W H (f t) Q := by
 cases a with
 | ok t => exact ⟨fun c e => (by cases e), (by intro e; cases e), fun t' e => by cases e; exact q⟩
 | exc c => exact ⟨fun c' e => by cases e; exact q, (by intro e; cases e), fun t e => by cases e⟩
 | stuck => exact q.elim
theorem bindET {a : Res PyData} {f : PyData -> Res Bool} {H : Hp} {Q : Bool -> Hp -> Prop} (q : Qu W H (a.bind f) Q) :
  (∀ c, a = .exc c -> ∀ H', Same H H' -> W c H') /\ a ≠ .stuck /\ ∀ t, a = .ok t -> Qu W H (f t) Q := by
 cases a with
 | ok t => exact ⟨fun c e => (by cases e), (by intro e; cases e), fun t' e => by cases e; exact q⟩
 | exc c => exact ⟨fun c' e => by cases e; exact q, (by intro e; cases e), fun t e => by cases e⟩
 | stuck => exact q.elim
theorem Qu.up {H H' : Hp} {r : Res Bool} {Q : Bool -> Hp -> Prop} (q : Qu W H r Q) (s : Same H H') : Qu W H' r Q := by
 cases r with
 | ok t => exact fun H2 s2 => q H2 (s.trans s2)
 | exc c => exact fun H2 s2 => q H2 (s.trans s2)
 | stuck => exact q
theorem Zh : AV X W [] dNil := zdn Y0 fun σ H Q ⟨G, P, h, q⟩ => q [] H (Same.refl H) (ZG.mpr rfl)
theorem Zb {dr : DA} (ha : EV X W e da) (hr : AV X W es dr) (hs : starEach (e :: es) X.env = (false, eval e X.env) :: starEach es X.env := by rfl) : AV X W (e :: es) (Zd da dr) :=
 zdn (Z0 ha hr hs) fun σ H Q ⟨G, P, h, q⟩ => by
  unfold Zd at q
  obtain ⟨q1, q2, q3⟩ := bindA q
  refine ZD h q1 q2 fun tx x H1 ex s1 h1 rx => ?_
  obtain ⟨q4, q5, q6⟩ := bindAA (q3 tx ex)
  refine Wv h1 (fun c e H' s => q4 c e H' (s1.trans s)) q5 fun ts vs H2 es' s2 h2 rs => ?_
  exact (q6 ts es') (x :: vs) H2 (s1.trans s2) (Zr.mpr ⟨x, vs, rfl, Rl.go (.same s2) tx x rx, rs⟩)
theorem Jq {xs : List PyData} {vs : List V} {K : PySem.W.Frag} {H : Hp} {P : Pv} (h : lenOk xs = true) (r : Rls K H P xs vs) : vs.length <= sizeLine := by
 have := r.length
 have h' : xs.length <= 16777216 := of_decide_eq_true h
 rw [sizeLine_eq]; omega
theorem ST.off {K : PySem.W.Frag} {H : Hp} {P : Pv} {a : Addr} {xs : List V} (h : H a = some (.tup xs)) (o : Off P a) : ST K H P a xs := ⟨h, o⟩
theorem WF {da : DA} {x1} (h : AV X W es da) : EV X W (.Tuple es x1 pos) (dTup da) :=
 Zv (pe_tup h) fun σ H Q ⟨G, P, h, q⟩ => by
  unfold dTup at q
  obtain ⟨q1, q2, q3⟩ := zce q
  refine Wv h q1 q2 fun ts vs H1 es' s1 h1 rs => ?_
  have q4 := q3 ts es'
  split at q4
  ·rename_i hl
   exact ⟨Jq hl rs, fun p hp => q4 _ _ (s1.trans (ZB hp)) (ZK.mpr ⟨p, vs, rfl, .off Zs (h1.off_new hp), Rls.go (.same (ZB hp)) ts vs rs⟩)⟩
  ·exact q4.elim
theorem Wp {da : DA} (h : AV X W es da) : EV X W (.List es pos) (dLst da) :=
 Zv (pe_lst h) fun σ H Q ⟨G, P, h, q⟩ => by
  unfold dLst at q
  obtain ⟨q1, q2, q3⟩ := zce q
  refine Wv h q1 q2 fun ts vs H1 es' s1 h1 rs => ?_
  have q4 := q3 ts es'
  split at q4
  ·rename_i hl
   exact ⟨Jq hl rs, fun p hp => q4 _ _ (s1.trans (ZB hp)) (ZR.mpr ⟨p, vs, rfl, .off Zs (h1.off_new hp), Rls.go (.same (ZB hp)) ts vs rs⟩)⟩
  ·exact q4.elim
theorem ixP_eq (n : Nat) (i : Int) : ixP n i = ixN n i := rfl
theorem zaG {K : PySem.W.Frag} {H : Hp} {P : Pv} {ts : List PyData} {vs : List V} {i : Int} {t : PyData} (r : Rls K H P ts vs) (h : atP ts i = some t) : ∃ v, atI vs i = some v /\ Rl K H P t v := by
 unfold atP at h
 unfold atI
 rw [<- r.length, <- ixP_eq]
 cases e : ixP ts.length i with
 | none => rw [e] at h; cases h
 | some j =>
  rw [e] at h
  exact r.getT (i := j) h
theorem Zp (ha : EV X W a da) (hb : EV X W b db) (hs : zbo b) : EV X W (.Subscript a b pos) (d2 fIx da db) :=
 Zv (pe_ix (zdM.or ix_tup) ha hb hs) fun σ H Q h => zbs (r := fun x y H Q => rIxL X.K x y H Q \/ rIxT X.K x y H Q) (fun H P σ G x y tx ty Q h rx ry q => by
  cases tx <;> cases ty <;> try exact q.elim
  ·rename_i xs i
   obtain ⟨l, us, rfl, s1, r1⟩ := ZR.mp rx
   simp only [fIx] at q
   cases e : atP xs i with
   | none => rw [e] at q; exact q.elim
   | some t =>
    rw [e] at q
    obtain ⟨v, e1, r⟩ := zaG r1 e
    exact .inl ⟨l, us, i, v, rfl, Zx.mp ry, s1.sq, e1, q v H (Same.refl H) r⟩
  ·rename_i xs i
   obtain ⟨l, us, rfl, s1, r1⟩ := ZK.mp rx
   simp only [fIx] at q
   cases e : atP xs i with
   | none => rw [e] at q; exact q.elim
   | some t =>
    rw [e] at q
    obtain ⟨v, e1, r⟩ := zaG r1 e
    exact .inr ⟨l, us, i, v, rfl, Zx.mp ry, s1.sq, e1, q v H (Same.refl H) r⟩) h
theorem zbt {r : List V -> Hp -> VK -> Prop} {f : PyData -> Res PyData} (hf : ∀ (H : Hp) (P : Pv) (σ : L2.St) (G : List Sl) (x : V) (tx : PyData) (Q : VK), Hol X.K H P σ G -> Rl X.K H P tx x -> YA X.K W H P (f tx) Q -> r [x] H Q) {σ : L2.St} {H : Hp} {Q : VK} (h : tF X.K W (d1 f da) σ H Q) :
  tCB r (zcW (tF X.K W da) tNil) σ H Q := by
 obtain ⟨G, P, h, q⟩ := h
 unfold d1 at q
 obtain ⟨q1, q2, q3⟩ := Vy q
 exact ZD h q1 q2 fun tx x H1 ex s1 h1 rx => hf H1 P σ G x tx Q h1 rx ((q3 tx ex).up s1)
theorem YB {p : Pos} (hg : Gl X "len") (hm : X.mg "len" = none) (ha : EV X W a da) (hs : starEach [a] X.env = (false, eval a X.env) :: starEach [] X.env := by rfl) : EV X W (.Call (.Name "len" p) [a] [] pos) (d1 fLen da) :=
 Zv (Ve UF hg hm PySem.boot_len (Z0 ha Y0 hs) (he := hs)) fun σ H Q h => zbt (fun H P σ G x tx Q h rx q => by
  cases tx <;> try exact q.elim
  ·obtain ⟨l, us, rfl, s1, r1⟩ := ZR.mp rx
   have e := r1.length
   refine ⟨l, us, rfl, .inl s1.sq, ?_⟩
   rw [<- e]; exact Yk q
  ·obtain ⟨l, us, rfl, s1, r1⟩ := ZK.mp rx
   have e := r1.length
   refine ⟨l, us, rfl, .inr s1.sq, ?_⟩
   rw [<- e]; exact Yk q) h
theorem Ur {p : Pos} (hg : Gl X "abs") (hm : X.mg "abs" = none) (ha : EV X W a da) (hs : starEach [a] X.env = (false, eval a X.env) :: starEach [] X.env := by rfl) : EV X W (.Call (.Name "abs" p) [a] [] pos) (d1 fAbs da) :=
 Zv (Ve call_abs hg hm (show bootBuiltins "abs" = some (.builtin "abs") by decide +kernel) (Z0 ha Y0 hs) (he := hs)) fun σ H Q h => zbt (fun H P σ G x tx Q h rx q => by
  cases tx <;> try exact q.elim
  exact ⟨_, by rw [Zx.mp rx], Yk q⟩) h
def tyN : PyData -> String
 | .none => "NoneType"
 | .bool _ => "bool"
 | .int _ => "int"
 | .str _ => "str"
 | .list _ => "list"
 | .tuple _ => "tuple"
 | .dict _ => "dict"
def Kit (T : String) (p : PyData -> Bool) : Prop := ∀ (K : PySem.W.Frag) (t : PyData), PySem.W.kitOne K (.type (tyN t)) (.type T) = some (p t)
theorem zdL : Kit "int" isInt := fun K t => by cases t <;> rfl
theorem zbP : Kit "bool" zdR := fun K t => by cases t <;> rfl
theorem zai : Kit "tuple" za9 := fun K t => by cases t <;> rfl
theorem UM : Kit "list" isList := fun K t => by cases t <;> rfl
theorem call_isi {T : String} {p : PyData -> Bool} (hk : Kit T p) : Qw X (.builtin "isinstance") (fun xs H Q => ∃ x t P, xs = [x, .ty T] /\ (∀ ys, t ≠ .dict ys) /\ Rl X.K H P t x /\ Q (.bl (p t)) H) := by
 intro pins s σ H xs us Q I r h
 obtain ⟨x, t, P, rfl, nd, rx, q⟩ := h
 obtain ⟨u, w', rfl, ru, rw'⟩ := vals2 r
 cases rw'
 have e := hk X.K t
 have fin : ∀ tk, EP X pins σ Q (.bool (p t)) { s with toks := tk } := fun tk => ⟨.bl (p t), H, I.tok tk, rfl, q⟩
 cases t with
 | none => rw [Wd.mp rx] at ru; cases ru; exact PySem.W.kia_one PySem.W.kitx_none I.kIn True.intro e (fun z => nomatch z) fin
 | bool b => rw [YG.mp rx] at ru; cases ru; exact PySem.W.kia_one PySem.W.kitx_bool I.kIn True.intro e (fun z => nomatch z) fin
 | int i => rw [Zx.mp rx] at ru; obtain ⟨t, rfl⟩ := ru; exact PySem.W.kia_one PySem.W.kitx_int I.kIn True.intro e (fun z => nomatch z) fin
 | str y => rw [QN.mp rx] at ru; obtain ⟨t, rfl⟩ := ru; exact PySem.W.kia_one PySem.W.kitx_str I.kIn True.intro e (fun z => nomatch z) fin
 | list ys =>
  obtain ⟨l, vs, rfl, s1, r1⟩ := ZR.mp rx
  cases ru
  obtain ⟨its, rv, ⟨o, n, e1, hc, hd, hs⟩, z⟩ := I.list s1.sq
  exact PySem.W.kia_one PySem.W.kitx_list I.kIn ⟨o, e1, hc⟩ e (fun z => nomatch z) fin
 | tuple ys =>
  obtain ⟨l, vs, rfl, s1, r1⟩ := ZK.mp rx
  cases ru
  obtain ⟨its, rv, ⟨o, e1, hc, n, hs⟩, z⟩ := I.tuple s1.sq
  exact PySem.W.kia_one PySem.W.kitx_tuple I.kIn ⟨o, e1, hc⟩ e (fun z => nomatch z) fin
 | dict ys => exact absurd rfl (nd ys)
theorem YC {T : String} {x : Str} {f : PyData -> Bool} {p p2 : Pos} (hk : Kit T f) (hv : bootBuiltins x = some (.type T)) (hg : Gl X "isinstance") (hm : X.mg "isinstance" = none) (hg2 : Gl X x) (hm2 : X.mg x = none) (ha : EV X W a da)
  (hs : starEach [a, .Name x p2] X.env = (false, eval a X.env) :: starEach [.Name x p2] X.env := by rfl) (hs2 : starEach [.Name x p2] X.env = (false, eval (.Name x p2) X.env) :: starEach [] X.env := by rfl)
  (hpl : (backTo pos (starEach [.Name x p2] X.env)).any (·.1) = false := by rfl) (hn : x ≠ "__name__" := by decide) (hdb : (x == ("__debug__" : Str)) = false := by decide) :
  EV X W (.Call (.Name "isinstance" p) [a, .Name x p2] [] pos) (d1 (fIs f) da) :=
 Zv (Ve (call_isi hk) hg hm (show bootBuiltins "isinstance" = some (.builtin "isinstance") by decide +kernel) (Z0 ha (Z0 (pe_bltn (v := .ty T) hg2 hm2 hv rfl hn hdb) Y0 hs2) hs) (he := hs) (hpl := hpl)) fun σ H Q ⟨G, P, h, q⟩ => by
  unfold d1 at q
  obtain ⟨q1, q2, q3⟩ := Vy q
  refine ZD h q1 q2 fun tx x H1 ex s1 h1 rx => ?_
  have q4 := YA.up (q3 tx ex) s1
  refine ⟨x, tx, P, rfl, fun ys z => (by subst z; exact q4.elim), rx, ?_⟩
  cases tx <;> first | exact ZH q4 | exact q4.elim
theorem zd3 {op} (h : EV X W a da) : EV X W (.BoolOp op [a] pos) da := pe_one h
theorem zd7 {rest : List Expr} (ha : EV X W a da) (hb : EV X W (.BoolOp .And (b :: rest) pos) db) : EV X W (.BoolOp .And (a :: b :: rest) pos) (zek da db) :=
 Zv (pe_and ha hb) fun σ H Q ⟨G, P, h, q⟩ => by
  unfold zek at q
  obtain ⟨q1, q2, q3⟩ := Vy q
  refine ZD h q1 q2 fun tx x H1 ex s1 h1 rx => ?_
  have q4 := q3 tx ex
  cases tx <;> try exact q4.elim
  rename_i k
  refine ⟨k, YG.mp rx, ?_⟩
  cases k with
  | true => exact iteT ⟨G, P, h1, YA.up q4 s1⟩
  | false => exact iteF (ZH (YA.up q4 s1))
theorem ev_not (ha : EV X W a da) : EV X W (.UnaryOp .Not a pos) (dNotV da) :=
 Zv (pe_not ha) fun σ H Q ⟨G, P, h, q⟩ => by
  unfold dNotV at q
  obtain ⟨q1, q2, q3⟩ := Vy q
  refine ZD h q1 q2 fun tx x H1 ex s1 h1 rx => ?_
  have q4 := q3 tx ex
  cases tx <;> try exact q4.elim
  exact ⟨_, YG.mp rx, ZH (YA.up q4 s1)⟩
theorem ev_ifExp {dc : DT} (hc : TV X W c dc) (ha : EV X W a da) (hb : EV X W b db) : EV X W (.IfExp c a b pos) (dIfE dc da db) :=
 Zv (pe_ifExp hc ha hb) fun σ H Q ⟨G, P, h, q⟩ => by
  unfold dIfE at q
  obtain ⟨q1, q2, q3⟩ := bindTE q
  refine W9 h q1 q2 fun k H1 ek s1 h1 => ?_
  have q4 := q3 k ek
  cases k with
  | true => exact iteT ⟨G, P, h1, YA.up q4 s1⟩
  | false => exact iteF ⟨G, P, h1, YA.up q4 s1⟩
theorem truth_ok {H : Hp} {P : Pv} {x : V} {tx : PyData} {k : Bool} (r : Rl X.K H P tx x) (e : truth tx = .ok k) : TruV X.K x H k := by
 cases tx with
 | none => rw [Wd.mp r]; cases e; rfl
 | bool b => rw [YG.mp r]; cases e; rfl
 | int i => rw [Zx.mp r]; cases e; rfl
 | str x => cases e
 | list xs =>
  obtain ⟨l, us, rfl, s1, r1⟩ := ZR.mp r
  cases e
  refine .inl ⟨us, s1.sq, ?_⟩
  have := r1.length
  cases xs <;> cases us <;> first | rfl | simp at this
 | tuple xs =>
  obtain ⟨l, us, rfl, s1, r1⟩ := ZK.mp r
  cases e
  refine .inr (.inl ⟨us, s1.sq, ?_⟩)
  have := r1.length
  cases xs <;> cases us <;> first | rfl | simp at this
 | dict _ => cases e
theorem Xr (ha : EV X W a da) (he : ∀ whole, isTrue a X.env whole = (do let v <- whole; standAt a.pos; holding [v] (truthy v))) : TV X W a (tV da) :=
 zaT (pt_truth ha he) fun σ H Q ⟨G, P, h, q⟩ => by
  unfold Fx.tV at q
  obtain ⟨q1, q2, q3⟩ := bindET q
  refine ZD h q1 q2 fun tx x H1 ex s1 h1 rx => ?_
  have q4 := q3 tx ex
  cases e : truth tx with
  | stuck => rw [e] at q4; exact q4.elim
  | exc c => cases tx <;> cases e
  | ok k => rw [e] at q4; exact ⟨k, truth_ok rx e, q4 H1 s1⟩
theorem ZA {op : CmpOp} {r : R2} {f : PyData -> PyData -> Res PyData} (ho : OpR X (compareOp op) r /\ Fop X W r f) (ha : EV X W a da) (hb : EV X W b db) (hm : behindInMarks op b = false)
  (hf : ∀ x y, (∃ k, f x y = .ok (.bool k)) \/ f x y = .stuck := by first | exact fLt_b | exact fLe_b | exact fGt_b | exact fGe_b | exact fEq_b | exact fNe_b) : TV X W (.Compare a [op] [b] pos) (tV (d2 f da db)) :=
 zaT (pt_cmpR ho.1 ha hb hm) fun σ H Q ⟨G, P, h, q⟩ => by
  refine zbs ho.2 ⟨G, P, h, ?_⟩
  unfold Fx.tV at q
  cases e : d2 f da db G with
  | stuck => rw [e] at q; exact q
  | exc c => rw [e] at q; exact q
  | ok t =>
   rw [e] at q
   have hb : ∃ k, t = .bool k := by
    unfold d2 at e
    cases e1 : da G with
    | stuck => rw [e1] at e; cases e
    | exc c => rw [e1] at e; cases e
    | ok tx =>
     rw [e1, Res.bind_ok] at e
     cases e2 : db G with
     | stuck => rw [e2] at e; cases e
     | exc c => rw [e2] at e; cases e
     | ok ty =>
      rw [e2, Res.bind_ok] at e
      rcases hf tx ty with ⟨k, e3⟩ | e3
      ·rw [e3] at e; cases e; exact ⟨k, rfl⟩
      ·rw [e3] at e; cases e
   obtain ⟨k, rfl⟩ := hb
   exact fun v H' s r => ⟨k, YG.mp r, q H' s⟩
theorem WN {dt : DT} (ha : TV X W a dt) : TW X W (.BoolOp .And [a] pos) dt := pw_and1 ha
theorem Vi {dt : DT} (ha : TV X W a dt) : TW X W (.BoolOp .Or [a] pos) dt := pw_or1 ha
theorem VB {dt du : DT} {rest : List Expr} (ha : TV X W a dt) (hb : TW X W (.BoolOp .And (b :: rest) pos) du) : TW X W (.BoolOp .And (a :: b :: rest) pos) (tAnd dt du) :=
 zdf (pw_and ha hb) fun σ H Q ⟨G, P, h, q⟩ => by
  unfold Fx.tAnd at q
  obtain ⟨q1, q2, q3⟩ := bindT q
  refine W9 h q1 q2 fun k H1 ek s1 h1 => ?_
  have q4 := q3 k ek
  cases k with
  | true => exact iteT ⟨G, P, h1, Qu.up q4 s1⟩
  | false => exact iteF (q4 H1 s1)
theorem UG {dt du : DT} {rest : List Expr} (ha : TV X W a dt) (hb : TW X W (.BoolOp .Or (b :: rest) pos) du) : TW X W (.BoolOp .Or (a :: b :: rest) pos) (tOr dt du) :=
 zdf (pw_or ha hb) fun σ H Q ⟨G, P, h, q⟩ => by
  unfold Fx.tOr at q
  obtain ⟨q1, q2, q3⟩ := bindT q
  refine W9 h q1 q2 fun k H1 ek s1 h1 => ?_
  have q4 := q3 k ek
  cases k with
  | true => exact iteT (q4 H1 s1)
  | false => exact iteF ⟨G, P, h1, Qu.up q4 s1⟩
theorem tv_w {dt : DT} (h : TW X W a dt) : TV X W a dt := PW.pt h
theorem X4 {dt : DT} (ha : TV X W a dt) : TV X W (.UnaryOp .Not a pos) (tNot dt) :=
 zaT (pt_not ha) fun σ H Q ⟨G, P, h, q⟩ => by
  unfold Fx.tNot at q
  obtain ⟨q1, q2, q3⟩ := bindT q
  exact W9 h q1 q2 fun k H1 ek s1 h1 => (q3 k ek) H1 s1
end
end Fx
namespace Fx
open PySem PySem.Spec PyProof.Rows L2
section
variable {X : Cx} {W : Str -> Hp -> Prop} {fl : Bool} {a b c e : Expr} {es : List Expr} {da db : DE} {pos : Pos}
theorem Wu.up {K : PySem.W.Frag} {H H' : Hp} {P P' : Pv} {r : Res Out} {D : Ends} (q : Wu K W fl H P r D) (g : Go H P H' P') : Wu K W fl H' P' r D := by
 cases r with
 | ok o =>
  cases o with
  | nx G => exact fun σ2 H2 P2 g2 h2 => q σ2 H2 P2 (g.trans g2) h2
  | bk G => exact fun σ2 H2 P2 g2 h2 => q σ2 H2 P2 (g.trans g2) h2
  | ct G => exact fun σ2 H2 P2 g2 h2 => q σ2 H2 P2 (g.trans g2) h2
  | rt t => exact fun v H2 P2 g2 h2 n2 => q v H2 P2 (g.trans g2) h2 fun z => (n2 z).back g
 | exc c => exact fun H2 P2 g2 => q H2 P2 (g.trans g2)
 | stuck => exact q
theorem zaB {a : Res PyData} {f : PyData -> Res Out} {K : PySem.W.Frag} {H : Hp} {P : Pv} {D : Ends} (q : Wu K W fl H P (a.bind f) D) :
  (∀ c, a = .exc c -> ∀ H' P', Go H P H' P' -> W c H') /\ a ≠ .stuck /\ ∀ t, a = .ok t -> Wu K W fl H P (f t) D := by
 cases a with
 | ok t => exact ⟨fun c e => (by cases e), (by intro e; cases e), fun t' e => by cases e; exact q⟩
 | exc c => exact ⟨fun c' e => by cases e; exact q, (by intro e; cases e), fun t e => by cases e⟩
 | stuck => exact q.elim
theorem bindTS {a : Res Bool} {f : Bool -> Res Out} {K : PySem.W.Frag} {H : Hp} {P : Pv} {D : Ends} (q : Wu K W fl H P (a.bind f) D) :
  (∀ c, a = .exc c -> ∀ H' P', Go H P H' P' -> W c H') /\ a ≠ .stuck /\ ∀ t, a = .ok t -> Wu K W fl H P (f t) D := by
 cases a with
 | ok t => exact ⟨fun c e => (by cases e), (by intro e; cases e), fun t' e => by cases e; exact q⟩
 | exc c => exact ⟨fun c' e => by cases e; exact q, (by intro e; cases e), fun t e => by cases e⟩
 | stuck => exact q.elim
theorem bindAS {a : Res (List PyData)} {f : List PyData -> Res Out} {K : PySem.W.Frag} {H : Hp} {P : Pv} {D : Ends} (q : Wu K W fl H P (a.bind f) D) :
  (∀ c, a = .exc c -> ∀ H' P', Go H P H' P' -> W c H') /\ a ≠ .stuck /\ ∀ t, a = .ok t -> Wu K W fl H P (f t) D := by
 cases a with
 | ok t => exact ⟨fun c e => (by cases e), (by intro e; cases e), fun t' e => by cases e; exact q⟩
 | exc c => exact ⟨fun c' e => by cases e; exact q, (by intro e; cases e), fun t e => by cases e⟩
 | stuck => exact q.elim
theorem ZI : SVs X W fl [] ZO := zbG pss_nil fun D σ H ⟨G, P, h, q⟩ => q σ H P (.refl H P) h
theorem Zg {st : Stmt} {d : DS} (h : SV X W fl st d) : SVs X W fl [st] d := zdg h
theorem Ze {st : Stmt} {rest : List Stmt} {d1 d2 : DS} (h1 : SV X W fl st d1) (h2 : SVs X W fl rest d2) : SVs X W fl (st :: rest) (dSeq d1 d2) :=
 zbG (Je h1 h2) fun D σ H ⟨G, P, h, q⟩ => by
  refine ⟨G, P, h, ?_⟩
  unfold dSeq at q
  cases e : d1 G with
  | stuck => rw [e] at q; exact q.elim
  | exc c => rw [e] at q; exact q
  | ok o =>
   rw [e, Res.bind_ok] at q
   cases o with
   | nx G1 => exact fun σ' H' P' g h' => ⟨G1, P', h', Wu.up q g⟩
   | rt t => exact q
   | bk G1 => exact q
   | ct G1 => exact q
theorem X5 {st : Stmt} : SV X W fl st dNev := XQ ps_never fun D σ H ⟨G, P, h, q⟩ => q
theorem Zq (he : EV X W e da) : SV X W false (.Return (some e) pos) (dRet da) :=
 XQ (ps_ret he) fun D σ H ⟨G, P, h, q⟩ => by
  unfold dRet at q
  obtain ⟨h', g⟩ := h.frzA
  obtain ⟨q1, q2, q3⟩ := zaB q
  exact ZD h' (fun c e H' s => q1 c e H' P.bare (g.trans (.same s))) q2 fun t v H1 et s1 h1 r => (q3 t et) v H1 P.bare (g.trans (.same s1)) r fun z => by cases z
theorem Yl {x y : List Stmt} {dc : DT} {dx dy : DS} (hc : TV X W c dc) (hx : SVs X W fl x dx) (hy : SVs X W fl y dy) : SV X W fl (.If c x y pos) (dIf dc dx dy) :=
 XQ (ps_if hc hx hy) fun D σ H ⟨G, P, h, q⟩ => by
  unfold dIf at q
  obtain ⟨h', g⟩ := h.frzA
  obtain ⟨q1, q2, q3⟩ := bindTS q
  refine W9 h' (fun c e H' s => q1 c e H' P.bare (g.trans (.same s))) q2 fun k H1 ek s1 _ => ?_
  have q4 := q3 k ek
  cases k with
  | true => exact iteT ⟨G, P, h.same s1, Wu.up q4 (.same s1)⟩
  | false => exact iteF ⟨G, P, h.same s1, Wu.up q4 (.same s1)⟩
mutual
theorem zde {K : PySem.W.Frag} {H : Hp} {P P' : Pv} (hd : ∀ i a, P'.own i = some a -> ∃ o, H a = some o /\ LD o) (hf : P'.fb = P.fb) : ∀ (t : PyData) (v : V), Y7 t = true -> Rl K H P t v -> Rl K H P' t v
 | .none, v, _, r => Wd.mpr (Wd.mp r)
 | .bool b, v, _, r => YG.mpr (YG.mp r)
 | .int i, v, _, r => Zx.mpr (Zx.mp r)
 | .str x, v, _, r => QN.mpr (QN.mp r)
 | .list _, v, h, r => by simp at h
 | .dict _, v, h, r => by simp at h
 | .tuple xs, v, h, r => by
  obtain ⟨a, vs, e, s, rs⟩ := ZK.mp r
  refine ZK.mpr ⟨a, vs, e, ?_, zbE hd hf xs vs (by simpa using h) rs⟩
  refine ⟨s.1, fun i z => ?_, by rw [hf]; exact s.2.2⟩
  obtain ⟨ws, q, m⟩ := hd i a z
  rw [s.1] at q
  cases q
  rcases m with ⟨_, m⟩ | ⟨_, m⟩ <;> cases m
theorem zbE {K : PySem.W.Frag} {H : Hp} {P P' : Pv} (hd : ∀ i a, P'.own i = some a -> ∃ o, H a = some o /\ LD o) (hf : P'.fb = P.fb) : ∀ (ts : List PyData) (vs : List V), Ww ts = true -> Rls K H P ts vs -> Rls K H P' ts vs
 | [], vs, _, r => ZG.mpr (ZG.mp r)
 | t :: ts, vs, h, r => by
  obtain ⟨v, r', e, a, b⟩ := Zr.mp r
  simp only [JR, Bool.and_eq_true] at h
  exact Zr.mpr ⟨v, r', e, zde hd hf t v h.1 a, zbE hd hf ts r' h.2 b⟩
end
theorem after {K : PySem.W.Frag} {H H1 : Hp} {P P1 : Pv} {σ : L2.St} {G : List Sl} {is : List Nat} {t : PyData} {v : V} (h : Hol K H P σ G) (h1 : Hol K H P1 σ (frz is G)) (g : Go H P H P1) (s : Same H H1) (r : Rl K H1 P1 t v) :
  ∃ P2, Hol K H1 P2 σ (if Y7 t then G else frz is G) /\ Rl K H1 P2 t v /\ Go H P H1 P2 := by
 cases e : Y7 t with
 | true => exact ⟨P, by rw [if_pos rfl]; exact h.same s, zde (fun i a z => (h.same s).dom z) g.2.symm t v e r, .same s⟩
 | false => exact ⟨P1, by rw [if_neg Bool.false_ne_true]; exact h1.same s, r, g.trans (.same s)⟩
theorem Zo {i : Nat} {x : Str} {is : List Nat} {pos' : Pos} (hN : X.N.Nodup) (hi : X.N[i]? = some x) (hx : Loc X.env.scope x) (he : EV X W e da) (hs : swapsWith e (some (.Name x pos')) pos.line X.env = pure false := by rfl)
  (hf : X.fn x = true \/ X.env.scope.names.lookup x = some .local := by first | exact .inl rfl | exact .inr rfl | assumption) : SV X W fl (.Assign [.Name x pos'] e pos) (dSet i is da) :=
 XQ (ps_set hN hi hx he hs hf) fun D σ H ⟨G, P, h, q⟩ => by
  unfold dSet at q
  obtain ⟨P1, h1, g⟩ := h.frz is
  obtain ⟨q1, q2, q3⟩ := zaB q
  refine ZD h1 (fun c e H' s => q1 c e H' P1 (g.trans (.same s))) q2 fun t v H1 et s1 h2 r => ?_
  obtain ⟨P2, h3, r3, g3⟩ := after h h1 g s1 r
  exact (q3 t et) _ H1 (P2.del i) (g3.trans .del) (h3.setVal i r3)
theorem UL {body : List Stmt} {fuel : List Sl -> Nat} {dc : DT} {d : DS} (hp : PassesOwn (model X.prog X.w) X.A X.env X.xe) (hc : TV X W c dc) (hb : SVs X W fl body d) : SV X W fl (.While c body [] pos) (X2 fuel dc d) :=
 XQ (ps_while hp hc hb) fun D σ H ⟨G, P, h, q⟩ => by
  refine ⟨fun m σ' H' => ∃ G' P', Go H P H' P' /\ Hol X.K H' P' σ' G' /\ Wu X.K W fl H P (Xq dc d m G') D, ⟨fuel G, G, P, .refl H P, h, q⟩, ?_⟩
  rintro m σ' H' ⟨G', P', g', h', q'⟩
  cases m with
  | zero => exact q'.elim
  | succ m =>
   unfold Xq at q'
   obtain ⟨h2, g2⟩ := h'.frzA
   obtain ⟨q1, q2, q3⟩ := bindTS q'
   refine W9 h2 (fun c e H1 s => q1 c e H1 P'.bare (g'.trans (g2.trans (.same s)))) q2 fun k H1 ek s1 _ => ?_
   have q4 := q3 k ek
   cases k with
   | false => exact iteF (q4 σ' H1 P' (g'.trans (.same s1)) (h'.same s1))
   | true =>
    refine iteT ⟨fun σ2 H2 => ∃ m', m' < m + 1 /\ ∃ G' P', Go H P H2 P' /\ Hol X.K H2 P' σ2 G' /\ Wu X.K W fl H P (Xq dc d m' G') D, fun σ2 H2 z => z, ?_⟩
    refine ⟨G', P', h'.same s1, ?_⟩
    have q5 : Wu X.K W fl H P ((d G').bind fun o => match o with
     | .nx G' => Xq dc d m G'
     | .ct G' => Xq dc d m G'
     | .bk G' => .ok (.nx G')
     | .rt t => .ok (.rt t)) D := q4
    cases e : d G' with
    | stuck => rw [e] at q5; exact q5.elim
    | exc c => rw [e] at q5; exact Wu.up (r := .exc c) q5 (g'.trans (.same s1))
    | ok o =>
     rw [e, Res.bind_ok] at q5
     cases o with
     | nx G1 => exact fun σ2 H2 P2 g3 h3 => ⟨m, Nat.lt_succ_self m, G1, P2, g'.trans ((Go.same s1).trans g3), h3, q5⟩
     | ct G1 => exact fun σ2 H2 P2 g3 h3 => ⟨m, Nat.lt_succ_self m, G1, P2, g'.trans ((Go.same s1).trans g3), h3, q5⟩
     | bk G1 => exact fun σ2 H2 P2 g3 h3 => q5 σ2 H2 P2 (g'.trans ((Go.same s1).trans g3)) h3
     | rt t => exact fun v H2 P2 g3 h3 n3 => q5 v H2 P2 (g'.trans ((Go.same s1).trans g3)) h3 fun z => ((n3 z).back (.same s1)).back g'
end
theorem zdJ {a : DE} : ∀ G ts, Zd a dNil G = .ok ts -> ts.length = 1 := fun G ts h => by
 unfold Zd dNil at h
 cases e : a G <;> rw [e] at h <;> first | (cases h; done) | (cases h; rfl)
theorem zdG {a : DE} {r : DA} {n : Nat} (hr : ∀ G ts, r G = .ok ts -> ts.length = n) : ∀ G ts, Zd a r G = .ok ts -> ts.length = n + 1 := fun G ts h => by
 unfold Zd at h
 cases e : a G with
 | stuck => rw [e] at h; cases h
 | exc c => rw [e] at h; cases h
 | ok x =>
  rw [e, Res.bind_ok] at h
  cases e2 : r G with
  | stuck => rw [e2] at h; cases h
  | exc c => rw [e2] at h; cases h
  | ok xs => rw [e2] at h; cases h; simp [hr G xs e2]
theorem zdI {a b : DE} : ∀ G ts, Zd a (Zd b dNil) G = .ok ts -> ts.length = 2 := zdG zdJ
theorem zdH {a b c : DE} : ∀ G ts, Zd a (Zd b (Zd c dNil)) G = .ok ts -> ts.length = 3 := zdG zdI
theorem len_c4 {a b c d : DE} : ∀ G ts, Zd a (Zd b (Zd c (Zd d dNil))) G = .ok ts -> ts.length = 4 := zdG zdH
def spX (E : XK) (H : Hp) (c : Str) : Option (Str -> Value) -> Prop
 | none => False
 | some cl => ∀ dx H', Same H H' -> E (cl c) dx H'
def spF (K : PySem.W.Frag) (cl : Option (Str -> Value)) (np : Nat) (f : DF) : Sp := fun vs H Q E => vs.length = np /\ ∃ ts P, Rls K H P ts vs /\ (∀ i, P.own i = none) /\ ((∀ a, P.fb a -> ∃ o, H a = some o /\ LD o) /\ Vg K H) /\
 match f ts with
 | .ok t => ∀ v H', Same H H' -> Rl K H' P t v -> Q v H'
 | .exc c => spX E H c cl
 | .stuck => False
def EX (cl : Option (Str -> Value)) (W : Str -> Hp -> Prop) : XK := fun v _ H => ∃ c f, cl = some f /\ v = f c /\ W c H
structure Cal (X : Cx) (W : Str -> Hp -> Prop) (cl : Option (Str -> Value)) (k : Nat) (x : Str) (np : Nat) (f : DF) : Prop where
 ex : ∃ (CX : CXT) (fa : Addr) (fd : FuncData) (ps : List Str), FnOk X.prog X.w X.K X.mg X.base CX k fa fd ps (spF X.K cl np f) /\ X.mg x = some (.ref fa) /\ PySem.W.keepIn X.K (.ref fa) = true /\ ZP X.K fd ps [] /\ Qv CX X (EX cl W)
 nox : cl = none -> ∀ ts c, f ts ≠ .exc c
section
variable {X : Cx} {W : Str -> Hp -> Prop} {fl : Bool} {a b c e : Expr} {es : List Expr} {da db : DE} {pos : Pos}
theorem Zk {cl : Option (Str -> Value)} {k np : Nat} {x : Str} {f : DF} {d : DA} {p : Pos} (C : Cal X W cl k x np f) (hr : Room k X.A) (hg : Gl X x) (ha : AV X W (e :: es) d) (hL : ∀ G ts, d G = .ok ts -> ts.length = np := by first | exact zdJ | exact zdI | exact zdH | exact len_c4) (hdb : (x == ("__debug__" : Str)) = false := by decide)
  (he : starEach (e :: es) X.env = (false, eval e X.env) :: starEach es X.env := by rfl) (hpl : (backTo pos (starEach es X.env)).any (·.1) = false := by rfl) : EV X W (.Call (.Name x p) (e :: es) [] pos) (Zn f d) := by
 obtain ⟨CX, fa, fd, ps, F, hm, hk, hb, hx⟩ := C.ex
 refine Zv (zdm (x := x) (p := p) F hr hg hm hk hb .nil hx ha (hdb := hdb) (he := he) (hpl := hpl)) fun σ H Q ⟨G, P, h, q⟩ => ?_
 unfold Zn at q
 obtain ⟨q1, q2, q3⟩ := zce q
 refine Wv h q1 q2 fun ts vs H1 es' s1 h1 rs => ?_
 have q4 := YA.up (q3 ts es') s1
 have el : (vs ++ []) = vs := List.append_nil vs
 rw [el]
 -- the callee sees all that the caller may not hand on as forbidden
 have gg : Tr H1 P H1 ⟨fun _ => none, fun a => ¬ Off P a⟩ := fun a o e1 _ o1 => ⟨e1, fun _ z => (by cases z), fun z => z o1⟩
 have back : ∀ H2, Tr H2 ⟨fun _ => none, fun a => ¬ Off P a⟩ H2 P := fun H2 a o e1 _ o1 => ⟨e1, Classical.byContradiction fun z => o1.2 z⟩
 refine ⟨by rw [<- rs.length]; exact hL G ts es', ts, ⟨fun _ => none, fun a => ¬ Off P a⟩, Rls.go gg ts vs rs, fun _ => rfl, ⟨fun a z => h1.ld z, h1.tab⟩, ?_⟩
 ·cases e : f ts with
  | ok t => rw [e] at q4; exact fun v H' s r => q4 v H' s (Rl.go (back H') t v r)
  | exc c =>
   rw [e] at q4
   cases ec : cl with
   | none => exact absurd e (C.nox ec ts c)
   | some g => exact fun dx H' s => ⟨c, g, rfl, rfl, q4 H' s⟩
  | stuck => rw [e] at q4; exact q4
end
theorem zak {K : PySem.W.Frag} {H : Hp} {P : Pv} {ts : List PyData} {vs : List V} {N : List Str} (r : Rls K H P ts vs) (ho : ∀ i, P.own i = none) (hf : (∀ a, P.fb a -> ∃ o, H a = some o /\ LD o) /\ Vg K H) :
  Hol K H P (L2.start N vs) (ts.map .val ++ List.replicate (N.length - ts.length) .emp) where
 sl := fun i s e => by
  by_cases hi : i < ts.length
  ·rw [List.getElem?_append_left (by simpa using hi), List.getElem?_map] at e
   cases et : ts[i]? with
   | none => rw [et] at e; cases e
   | some t =>
    rw [et] at e
    cases e
    obtain ⟨v, ev, rv⟩ := r.getT et
    refine ⟨v, ?_, rv⟩
    have hl := r.length
    unfold L2.start
    rw [List.getD_eq_getElem?_getD, List.getElem?_append_left (by simp; omega), List.getElem?_map, ev]
    rfl
  ·rw [List.getElem?_append_right (by simpa using hi)] at e
   rw [List.getElem?_replicate] at e
   split at e
   ·cases e; trivial
   ·cases e
 inj := fun i j a h _ => by rw [ho i] at h; cases h
 only := fun i a h => by rw [ho i] at h; cases h
 fbd := hf.1
 tab := hf.2
 nfb := fun i a h => by rw [ho i] at h; cases h
 len := by
  have hl := r.length
  unfold L2.start
  simp [hl]
theorem fn_ok {P : Program} {w : World} {K : PySem.W.Frag} {mg : Str -> Option Value} {base : Heap} {x qual : Str} {st : Stmt} {f : Addr} {fd : FuncData} {N ps : List Str} {k np : Nat} {d : DS} (F : Fun K x qual st f fd) (S : FnScope N ps (Zc st)) (hnp : ps.length = np)
  (hb : ∀ (cdv : Value) (A : Around) (outer : List Env) (s : Shared) (H : Hp) (E : XK), Room k (A.deeper (envOfC qual (Zc st) s.heap.objs.size f cdv)) ->
   SVs (cxOf CX0 P w K mg base N qual (Zc st) f cdv A outer s H E).nox (fun _ _ => False) false (Zl st) d) : FnOk P w K mg base CX0 (k + 1) f fd ps (spF K none np (runQ N.length np d)) := by
 refine F.ok S (fun vs H Q E h => by rw [hnp]; exact h.1) fun cdv A outer s H vs Q E hr h => ⟨_, hb cdv A outer s H E hr, ?_⟩
 obtain ⟨hl, ts, P', rs, ho, hf, q⟩ := h
 have hlt : ts.length = np := by rw [rs.length]; exact hl
 refine ⟨_, P', zak rs ho hf, ?_⟩
 unfold runQ runF at q
 rw [if_pos hlt] at q
 have en : N.length - np = N.length - ts.length := by rw [hlt]
 rw [en] at q
 have sm : ∀ H' P2, Go H P' H' P2 -> Same H H' := fun H' P2 g => g.all ho
 have bk : ∀ H' P2, Go H P' H' P2 -> Tr H' P2 H' P' := fun H' P2 g b o e _ z => ⟨e, fun i => by rw [ho i]; exact fun z => (by cases z), by rw [<- g.fbe]; exact z.2⟩
 cases e : d (ts.map .val ++ List.replicate (N.length - ts.length) .emp) with
 | stuck => rw [e] at q; exact q.elim
 | exc c => rw [e] at q; exact q.elim
 | ok o =>
  rw [e, Res.bind_ok] at q
  cases o with
  | nx G => exact fun σ' H' P2 g h' => q .non H' (sm H' P2 g) (Wd.mpr rfl)
  | rt t => exact fun v H' P2 g r _ => q v H' (sm H' P2 g) (Rl.go (bk H' P2 g) t v r)
  | bk G => exact q.elim
  | ct G => exact q.elim
end Fx
namespace Fx
open PySem PySem.Spec PyProof.Rows L2
structure Cle (P : Program) (w : World) (K : PySem.W.Frag) (mg : Str -> Option Value) (base : Heap) (k : Nat) (x : Str) (np : Nat) (f : DF) : Prop where
 ex : ∃ (fa : Addr) (fd : FuncData) (ps : List Str), FnOk P w K mg base CX0 k fa fd ps (spF K none np f) /\ mg x = some (.ref fa) /\ PySem.W.keepIn K (.ref fa) = true /\ ZP K fd ps []
 nox : ∀ ts c, f ts ≠ .exc c
section
variable {P : Program} {w : World} {K : PySem.W.Frag} {mg : Str -> Option Value} {base : Heap}
theorem Cle.cal {X : Cx} {W : Str -> Hp -> Prop} {k np : Nat} {x : Str} {f : DF} (C : Cle X.prog X.w X.K X.mg X.base k x np f) : Cal X W none k x np f := by
 obtain ⟨fa, fd, ps, F, hm, hk, hb⟩ := C.ex
 exact ⟨⟨CX0, fa, fd, ps, F, hm, hk, hb, fun _ _ _ _ _ _ _ h => h.elim⟩, fun _ => C.nox⟩
theorem Cle.mono {j k np : Nat} {x : Str} {f : DF} (C : Cle P w K mg base j x np f) (h : j <= k) : Cle P w K mg base k x np f := by
 obtain ⟨fa, fd, ps, F, r⟩ := C.ex
 exact ⟨⟨fa, fd, ps, F.mono h, r⟩, C.nox⟩
theorem ZJ {x : Str} {st : Stmt} {fa : Addr} {fd : FuncData} {N ps : List Str} {k n np : Nat} {d : DS} (F : Fun K x x st fa fd) (hm : mg x = some (.ref fa)) (b : ZP K fd ps []) (S : FnScope N ps (Zc st)) (hnp : ps.length = np) (hN : N.length = n)
  (hb : ∀ (cdv : Value) (A : Around) (outer : List Env) (s : Shared) (H : Hp) (E : XK), Room k (A.deeper (envOfC x (Zc st) s.heap.objs.size fa cdv)) ->
   SVs (cxOf CX0 P w K mg base N x (Zc st) fa cdv A outer s H E).nox (fun _ _ => False) false (Zl st) d) : Cle P w K mg base (k + 1) x np (runQ n np d) := by
 subst hN
 exact ⟨⟨fa, fd, ps, fn_ok F S hnp hb, hm, F.kp, b⟩, fun ts c => zbz _ _ _ ts c⟩
theorem law_sp {f : DF} {ns : List Int} (h : f [.list (ns.map .int)] = .ok (.bool true)) {H : Hp} {a : Addr} (hT : Vg K H) (hS : SqL K H a (ns.map V.int)) : spF K none 1 f [.ref a] H (fun v _ => v = .bl true) (fun _ _ _ => False) := by
 refine ⟨rfl, [.list (ns.map .int)], ⟨fun _ => none, fun _ => False⟩, Zr.mpr ⟨.ref a, [], rfl, ZR.mpr ⟨a, ns.map V.int, rfl, ?_, rls_ints ns⟩, ZG.mpr rfl⟩, fun _ => rfl, ⟨fun _ z => z.elim, hT⟩, ?_⟩
 ·rcases hS with h | h
  ·exact .inl ⟨h, fun _ z => (by cases z), fun z => z⟩
  ·exact .inr h
 ·rw [h]
  exact fun v H' _ r => YG.mp r
end
end Fx
namespace Fx
open PySem PySem.Spec PyProof.Rows L2
def Yld (K : PySem.W.Frag) (J : It) (ts : List PyData) (H : Hp) (P : Pv) : Prop := ∀ H' P', Tr H P H' P' -> (∀ p, H' p = none -> Off P' p) -> ∀ i,
 (∀ t, ts[i]? = some t -> J.go i H' /\ ∀ x H'', J.yld i H' x H'' -> Same H' H'' /\ Rl K H'' P' t x) /\ (ts.length <= i -> J.stop i H')
def PostI (K : PySem.W.Frag) (W : Str -> Hp -> Prop) (H : Hp) (P : Pv) (r : Res (List PyData)) (R : It -> Hp -> Prop) : Prop :=
 match r with
 | .ok ts => ∀ J H', Same H H' -> Yld K J ts H' P -> R J H'
 | .exc c => ∀ H', Same H H' -> W c H'
 | .stuck => False
def tFI (K : PySem.W.Frag) (W : Str -> Hp -> Prop) (d : DA) : TI := fun σ H R => ∃ G P, Hol K H P σ G /\ PostI K W H P (d G) R
def IV (X : Cx) (W : Str -> Hp -> Prop) (tg iter : Expr) (d : DA) : Prop := PI X tg iter (tFI X.K W d)
theorem Jg {X : Cx} {tg e : Expr} {t t' : TI} (h : PI X tg e t) (w : ∀ σ H Q, t' σ H Q -> t σ H Q) : PI X tg e t' := fun pins s σ H Q I q => h pins s σ H Q I (w σ H Q q)
theorem bindEI {a : Res PyData} {f : PyData -> Res (List PyData)} {K : PySem.W.Frag} {W : Str -> Hp -> Prop} {H : Hp} {P : Pv} {Q : It -> Hp -> Prop} (q : PostI K W H P (a.bind f) Q) :
  (∀ c, a = .exc c -> ∀ H', Same H H' -> W c H') /\ a ≠ .stuck /\ ∀ t, a = .ok t -> PostI K W H P (f t) Q := by
 cases a with
 | ok t => exact ⟨fun c e => (by cases e), (by intro e; cases e), fun t' e => by cases e; exact q⟩
 | exc c => exact ⟨fun c' e => by cases e; exact q, (by intro e; cases e), fun t e => by cases e⟩
 | stuck => exact q.elim
section
variable {X : Cx} {W : Str -> Hp -> Prop} {fl : Bool} {tg a b c e : Expr} {da db : DE} {pos : Pos}
def iSq (K : PySem.W.Frag) (tl : TE) : TI := fun σ H R => tl σ H fun x H1 => (∃ a, x = .ref a /\ (∃ xs, SqL K H1 a xs) /\ R (Itl K a) H1) \/ (∃ a, x = .ref a /\ (∃ xs, SqT K H1 a xs) /\ R (Itt K a) H1)
theorem pi_sq {l : Expr} {tl : TE} (hl : PE X l tl) : PI X tg l (iSq X.K tl) := by
 intro pins s σ H R I h
 refine thn (hl pins s σ H _ I h) fun v s1 ⟨x, H1, I1, r1, q1⟩ => ?_
 rcases q1 with ⟨a, e, ⟨xs, hq⟩, q⟩ | ⟨a, e, ⟨xs, hq⟩, q⟩
 ·subst e
  cases r1
  obtain ⟨its, rv, p, hz⟩ := I1.list hq
  refine wpAny_pyIter_list p.isList ?_
  refine ⟨s1.heap.objs.size, [s1.heap.objs.size], _, _, H1, rfl, I1.kept (t' := s1.toks) fun b o e => Heap.get?_push_of_some _ e, zcU a _, ⟨_, Heap.get?_push_size _ rfl, rfl, rfl⟩, fun b hb => ?_, q⟩
  have e : b = s1.heap.objs.size := by simpa using hb
  subst e
  exact I1.fpOk (Nat.le_refl _) (I1.hok.fresh (Nat.le_refl _))
 ·subst e
  cases r1
  obtain ⟨its, rv, p, hz⟩ := I1.tuple hq
  refine wpAny_pyIter_tuple (show s1.heap.IsTuple a its.toArray from p) ?_
  refine ⟨s1.heap.objs.size, [s1.heap.objs.size], _, _, H1, rfl, I1.kept (t' := s1.toks) fun b o e => Heap.get?_push_of_some _ e, zcj a _, ⟨_, Heap.get?_push_size _ rfl, rfl, rfl⟩, fun b hb => ?_, q⟩
  have e : b = s1.heap.objs.size := by simpa using hb
  subst e
  exact I1.fpOk (Nat.le_refl _) (I1.hok.fresh (Nat.le_refl _))
theorem yld_list {H : Hp} {P : Pv} {l : Addr} {xs : List PyData} {vs : List V} (s : SL X.K H P l vs) (r : Rls X.K H P xs vs) : Yld X.K (Itl X.K l) xs H P := fun H' P' tr nf i =>
 ⟨fun t e => by
  have r' := Rls.go tr xs vs r
  have s' := (s.go tr).sq
  obtain ⟨v, ev, rv⟩ := r'.getT e
  refine ⟨⟨vs, v, s', ev⟩, fun x H'' y => ?_⟩
  obtain ⟨rfl, y⟩ := y
  have := y vs s'
  rw [ev] at this
  cases this
  exact ⟨Same.refl _, rv⟩, fun hl => ⟨vs, (s.go tr).sq, by rw [<- r.length]; exact hl⟩⟩
theorem zcP {H : Hp} {P : Pv} {l : Addr} {xs : List PyData} {vs : List V} (s : ST X.K H P l vs) (r : Rls X.K H P xs vs) : Yld X.K (Itt X.K l) xs H P := fun H' P' tr nf i =>
 ⟨fun t e => by
  have r' := Rls.go tr xs vs r
  have s' := (s.go tr).sq
  obtain ⟨v, ev, rv⟩ := r'.getT e
  refine ⟨⟨vs, v, s', ev⟩, fun x H'' y => ?_⟩
  obtain ⟨rfl, y⟩ := y
  have := y vs s'
  rw [ev] at this
  cases this
  exact ⟨Same.refl _, rv⟩, fun hl => ⟨vs, (s.go tr).sq, by rw [<- r.length]; exact hl⟩⟩
theorem YS (ha : EV X W a da) : IV X W tg a (iSeq da) :=
 Jg (pi_sq ha) fun σ H R ⟨G, P, h, q⟩ => by
  unfold iSeq at q
  obtain ⟨q1, q2, q3⟩ := bindEI q
  refine ZD h q1 q2 fun tx x H1 ex s1 h1 rx => ?_
  have q4 := q3 tx ex
  cases tx <;> try exact q4.elim
  ·obtain ⟨l, vs, rfl, sl, rs⟩ := ZR.mp rx
   exact .inl ⟨l, rfl, ⟨vs, sl.sq⟩, q4 _ H1 s1 (yld_list sl rs)⟩
  ·obtain ⟨l, vs, rfl, sl, rs⟩ := ZK.mp rx
   exact .inr ⟨l, rfl, ⟨vs, sl.sq⟩, q4 _ H1 s1 (zcP sl rs)⟩
theorem rngT_get (lo : Int) (n i : Nat) : (rngT lo n)[i]? = if i < n then some (.int (lo + (i : Int))) else none := by
 unfold rngT
 rw [List.getElem?_map]
 by_cases h : i < n
 ·rw [if_pos h, List.getElem?_eq_getElem (by simpa using h)]
  simp
 ·rw [if_neg h, List.getElem?_eq_none (by simpa using h)]
  rfl
theorem zcQ {H : Hp} {P : Pv} (lo : Int) (n : Nat) : Yld X.K (Itr lo n) (rngT lo n) H P := by
 intro H' P' tr nf i
 refine ⟨fun t e => ?_, fun hl => ?_⟩
 ·rw [rngT_get] at e
  split at e
  ·rename_i hi
   cases e
   refine ⟨hi, fun x H'' y => ?_⟩
   obtain ⟨rfl, rfl⟩ := y
   exact ⟨Same.refl _, Zx.mpr rfl⟩
  ·cases e
 ·have : (rngT lo n).length = n := by simp [rngT]
  rw [this] at hl
  exact hl
theorem Yw {p : Pos} (hg : Gl X "range") (hm : X.mg "range" = none) (ha : EV X W a da) (hs : starEach [a] X.env = [(false, eval a X.env)] := by rfl) (hs' : starEach [a] X.env = (false, eval a X.env) :: starEach [] X.env := by rfl) : IV X W tg (.Call (.Name "range" p) [a] [] pos) (iRng da) :=
 Jg (zdl hg hm (Z0 ha Y0 hs') hs) fun σ H R ⟨G, P, h, q⟩ => by
  unfold Fx.iRng at q
  obtain ⟨q1, q2, q3⟩ := bindEI q
  refine ZD h q1 q2 fun tx x H1 ex s1 h1 rx => ?_
  have q4 := q3 tx ex
  cases tx <;> try exact q4.elim
  rename_i j
  simp only at q4
  split at q4
  ·rename_i hj
   exact ⟨j, by rw [Zx.mp rx], (Vd hj).1, (Vd hj).2, q4 _ H1 s1 (zcQ 0 j.toNat)⟩
  ·exact q4.elim
def GV (X : Cx) (tg : Expr) (st : PyData -> List Sl -> Res (List Sl)) : Prop :=
 ∃ g, PG X tg g /\ ∀ (t : PyData) (v : V) (σ : L2.St) (H : Hp) (P : Pv) (G : List Sl) (Q : L2.St -> Hp -> Prop), Hol X.K H P σ G -> Rl X.K H P t v ->
  (∃ G', st t G = .ok G' /\ ∀ σ' P', Go H P H P' -> Hol X.K H P' σ' G' -> Q σ' H) -> g v σ H Q
theorem Zw {i : Nat} {x : Str} (hN : X.N.Nodup) (hi : X.N[i]? = some x) (hx : Loc X.env.scope x) (hf : X.fn x = true \/ X.env.scope.names.lookup x = some .local := by first | exact .inl rfl | exact .inr rfl | assumption) : GV X (.Name x pos) (Zi i) :=
 ⟨gName i, zaV hN hi hx hf, fun t v σ H P G Q h r ⟨G', e, q⟩ => by
  cases e
  exact q _ (P.del i) .del (h.setVal i r)⟩
theorem Js {i j : Nat} {x y : Str} {p1 p2 : Pos} {k : Nat} (hc : X.calm = true) (hN : X.N.Nodup) (hi : X.N[i]? = some x) (hx : Loc X.env.scope x) (hj : X.N[j]? = some y) (hy : Loc X.env.scope y)
  (hf : X.fn x = true \/ X.env.scope.names.lookup x = some .local := by first | exact .inl rfl | exact .inr rfl | assumption) (hf2 : X.fn y = true \/ X.env.scope.names.lookup y = some .local := by first | exact .inl rfl | exact .inr rfl | assumption)
  (hs : (assignEach [.Name x p1, .Name y p2] X.env).map (·.2) = assign (.Name x p1) X.env :: (assignEach [.Name y p2] X.env).map (·.2) := by rfl)
  (hs2 : (assignEach [.Name y p2] X.env).map (·.2) = assign (.Name y p2) X.env :: (assignEach [] X.env).map (·.2) := by rfl)
  (hn : (assignEach [.Name x p1, .Name y p2] X.env).length = 2 := by rfl) (hst : (assignEach [.Name x p1, .Name y p2] X.env).findIdx? (·.1) = none := by rfl) : GV X (.Tuple [.Name x p1, .Name y p2] k pos) (Xf i j) :=
 ⟨_, pg_tup hc (zbH (zaV hN hi hx hf) (zbH (zaV hN hj hy hf2) pgs_nil hs2) hs) hn hst, fun t v σ H P G Q h r ⟨G', e, q⟩ => by
  unfold Xf at e
  split at e
  ·rename_i tx ty G0
   cases e
   obtain ⟨l, vs, rfl, s1, rs⟩ := ZK.mp r
   obtain ⟨v1, r1, rfl, a1, b1⟩ := Zr.mp rs
   obtain ⟨v2, r2, rfl, a2, b2⟩ := Zr.mp b1
   cases ZG.mp b2
   have h1 := h.setVal i a1
   have h2 := h1.setVal j (Rl.go .del ty v2 a2)
   exact ⟨l, [v1, v2], rfl, s1.sq, rfl, v1, [v2], rfl, v2, [], rfl, rfl, q _ _ (Go.del.trans .del) h2⟩
  ·cases e⟩
theorem Hol.offn {K : PySem.W.Frag} {H : Hp} {P : Pv} {σ : L2.St} {G : List Sl} (h : Hol K H P σ G) : ∀ p, H p = none -> Off P p := fun p e => h.off_new e
theorem YX {body : List Stmt} {is : List Nat} {st : PyData -> List Sl -> Res (List Sl)} {it : DA} {d : DS} {iter : Expr} (hp : PassesOwn (model X.prog X.w) X.A X.env X.xe) (hc : X.calm = true) (hi : IV X W tg iter it) (hg : GV X tg st) (hb : SVs X W fl body d)
  (hst : ∀ t G c, st t G ≠ .exc c := by first | exact zc6 | exact zc5) (hs : ∀ x, foldedSetIterable iter X.env x = pure x := by intro _; rfl) : SV X W fl (.For tg iter body [] pos) (dFor st is it d) := by
 obtain ⟨g, pg, gp⟩ := hg
 refine XQ (ps_for hp hc hi pg hb hs) fun D σ H ⟨G, P, h, q⟩ => ?_
 unfold dFor at q
 obtain ⟨P1, h1, g1⟩ := h.frz is
 obtain ⟨q1, q2, q3⟩ := bindAS q
 refine ⟨frz is G, P1, h1, ?_⟩
 cases e : it (frz is G) with
 | stuck => exact absurd e q2
 | exc c => exact fun H' s => q1 c e H' P1 (g1.trans (.same s))
 | ok ts =>
  intro J H1 s1 y
  have q4 := q3 ts e
  have g2 : Go H P H1 P1 := g1.trans (.same s1)
  refine ⟨fun i m σ' H' => m = ts.length - i /\ i <= ts.length /\ ∃ G' P', Go H1 P1 H' P' /\ Hol X.K H' P' σ' G' /\ Wu X.K W fl H P (forL st d (ts.drop i) G') D, ⟨ts.length, by simp, Nat.zero_le _, frz is G, P1, .refl _ _, h1.same s1, q4⟩, ?_⟩
  rintro i m σ' H' ⟨rfl, hi, G', P', g', h', q'⟩
  obtain ⟨y1, y2⟩ := y H' P' g'.tr h'.offn i
  by_cases hlt : i < ts.length
  ·have et : ts[i]? = some ts[i] := by simp [hlt]
   obtain ⟨go, yl⟩ := y1 _ et
   rw [List.drop_eq_getElem_cons hlt] at q'
   unfold forL at q'
   refine .inr ⟨go, fun σ2 H2 => ∃ G2 P2, Go H1 P1 H2 P2 /\ Hol X.K H2 P2 σ2 G2 /\ Wu X.K W fl H P (forL st d (ts.drop (i + 1)) G2) D, fun σ2 H2 z => ⟨_, by omega, rfl, hlt, z⟩, fun x H2 yy => ?_⟩
   obtain ⟨s2, r2⟩ := yl x H2 yy
   have h2 := h'.same s2
   cases es : st ts[i] G' with
   | stuck => rw [es] at q'; exact q'.elim
   | exc c => exact absurd es (hst _ _ c)
   | ok G1 =>
    rw [es, Res.bind_ok] at q'
    refine gp ts[i] x σ' H2 P' G' _ h2 r2 ⟨G1, es, fun σ3 P3 g3 h3 => ⟨G1, P3, h3, ?_⟩⟩
    have gg : Go H1 P1 H2 P3 := g'.trans ((Go.same s2).trans g3)
    cases ed : d G1 with
    | stuck => rw [ed] at q'; exact q'.elim
    | exc c => rw [ed] at q'; exact Wu.up (r := .exc c) q' (g2.trans gg)
    | ok o =>
     rw [ed, Res.bind_ok] at q'
     cases o with
     | nx G4 => exact fun σ4 H4 P4 g4 h4 => ⟨G4, P4, gg.trans g4, h4, q'⟩
     | ct G4 => exact fun σ4 H4 P4 g4 h4 => ⟨G4, P4, gg.trans g4, h4, q'⟩
     | bk G4 => exact fun σ4 H4 P4 g4 h4 => q' σ4 H4 P4 (g2.trans (gg.trans g4)) h4
     | rt t => exact fun v H4 P4 g4 h4 n4 => q' v H4 P4 (g2.trans (gg.trans g4)) h4 fun z => (n4 z).back (g2.trans gg)
  ·have ei : i = ts.length := by omega
   subst ei
   rw [List.drop_length] at q'
   exact .inl ⟨y2 (Nat.le_refl _), q' σ' H' P' (g2.trans g') h'⟩
end
end Fx
namespace Fx
open PySem PySem.Spec PyProof.Rows L2
theorem Same.updL {H H8 : Hp} {D : Addr} {vs ws : List V} (s : Same H H8) (hD : H D = none) (h8 : H8 D = some (.lst vs)) : Same H (upd H8 D (.lst ws)) where
 kp := fun b o e n => by rw [Zz (ZF e hD)]; exact s.kp b o e n
 free := fun {b} w => by
  by_cases z : b = D
  ·rw [z]; exact hD
  ·rw [Zz z] at w; exact s.free w
 tab := fun K t => Vg.mono (s.tab K t) fun b o e nl => by
  rw [Zz (fun z => by rw [z, h8] at e; cases e; exact nl (.inl ⟨_, rfl⟩))]; exact e
 tbk := fun b ps e => by rw [Zz (ZF e hD)]; exact s.tbk b ps e
def zbn (K : PySem.W.Frag) (W : Str -> Hp -> Prop) (H : Hp) (P : Pv) (r : Res (List PyData)) (Q : VK) : Prop :=
 match r with
 | .ok xs => ∀ p vs H', Same H H' -> H p = none -> H' p = some (.lst vs) -> Rls K H' (P.fbd p) xs vs -> Q (.ref p) H'
 | .exc c => ∀ H', Same H H' -> W c H'
 | .stuck => False
def tFO (K : PySem.W.Frag) (W : Str -> Hp -> Prop) (d : DA) : TE := fun σ H Q => ∃ G P, Hol K H P σ G /\ zbn K W H P (d G) Q
def OV (X : Cx) (W : Str -> Hp -> Prop) (e : Expr) (d : DA) : Prop := PE X e (tFO X.K W d)
theorem Tr.fbd {H : Hp} {P : Pv} {p : Addr} : Tr H (P.fbd p) H P := fun a o e _ q => ⟨e, q.1, fun z => q.2 (.inl z)⟩
theorem Tr.tofbd {H : Hp} {P : Pv} {p : Addr} (hp : H p = none) : Tr H P H (P.fbd p) := fun a o e _ q => ⟨e, q.1, fun z => z.elim q.2 fun z => by rw [z, hp] at e; cases e⟩
theorem rl_new {K : PySem.W.Frag} {H H' : Hp} {P : Pv} {σ : L2.St} {G : List Sl} {p : Addr} {vs : List V} {xs : List PyData} (h : Hol K H P σ G) (s : Same H H') (hp : H p = none) (hl : H' p = some (.lst vs)) (r : Rls K H' (P.fbd p) xs vs) : Rl K H' P (.list xs) (.ref p) :=
 ZR.mpr ⟨p, vs, rfl, .off hl (h.off_new hp), Rls.go .fbd xs vs r⟩
theorem Hol.own' {K : PySem.W.Frag} {H H' : Hp} {P : Pv} {σ : L2.St} {G : List Sl} {p : Addr} {vs : List V} {xs : List PyData} {i : Nat} (h : Hol K H P σ G) (hi : i < G.length) (s : Same H H') (hp : H p = none) (hl : H' p = some (.lst vs)) (r : Rls K H' (P.fbd p) xs vs) :
  Hol K H' (P.put i p) (σ.set i (some (.ref p))) (G.set i (.own xs)) /\ Go H P H' (P.put i p) := by
 have g0 : Go H P H' (P.put i p) := (Go.put hp).trans (.same s)
 have gg := g0.tr
 have tt : Tr H' (P.fbd p) H' (P.put i p) := fun a o e _ q => ⟨e, fun j z => by
  have z' : (if j = i then some p else P.own j) = some a := z
  split at z'
  ·cases z'; exact q.2 (Or.inr rfl)
  ·exact q.1 j z', fun z => q.2 (Or.inl z)⟩
 have rr : Rls K H' (P.put i p) xs vs := Rls.go tt xs vs r
 refine ⟨⟨fun j s' q => ?_, ?_, ?_, ?_, ?_, ?_, s.tab K h.tab⟩, g0⟩
 ·by_cases e : j = i
  ·subst e
   rw [List.getElem?_set_self hi] at q
   cases q
   exact ⟨p, vs, VM (by rw [h.len]; exact hi), if_pos rfl, hl, rr⟩
  ·rw [List.getElem?_set_ne (Ne.symm e)] at q
   have z := h.sl j s' q
   rw [U3 e]
   cases s' with
   | emp => trivial
   | val t' => obtain ⟨v', e1, r'⟩ := z; exact ⟨v', e1, Rl.go gg t' v' r'⟩
   | own xs' =>
    obtain ⟨p', vs', e1, e2, e3, r'⟩ := z
    exact ⟨p', vs', e1, (by show (if j = i then some p else P.own j) = _; rw [if_neg e]; exact e2), s.kp _ _ e3 Ul, Rls.go gg xs' vs' r'⟩
   | dct xs' =>
    obtain ⟨p', vs', e1, e2, e3, r'⟩ := z
    exact ⟨p', vs', e1, (by show (if j = i then some p else P.own j) = _; rw [if_neg e]; exact e2), s.kp _ _ e3 nt_dT, Rlk.go gg xs' vs' r'⟩
 ·intro a b c h1 h2
  have h1' : (if a = i then some p else P.own a) = some c := h1
  have h2' : (if b = i then some p else P.own b) = some c := h2
  split at h1'
  ·split at h2'
   ·rename_i z1 z2; rw [z1, z2]
   ·cases h1'; obtain ⟨ws, q, _⟩ := h.dom h2'; rw [hp] at q; cases q
  ·split at h2'
   ·cases h2'; obtain ⟨ws, q, _⟩ := h.dom h1'; rw [hp] at q; cases q
   ·exact h.inj a b c h1' h2'
 ·intro j a z
  have z' : (if j = i then some p else P.own j) = some a := z
  split at z'
  ·rename_i e; subst e; exact ⟨_, List.getElem?_set_self hi, trivial⟩
  ·rename_i ne
   obtain ⟨xs, q, m⟩ := h.only j a z'
   exact ⟨xs, by rw [List.getElem?_set_ne (Ne.symm ne)]; exact q, m⟩
 ·intro a z
  obtain ⟨o, q, m⟩ := h.fbd a z
  refine ⟨o, ?_, m⟩
  exact s.kp _ _ q m.nt
 ·intro j a z
  have z' : (if j = i then some p else P.own j) = some a := z
  split at z'
  ·cases z'; exact h.nofb hp
  ·exact h.nfb j a z'
 ·rw [List.length_set, List.length_set]; exact h.len
def Y4 (env : Env) : List (Str × NameKind) -> List (Str × Addr) -> List (Str × Addr)
 | [], cs => cs
 | (n, k) :: r, cs => Y4 env r (if (k == NameKind.free) = true then (n, (env.cells.lookup n).getD 0) :: cs else cs)
theorem zaw (env : Env) (f : Str × NameKind -> List (Str × Addr) -> Sem (ForInStep (List (Str × Addr))))
  (hf : ∀ n k cs, f (n, k) cs = if (k == NameKind.free) = true then (cellOf env n >>= fun a => pure (.yield ((n, a) :: cs))) else pure (.yield cs)) :
  ∀ (names : List (Str × NameKind)) (cs : List (Str × Addr)), (∀ y ∈ names, y.2 = .free -> ∃ c, env.cells.lookup y.1 = some c) -> (forIn names cs f : Sem (List (Str × Addr))) = pure (Y4 env names cs)
 | [], cs, h => rfl
 | (n, k) :: r, cs, h => by
  rw [List.forIn_cons, hf]
  have ih := fun cs => zaw env f hf r cs fun y hy => h y (List.mem_cons_of_mem _ hy)
  by_cases hk : (k == NameKind.free) = true
  ·obtain ⟨c, e⟩ := h (n, k) List.mem_cons_self (by simpa using hk)
   have e2 : cellOf env n = pure c := by unfold cellOf; rw [e]
   rw [if_pos hk, e2, pure_bind, pure_bind]
   show forIn r _ f = _
   rw [ih]
   have ec : Y4 env ((n, k) :: r) cs = Y4 env r (if (k == NameKind.free) = true then (n, (env.cells.lookup n).getD 0) :: cs else cs) := rfl
   rw [ec, if_pos hk, e]
   rfl
  ·rw [if_neg hk, pure_bind]
   show forIn r _ f = _
   rw [ih]
   have ec : Y4 env ((n, k) :: r) cs = Y4 env r (if (k == NameKind.free) = true then (n, (env.cells.lookup n).getD 0) :: cs else cs) := rfl
   rw [ec, if_neg hk]
theorem JB {scope : Scope} {env : Env} (h : ∀ y ∈ scope.names, y.2 = .free -> ∃ c, env.cells.lookup y.1 = some c) : closureFor scope env = pure (Y4 env scope.names []) := by
 unfold closureFor
 have := zaw env (fun x r => match x with
  | (name, kind) => if (kind == NameKind.free) = true then (cellOf env name >>= fun a => pure (.yield ((name, a) :: r))) else pure (.yield r)) (fun _ _ _ => rfl) scope.names [] h
 simp only [bind_pure]
 exact this
theorem Ub (env : Env) : ∀ (names : List (Str × NameKind)) (cs : List (Str × Addr)), (∀ y ∈ names, y.2 = .free -> ∃ c, env.cells.lookup y.1 = some c) -> (∀ x c, cs.lookup x = some c -> env.cells.lookup x = some c) ->
  ∀ x c, (Y4 env names cs).lookup x = some c -> env.cells.lookup x = some c
 | [], cs, h, hc, x, c, e => hc x c e
 | (n, k) :: r, cs, h, hc, x, c, e => by
  unfold Y4 at e
  refine Ub env r _ (fun y hy => h y (List.mem_cons_of_mem _ hy)) (fun y d ey => ?_) x c e
  by_cases hk : (k == NameKind.free) = true
  ·rw [if_pos hk] at ey
   obtain ⟨c', e'⟩ := h (n, k) List.mem_cons_self (by simpa using hk)
   rw [List.lookup_cons] at ey
   split at ey
   ·rename_i q
    have : y = n := by simpa using q
    subst this
    rw [e'] at ey ⊢
    exact ey
   ·exact hc y d ey
  ·rw [if_neg hk] at ey
   exact hc y d ey
theorem Wf {α : Type} {x : Str} {a : α} : ∀ {cs : List (Str × α)}, (x, a) ∈ cs -> ∃ b, cs.lookup x = some b
 | (y, b) :: r, h => by
  rw [List.lookup_cons]
  split
  ·exact ⟨b, rfl⟩
  ·rename_i q
   rcases List.mem_cons.mp h with e | e
   ·cases e; simp at q
   ·exact Wf e
theorem Uc (env : Env) : ∀ (names : List (Str × NameKind)) (cs : List (Str × Addr)) (x : Str), ((∃ c, (x, c) ∈ cs) \/ (x, NameKind.free) ∈ names) -> ∃ c, (x, c) ∈ Y4 env names cs
 | [], cs, x, h => by
  rcases h with h | h
  ·exact h
  ·cases h
 | (n, k) :: r, cs, x, h => by
  unfold Y4
  refine Uc env r _ x ?_
  rcases h with ⟨c, h⟩ | h
  ·left
   split
   ·exact ⟨c, List.mem_cons_of_mem _ h⟩
   ·exact ⟨c, h⟩
  ·rcases List.mem_cons.mp h with e | e
   ·cases e
    left
    exact ⟨_, by rw [if_pos (by rfl)]; exact List.mem_cons_self⟩
   ·exact .inr e
theorem We {α : Type} {x : Str} {a : α} : ∀ {cs : List (Str × α)}, cs.lookup x = some a -> (x, a) ∈ cs
 | (y, b) :: r, h => by
  rw [List.lookup_cons] at h
  split at h
  ·rename_i q
   have : x = y := by simpa using q
   cases h; subst this
   exact List.mem_cons_self
  ·exact List.mem_cons_of_mem _ (We h)
theorem Ui {scope : Scope} {env : Env} {x : Str} (hcell : ∀ y ∈ scope.names, y.2 ≠ .cell) : (relabel scope env).names.lookup x = some .cell \/ (relabel scope env).names.lookup x = some .free -> (x, NameKind.free) ∈ scope.names := by
 intro h
 have : ∃ k, (x, k) ∈ (relabel scope env).names /\ (k = .cell \/ k = .free) := by
  rcases h with h | h
  ·exact ⟨_, We h, .inl rfl⟩
  ·exact ⟨_, We h, .inr rfl⟩
 obtain ⟨k, hm, hk⟩ := this
 unfold relabel at hm
 obtain ⟨⟨n, k0⟩, hm0, e⟩ := List.mem_map.mp hm
 simp only at e
 split at e
 ·rename_i q
  cases e
  simp only [Bool.and_eq_true, beq_iff_eq] at q
  rw [q.1.1] at hm0
  exact hm0
 ·cases e
  rcases hk with rfl | rfl
  ·exact absurd rfl (hcell _ hm0)
  ·exact hm0
def cxC (X : Cx) (scope : Scope) (N : List Str) (s₀ : Shared) (H₀ : Hp) (ex : List Addr) (pn : List (Addr × Obj) := []) : Cx :=
 { X with env := compEnvC scope (Y4 X.env scope.names []) s₀.heap.objs.size X.env, N := N, s₀ := s₀, H₀ := H₀, outer := X.stack, ex := ex, fn := fun _ => false, pn := pn, xe := fun _ _ => False }
structure CompOk (X : Cx) (scope : Scope) (N : List Str) (nv : Nat) (cap : List Nat) : Prop where
 cell : ∀ y ∈ scope.names, y.2 ≠ .cell
 kind : scope.kind = .function
 names : ∀ y ∈ scope.names, y.2 = .local -> scope.names.lookup y.1 = some .local
 free : ∀ y ∈ scope.names, y.2 = .free -> X.env.kindOf y.1 = some .cell \/ X.env.kindOf y.1 = some .free
 len : N.length = nv + cap.length
 caps : ∀ (i j : Nat) (x : Str), cap[i]? = some j -> N[nv + i]? = some x -> X.N[j]? = some x /\ ((relabel scope X.env).names.lookup x = some .cell \/ (relabel scope X.env).names.lookup x = some .free) /\ (X.env.kindOf x = some .cell \/ X.env.kindOf x = some .free)
def sig (nv : Nat) (cap : List Nat) (σ : L2.St) : L2.St := List.replicate nv none ++ cap.map fun j => σ.getD j none
section
variable {X : Cx} {scope : Scope} {N : List Str} {nv : Nat} {cap : List Nat} {pins : List (Addr × Obj)} {σ : L2.St} {H : Hp} {s : Shared} {ex : List Addr}
theorem CompOk.has (C : CompOk X scope N nv cap) (ok : X.Ok) : ∀ y ∈ scope.names, y.2 = .free -> ∃ c, X.env.cells.lookup y.1 = some c := fun y hy e => ok.has y.1 (C.free y hy e)
theorem CompOk.start (C : CompOk X scope N nv cap) (I : Inv X pins σ H s) (hex : ∀ b ∈ ex, FpOk X pins H b /\ b < s.heap.objs.size) {h' : Heap} {t : Nat} {m : Str -> Option Value} (hn : h'.Ns s.heap.objs.size m) (hk : ∀ b o, s.heap.get? b = some o -> h'.get? b = some o) :
  Inv (cxC X scope N s H ex) [] (sig nv cap σ) H { s with heap := h', toks := t } := by
 have hh := C.has I.ok
 have sub := Ub X.env scope.names [] hh (fun x c e => by cases e)
 have hL : s.heap.objs.size <= (cxC X scope N s H ex).env.locals := Nat.le_refl _
 have stk : ∀ b ∈ frs X.stack, b < s.heap.objs.size := fun b hb => by
  obtain ⟨_, o, ho, _⟩ := I.stack.mem hb
  exact Heap.lt_size ho
 refine ⟨⟨I.ok.mod, C.kind, I.ok.glob, I.ok.blt, hL, fun x y c h1 h2 => I.ok.inj x y c (sub x c h1) (sub y c h2), fun x hx => ?_, fun x c h => ?_, I.ok.hd, I.ok.frames, .inl rfl, fun b hb => ?_, fun b o e => I.bs b o e, ?_, fun b o e hb => ?_, fun b hb => ?_, I.stack, I.stkFree⟩,
  rfl, I.bare, Un.kept hk, ⟨m, hn, fun i x v e1 e2 e3 => ?_⟩, fun x c e => ?_, I.hok.fresh (Nat.le_refl _), fun x c e => I.freeC x c (sub x c e), fun p hp => ?_, I.hok.kept hk, ?_⟩
 ·have hx' : (relabel scope X.env).names.lookup x = some .cell \/ (relabel scope X.env).names.lookup x = some .free := hx
  obtain ⟨c, hc⟩ := Uc X.env scope.names [] x (.inr (Ui C.cell hx'))
  exact Wf hc
 ·cases h
 ·obtain ⟨f, lt⟩ := hex b hb
  refine ⟨Nat.ne_of_lt lt, fun x c e => f.2.2.2.2.1 x c (sub x c e)⟩
 ·exact Nat.le_trans I.ok.bsz I.sz
 ·obtain ⟨f, lt⟩ := hex b hb
  rcases f.2.2.2.1 with z | z
  ·exact I.ok.noex b o e z
  ·exact absurd (Nat.lt_of_lt_of_le (Heap.lt_size e) (Nat.le_trans I.ok.bsz z)) (Nat.lt_irrefl _)
 ·obtain ⟨f, lt⟩ := hex b hb
  intro z
  rcases List.mem_cons.mp (I.stkSub b z) with e | e
  ·exact f.2.1 e
  ·exact f.2.2.1 e
 ·-- the names
  have hi : nv <= i := by
   rcases Nat.lt_or_ge i nv with z | z
   ·unfold sig at e2
    rw [List.getElem?_append_left (by simpa using z), List.getElem?_replicate] at e2
    split at e2 <;> cases e2
   ·exact z
  obtain ⟨k, rfl⟩ := Nat.exists_eq_add_of_le hi
  unfold sig at e2
  rw [List.getElem?_append_right (by simp), List.getElem?_map] at e2
  have ek : nv + k - (List.replicate nv (none : Option V)).length = k := by simp
  rw [ek] at e2
  cases ec : cap[k]? with
  | none => rw [ec] at e2; cases e2
  | some j =>
   rw [ec] at e2
   have e2' : σ.getD j none = some v := by simpa using e2
   obtain ⟨c1, c2, c3⟩ := C.caps k j x ec e1
   obtain ⟨m0, _, hl⟩ := I.loc
   have vis : Vis X.env.scope x := c3.elim (fun z => .inr (.inl z)) fun z => .inr (.inr z)
   obtain ⟨u, ru, lk⟩ := hl j x v c1 (getD_some e2') vis
   refine ⟨u, ru, .inr ⟨c2, ?_⟩⟩
   rcases lk with ⟨z, _⟩ | ⟨_, c, ec', o, ho, hd⟩
   ·rcases c3 with c3 | c3 <;> (rw [c3] at z; cases z)
   ·obtain ⟨c', hc'⟩ := Uc X.env scope.names [] x (.inr (Ui C.cell c2))
    obtain ⟨c'', hc''⟩ := Wf hc'
    have := sub x c'' hc''
    rw [ec'] at this
    cases this
    exact ⟨c, hc'', o, hk c o ho, hd⟩
 ·obtain ⟨v, o, ho, hd⟩ := I.cell x c (sub x c e)
  exact ⟨v, o, hk c o ho, hd⟩
 ·exact absurd (show p ∈ ([] : List (Addr × Obj)) from hp) (by simp)
 ·show (sig nv cap σ).length = N.length
  unfold sig
  rw [C.len]
  simp
theorem CompOk.stop {H' : Hp} {s' : Shared} {σ' : L2.St} {pl : List (Addr × Obj)} (I : Inv X pins σ H s) (hex : ∀ b ∈ ex, FpOk X pins H b) (J : Inv (cxC X scope N s H ex) pl σ' H' s') : Inv X pins σ H' s' :=
 I.call' J.os J.base J.hok J.bare fun b hb => by
  obtain ⟨f0, f1, f2, f3, f4, f5⟩ := hex b hb
  exact ⟨f3, f1, f4, f5⟩
theorem inv_pn {s₀ : Shared} {H₀ : Hp} {E : Value -> Shared -> Prop} (I : Inv (cxC X scope N s₀ H₀ ex) pins σ H s) : Inv ((cxC X scope N s₀ H₀ ex pins).wish E) [] σ H s :=
 ⟨⟨I.ok.mod, I.ok.kind, I.ok.glob, I.ok.blt, I.ok.above, I.ok.inj, I.ok.has, I.ok.cab, I.ok.hd, I.ok.frames, I.ok.stk, I.ok.exf, I.ok.bs, I.ok.bsz, I.ok.noex, I.ok.exfs, I.ok.funs, I.ok.frf⟩, I.os, I.bare, I.base, I.loc, I.cell, I.free, I.freeC,
  fun p hp => I.pin p (show p ∈ [] ++ pins by simpa using (show p ∈ pins ++ [] from hp)), I.hok, I.len⟩
theorem inv_np {s₀ : Shared} {H₀ : Hp} {pn : List (Addr × Obj)} {E : Value -> Shared -> Prop} (I : Inv ((cxC X scope N s₀ H₀ ex pn).wish E) pins σ H s) : Inv (cxC X scope N s₀ H₀ ex) (pn ++ pins) σ H s :=
 ⟨⟨I.ok.mod, I.ok.kind, I.ok.glob, I.ok.blt, I.ok.above, I.ok.inj, I.ok.has, I.ok.cab, I.ok.hd, I.ok.frames, I.ok.stk, I.ok.exf, I.ok.bs, I.ok.bsz, I.ok.noex, I.ok.exfs, I.ok.funs, I.ok.frf⟩, I.os, I.bare, I.base, I.loc, I.cell, I.free, I.freeC,
  fun p hp => I.pin p (show p ∈ pn ++ pins from by simpa using (show p ∈ [] ++ (pn ++ pins) from hp)), I.hok, I.len⟩
end
end Fx
namespace Fx
open PySem PySem.Spec PyProof.Rows L2
theorem zcJ {prog : Program} {w : World} {A : Around} {R : Result -> Shared -> Prop} {s : Shared} {elt target iter : Expr} {ifs : List Expr} {scope : Scope} {pos : Pos} {it acc : Value} {env : Env} (I : Nat -> Shared -> Prop)
  (turn : ∀ n s, I n s -> wpAny (model prog w) A (pyNext it) (fun r s₁ => match r with
   | none => R (.ok .next) s₁
   | some v => wpAny (model prog w) A (letOwnedTupleGo target it v) (fun _ s₀ => wpAny (model prog w) A (assign target env v) (fun _ s₂ =>
     wpAny (model prog w) A (forIn ifs true fun c r => if r = true then do let ok <- isTrue c env (eval c env); pure (ForInStep.yield ok) else pure (ForInStep.yield r)) (fun ok s₃ =>
      if ok = true then wpAny (model prog w) A (eval elt env) (fun x s₄ =>
       wpAny (model prog w) A (call (.builtin "list.append") [acc, x]) (fun _ s₅ => ∃ m, m < n /\ I m s₅) (notedBy (model prog w) A env fun e s' => R (.error e) s') s₄) (notedBy (model prog w) A env fun e s' => R (.error e) s') s₃
      else ∃ m, m < n /\ I m s₃) (notedBy (model prog w) A env fun e s' => R (.error e) s') s₂) (notedBy (model prog w) A env fun e s' => R (.error e) s') s₀) (notedBy (model prog w) A env fun e s' => R (.error e) s') s₁) (notedBy (model prog w) A env fun e s' => R (.error e) s') s)
  (n : Nat) (h : I n s) :
  codeAny (model prog w) A (.compLoop (.ListComp elt [⟨target, iter, ifs, 0⟩] scope pos) 0 it acc env) R s := by
 refine codeAny_loop rfl I (fun n s hI => ?_) n h
 show wpAny _ A ((compTurn (.ListComp elt [⟨target, iter, ifs, 0⟩] scope pos) 0 it acc env).onRaise (fun x => do noteFrame x env; theTreesLotGoes x)) _ _ s
 refine wpAny_noted ?_
 rw [compTurn_list]
 refine wpAny_bind (wpAny_standAt (wpAny_bind (wpAny_mono (turn n s hI) (fun r s₁ h₁ => ?_) fun _ _ h' => h')))
 cases r with
 | none => exact wpAny_pure h₁
 | some v =>
  refine wpAny_bind (wpAny_mono h₁ (fun _ s₀ h₀ => ?_) fun _ _ h' => h')
  refine wpAny_bind (wpAny_mono h₀ (fun _ s₂ h₂ => wpAny_bind (wpAny_mono h₂ (fun ok s₃ h₃ => ?_) fun _ _ h' => h')) fun _ _ h' => h')
  cases ok with
  | false => exact wpAny_pure ⟨rfl, h₃⟩
  | true =>
   exact wpAny_bind (wpAny_bind (wpAny_mono h₃ (fun x s₄ h₄ => wpAny_bind (wpAny_mono h₄ (fun _ s₅ h₅ => wpAny_pure (wpAny_pure ⟨rfl, h₅⟩)) fun _ _ h' => h')) fun _ _ h' => h'))
def CT (X : Cx) (W : Str -> Hp -> Prop) (ifs : List Expr) (dc : DT) : Prop := (ifs = [] /\ dc = tT) \/ ∃ c, ifs = [c] /\ TV X W c dc
theorem Yp {X : Cx} {W : Str -> Hp -> Prop} : CT X W [] tT := .inl ⟨rfl, rfl⟩
theorem ct_one {X : Cx} {W : Str -> Hp -> Prop} {c : Expr} {dc : DT} (h : TV X W c dc) : CT X W [c] dc := .inr ⟨c, rfl, h⟩
section
variable {X : Cx} {scope : Scope} {N : List Str} {nv : Nat} {cap : List Nat}
theorem hol_cap {K : PySem.W.Frag} {H H' : Hp} {P P' : Pv} {σ : L2.St} {G : List Sl} (h : Hol K H P σ G) (tr : Tr H P H' P') (ho : ∀ i, P'.own i = none) (hf : ∀ a, P'.fb a -> ∃ o, H' a = some o /\ LD o) (htb : Vg K H') : Hol K H' P' (sig nv cap σ) (List.replicate nv .emp ++ capS cap G) where
 sl := fun i s e => by
  by_cases hi : i < nv
  ·rw [List.getElem?_append_left (by simpa using hi), List.getElem?_replicate, if_pos hi] at e
   cases e
   trivial
  ·rw [List.getElem?_append_right (by simpa using hi)] at e
   have el : i - (List.replicate nv Sl.emp).length = i - nv := by simp
   rw [el] at e
   unfold capS at e
   rw [List.getElem?_map] at e
   cases ec : cap[i - nv]? with
   | none => rw [ec] at e; cases e
   | some j =>
    rw [ec] at e
    have es : (sig nv cap σ).getD i none = σ.getD j none := by
     unfold sig
     rw [List.getD_eq_getElem?_getD, List.getElem?_append_right (by simpa using hi)]
     have el2 : i - (List.replicate nv (none : Option V)).length = i - nv := by simp
     rw [el2, List.getElem?_map, ec]
     rfl
    rw [es]
    simp only [Option.map_some, Option.some.injEq] at e
    cases eg : G[j]? with
    | none => rw [eg] at e; subst e; trivial
    | some x =>
     rw [eg] at e
     cases x with
     | emp => subst e; trivial
     | own xs => subst e; trivial
     | dct xs => subst e; trivial
     | val t =>
      subst e
      obtain ⟨v, ev, rv⟩ := h.sl j _ eg
      exact ⟨v, ev, Rl.go tr t v rv⟩
 inj := fun i j a z _ => by rw [ho i] at z; cases z
 only := fun i a z => by rw [ho i] at z; cases z
 fbd := hf
 nfb := fun i a z => by rw [ho i] at z; cases z
 len := by simp [sig]
 tab := htb
theorem zcC {K : PySem.W.Frag} {H : Hp} {P : Pv} {σ : L2.St} {G1 : List Sl} {C : List Sl} (hC : ∀ i, i < nv -> ∀ s, C[i]? = some s -> s = .emp) (hC2 : ∀ (i : Nat) (x : Sl), C[i]? = some x -> ¬ x.mine) (h : Hol K H P σ G1) (hl : G1.length = C.length) (he : ∀ i, nv <= i -> G1[i]? = C[i]?) :
  Hol K H P.bare σ C := by
 obtain ⟨h', g⟩ := h.frzA
 refine ⟨fun i s e => ?_, fun _ _ _ z => (by cases z), fun _ _ z => (by cases z), h'.fbd, fun _ _ z => (by cases z), by rw [h.len, hl], h'.tab⟩
 by_cases hi : i < nv
 ·rw [hC i hi s e]; trivial
 ·have e1 : G1[i]? = some s := by rw [he i (by omega)]; exact e
  cases s with
  | emp => trivial
  | own xs => exact (hC2 i _ e trivial).elim
  | dct xs => exact (hC2 i _ e trivial).elim
  | val t =>
   refine h'.sl i (.val t) ?_
   rw [WA, e1]; rfl
abbrev cxT (xz : Cx -> Value -> Shared -> Prop) (X : Cx) (scope : Scope) (N : List Str) (s₀ : Shared) (H₀ : Hp) (ex : List Addr) (pn : List (Addr × Obj)) : Cx := (cxC X scope N s₀ H₀ ex pn).wish (xz (cxC X scope N s₀ H₀ ex pn))
theorem zcI {xz : Cx -> Value -> Shared -> Prop} {W : Str -> Hp -> Prop} {tg elt iter : Expr} {ifs : List Expr} {pos : Pos} {st : PyData -> List Sl -> Res (List Sl)} {dc : DT} {de : DE} {pins : List (Addr × Obj)} {σ : L2.St} {H2 : Hp} {s3 s4 : Shared} {P : Pv} {G : List Sl} {J : It} {fp : List Addr} {itA D : Addr} {tn : Nat -> Heap -> Prop} {ts : List PyData} {r : Res (List PyData)} {R : Result -> Shared -> Prop} {m : Str -> Option Value}
  (C : CompOk X scope N nv cap) (hc : X.calm = true) (hk : zaJ nv st)
  (hg : ∀ s₀ H₀ ex pn, GV (cxT xz X scope N s₀ H₀ ex pn) tg st) (ht : ∀ s₀ H₀ ex pn, (∀ b ∈ ex, ∃ o, (b, o) ∈ pn) -> CT (cxT xz X scope N s₀ H₀ ex pn) W ifs dc) (he : ∀ s₀ H₀ ex pn, (∀ b ∈ ex, ∃ o, (b, o) ∈ pn) -> EV (cxT xz X scope N s₀ H₀ ex pn) W elt de)
  (h2 : Hol X.K H2 P σ G) (hD : H2 D = none) (I3 : Inv X pins σ (upd H2 D (.lst [])) s3) (T : Turn X.prog X.w X.K tg J fp itA tn) (hf : ∀ b ∈ fp, FpOk X pins (upd H2 D (.lst [])) b /\ b < s3.heap.objs.size) (y : Yld X.K J ts H2 P) (hlen : ts.length <= 16777216)
  (hall : Ym st dc de (List.replicate nv .emp ++ capS cap G) ts = r) (hr : r ≠ .stuck) (hW : ∀ c, r = .exc c -> ∀ H', Same H2 H' -> W c H')
  (hn : s4.heap.Ns s3.heap.objs.size m) (hkp : ∀ b o, s3.heap.get? b = some o -> s4.heap.get? b = some o) (e4 : ∃ h' t, s4 = { s3 with heap := h', toks := t }) (tn0 : tn 0 s4.heap)
  (fin : ∀ s' H' σ' vs all, r = .ok all -> Inv (cxC X scope N s3 (upd H2 D (.lst [])) fp) [] σ' H' s' -> H' D = some (.lst vs) -> Same H2 H' -> Rls X.K H' (P.fbd D) all vs -> R (.ok .next) s')
  (finx : ∀ pn e s', (∀ b ∈ fp, ∃ o, (b, o) ∈ pn) -> xz (cxC X scope N s3 (upd H2 D (.lst [])) fp pn) e s' -> notedBy (model X.prog X.w) X.A (compEnvC scope (Y4 X.env scope.names []) s3.heap.objs.size X.env) (fun e s' => R (.error e) s') e s') :
  codeAny (model X.prog X.w) X.A (.compStart (.ListComp elt [⟨tg, iter, ifs, 0⟩] scope pos) 0 (.ref itA) (.ref D) (compEnvC scope (Y4 X.env scope.names []) s3.heap.objs.size X.env)) R s4 := by
 obtain ⟨h4, t4, rfl⟩ := e4
 have J4 := C.start (t := t4) I3 hf hn hkp
 -- what no element may hold
 have trc : ∀ H', Same H2 H' -> (∃ vs, H' D = some (.lst vs)) -> Tr H2 P H' ⟨fun _ => none, fun a => ¬ Off P a \/ a = D⟩ := fun H' s _ a o e n q => ⟨s.kp a o e n, fun _ z => (by cases z), fun z => z.elim (fun z => z q) fun z => by rw [z, hD] at e; cases e⟩
 have offc : ∀ H', Same H2 H' -> (∃ vs, H' D = some (.lst vs)) -> ∀ p, H' p = none -> Off ⟨fun _ => none, fun a => ¬ Off P a \/ a = D⟩ p := fun H' s ⟨vs, hv⟩ p hp => ⟨fun _ z => (by cases z), fun z => z.elim (fun z => z (h2.off_new (s.free hp))) fun z => by rw [z, hv] at hp; cases hp⟩
 have fbc : ∀ H', Same H2 H' -> (∃ vs, H' D = some (.lst vs)) -> ∀ a, (¬ Off P a \/ a = D) -> ∃ o, H' a = some o /\ LD o := fun H' s ⟨vs, hv⟩ a z => z.elim (fun z => let ⟨o, q, m⟩ := h2.ld z; ⟨o, s.kp _ _ q m.nt, m⟩) fun z => by rw [z]; exact ⟨_, hv, .inl ⟨vs, rfl⟩⟩
 have hCe : ∀ i, i < nv -> ∀ x, (List.replicate nv Sl.emp ++ capS cap G)[i]? = some x -> x = .emp := fun i hi x e => by
  rw [List.getElem?_append_left (by simpa using hi), List.getElem?_replicate, if_pos hi] at e
  cases e
  rfl
 have hCo : ∀ (i : Nat) xs, (List.replicate nv Sl.emp ++ capS cap G)[i]? = some xs -> ¬ xs.mine := fun i xs e m => by
  by_cases hi : i < nv
  ·rw [hCe i hi _ e] at m; exact m
  ·rw [List.getElem?_append_right (by simpa using hi)] at e
   unfold capS at e
   rw [List.getElem?_map] at e
   cases ec : cap[i - (List.replicate nv Sl.emp).length]? with
   | none => rw [ec] at e; cases e
   | some j =>
    rw [ec] at e
    simp only [Option.map_some, Option.some.injEq] at e
    subst e
    revert m
    cases eg : G[j]? with
    | none => exact fun m => m
    | some x => cases x <;> exact fun m => m
 have fpo : ∀ H', (∀ b ∈ fp, H' b = none) -> ∀ b ∈ fp, FpOk (cxC X scope N s3 (upd H2 D (.lst [])) fp) [] H' b := fun H' hz b hb => by
  obtain ⟨f, lt⟩ := hf b hb
  refine ⟨hz b hb, Nat.ne_of_lt lt, fun z => ?_, .inl hb, fun x c e => f.2.2.2.2.1 x c (Ub X.env scope.names [] (C.has I3.ok) (fun x c e => by cases e) x c e), fun p hp => absurd (show p ∈ ([] : List (Addr × Obj)) from hp) (by simp)⟩
  rcases List.mem_cons.mp (I3.stkSub b z) with e | e
  ·exact f.2.1 e
  ·exact f.2.2.1 e
 have up0 : Same H2 (upd H2 D (.lst [])) := ZB hD
 -- the loop
 have loop : ∀ s5 : Shared, s5 = { s3 with heap := h4, toks := t4 } -> codeAny (model X.prog X.w) X.A (.compLoop (.ListComp elt [⟨tg, iter, ifs, 0⟩] scope pos) 0 (.ref itA) (.ref D) (compEnvC scope (Y4 X.env scope.names []) s3.heap.objs.size X.env)) R s5 := by
  rintro s5 rfl
  refine zcJ (fun n s => ∃ i σ' H' vs ys, n = ts.length - i /\ i <= ts.length /\ Inv (cxC X scope N s3 (upd H2 D (.lst [])) fp) [] σ' H' s /\ tn i s.heap /\ (∀ b ∈ fp, H' b = none) /\ Same H2 H' /\ H' D = some (.lst vs) /\
   Rls X.K H' ⟨fun _ => none, fun a => ¬ Off P a \/ a = D⟩ ys vs /\ Hol X.K H' ⟨fun _ => none, fun a => ¬ Off P a \/ a = D⟩ σ' (List.replicate nv .emp ++ capS cap G) /\ ((Ym st dc de (List.replicate nv .emp ++ capS cap G) (ts.drop i)).bind fun zs => .ok (ys ++ zs)) = r /\ ys.length <= i) ?_ ts.length
   ⟨0, _, _, [], [], rfl, Nat.zero_le _, J4, tn0, fun b hb => (hf b hb).1.1, up0, Zs, ZG.mpr rfl, hol_cap h2 (trc _ up0 ⟨_, Zs⟩) (fun _ => rfl) (fbc _ up0 ⟨_, Zs⟩) (up0.tab _ h2.tab), by rw [List.drop_zero, hall]; cases r <;> rfl, Nat.le_refl _⟩
  rintro n s ⟨i, σ', H', vs, ys, rfl, hi, Ji, tni, fpn, sm, hDv, rys, hol, ecl, hyl⟩
  obtain ⟨y1, y2⟩ := y H' ⟨fun _ => none, fun a => ¬ Off P a \/ a = D⟩ (trc H' sm ⟨vs, hDv⟩) (offc H' sm ⟨vs, hDv⟩) i
  by_cases hlt : i < ts.length
  ·have et : ts[i]? = some ts[i] := by simp [hlt]
   obtain ⟨go, yl⟩ := y1 _ et
   rw [List.drop_eq_getElem_cons hlt] at ecl
   unfold Ym at ecl
   -- the turn's own data
   obtain ⟨G1, eG⟩ : ∃ G1, st ts[i] (List.replicate nv .emp ++ capS cap G) = .ok G1 := by
    rcases zdw (st ts[i] (List.replicate nv .emp ++ capS cap G)) with ⟨G1, h⟩ | h
    ·exact ⟨G1, noX_ok h⟩
    ·rw [h] at ecl; exact absurd ecl.symm hr
   rw [eG, show noX (Res.ok G1 : Res (List Sl)) = .ok G1 from rfl, Res.bind_ok] at ecl
   obtain ⟨kl, ke⟩ := hk _ _ _ eG
   refine wpAny_mono (T.item (cxC X scope N s3 (upd H2 D (.lst [])) fp) rfl rfl rfl hc i [] s σ' H' (fun _ _ => False) Ji (fpo H' fpn) tni go) (fun r' s1 hr' => ?_) fun _ _ z => z.elim
   obtain ⟨u, rfl, hr'⟩ := hr'
   refine wpAny_mono hr' (fun _ s2 hr2 => ?_) fun _ _ z => z.elim
   obtain ⟨x, H5, J5, r5, y5, tn5, fr5⟩ := hr2
   obtain ⟨sm5, rl5⟩ := yl x H5 y5
   have J5' : Inv (cxT xz X scope N s3 (upd H2 D (.lst [])) fp (Xz fp s2.heap)) [] σ' H5 s2 := inv_pn (J5.pinned (fpo H5 fr5) (T.obj _ _ tn5))
   have pnn : ∀ b ∈ fp, ∃ o, (b, o) ∈ Xz fp s2.heap := fun b hb => by
    obtain ⟨o, e, _⟩ := T.obj _ _ tn5 b hb
    exact ⟨o, Vf hb e⟩
   have finx' := fun e s' => finx (Xz fp s2.heap) e s' pnn
   obtain ⟨g, pg, gp⟩ := hg s3 (upd H2 D (.lst [])) fp (Xz fp s2.heap)
   have hol5 := hol.same sm5
   refine wpAny_mono (pg _ s2 σ' H5 x u (fun σ6 H6 => H6 = H5 /\ ∃ P6, Go H5 ⟨fun _ => none, fun a => ¬ Off P a \/ a = D⟩ H5 P6 /\ Hol X.K H5 P6 σ6 G1) J5' r5 (gp ts[i] x σ' H5 _ _ _ hol5 rl5 ⟨G1, eG, fun σ6 P6 g6 h6 => ⟨rfl, P6, g6, h6⟩⟩)) (fun _ s6 h6 => ?_) finx'
   obtain ⟨σ6, H6, J6, rfl, P6, g6, hol6⟩ := h6
   -- on to the next turn
   have fr6 : ∀ {H8 : Hp} {s8 : Shared}, Inv (cxT xz X scope N s3 (upd H2 D (.lst [])) fp (Xz fp s2.heap)) [] σ6 H8 s8 -> ∀ b ∈ fp, H8 b = none := fun {H8 s8} J8 b hb => by
    obtain ⟨o, e⟩ := pnn b hb
    exact (J8.pin (b, o) (List.mem_append_left _ e)).2.1
   have next : ∀ {H8 : Hp} {s8 : Shared} {ys' : List PyData} {vs' : List V}, Inv (cxT xz X scope N s3 (upd H2 D (.lst [])) fp (Xz fp s2.heap)) [] σ6 H8 s8 -> Same H2 H8 -> H8 D = some (.lst vs') -> (∀ b, b ≠ D -> ∀ o, H6 b = some o -> Nt o -> H8 b = some o) ->
     Rls X.K H8 ⟨fun _ => none, fun a => ¬ Off P a \/ a = D⟩ ys' vs' -> ((Ym st dc de (List.replicate nv .emp ++ capS cap G) (ts.drop (i + 1))).bind fun zs => .ok (ys' ++ zs)) = r -> ys'.length <= i + 1 ->
     ∃ m, m < ts.length - i /\ ∃ i σ' H' vs ys, m = ts.length - i /\ i <= ts.length /\ Inv (cxC X scope N s3 (upd H2 D (.lst [])) fp) [] σ' H' s8 /\ tn i s8.heap /\ (∀ b ∈ fp, H' b = none) /\ Same H2 H' /\ H' D = some (.lst vs) /\
      Rls X.K H' ⟨fun _ => none, fun a => ¬ Off P a \/ a = D⟩ ys vs /\ Hol X.K H' ⟨fun _ => none, fun a => ¬ Off P a \/ a = D⟩ σ' (List.replicate nv .emp ++ capS cap G) /\ ((Ym st dc de (List.replicate nv .emp ++ capS cap G) (ts.drop i)).bind fun zs => .ok (ys ++ zs)) = r /\ ys.length <= i := by
    intro H8 s8 ys' vs' J8 sm8 hD8 kp8 rys8 ecl8 hyl8
    refine ⟨ts.length - (i + 1), by omega, i + 1, σ6, H8, vs', ys', rfl, hlt, Inv.unpinned (pins := []) (pl := Xz fp s2.heap) (by simpa using inv_np J8), ?_, fr6 J8, sm8, hD8, rys8, ?_, ecl8, hyl8⟩
    ·exact T.keep _ _ _ tn5 fun b hb o e => (J8.pin (b, o) (List.mem_append_left _ (Vf hb e))).1
    ·have hF : Hol X.K H6 P6.bare σ6 (List.replicate nv .emp ++ capS cap G) := zcC hCe hCo hol6 kl ke
     have ep : P6.bare = ⟨fun _ => none, fun a => ¬ Off P a \/ a = D⟩ := by
      unfold Pv.bare
      rw [g6.fbe]
     rw [ep] at hF
     have tr8 : Tr H6 ⟨fun _ => none, fun a => ¬ Off P a \/ a = D⟩ H8 ⟨fun _ => none, fun a => ¬ Off P a \/ a = D⟩ := fun a o e n q => ⟨kp8 a (fun z => q.2 (Or.inr z)) o e n, q⟩
     refine ⟨fun j x e => ?_, fun _ _ _ z => (by cases z), fun _ _ z => (by cases z), fbc H8 sm8 ⟨vs', hD8⟩, fun _ _ z => (by cases z), hF.len, sm8.tab _ h2.tab⟩
     have z := hF.sl j x e
     cases x with
     | emp => trivial
     | val t => obtain ⟨v, e1, r1⟩ := z; exact ⟨v, e1, Rl.go tr8 t v r1⟩
     | own xs => exact (hCo j _ e trivial).elim
     | dct xs => exact (hCo j _ e trivial).elim
   have sm6 : Same H2 H6 := sm.trans sm5
   -- behind the test
   have after : ∀ k s7 H7, Inv (cxT xz X scope N s3 (upd H2 D (.lst [])) fp (Xz fp s2.heap)) [] σ6 H7 s7 -> Same H6 H7 -> dc G1 = .ok k -> (if k = true then wpAny (model X.prog X.w) X.A (eval elt (compEnvC scope (Y4 X.env scope.names []) s3.heap.objs.size X.env)) (fun x s₄ =>
      wpAny (model X.prog X.w) X.A (call (.builtin "list.append") [.ref D, x]) (fun _ s₅ => ∃ m, m < ts.length - i /\ ∃ i σ' H' vs ys, m = ts.length - i /\ i <= ts.length /\ Inv (cxC X scope N s3 (upd H2 D (.lst [])) fp) [] σ' H' s₅ /\ tn i s₅.heap /\ (∀ b ∈ fp, H' b = none) /\ Same H2 H' /\ H' D = some (.lst vs) /\
      Rls X.K H' ⟨fun _ => none, fun a => ¬ Off P a \/ a = D⟩ ys vs /\ Hol X.K H' ⟨fun _ => none, fun a => ¬ Off P a \/ a = D⟩ σ' (List.replicate nv .emp ++ capS cap G) /\ ((Ym st dc de (List.replicate nv .emp ++ capS cap G) (ts.drop i)).bind fun zs => .ok (ys ++ zs)) = r /\ ys.length <= i) (notedBy (model X.prog X.w) X.A (compEnvC scope (Y4 X.env scope.names []) s3.heap.objs.size X.env) fun e s' => R (.error e) s') s₄) (notedBy (model X.prog X.w) X.A (compEnvC scope (Y4 X.env scope.names []) s3.heap.objs.size X.env) fun e s' => R (.error e) s') s7
     else ∃ m, m < ts.length - i /\ ∃ i σ' H' vs ys, m = ts.length - i /\ i <= ts.length /\ Inv (cxC X scope N s3 (upd H2 D (.lst [])) fp) [] σ' H' s7 /\ tn i s7.heap /\ (∀ b ∈ fp, H' b = none) /\ Same H2 H' /\ H' D = some (.lst vs) /\
      Rls X.K H' ⟨fun _ => none, fun a => ¬ Off P a \/ a = D⟩ ys vs /\ Hol X.K H' ⟨fun _ => none, fun a => ¬ Off P a \/ a = D⟩ σ' (List.replicate nv .emp ++ capS cap G) /\ ((Ym st dc de (List.replicate nv .emp ++ capS cap G) (ts.drop i)).bind fun zs => .ok (ys ++ zs)) = r /\ ys.length <= i) := by
    intro k s7 H7 J7 sm7 eK
    rw [eK, Res.bind_ok] at ecl
    have sm27 : Same H2 H7 := sm6.trans sm7
    have hD7 : H7 D = some (.lst vs) := sm7.kp _ _ (sm5.kp _ _ hDv Ul) Ul
    have r7 : Rls X.K H7 ⟨fun _ => none, fun a => ¬ Off P a \/ a = D⟩ ys vs := Rls.go (.same (sm5.trans sm7)) ys vs rys
    cases k with
    | false =>
     rw [if_neg Bool.false_ne_true] at ecl ⊢
     exact next J7 sm27 hD7 (fun b _ o e n => sm7.kp b o e n) r7 ecl (by omega)
    | true =>
     rw [if_pos rfl] at ecl ⊢
     cases eY : de G1 with
     | stuck => rw [eY] at ecl; exact absurd ecl.symm hr
     | exc c =>
      rw [eY] at ecl
      refine wpAny_mono (he s3 (upd H2 D (.lst [])) fp (Xz fp s2.heap) pnn _ s7 σ6 H7 (fun _ _ => False) J7 ⟨G1, P6, hol6.same sm7, by rw [eY]; exact fun H8 s8 => hW c ecl.symm H8 (sm27.trans s8)⟩) (fun xv s8 h8 => ?_) finx'
      obtain ⟨_, _, _, _, z⟩ := h8
      exact z.elim
     | ok yv =>
      rw [eY, Res.bind_ok] at ecl
      refine wpAny_mono (he s3 (upd H2 D (.lst [])) fp (Xz fp s2.heap) pnn _ s7 σ6 H7 (fun v H8 => Same H7 H8 /\ Rl X.K H8 P6 yv v) J7 ⟨G1, P6, hol6.same sm7, by rw [eY]; exact fun v H8 s r => ⟨s, r⟩⟩) (fun xv s8 h8 => ?_) finx'
      obtain ⟨v8, H8, J8, r8, sm8, rl8⟩ := h8
      have hD8 : H8 D = some (.lst vs) := sm8.kp _ _ hD7 Ul
      have lv := rys.length
      have tr6 : Tr H8 P6 H8 ⟨fun _ => none, fun a => ¬ Off P a \/ a = D⟩ := fun a o e _ q => ⟨e, fun _ z => (by cases z), by rw [<- g6.fbe]; exact q.2⟩
      refine wpAny_mono (zae (X := cxT xz X scope N s3 (upd H2 D (.lst [])) fp (Xz fp s2.heap)) _ s8 σ6 H8 (.ref D) [v8] (.ref D) [xv] (fun w H9 => H9 = upd H8 D (.lst (vs ++ [v8]))) J8 rfl (.cons r8 .nil) ⟨D, vs, v8, rfl, rfl, hD8, by rw [sizeLine_eq]; omega, rfl⟩) (fun _ s9 h9 => ?_) finx'
      obtain ⟨_, H9, J9, _, rfl⟩ := h9
      have trD : Tr H8 ⟨fun _ => none, fun a => ¬ Off P a \/ a = D⟩ (upd H8 D (.lst (vs ++ [v8]))) ⟨fun _ => none, fun a => ¬ Off P a \/ a = D⟩ := fun a o e _ q => ⟨by rw [Zz (fun z => q.2 (Or.inr z))]; exact e, q⟩
      have smD : Same H2 (upd H8 D (.lst (vs ++ [v8]))) := (sm27.trans sm8).updL hD hD8
      refine next J9 smD Zs (fun b hb o e n => by rw [Zz hb]; exact sm8.kp b o (sm7.kp b o e n) n) (Rls.append (Rls.go trD ys vs (Rls.go (.same sm8) ys vs r7)) (Zr.mpr ⟨v8, [], rfl, Rl.go trD yv v8 (Rl.go tr6 yv v8 rl8), ZG.mpr rfl⟩)) ?_ (by simp; omega)
      rw [<- ecl]
      cases Ym st dc de (List.replicate nv .emp ++ capS cap G) (ts.drop (i + 1)) <;> simp
   rcases ht s3 (upd H2 D (.lst [])) fp (Xz fp s2.heap) pnn with ⟨rfl, rfl⟩ | ⟨cx, rfl, tvc⟩
   ·exact wpAny_tests_nil (after true s6 H6 J6 (Same.refl _) rfl)
   ·cases eK : dc G1 with
    | stuck => rw [eK] at ecl; exact absurd ecl.symm hr
    | exc c =>
     rw [eK] at ecl
     refine wpAny_tests_one (wpAny_mono (tvc _ s6 σ6 H6 (fun _ _ => False) J6 ⟨G1, P6, hol6, by rw [eK]; exact fun H7 s => hW c ecl.symm H7 (sm6.trans s)⟩) (fun b s7 h7 => ?_) finx')
     obtain ⟨_, _, z⟩ := h7
     exact z.elim
    | ok k =>
     refine wpAny_tests_one (wpAny_mono (tvc _ s6 σ6 H6 (fun b H7 => b = k /\ Same H6 H7) J6 ⟨G1, P6, hol6, by rw [eK]; exact fun H7 s => ⟨rfl, s⟩⟩) (fun b s7 h7 => ?_) finx')
     obtain ⟨H7, J7, rfl, sm7⟩ := h7
     exact after b s7 H7 J7 sm7 eK
  ·have ei : i = ts.length := by omega
   subst ei
   rw [List.drop_length] at ecl
   have ecl' : r = .ok ys := by rw [<- ecl]; simp [Ym]
   refine wpAny_mono (T.done (cxC X scope N s3 (upd H2 D (.lst [])) fp) rfl rfl rfl hc _ [] s σ' H' (fun _ _ => False) Ji (fpo H' fpn) tni (y2 (Nat.le_refl _))) (fun r' s1 hr' => ?_) fun _ _ z => z.elim
   obtain ⟨rfl, J1⟩ := hr'
   have trf : Tr H' ⟨fun _ => none, fun a => ¬ Off P a \/ a = D⟩ H' (P.fbd D) := fun a o e _ q => by
    have o1 : Off P a := Classical.byContradiction fun z => q.2 (Or.inl z)
    exact ⟨e, o1.1, fun z => z.elim o1.2 fun z => q.2 (Or.inr z)⟩
   exact fin s1 H' σ' vs ys ecl' J1 hDv sm (Rls.go trf ys vs rys)
 exact codeAny_compStart_list (loop _ rfl) (T.self _ 0 _ _ _ tn0 (loop _ rfl))
end
end Fx
namespace Fx
open PySem PySem.Spec PyProof.Rows L2
theorem zcd {a : Res (List PyData)} {f : List PyData -> Res (List PyData)} {K : PySem.W.Frag} {W : Str -> Hp -> Prop} {H : Hp} {P : Pv} {Q : VK} (q : zbn K W H P (a.bind f) Q) :
  (∀ c, a = .exc c -> ∀ H', Same H H' -> W c H') /\ a ≠ .stuck /\ ∀ t, a = .ok t -> zbn K W H P (f t) Q := by
 cases a with
 | ok t => exact ⟨fun c e => (by cases e), (by intro e; cases e), fun t' e => by cases e; exact q⟩
 | exc c => exact ⟨fun c' e => by cases e; exact q, (by intro e; cases e), fun t e => by cases e⟩
 | stuck => exact q.elim
theorem Q3 {a : Res PyData} {f : PyData -> Res (List PyData)} {K : PySem.W.Frag} {W : Str -> Hp -> Prop} {H : Hp} {P : Pv} {Q : VK} (q : zbn K W H P (a.bind f) Q) :
  (∀ c, a = .exc c -> ∀ H', Same H H' -> W c H') /\ a ≠ .stuck /\ ∀ t, a = .ok t -> zbn K W H P (f t) Q := by
 cases a with
 | ok t => exact ⟨fun c e => (by cases e), (by intro e; cases e), fun t' e => by cases e; exact q⟩
 | exc c => exact ⟨fun c' e => by cases e; exact q, (by intro e; cases e), fun t e => by cases e⟩
 | stuck => exact q.elim
def zcO (X : Cx) (scope : Scope) (N : List Str) (xz : Cx -> Value -> Shared -> Prop) : Prop :=
 ∀ (pins : List (Addr × Obj)) (σ : L2.St) (H3 : Hp) (s3 : Shared) (fp : List Addr) (pn : List (Addr × Obj)) (e : Value) (s' : Shared), Inv X pins σ H3 s3 -> (∀ b ∈ fp, FpOk X pins H3 b /\ b < s3.heap.objs.size) -> (∀ b ∈ fp, ∃ o, (b, o) ∈ pn) ->
  xz (cxC X scope N s3 H3 fp pn) e s' -> notedBy (model X.prog X.w) X.A (compEnvC scope (Y4 X.env scope.names []) s3.heap.objs.size X.env) (fun x s' => ∃ m, s'.heap.Ns s3.heap.objs.size m /\ ∀ h', Heap.SameBut s3.heap.objs.size s'.heap h' -> ∀ cenv : Env, cenv.locals = s3.heap.objs.size ->
   wpAny (model X.prog X.w) X.A (PySem.passOn "comprehension.variables-let-go" x cenv : Sem Value) (fun _ _ => False) X.xe { s' with heap := h' }) e s'
theorem Z1 {X : Cx} {scope : Scope} {N : List Str} : zcO X scope N (fun _ _ _ => False) := fun _ _ _ _ _ _ _ _ _ _ _ h => h.elim
section
variable {X : Cx} {W : Str -> Hp -> Prop} {fl : Bool} {scope : Scope} {N : List Str} {nv : Nat} {cap : List Nat} {tg elt iter : Expr} {ifs : List Expr} {pos : Pos} {st : PyData -> List Sl -> Res (List Sl)} {it : DA} {dc : DT} {de : DE} {xz : Cx -> Value -> Shared -> Prop}
theorem zca {pins : List (Addr × Obj)} {σ : L2.St} {H : Hp} {s : Shared} {P : Pv} {G : List Sl} {use : Option (Value -> Sem Unit)} {Q : Value -> Shared -> Prop} {pos' : Pos}
  (C : CompOk X scope N nv cap) (hc : X.calm = true) (hk : zaJ nv st) (hi : IV X W tg iter it)
  (hX : zcO X scope N xz) (hg : ∀ s₀ H₀ ex pn, GV (cxT xz X scope N s₀ H₀ ex pn) tg st) (ht : ∀ s₀ H₀ ex pn, (∀ b ∈ ex, ∃ o, (b, o) ∈ pn) -> CT (cxT xz X scope N s₀ H₀ ex pn) W ifs dc) (he : ∀ s₀ H₀ ex pn, (∀ b ∈ ex, ∃ o, (b, o) ∈ pn) -> EV (cxT xz X scope N s₀ H₀ ex pn) W elt de)
  (I : Inv X pins σ H s) (h : Hol X.K H P σ G)
  (hx : ∀ c, it G = .exc c -> ∀ H', Same H H' -> W c H') (hs0 : it G ≠ .stuck)
  (fin : ∀ ts, it G = .ok ts -> ts.length <= 16777216 /\ Ym st dc de (List.replicate nv .emp ++ capS cap G) ts ≠ .stuck /\ (∀ c, Ym st dc de (List.replicate nv .emp ++ capS cap G) ts = .exc c -> ∀ H', Same H H' -> W c H') /\ ∀ all, Ym st dc de (List.replicate nv .emp ++ capS cap G) ts = .ok all ->
   ∀ D vs H' s' c, Inv X pins σ H' s' -> FpOk X pins H' c -> (∃ m, s'.heap.Ns c m) -> (X.env.locals ≠ c /\ ∀ x a, X.env.cells.lookup x = some a -> a ≠ c) -> Same H H' -> H D = none -> H' D = some (.lst vs) -> Rls X.K H' (P.fbd D) all vs ->
    compPost (model X.prog X.w) X.A X.xe use Q (.ref D) c (.ok .next) s')
  (hs : ∀ x, foldedSetIterable iter X.env x = pure x := by intro _; rfl) :
  wpAny (model X.prog X.w) X.A (comprehension (.ListComp elt [⟨tg, iter, ifs, 0⟩] scope pos) scope X.env pos' (newList []) false (eval iter X.env) use) Q X.xe s := by
 refine wpAny_comprehension_free rfl hs (JB (C.has I.ok)) C.kind C.names (wpAny_mono (hi pins s σ H (fun J H' => Same H H' /\ ∃ ts, it G = .ok ts /\ Yld X.K J ts H' P) I ⟨G, P, h, ?_⟩) (fun v s1 h1 => wpAny_mono h1 (fun itv s2 h2 => ?_) fun _ _ z => z) fun _ _ z => z)
 ·cases e : it G with
  | ok ts => exact fun J H' s y => ⟨s, ts, rfl, y⟩
  | exc c => exact hx c e
  | stuck => exact absurd e hs0
 obtain ⟨itA, fp, tn, J, H2, rfl, I2, T, tn0, f2, sm2, ts, ets, y⟩ := h2
 obtain ⟨hlen, hns, hex, fin⟩ := fin ts ets
 have hD : H2 s2.heap.objs.size = none := I2.hok.fresh (Nat.le_refl _)
 refine wpAny_newObj_type (wpAny_newFunctionEnv C.cell (by intro y hy; simp at hy) (fun h₁ hns₁ hsb₁ => ?_) C.kind)
 have I3 : Inv X pins σ (upd H2 s2.heap.objs.size (.lst [])) { s2 with heap := s2.heap.push { cls := .type "list", dict := none, data := .seq ([] : List Value).toArray } } :=
  I2.laid (t' := s2.toks) (fun b u e => Heap.get?_push_of_some _ e) (Nat.le_refl _) ⟨by show 0 <= sizeLine; exact Nat.zero_le _, [], 0, .nil, Heap.get?_push_size _ rfl⟩
 have sz : (s2.heap.push { cls := .type "list", dict := none, data := .seq ([] : List Value).toArray }).objs.size = s2.heap.objs.size + 1 := Heap.size_push _ _
 have hf3 : ∀ b ∈ fp, FpOk X pins (upd H2 s2.heap.objs.size (.lst [])) b /\ b < (s2.heap.push { cls := .type "list", dict := none, data := .seq ([] : List Value).toArray }).objs.size := fun b hb => by
  obtain ⟨o, ho, _⟩ := T.obj 0 _ tn0 b hb
  have lt := Heap.lt_size ho
  obtain ⟨a1, a2⟩ := f2 b hb
  exact ⟨⟨by rw [Zz (Nat.ne_of_lt lt)]; exact a1, a2⟩, by rw [sz]; exact Nat.lt_succ_of_lt lt⟩
 have kp : ∀ b o, (s2.heap.push { cls := .type "list", dict := none, data := .seq ([] : List Value).toArray }).get? b = some o -> h₁.get? b = some o := fun b o e =>
  hsb₁.extBut b o (Nat.ne_of_lt (Heap.lt_size e)) (Heap.get?_push_of_some _ e)
 have tn3 : tn 0 h₁ := T.keep 0 _ _ tn0 fun b _ o e => kp b o (Heap.get?_push_of_some _ e)
 refine zcI (s3 := { s2 with heap := s2.heap.push { cls := .type "list", dict := none, data := .seq ([] : List Value).toArray } }) (D := s2.heap.objs.size) C hc hk hg ht he (h.same sm2) hD I3 T hf3 y hlen rfl hns (fun c ec H' sm => hex c ec H' (sm2.trans sm)) hns₁ kp ⟨h₁, _, rfl⟩ tn3 (fun s' H' σ' vs all hall J' hl sm r => ?_) fun pn e s' pnn hx => hX pins σ _ _ fp pn e s' I3 hf3 pnn hx
 have IX := CompOk.stop I3 (fun b hb => (hf3 b hb).1) J'
 have fo : FpOk X pins H' (s2.heap.push { cls := .type "list", dict := none, data := .seq ([] : List Value).toArray }).objs.size := I3.fpOk (Nat.le_refl _) J'.free
 obtain ⟨m, hm, _⟩ := J'.loc
 exact fin all hall _ vs H' s' _ IX fo ⟨m, hm⟩ ⟨Ne.symm fo.2.1, fun x a e => fo.2.2.2.2.1 x a e⟩ (sm2.trans sm) (sm2.free hD) hl r
theorem atC {pins : List (Addr × Obj)} {σ : L2.St} {H : Hp} {s : Shared} {c : Addr} {h' : Heap} (I : Inv X pins σ H s) (f : FpOk X pins H c) (hs : Heap.SameBut c s.heap h') : Inv X pins σ H { s with heap := h' } :=
 I.turned (t' := s.toks) (fun b o hb e => (hs.2 b hb).trans e) f.1 f.2.1 f.2.2.2.1 f.2.2.2.2.1 f.2.2.2.2.2
theorem Xg (C : CompOk X scope N nv cap) (hc : X.calm = true) (hk : zaJ nv st) (hi : IV X W tg iter it)
  (hX : zcO X scope N xz) (hg : ∀ s₀ H₀ ex pn, GV (cxT xz X scope N s₀ H₀ ex pn) tg st) (ht : ∀ s₀ H₀ ex pn, (∀ b ∈ ex, ∃ o, (b, o) ∈ pn) -> CT (cxT xz X scope N s₀ H₀ ex pn) W ifs dc) (he : ∀ s₀ H₀ ex pn, (∀ b ∈ ex, ∃ o, (b, o) ∈ pn) -> EV (cxT xz X scope N s₀ H₀ ex pn) W elt de)
  (hs : ∀ x, foldedSetIterable iter X.env x = pure x := by intro _; rfl) : OV X W (.ListComp elt [⟨tg, iter, ifs, 0⟩] scope pos) (YD nv cap st it dc de) := by
 intro pins s σ H Q I ⟨G, P, h, q⟩
 unfold YD at q
 obtain ⟨q1, q2, q3⟩ := zcd q
 rw [eval_ListComp]
 refine zca (use := none) C hc hk hi hX hg ht he I h q1 q2 (fun ts ets => ?_) hs
 have q4 := q3 ts ets
 split at q4
 ·rename_i hl
  cases e : Ym st dc de (List.replicate nv .emp ++ capS cap G) ts with
  | stuck => rw [e] at q4; exact q4.elim
  | exc c => rw [e] at q4; exact ⟨hl, fun z => (by cases z), fun c' z => by cases z; exact q4, fun all z => by cases z⟩
  | ok all =>
   rw [e] at q4
   refine ⟨hl, fun z => (by cases z), fun c z => (by cases z), fun all' z D vs H' s' c IX fo hm hne sm hD hl r => ?_⟩
   cases z
   obtain ⟨m, hm⟩ := hm
   exact ⟨m, hm, fun h' hsb => ⟨.ref D, H', atC IX fo hsb, rfl, q4 D vs H' sm hD hl r⟩⟩
 ·exact q4.elim
theorem YW {e : Expr} {d : DA} (h : OV X W e d) : EV X W e (dL d) :=
 Zv h fun σ H Q ⟨G, P, hh, q⟩ => by
  refine ⟨G, P, hh, ?_⟩
  unfold dL at q
  cases e : d G with
  | stuck => rw [e] at q; exact q.elim
  | exc c => rw [e] at q; exact q
  | ok xs => rw [e] at q; exact fun p vs H' s hp hl r => q _ H' s (rl_new hh s hp hl r)
theorem Wc {e : Expr} {d : DA} {i : Nat} {x : Str} {is : List Nat} {pos' : Pos} (hN : X.N.Nodup) (hi : X.N[i]? = some x) (hx : Loc X.env.scope x) (he : OV X W e d) (hs : swapsWith e (some (.Name x pos')) pos.line X.env = pure false := by rfl)
  (hf : X.fn x = true \/ X.env.scope.names.lookup x = some .local := by first | exact .inl rfl | exact .inr rfl | assumption) : SV X W fl (.Assign [.Name x pos'] e pos) (WL i is d) :=
 XQ (ps_set hN hi hx he hs hf) fun D σ H ⟨G, P, h, q⟩ => by
  unfold WL at q
  obtain ⟨P1, h1, g⟩ := h.frz is
  obtain ⟨q1, q2, q3⟩ := bindAS q
  refine ⟨frz is G, P1, h1, ?_⟩
  cases e : d (frz is G) with
  | stuck => exact absurd e q2
  | exc c => exact fun H' s => q1 c e H' P1 (g.trans (.same s))
  | ok xs =>
   have q4 := q3 xs e
   intro p vs H' s hp hl r
   split at q4
   ·rename_i hlt
    have hlt' : i < (frz is G).length := by rw [<- h1.len, h.len]; exact hlt
    obtain ⟨h2, g2⟩ := h1.own' hlt' s hp hl r
    exact q4 _ H' _ (g.trans g2) h2
   ·exact q4.elim
theorem JQ {i : Nat} {x : Str} {pos' : Pos} {d : DS} (C : CompOk X scope N nv cap) (hc : X.calm = true) (hk : zaJ nv st) (hi : IV X W tg iter it)
  (hX : zcO X scope N xz) (hg : ∀ s₀ H₀ ex pn, GV (cxT xz X scope N s₀ H₀ ex pn) tg st) (ht : ∀ s₀ H₀ ex pn, (∀ b ∈ ex, ∃ o, (b, o) ∈ pn) -> CT (cxT xz X scope N s₀ H₀ ex pn) W ifs dc) (he : ∀ s₀ H₀ ex pn, (∀ b ∈ ex, ∃ o, (b, o) ∈ pn) -> EV (cxT xz X scope N s₀ H₀ ex pn) W elt de)
  (hN : X.N.Nodup) (hix : X.N[i]? = some x) (hx : Loc X.env.scope x) {spos : Pos} (hsw : swapsWith (.ListComp elt [⟨tg, iter, ifs, 0⟩] scope pos) (some (.Name x pos')) spos.line X.env = pure true)
  (hs : ∀ x, foldedSetIterable iter X.env x = pure x) (hf : X.fn x = true \/ X.env.scope.names.lookup x = some .local)
  (hd : ∀ D σ H, tFS X.K W fl d D σ H -> ∃ G P, Hol X.K H P σ G /\ (∀ c, it G = .exc c -> ∀ H', Same H H' -> W c H') /\ it G ≠ .stuck /\ ∀ ts, it G = .ok ts -> ts.length <= 16777216 /\ Ym st dc de (List.replicate nv .emp ++ capS cap G) ts ≠ .stuck /\ (∀ c, Ym st dc de (List.replicate nv .emp ++ capS cap G) ts = .exc c -> ∀ H', Same H H' -> W c H') /\ ∀ all, Ym st dc de (List.replicate nv .emp ++ capS cap G) ts = .ok all ->
   ∀ p vs H', Same H H' -> H p = none -> H' p = some (.lst vs) -> Rls X.K H' (P.fbd p) all vs -> D.nx (σ.set i (some (.ref p))) H') : SV X W fl (.Assign [.Name x pos'] (.ListComp elt [⟨tg, iter, ifs, 0⟩] scope pos) spos) d := by
 intro pins s σ H D I hq
 obtain ⟨G, P, h, q1, q2, q3⟩ := hd D σ H hq
 rw [exec_Assign_Name_used _ _ _ _ hsw]
 refine wpAny_bind (wpAny_standAt (wpAny_bind ?_))
 show wpAny _ X.A (do let _ <- comprehension (.ListComp elt [⟨tg, iter, ifs, 0⟩] scope pos) scope X.env _ (newList []) false (eval iter X.env) (some (assign (.Name x pos') X.env))) _ _ s
 refine wpAny_bind (wpAny_mono (zca (use := some (assign (.Name x pos') X.env)) (Q := fun _ s' => SP X pins D .next s') C hc hk hi hX hg ht he I h q1 q2 (fun ts ets => ?_) hs) (fun _ s' hq => wpAny_pure (wpAny_pure hq)) fun _ _ e => e)
 obtain ⟨hl, n1, n2, q4⟩ := q3 ts ets
 refine ⟨hl, n1, n2, fun all hall p vs H' s' c IX fo hm hne sm hp hl r => ?_⟩
 obtain ⟨m, hm⟩ := hm
 show wpAny _ X.A (assign (.Name x pos') X.env (.ref p)) _ _ _
 refine wpAny_assign_Name (JL IX hN hix hx (v := .ref p) rfl (fun s'' I'' ch => ?_) hf)
 obtain ⟨a, hsb, ha⟩ := ch
 have hca : c ≠ a := by
  rcases ha with rfl | ha
  ·exact Ne.symm hne.1
  ·exact Ne.symm (hne.2 x a ha)
 refine ⟨m, hm.sameBut hsb hca, fun h' hs' => ⟨_, H', atC I'' fo hs', q4 all hall p vs H' sm hp hl r⟩⟩
theorem Q5 {i : Nat} {x : Str} {is : List Nat} {pos' spos : Pos} (C : CompOk X scope N nv cap) (hc : X.calm = true) (hk : zaJ nv st) (hi : IV X W tg iter it)
  (hX : zcO X scope N xz) (hg : ∀ s₀ H₀ ex pn, GV (cxT xz X scope N s₀ H₀ ex pn) tg st) (ht : ∀ s₀ H₀ ex pn, (∀ b ∈ ex, ∃ o, (b, o) ∈ pn) -> CT (cxT xz X scope N s₀ H₀ ex pn) W ifs dc) (he : ∀ s₀ H₀ ex pn, (∀ b ∈ ex, ∃ o, (b, o) ∈ pn) -> EV (cxT xz X scope N s₀ H₀ ex pn) W elt de)
  (hN : X.N.Nodup) (hix : X.N[i]? = some x) (hx : Loc X.env.scope x) (hsw : swapsWith (.ListComp elt [⟨tg, iter, ifs, 0⟩] scope pos) (some (.Name x pos')) spos.line X.env = pure true := by rfl)
  (hs : ∀ x, foldedSetIterable iter X.env x = pure x := by intro _; rfl) (hf : X.fn x = true \/ X.env.scope.names.lookup x = some .local := by first | exact .inl rfl | exact .inr rfl | assumption) :
  SV X W fl (.Assign [.Name x pos'] (.ListComp elt [⟨tg, iter, ifs, 0⟩] scope pos) spos) (dSet i is (dL (YD nv cap st it dc de))) :=
 JQ C hc hk hi hX hg ht he hN hix hx hsw hs hf fun D σ H ⟨G, P, h, q⟩ => by
  unfold dSet dL YD at q
  obtain ⟨P1, h1, g⟩ := h.frz is
  refine ⟨frz is G, P1, h1, ?_⟩
  cases e : it (frz is G) with
  | stuck => rw [e] at q; exact q.elim
  | exc c => rw [e] at q; exact ⟨fun c' ec H' s => by cases ec; exact q H' P1 (g.trans (.same s)), (by intro z; cases z), fun ts z => by cases z⟩
  | ok ts =>
   refine ⟨fun c' ec => (by cases ec), (by intro z; cases z), fun ts' z => ?_⟩
   cases z
   rw [e, Res.bind_ok] at q
   split at q
   ·rename_i hl
    refine ⟨hl, ?_⟩
    cases e2 : Ym st dc de (List.replicate nv .emp ++ capS cap (frz is G)) ts with
    | stuck => rw [e2] at q; exact q.elim
    | exc c => rw [e2] at q; exact ⟨fun z => (by cases z), fun c' z H' s => by cases z; exact q H' P1 (g.trans (.same s)), fun all z => by cases z⟩
    | ok all =>
     rw [e2] at q
     refine ⟨fun z => (by cases z), fun c z => (by cases z), fun all' z p vs H' s hp hl r => ?_⟩
     cases z
     have h2 := (h1.same s).setVal i (rl_new h1 s hp hl r)
     exact q _ H' _ (g.trans ((Go.same s).trans .del)) h2
   ·exact q.elim
theorem ss_setCO {i : Nat} {x : Str} {is : List Nat} {pos' spos : Pos} (C : CompOk X scope N nv cap) (hc : X.calm = true) (hk : zaJ nv st) (hi : IV X W tg iter it)
  (hX : zcO X scope N xz) (hg : ∀ s₀ H₀ ex pn, GV (cxT xz X scope N s₀ H₀ ex pn) tg st) (ht : ∀ s₀ H₀ ex pn, (∀ b ∈ ex, ∃ o, (b, o) ∈ pn) -> CT (cxT xz X scope N s₀ H₀ ex pn) W ifs dc) (he : ∀ s₀ H₀ ex pn, (∀ b ∈ ex, ∃ o, (b, o) ∈ pn) -> EV (cxT xz X scope N s₀ H₀ ex pn) W elt de)
  (hN : X.N.Nodup) (hix : X.N[i]? = some x) (hx : Loc X.env.scope x) (hsw : swapsWith (.ListComp elt [⟨tg, iter, ifs, 0⟩] scope pos) (some (.Name x pos')) spos.line X.env = pure true := by rfl)
  (hs : ∀ x, foldedSetIterable iter X.env x = pure x := by intro _; rfl) (hf : X.fn x = true \/ X.env.scope.names.lookup x = some .local := by first | exact .inl rfl | exact .inr rfl | assumption) :
  SV X W fl (.Assign [.Name x pos'] (.ListComp elt [⟨tg, iter, ifs, 0⟩] scope pos) spos) (WL i is (YD nv cap st it dc de)) :=
 JQ C hc hk hi hX hg ht he hN hix hx hsw hs hf fun D σ H ⟨G, P, h, q⟩ => by
  unfold WL YD at q
  obtain ⟨P1, h1, g⟩ := h.frz is
  refine ⟨frz is G, P1, h1, ?_⟩
  cases e : it (frz is G) with
  | stuck => rw [e] at q; exact q.elim
  | exc c => rw [e] at q; exact ⟨fun c' ec H' s => by cases ec; exact q H' P1 (g.trans (.same s)), (by intro z; cases z), fun ts z => by cases z⟩
  | ok ts =>
   refine ⟨fun c' ec => (by cases ec), (by intro z; cases z), fun ts' z => ?_⟩
   cases z
   rw [e, Res.bind_ok] at q
   split at q
   ·rename_i hl
    refine ⟨hl, ?_⟩
    cases e2 : Ym st dc de (List.replicate nv .emp ++ capS cap (frz is G)) ts with
    | stuck => rw [e2] at q; exact q.elim
    | exc c => rw [e2] at q; exact ⟨fun z => (by cases z), fun c' z H' s => by cases z; exact q H' P1 (g.trans (.same s)), fun all z => by cases z⟩
    | ok all =>
     rw [e2, Res.bind_ok] at q
     refine ⟨fun z => (by cases z), fun c z => (by cases z), fun all' z p vs H' s hp hl r => ?_⟩
     cases z
     split at q
     ·rename_i hlt
      have hlt' : i < (frz is G).length := by rw [<- h1.len, h.len]; exact hlt
      obtain ⟨h2, g2⟩ := h1.own' hlt' s hp hl r
      exact q _ H' _ (g.trans g2) h2
     ·exact q.elim
   ·exact q.elim
end
end Fx
namespace Fx
open PySem PySem.Spec PyProof.Rows L2
open AutoSeq1 (wpAny_loadPart')
def SrI (h : Heap) (it l : Addr) (i : Nat) : Bool -> Prop
 | true => h.IsTupleIter it l i
 | false => h.IsListIter it l i
def SrS (h : Heap) (l : Addr) (xs : Array Value) : Bool -> Prop
 | true => h.IsTuple l xs
 | false => h.IsList l xs
theorem SrI.at {h h' : Heap} {it l : Addr} {i : Nat} {t : Bool} (x : SrI h it l i t) (k : ∀ o, h.get? it = some o -> h'.get? it = some o) : SrI h' it l i t := by
 cases t <;> (obtain ⟨o, e, r⟩ := x; exact ⟨o, k o e, r⟩)
theorem SrS.at {h h' : Heap} {l : Addr} {xs : Array Value} {t : Bool} (x : SrS h l xs t) (k : ∀ o, h.get? l = some o -> h'.get? l = some o) : SrS h' l xs t := by
 cases t <;> (obtain ⟨o, e, r⟩ := x; exact ⟨o, k o e, r⟩)
theorem SrI.obj {h : Heap} {it l : Addr} {i : Nat} {t : Bool} (x : SrI h it l i t) : ∃ o, h.get? it = some o /\ ∀ v, o.data ≠ .cell v := by
 cases t <;> (obtain ⟨o, e, c, d⟩ := x; exact ⟨o, e, fun v z => by rw [d] at z; cases z⟩)
theorem SrS.lt {h : Heap} {l : Addr} {xs : Array Value} {t : Bool} (x : SrS h l xs t) : l < h.objs.size := by
 cases t <;> (obtain ⟨o, e, _⟩ := x; exact Heap.lt_size e)
def QG (l : Addr) (t : Bool) : Obj := { cls := .type (if t then "tuple_iterator" else "list_iterator"), data := .fields #[.ref l, .int 0 0] }
theorem SrI.new {h : Heap} {l : Addr} {t : Bool} : SrI (h.push (QG l t)) h.objs.size l 0 t := by
 cases t <;> exact ⟨_, Heap.get?_push_size _ rfl, rfl, rfl⟩
section
variable {prog : Program} {w : World} {A : Around} {E : Value -> Shared -> Prop} {s : Shared}
theorem UR {l : Addr} {xs : Array Value} {t : Bool} {Q : Value -> Shared -> Prop} (x : SrS s.heap l xs t) (q : Q (.ref s.heap.objs.size) { s with heap := s.heap.push (QG l t) }) : wpAny (model prog w) A (pyIter (.ref l)) Q E s := by
 cases t
 ·exact wpAny_pyIter_list x q
 ·exact wpAny_pyIter_tuple x q
theorem Q6 {it l : Addr} {i : Nat} {xs : Array Value} {t : Bool} {x : Value} {Q : Value -> Shared -> Prop} (hi : SrI s.heap it l i t) (hs : SrS s.heap l xs t) (hx : xs[i]? = some x)
  (hQ : ∀ h', SrI h' it l (i + 1) t -> Heap.SameBut it s.heap h' -> Q x { s with heap := h' }) : wpAny (model prog w) A (Builtin.SmallTypes.nextOf (.ref it)) Q E s := by
 cases t
 ·exact wpAny_nextOf_list_item hi hs hx hQ
 ·have ty := Heap.IsTupleIter.typeIs hi
  obtain ⟨o, ho, hc, hd⟩ := hi
  obtain ⟨ol, hol, _, nl, hdl⟩ := hs
  unfold Builtin.SmallTypes.nextOf
  refine wpAny_bind (wpAny_callSpecial?_slot (name := Str.ofString "__next__") ty F.slot_tuple_iterator_next (wpAny_call_entry F.slot_tuple_iterator_next ty F.entry_tuple_iterator_next ?_ (F.args_tuple_iterator_next_1 _)))
  show wpAny _ _ (field (.ref it) 0 >>= _) _ _ s
  refine wpAny_bind (wpAny_field ho hd (x := .ref l) rfl ?_)
  show wpAny _ _ (if (Value.ref l == Value.none) = true then _ else _) _ _ s
  rw [if_neg (show ¬ ((Value.ref l == Value.none) = true) from Bool.false_ne_true)]
  show wpAny _ _ (field (.ref it) 1 >>= _) _ _ s
  refine wpAny_bind (wpAny_field ho hd (x := .int i 0) rfl ?_)
  show wpAny _ _ (seqItems? (.ref l) >>= _) _ _ s
  refine wpAny_bind (wpAny_seqItems hol hdl ?_)
  simp only [Int.toNat_natCast, hx]
  refine wpAny_bind (wpAny_setField ho hd (by simp) (wpAny_pure ⟨x, rfl, wpAny_pure (hQ _ ?_ (Heap.SameBut.update ..))⟩))
  exact ⟨_, Heap.get?_update_self _ ho (Obj.isFreed_of_fields (Obj.data_mapFields hd _)), (Obj.cls_mapFields ..).trans hc, by rw [Obj.data_mapFields hd]; simp [rawInt]⟩
theorem zbw {it l : Addr} {i : Nat} {xs : Array Value} {t : Bool} {Q : Value -> Shared -> Prop} (hh : A.handled = none) (hi : SrI s.heap it l i t) (hs : SrS s.heap l xs t) (hx : xs[i]? = none)
  (hE : ∀ h' e, Heap.ExtBut it s.heap h' -> (∃ o, h'.get? e = some o /\ o.cls = .type "StopIteration") -> E (.ref e) { s with heap := h' }) : wpAny (model prog w) A (Builtin.SmallTypes.nextOf (.ref it)) Q E s := by
 cases t
 ·exact wpAny_nextOf_list_end hh hi hs hx hE
 ·have ty := Heap.IsTupleIter.typeIs hi
  obtain ⟨o, ho, hc, hd⟩ := hi
  obtain ⟨ol, hol, _, nl, hdl⟩ := hs
  unfold Builtin.SmallTypes.nextOf
  refine wpAny_bind (wpAny_callSpecial?_slot (name := Str.ofString "__next__") ty F.slot_tuple_iterator_next (wpAny_call_entry F.slot_tuple_iterator_next ty F.entry_tuple_iterator_next ?_ (F.args_tuple_iterator_next_1 _)))
  show wpAny _ _ (field (.ref it) 0 >>= _) _ _ s
  refine wpAny_bind (wpAny_field ho hd (x := .ref l) rfl ?_)
  show wpAny _ _ (if (Value.ref l == Value.none) = true then _ else _) _ _ s
  rw [if_neg (show ¬ ((Value.ref l == Value.none) = true) from Bool.false_ne_true)]
  show wpAny _ _ (field (.ref it) 1 >>= _) _ _ s
  refine wpAny_bind (wpAny_field ho hd (x := .int i 0) rfl ?_)
  show wpAny _ _ (seqItems? (.ref l) >>= _) _ _ s
  refine wpAny_bind (wpAny_seqItems hol hdl ?_)
  simp only [Int.toNat_natCast, hx]
  refine wpAny_bind (wpAny_rule (wpAny_bind (wpAny_setField ho hd (by simp) ?_)))
  show wpAny _ _ (newExc (.type "StopIteration") [] >>= _) _ _ _
  refine wpAny_bind ?_
  simp only [newExc, newTuple]
  refine wpAny_bind (wpAny_newObj_type ?_ (by size_fits))
  refine wpAny_bind (m := firstArgMember _ _) (wpAny_of_eq (a := Value.none) (by first | rfl | (simp only [firstArgMember]; rfl)) ?_)
  refine wpAny_newObj_type ?_ (by size_fits)
  simp only [raiseNew]
  refine wpAny_bind (wpAny_handled ?_)
  first | rw [show A.in1.handled = none from hh] | rw [hh]
  refine wpAny_bind (wpAny_pure (wpAny_throw ?_))
  exact hE _ _ (((Heap.SameBut.update ..).extBut.push _).push _) ⟨_, Heap.get?_push_size _ rfl, rfl⟩
theorem zbx (hh : A.handled = none) (it l : Addr) (hne : l ≠ it) (xs : Array Value) (t : Bool) : Draws prog w A it [it, l] xs.size (fun i v => xs[i]? = some v) (fun i h => SrI h it l i t /\ SrS h l xs t) where
 live := fun _ _ st => let ⟨o, ho, _⟩ := st.1.obj; ⟨o, ho⟩
 frame := fun _ _ _ st hk => ⟨st.1.at fun o e => hk it (by simp) o e, st.2.at fun o e => hk l (by simp) o e⟩
 item := fun i s Q E hi st hQ => Q6 st.1 st.2 (x := xs[i]) (by simp [hi]) fun h' hit hs => hQ _ h' s.toks (by simp [hi]) ⟨hit, st.2.at fun o e => hs.extBut _ _ hne e⟩ hs
 done := fun s Q E st hE => zbw hh st.1 st.2 (by simp) hE
theorem zcv (l : Addr) (xs : Array Value) (t : Bool) :
  Meets (Builtin.«enumerate.__new__» ⟨[.type "enumerate", .ref l], []⟩) (fun _ R s => SrS s.heap l xs t /\
   R (.ok (.ret (.ref (s.heap.push (QG l t)).objs.size))) { s with heap := (s.heap.push (QG l t)).push { cls := .type "enumerate", data := .fields #[.none, .bool false, .ref s.heap.objs.size, rawInt 0, .none, .none] } }) :=
 .of_wp fun prog w A R s h => by
  obtain ⟨hp, g, d, tk, os⟩ := s
  obtain ⟨hl, h⟩ := h
  have hsub := sub_enumerate
  have hL : SrS (Shared.heap ⟨hp, g, d, tk, os⟩) l xs t := hl
  wp_walk using UR hL
  refine wpAny_stack_any fun st => wpAny_pure ?_
  split
  ·rename_i c _ _ _ _ _
   cases (c == Value.type "enumerate") <;> (wp_walk using UR hL; exact ⟨_, rfl, h⟩)
  ·wp_walk using UR hL
   exact ⟨_, rfl, h⟩
theorem zev {l : Addr} {xs : Array Value} {t : Bool} {Q : Value -> Shared -> Prop} (hL : SrS s.heap l xs t)
  (h : ∀ h', IsEnum h' (s.heap.objs.size + 1) s.heap.objs.size 0 .none -> SrI h' s.heap.objs.size l 0 t -> (∀ b o, s.heap.get? b = some o -> h'.get? b = some o) -> Q (.ref (s.heap.objs.size + 1)) { s with heap := h' }) :
  wpAny (model prog w) A (call (.type "enumerate") [.ref l]) Q E s := by
 refine callType_new F.called_enumerate (by decide) (F.typeCall_enumerate_1 _) (F.newCall_enumerate_1 _) (fun obj => F.args_object_init_2 obj _) F.entry_enumerate_new (zcv l xs t) ⟨hL, ?_⟩
 have hz : (s.heap.push (QG l t)).objs.size = s.heap.objs.size + 1 := Heap.size_push ..
 show _ /\ _
 rw [hz]
 have he : IsEnum ((s.heap.push (QG l t)).push { cls := .type "enumerate", data := .fields #[.none, .bool false, .ref s.heap.objs.size, rawInt 0, .none, .none] }) (s.heap.objs.size + 1) s.heap.objs.size 0 .none := by
  have z := Heap.get?_push_size (s.heap.push (QG l t)) (o := { cls := .type "enumerate", data := .fields #[.none, .bool false, .ref s.heap.objs.size, rawInt 0, .none, .none] }) rfl
  rw [hz] at z
  exact z
 exact ⟨⟨_, he, rfl⟩, h _ he (SrI.new.at fun o e => Heap.get?_push_of_some _ e) fun b o x => Heap.get?_push_of_some _ (Heap.get?_push_of_some _ x)⟩
end
end Fx
namespace Fx
open PySem PySem.Spec PyProof.Rows L2
section
variable {X : Cx} {W : Str -> Hp -> Prop} {pins : List (Addr × Obj)} {σ : L2.St} {H : Hp} {s s' : Shared} {ch : List Addr}
theorem inv_ch (I : Inv X pins σ H s) (hch : ∀ b ∈ ch, FpOk X pins H b) (ho : s'.os = s.os) (hg : s'.gens = s.gens) (k : ∀ b o, b ∉ ch -> s.heap.get? b = some o -> s'.heap.get? b = some o) : Inv X pins σ H s' := by
 have nch : ∀ b u, H b = some u -> b ∉ ch := fun b u e z => by rw [(hch b z).1] at e; cases e
 refine I.call' (ch := ch) ho ⟨fun b o e _ _ hx => k b o hx e, fun b o e _ _ hx => ⟨o.slots, k b o hx e⟩, fun b o e n _ => n, fun b o e hx => ⟨o, k b o hx e⟩, fun _ _ e => e, fun _ _ _ e => e, fun b ps e => ⟨#[], by rw [e]; simp⟩⟩ (fun b u e => ?_) (by rw [hg]; exact I.bare) fun b hb => ?_
 ·refine (I.hok b u e).stay (fun c v hc q => k c v ?_ q) (fun _ q => q) fun _ _ q => q
  rcases hc with z | z
  ·rw [z]; exact nch b u e
  ·exact nch c _ z
 ·obtain ⟨f0, f1, f2, f3, f4, f5⟩ := hch b hb
  exact ⟨f3, f1, f4, f5⟩
theorem zdT {xs : List V} {its : List Value} (I : Inv X pins σ H s) (hch : ∀ b ∈ ch, FpOk X pins H b) (ho : s'.os = s.os) (hg : s'.gens = s.gens) (k : ∀ b o, b ∉ ch -> s.heap.get? b = some o -> s'.heap.get? b = some o)
  (ht : s'.heap.get? s.heap.objs.size = some { cls := .type "tuple", data := .seq its.toArray }) (rv : Vals xs its) (hz : xs.length <= sizeLine) : Inv X pins σ (upd H s.heap.objs.size (.tup xs)) s' := by
 have hp : H s.heap.objs.size = none := I.hok.fresh (Nat.le_refl _)
 have nch : ∀ b u, H b = some u -> b ∉ ch := fun b u e z => by rw [(hch b z).1] at e; cases e
 have ne : ∀ b o, s.heap.get? b = some o -> b ≠ s.heap.objs.size := fun b o e => Nat.ne_of_lt (Heap.lt_size e)
 refine I.call' (ch := ch) ho ⟨fun b o e _ _ hx => k b o hx e, fun b o e _ _ hx => ⟨o.slots, k b o hx e⟩, fun b o e n _ => by rw [Zz (ne b o e)]; exact n, fun b o e hx => ⟨o, k b o hx e⟩, fun b ys e => by rw [Zz (ZF e hp)]; exact e,
  fun b o u e => by rw [Zz (ZF e hp)]; exact e, fun b ps e => ⟨#[], by rw [Zz (ZF e hp), e]; simp⟩⟩ (fun b u e => ?_) (by rw [hg]; exact I.bare) fun b hb => ?_
 ·by_cases hb : b = s.heap.objs.size
  ·subst hb
   rw [Zs] at e
   cases e
   exact ⟨hz, its, rv, ⟨_, ht, rfl, _, rfl⟩⟩
  ·rw [Zz hb] at e
   refine (I.hok b u e).stay (fun c v hc q => k c v ?_ q) (fun c q => by rw [Zz (ZF q hp)]; exact q) fun c ys q => by rw [Zz (ZF q hp)]; exact q
   rcases hc with z | z
   ·rw [z]; exact nch b u e
   ·exact nch c _ z
 ·obtain ⟨f0, f1, f2, f3, f4, f5⟩ := hch b hb
  exact ⟨f3, f1, f4, f5⟩
end
def Sq (K : PySem.W.Frag) (H : Hp) (a : Addr) (xs : List V) : Bool -> Prop
 | true => SqT K H a xs
 | false => SqL K H a xs
theorem VD {X : Cx} {pins : List (Addr × Obj)} {σ : L2.St} {H : Hp} {s : Shared} {a : Addr} {xs : List V} {t : Bool} (I : Inv X pins σ H s) (h : Sq X.K H a xs t) : ∃ its : List Value, Vals xs its /\ SrS s.heap a its.toArray t /\ xs.length <= sizeLine := by
 cases t
 ·obtain ⟨its, r, p, z⟩ := I.list h; exact ⟨its, r, p.isList, z⟩
 ·obtain ⟨its, r, p, z⟩ := I.tuple h; exact ⟨its, r, p, z⟩
theorem zc0 {X : Cx} {pins : List (Addr × Obj)} {σ : L2.St} {H : Hp} {s : Shared} {a : Addr} {xs ys : List V} {t : Bool} (I : Inv X pins σ H s) (h : Sq X.K H a xs t) (h' : Sq X.K H a ys t) : xs = ys := by
 cases t
 ·exact I.list_inj h h'
 ·exact I.tuple_inj h h'
def Ite (K : PySem.W.Frag) (l : Addr) (t : Bool) : It :=
 ⟨fun i H => ∃ xs x, Sq K H l xs t /\ xs[i]? = some x, fun i H x H' => ∃ p v, x = .ref p /\ H p = none /\ H' = upd H p (.tup [.int i, v]) /\ ∀ xs, Sq K H l xs t -> xs[i]? = some v, fun i H => ∃ xs, Sq K H l xs t /\ xs.length <= i⟩
theorem zcV {P : Program} {w : World} {K : PySem.W.Frag} {elts : List Expr} {k : Nat} {pos : Pos} (l e it : Addr) (t : Bool) (hne : e ≠ it) (hle : l ≠ e) (hli : l ≠ it) :
  Turn P w K (.Tuple elts k pos) (Ite K l t) [e, it] e (fun i h => ∃ old, IsEnum h e it i old /\ SrI h it l i t) where
 mem := by simp
 obj := fun i h st b hb => by
  obtain ⟨old, he, hi⟩ := st
  rcases List.mem_cons.mp hb with z | z
  ·subst z; exact ⟨_, he, fun v z => by cases z⟩
  ·have : b = it := by simpa using z
   subst this; exact hi.obj
 keep := fun i h h' st kk => by
  obtain ⟨old, he, hi⟩ := st
  exact ⟨old, kk e (by simp) _ he, hi.at fun o q => kk it (by simp) o q⟩
 item := by
  intro X hP hw hK hc i pins s σ H E I hf st hg
  subst hP hw hK
  obtain ⟨xs, x, hq, hx⟩ := hg
  obtain ⟨its, rv, hs, hz⟩ := VD I hq
  obtain ⟨u, hu, ru⟩ := rv.get hx
  obtain ⟨old, he, hi⟩ := st
  have hil : i < its.toArray.size := by
   have := (List.getElem?_eq_some_iff.mp hu).1
   simpa using this
  refine wpAny_pyNext_enum_itemD (zbx (A := X.A.in1) (I.ok.hd hc) it l hli its.toArray t) he ⟨hi, hs⟩ hil hne (by simp [hne, Ne.symm hle]) fun y h' tk hy heo hst ht hsz kk => ?_
  have ey : y = u := by
   have : its.toArray[i]? = some u := by simpa using hu
   rw [this] at hy; cases hy; rfl
  subst ey
  refine ⟨_, rfl, wpAny_letOwnedTupleGo_enum heo fun h'' he'' hsb => ?_⟩
  have nel : e < s.heap.objs.size := Heap.lt_size he
  have ke : ∀ b o, b ∉ [e, it] -> s.heap.get? b = some o -> h''.get? b = some o := fun b o hb q => by
   simp only [List.mem_cons, List.not_mem_nil, or_false, not_or] at hb
   exact hsb.extBut b o hb.1 (kk b o hb.1 hb.2 q)
  refine ⟨.ref s.heap.objs.size, upd H s.heap.objs.size (.tup [.int i, x]), zdT (s' := { s with heap := h'', toks := tk + 1 }) (its := [.int i tk, y]) I hf rfl rfl ke (hsb.extBut _ _ (Nat.ne_of_gt nel) ht) (.cons ⟨tk, rfl⟩ (.cons ru .nil)) (by show 2 <= sizeLine; decide), rfl, ?_, ?_, fun b hb => ?_⟩
  ·exact ⟨_, x, rfl, I.hok.fresh (Nat.le_refl _), rfl, fun ys hy => by rw [zc0 I hy hq]; exact hx⟩
  ·exact ⟨y, he'', hst.1.at fun o q => hsb.extBut _ _ (Ne.symm hne) q⟩
  ·have z := (hf b hb).1
   obtain ⟨o, ho⟩ : ∃ o, s.heap.get? b = some o := by
    rcases List.mem_cons.mp hb with q | q
    ·subst q; exact ⟨_, he⟩
    ·have : b = it := by simpa using q
     subst this; obtain ⟨o, ho, _⟩ := hi.obj; exact ⟨o, ho⟩
   rw [Zz (Nat.ne_of_lt (Heap.lt_size ho))]; exact z
 done := by
  intro X hP hw hK hc i pins s σ H E I hf st hg
  subst hP hw hK
  obtain ⟨xs, hq, hx⟩ := hg
  obtain ⟨its, rv, hs, hz⟩ := VD I hq
  obtain ⟨old, he, hi⟩ := st
  have hl := rv.length
  have D := zbx (prog := X.prog) (w := X.w) (A := X.A.in1) (I.ok.hd hc) it l hli its.toArray t
  -- the draws beyond the end: at the place i
  have D' : Draws X.prog X.w X.A.in1 it [it, l] i (fun j v => j < i /\ its.toArray[j]? = some v \/ True) (fun j h => SrI h it l j t /\ SrS h l its.toArray t /\ i <= j) := ⟨fun _ _ st => let ⟨o, ho, _⟩ := st.1.obj; ⟨o, ho⟩,
   fun _ _ _ st hk => ⟨st.1.at fun o e => hk it (by simp) o e, st.2.1.at fun o e => hk l (by simp) o e, st.2.2⟩,
   fun j s Q E hj st hQ => absurd st.2.2 (by omega), fun s Q E st hE => zbw (I.ok.hd hc) st.1 st.2.1 (by simp; omega) hE⟩
  exact wpAny_pyNext_enum_endD D' he ⟨hi, hs, Nat.le_refl _⟩ fun h' eb => ⟨rfl, inv_ch (ch := [e, it]) (s' := { s with heap := h' }) I hf rfl rfl fun b o hb q => eb b o (fun z => hb (by simp [z])) q⟩
 self := fun _ _ _ _ _ st h => by
  obtain ⟨old, he, hi⟩ := st
  exact wpAny_pyIter_enum he h
section
variable {X : Cx} {W : Str -> Hp -> Prop} {tg a b c e : Expr} {es elts : List Expr} {da db : DE} {pos : Pos}
def iEn (K : PySem.W.Frag) (ta : TA) : TI := fun σ H R => ta σ H fun vs H1 => ∃ a t, vs = [.ref a] /\ (∃ xs, Sq K H1 a xs t) /\ R (Ite K a t) H1
theorem pi_enum {l : Expr} {ta : TA} {p tp : Pos} {k : Nat} (hg : Gl X "enumerate") (hm : X.mg "enumerate" = none) (hl : PA X [l] ta) (hs : starEach [l] X.env = (false, eval l X.env) :: starEach [] X.env := by rfl) : PI X (.Tuple elts k tp) (.Call (.Name "enumerate" p) [l] [] pos) (iEn X.K ta) := by
 intro pins s σ H R I h
 refine Call_ (U0 I hg hm (show bootBuiltins "enumerate" = some (.type "enumerate") by decide +kernel) (PyProof.Rows.callWith_type1 (thn (hl pos pins s σ H _ I h) fun us s1 ⟨vs, H1, I1, r1, q1⟩ => ?_) hs rfl))
 obtain ⟨l, t, rfl, ⟨xs, hq⟩, q⟩ := q1
 obtain ⟨u, rfl, ru⟩ := Qx r1
 cases ru
 obtain ⟨its, rv, hsr, hz⟩ := VD I1 hq
 have lt := hsr.lt
 refine zev hsr fun h' he hi kk => wpAny_pyIter_enum he ?_
 have I2 : Inv X pins σ H1 { s1 with heap := h' } := I1.kept (t' := s1.toks) kk
 refine ⟨_, [s1.heap.objs.size + 1, s1.heap.objs.size], _, Ite X.K l t, H1, rfl, I2, zcV l _ _ t (Nat.succ_ne_self _) (Nat.ne_of_lt (Nat.lt_succ_of_lt lt)) (Nat.ne_of_lt lt), ⟨_, he, hi⟩, fun b hb => ?_, q⟩
 have hb' : s1.heap.objs.size <= b := by
  rcases List.mem_cons.mp hb with z | z
  ·rw [z]; exact Nat.le_succ _
  ·have : b = s1.heap.objs.size := by simpa using z
   rw [this]; exact Nat.le_refl _
 exact I1.fpOk hb' (I1.hok.fresh hb')
theorem zaq : ∀ (xs : List PyData) (n i : Nat), (Vv n xs)[i]? = (xs[i]?).map fun x => .tuple [.int ((n + i : Nat) : Int), x]
 | [], n, i => by simp [Vv]
 | x :: r, n, 0 => by simp [Vv]
 | x :: r, n, i + 1 => by
  simp only [Vv, List.getElem?_cons_succ, zaq r (n + 1) i]
  have : n + 1 + i = n + (i + 1) := by omega
  rw [this]
theorem zap : ∀ (xs : List PyData) (n : Nat), (Vv n xs).length = xs.length
 | [], n => rfl
 | x :: r, n => by simp [Vv, zap r (n + 1)]
theorem zbr {H : Hp} {P : Pv} {l : Addr} {t : Bool} {xs : List PyData} {vs : List V} (sq : ∀ H' P', Tr H P H' P' -> Sq X.K H' l vs t) (r : Rls X.K H P xs vs) : Yld X.K (Ite X.K l t) (Vv 0 xs) H P := by
 intro H' P' tr nf i
 have r' := Rls.go tr xs vs r
 have s' := sq H' P' tr
 refine ⟨fun tt e => ?_, fun hl => ⟨vs, s', by rw [zap] at hl; rw [<- r.length]; exact hl⟩⟩
 rw [zaq] at e
 cases ex : xs[i]? with
 | none => rw [ex] at e; cases e
 | some x =>
  rw [ex] at e
  simp only [Option.map_some, Option.some.injEq] at e
  subst e
  obtain ⟨v, ev, rv⟩ := r'.getT ex
  refine ⟨⟨vs, v, s', ev⟩, fun y H'' yy => ?_⟩
  obtain ⟨p, v', rfl, hp, rfl, hv⟩ := yy
  have := hv vs s'
  rw [ev] at this
  cases this
  refine ⟨ZB hp, ZK.mpr ⟨p, _, rfl, .off Zs (nf p hp), Zr.mpr ⟨.int i, [v], rfl, Zx.mpr (by simp), Zr.mpr ⟨v, [], rfl, Rl.go (.same (ZB hp)) x v rv, ZG.mpr rfl⟩⟩⟩⟩
theorem iv_enum {p tp : Pos} {k : Nat} (hg : Gl X "enumerate") (hm : X.mg "enumerate" = none) (ha : EV X W a da) (hs : starEach [a] X.env = (false, eval a X.env) :: starEach [] X.env := by rfl) : IV X W (.Tuple elts k tp) (.Call (.Name "enumerate" p) [a] [] pos) (iEnum (iSeq da)) :=
 Jg (pi_enum hg hm (Z0 ha Y0 hs) hs) fun σ H R ⟨G, P, h, q⟩ => by
  unfold iEnum iSeq at q
  cases e : da G with
  | stuck => rw [e] at q; exact q.elim
  | exc c => rw [e] at q; exact ⟨G, P, h, by rw [e]; exact q⟩
  | ok tx =>
   rw [e, Res.bind_ok] at q
   refine ⟨G, P, h, ?_⟩
   rw [e]
   intro x H1 s1 rx
   have h1 := h.same s1
   cases tx <;> try exact q.elim
   ·obtain ⟨l, vs, rfl, sl, rs⟩ := ZR.mp rx
    exact ⟨l, false, rfl, ⟨vs, sl.sq⟩, q _ H1 s1 (zbr (t := false) (fun H' P' tr => (sl.go tr).sq) rs)⟩
   ·obtain ⟨l, vs, rfl, sl, rs⟩ := ZK.mp rx
    exact ⟨l, true, rfl, ⟨vs, sl.sq⟩, q _ H1 s1 (zbr (t := true) (fun H' P' tr => (sl.go tr).sq) rs)⟩
end
end Fx
namespace Fx
open PySem PySem.Spec PyProof.Rows L2
section
variable {prog : Program} {w : World} {A : Around} {E : Value -> Shared -> Prop} {s : Shared}
theorem zip_item {z TI TO i1 i2 l1 l2 : Addr} {k1 k2 : Nat} {xs ys : Array Value} {x y a b : Value} {t1 t2 : Bool} {Q : Value -> Shared -> Prop} (D : ZipApart z TI TO i1 i2 l1 l2)
  (hz : IsZip s.heap z TI TO .none) (hTI : IsPair s.heap TI (.ref i1) (.ref i2)) (hTO : IsPair s.heap TO a b)
  (h1 : SrI s.heap i1 l1 k1 t1) (h2 : SrI s.heap i2 l2 k2 t2) (hl1 : SrS s.heap l1 xs t1) (hl2 : SrS s.heap l2 ys t2) (hx : xs[k1]? = some x) (hy : ys[k2]? = some y)
  (hQ : ∀ h', IsZip h' z TI TO (rawInt s.heap.objs.size) -> IsPair h' TO x y -> SrI h' i1 l1 (k1 + 1) t1 -> SrI h' i2 l2 (k2 + 1) t2 -> IsPair h' s.heap.objs.size x y ->
   (∀ c o, c ∉ [z, TO, i1, i2] -> s.heap.get? c = some o -> h'.get? c = some o) -> Q (.ref s.heap.objs.size) { s with heap := h' }) :
  wpAny (model prog w) A (Builtin.«zip.__next__» ⟨[.ref z], []⟩) (fun fin s' => ∃ v, fin = .done (.ret v) /\ Q v s') E s := by
 show wpAny _ _ (field (.ref z) 2 >>= _) _ _ _
 refine wpAny_bind (wpAny_field hz rfl (x := .bool false) rfl ?_)
 show wpAny _ _ (field (.ref z) 3 >>= _) _ _ _
 refine wpAny_bind (wpAny_field hz rfl (x := .ref TI) rfl ?_)
 refine wpAny_bind (wpAny_seqItems hTI rfl ?_)
 show wpAny _ _ (Builtin.SmallTypes.ownedTupleIsFree (.ref z) >>= _) _ _ _
 refine wpAny_bind ?_
 unfold Builtin.SmallTypes.ownedTupleIsFree
 refine wpAny_bind (wpAny_field hz rfl (x := .none) rfl (wpAny_pure ?_))
 simp only [if_true]
 refine wpAny_bind (wpAny_rule ?_)
 refine wpAny_bind (wpAny_field hz rfl (x := .ref TO) rfl ?_)
 refine wpAny_bind (wpAny_setField_rec hz (by simp) fun g1 z1 e1 => ?_)
 replace z1 : IsZip g1 z TI TO .ellipsis := z1
 refine wpAny_bind ?_
 simp only [List.zipIdx_cons, List.zipIdx_nil, List.forIn_cons, List.forIn_nil]
 -- the first draw
 refine wpAny_bind (wpAny_bind (wpAny_onRaise ?_))
 show wpAny _ _ (Builtin.SmallTypes.nextOf (.ref i1) >>= _) _ _ _
 refine wpAny_bind (Q6 (h1.at fun o e => e1.extBut _ _ D.i1z e) (hl1.at fun o e => e1.extBut _ _ D.l1z e) hx fun g2 d2 e2 => wpAny_pure ?_)
 have o2 : IsPair g2 TO a b := e2.extBut _ _ D.TOi1 (e1.extBut _ _ D.TOz hTO)
 refine wpAny_bind (wpAny_seqItems o2 rfl ?_)
 refine wpAny_bind (wpAny_updateSeq_pair o2 fun g3 o3 e3 => ?_)
 replace o3 : IsPair g3 TO x b := o3
 refine wpAny_bind (wpAny_letGo (wpAny_pure ?_))
 -- the second
 refine wpAny_bind (wpAny_bind (wpAny_onRaise ?_))
 show wpAny _ _ (Builtin.SmallTypes.nextOf (.ref i2) >>= _) _ _ _
 refine wpAny_bind (Q6 (h2.at fun o e => e3.extBut _ _ D.TOi2.symm (e2.extBut _ _ D.i12.symm (e1.extBut _ _ D.i2z e))) (hl2.at fun o e => e3.extBut _ _ D.l2TO (e2.extBut _ _ D.l2i1 (e1.extBut _ _ D.l2z e))) hy fun g4 d4 e4 => wpAny_pure ?_)
 have o4 : IsPair g4 TO x b := e4.extBut _ _ D.TOi2 o3
 refine wpAny_bind (wpAny_seqItems o4 rfl ?_)
 refine wpAny_bind (wpAny_updateSeq_pair o4 fun g5 o5 e5 => ?_)
 replace o5 : IsPair g5 TO x y := o5
 refine wpAny_bind (wpAny_letGo (wpAny_pure (wpAny_pure ?_)))
 -- the pair
 refine wpAny_bind (wpAny_seqItems o5 rfl ?_)
 refine wpAny_bind (wpAny_newTuple ?_)
 have sz : g5.objs.size = s.heap.objs.size := by rw [e5.1, e4.1, e3.1, e2.1, e1.1]
 have z5 : IsZip g5 z TI TO .ellipsis := e5.extBut _ _ D.TOz.symm (e4.extBut _ _ D.i2z.symm (e3.extBut _ _ D.TOz.symm (e2.extBut _ _ D.i1z.symm z1)))
 have k5 : ∀ c o, c ∉ [z, TO, i1, i2] -> s.heap.get? c = some o -> g5.get? c = some o := fun c o hc e => by
  simp only [List.mem_cons, List.not_mem_nil, or_false, not_or] at hc
  exact e5.extBut _ _ hc.2.1 (e4.extBut _ _ hc.2.2.2 (e3.extBut _ _ hc.2.1 (e2.extBut _ _ hc.2.2.1 (e1.extBut _ _ hc.1 e))))
 have i5 : SrI g5 i1 l1 (k1 + 1) t1 := d2.at fun o e => e5.extBut _ _ D.TOi1.symm (e4.extBut _ _ D.i12 (e3.extBut _ _ D.TOi1.symm e))
 have j5 : SrI g5 i2 l2 (k2 + 1) t2 := d4.at fun o e => e5.extBut _ _ D.TOi2.symm e
 have zlt : z < g5.objs.size := Heap.lt_size z5
 show wpAny _ _ (Builtin.SmallTypes.ownedTupleHandOut (.ref z) (.ref g5.objs.size) >>= _) _ _ _
 refine wpAny_bind ?_
 unfold Builtin.SmallTypes.ownedTupleHandOut
 have z6 : IsZip (g5.push { cls := .type "tuple", data := .seq #[x, y] }) z TI TO .ellipsis := Heap.get?_push_of_some _ z5
 refine wpAny_bind (wpAny_setField_rec z6 (by simp) fun g7 z7 e7 => ?_)
 replace z7 : IsZip g7 z TI TO (rawInt g5.objs.size) := z7
 refine wpAny_setField_rec z7 (by simp) fun g8 z8 e8 => ?_
 replace z8 : IsZip g8 z TI TO (rawInt g5.objs.size) := z8
 have up : ∀ c o, c ≠ z -> g5.get? c = some o -> g8.get? c = some o := fun c o c1 e => e8.extBut _ _ c1 (e7.extBut _ _ c1 (Heap.get?_push_of_some _ e))
 have t8 : IsPair g8 g5.objs.size x y := e8.extBut _ _ (Nat.ne_of_gt zlt) (e7.extBut _ _ (Nat.ne_of_gt zlt) (Heap.get?_push_size _ rfl))
 rw [sz] at z8 t8
 refine wpAny_pure ⟨_, rfl, ?_⟩
 show Q (.ref g5.objs.size) _
 rw [sz]
 exact hQ g8 z8 (up _ _ D.TOz o5) (i5.at fun o e => up _ o D.i1z e) (j5.at fun o e => up _ o D.i2z e) t8 fun c o hc e => up c o (fun q => hc (by simp [q])) (k5 c o hc e)
theorem zip_end {z TI TO i1 i2 l1 l2 : Addr} {k1 k2 : Nat} {xs ys : Array Value} {a b : Value} {t1 t2 : Bool} {Q : Fin -> Shared -> Prop} (hh : A.handled = none) (D : ZipApart z TI TO i1 i2 l1 l2)
  (hz : IsZip s.heap z TI TO .none) (hTI : IsPair s.heap TI (.ref i1) (.ref i2)) (hTO : IsPair s.heap TO a b)
  (h1 : SrI s.heap i1 l1 k1 t1) (h2 : SrI s.heap i2 l2 k2 t2) (hl1 : SrS s.heap l1 xs t1) (hl2 : SrS s.heap l2 ys t2) (hend : xs[k1]? = none \/ ys[k2]? = none)
  (hE : ∀ h' e, (∀ c o, c ∉ [z, TO, i1, i2] -> s.heap.get? c = some o -> h'.get? c = some o) -> (∃ o, h'.get? e = some o /\ o.cls = .type "StopIteration") -> E (.ref e) { s with heap := h' }) :
  wpAny (model prog w) A (Builtin.«zip.__next__» ⟨[.ref z], []⟩) Q E s := by
 show wpAny _ _ (field (.ref z) 2 >>= _) _ _ _
 refine wpAny_bind (wpAny_field hz rfl (x := .bool false) rfl ?_)
 show wpAny _ _ (field (.ref z) 3 >>= _) _ _ _
 refine wpAny_bind (wpAny_field hz rfl (x := .ref TI) rfl ?_)
 refine wpAny_bind (wpAny_seqItems hTI rfl ?_)
 show wpAny _ _ (Builtin.SmallTypes.ownedTupleIsFree (.ref z) >>= _) _ _ _
 refine wpAny_bind ?_
 unfold Builtin.SmallTypes.ownedTupleIsFree
 refine wpAny_bind (wpAny_field hz rfl (x := .none) rfl (wpAny_pure ?_))
 simp only [if_true]
 refine wpAny_bind (wpAny_rule ?_)
 refine wpAny_bind (wpAny_field hz rfl (x := .ref TO) rfl ?_)
 refine wpAny_bind (wpAny_setField_rec hz (by simp) fun g1 z1 e1 => ?_)
 replace z1 : IsZip g1 z TI TO .ellipsis := z1
 refine wpAny_bind ?_
 simp only [List.zipIdx_cons, List.zipIdx_nil, List.forIn_cons, List.forIn_nil]
 refine wpAny_bind (wpAny_bind (wpAny_onRaise ?_))
 show wpAny _ _ (Builtin.SmallTypes.nextOf (.ref i1) >>= _) _ _ _
 cases hx : xs[k1]? with
 | none =>
  refine wpAny_bind (zbw hh (h1.at fun o e => e1.extBut _ _ D.i1z e) (hl1.at fun o e => e1.extBut _ _ D.l1z e) hx fun g2 e e2 he => ?_)
  obtain ⟨oe, hoe, hce⟩ := he
  have z2 : IsZip g2 z TI TO .ellipsis := e2 _ _ D.i1z.symm z1
  have hez : e ≠ z := fun q => by subst q; rw [z2] at hoe; cases hoe; simp at hce
  refine wpAny_setField_rec z2 (by simp) fun g3 _ e3 => hE g3 e (fun c o hc q => ?_) ⟨oe, e3.extBut _ _ hez hoe, hce⟩
  simp only [List.mem_cons, List.not_mem_nil, or_false, not_or] at hc
  exact e3.extBut _ _ hc.1 (e2 _ _ hc.2.2.1 (e1.extBut _ _ hc.1 q))
 | some x =>
  have hy : ys[k2]? = none := by
   rcases hend with h | h
   ·rw [hx] at h; cases h
   ·exact h
  refine wpAny_bind (Q6 (h1.at fun o e => e1.extBut _ _ D.i1z e) (hl1.at fun o e => e1.extBut _ _ D.l1z e) hx fun g2 d2 e2 => wpAny_pure ?_)
  have o2 : IsPair g2 TO a b := e2.extBut _ _ D.TOi1 (e1.extBut _ _ D.TOz hTO)
  refine wpAny_bind (wpAny_seqItems o2 rfl ?_)
  refine wpAny_bind (wpAny_updateSeq_pair o2 fun g3 o3 e3 => ?_)
  refine wpAny_bind (wpAny_letGo (wpAny_pure ?_))
  refine wpAny_bind (wpAny_bind (wpAny_onRaise ?_))
  show wpAny _ _ (Builtin.SmallTypes.nextOf (.ref i2) >>= _) _ _ _
  refine wpAny_bind (zbw hh (h2.at fun o e => e3.extBut _ _ D.TOi2.symm (e2.extBut _ _ D.i12.symm (e1.extBut _ _ D.i2z e))) (hl2.at fun o e => e3.extBut _ _ D.l2TO (e2.extBut _ _ D.l2i1 (e1.extBut _ _ D.l2z e))) hy fun g4 e e4 he => ?_)
  obtain ⟨oe, hoe, hce⟩ := he
  have z4 : IsZip g4 z TI TO .ellipsis := e4 _ _ D.i2z.symm (e3.extBut _ _ D.TOz.symm (e2.extBut _ _ D.i1z.symm z1))
  have hez : e ≠ z := fun q => by subst q; rw [z4] at hoe; cases hoe; simp at hce
  refine wpAny_setField_rec z4 (by simp) fun g5 _ e5 => hE g5 e (fun c o hc q => ?_) ⟨oe, e5.extBut _ _ hez hoe, hce⟩
  simp only [List.mem_cons, List.not_mem_nil, or_false, not_or] at hc
  exact e5.extBut _ _ hc.1 (e4 _ _ hc.2.2.2 (e3.extBut _ _ hc.2.1 (e2.extBut _ _ hc.2.2.1 (e1.extBut _ _ hc.1 q))))
theorem zip_pn {z TI TO i1 i2 l1 l2 : Addr} {k1 k2 : Nat} {xs ys : Array Value} {x y a b : Value} {t1 t2 : Bool} {Q : Option Value -> Shared -> Prop} (D : ZipApart z TI TO i1 i2 l1 l2)
  (hz : IsZip s.heap z TI TO .none) (hTI : IsPair s.heap TI (.ref i1) (.ref i2)) (hTO : IsPair s.heap TO a b)
  (h1 : SrI s.heap i1 l1 k1 t1) (h2 : SrI s.heap i2 l2 k2 t2) (hl1 : SrS s.heap l1 xs t1) (hl2 : SrS s.heap l2 ys t2) (hx : xs[k1]? = some x) (hy : ys[k2]? = some y)
  (hQ : ∀ h', IsZip h' z TI TO (rawInt s.heap.objs.size) -> IsPair h' TO x y -> SrI h' i1 l1 (k1 + 1) t1 -> SrI h' i2 l2 (k2 + 1) t2 -> IsPair h' s.heap.objs.size x y ->
   (∀ c o, c ∉ [z, TO, i1, i2] -> s.heap.get? c = some o -> h'.get? c = some o) -> Q (some (.ref s.heap.objs.size)) { s with heap := h' }) :
  wpAny (model prog w) A (pyNext (.ref z)) Q E s := by
 have hT : s.TypeIs (.ref z) "zip" := ⟨_, hz, rfl⟩
 unfold pyNext
 exact wpAny_bind (wpAny_attempt (wpAny_callSpecial?_slot (name := Str.ofString "__next__") hT F.slot_zip_next
  (wpAny_call_entry F.slot_zip_next hT F.entry_zip_next (zip_item D hz hTI hTO h1 h2 hl1 hl2 hx hy fun h' a1 a2 a3 a4 a5 a6 => wpAny_pure (hQ h' a1 a2 a3 a4 a5 a6)) (F.args_zip_next_1 _))))
theorem zip_pe {z TI TO i1 i2 l1 l2 : Addr} {k1 k2 : Nat} {xs ys : Array Value} {a b : Value} {t1 t2 : Bool} {Q : Option Value -> Shared -> Prop} (hh : A.handled = none) (D : ZipApart z TI TO i1 i2 l1 l2)
  (hz : IsZip s.heap z TI TO .none) (hTI : IsPair s.heap TI (.ref i1) (.ref i2)) (hTO : IsPair s.heap TO a b)
  (h1 : SrI s.heap i1 l1 k1 t1) (h2 : SrI s.heap i2 l2 k2 t2) (hl1 : SrS s.heap l1 xs t1) (hl2 : SrS s.heap l2 ys t2) (hend : xs[k1]? = none \/ ys[k2]? = none)
  (hQ : ∀ h', (∀ c o, c ∉ [z, TO, i1, i2] -> s.heap.get? c = some o -> h'.get? c = some o) -> Q none { s with heap := h' }) : wpAny (model prog w) A (pyNext (.ref z)) Q E s := by
 have hT : s.TypeIs (.ref z) "zip" := ⟨_, hz, rfl⟩
 unfold pyNext
 refine wpAny_bind (wpAny_attempt (wpAny_callSpecial?_slot (name := Str.ofString "__next__") hT F.slot_zip_next
  (wpAny_call_entry F.slot_zip_next hT F.entry_zip_next (zip_end hh D hz hTI hTO h1 h2 hl1 hl2 hend fun h' e hk he => ?_) (F.args_zip_next_1 _))))
 obtain ⟨o, ho, hc⟩ := he
 exact wpAny_bind (wpAny_isInstance (T := "StopIteration") (b := true) ⟨o, ho, hc⟩ isSubtype_stop (wpAny_pure (hQ _ hk)))
abbrev zH1 (h : Heap) (l1 : Addr) (t1 : Bool) : Heap := h.push (QG l1 t1)
abbrev zH2 (h : Heap) (l1 l2 : Addr) (t1 t2 : Bool) : Heap := (zH1 h l1 t1).push (QG l2 t2)
abbrev zH3 (h : Heap) (l1 l2 : Addr) (t1 t2 : Bool) : Heap := (zH2 h l1 l2 t1 t2).push { cls := .type "tuple", data := .seq #[.ref h.objs.size, .ref (zH1 h l1 t1).objs.size] }
abbrev zH4 (h : Heap) (l1 l2 : Addr) (t1 t2 : Bool) : Heap := (zH3 h l1 l2 t1 t2).push { cls := .type "tuple", data := .seq #[.none, .none] }
abbrev zH5 (h : Heap) (l1 l2 : Addr) (t1 t2 : Bool) : Heap := (zH4 h l1 l2 t1 t2).push { cls := .type "zip", data := .fields #[.none, .bool false, .bool false, .ref (zH2 h l1 l2 t1 t2).objs.size, .ref (zH3 h l1 l2 t1 t2).objs.size] }
theorem zdz (l1 l2 : Addr) (xs ys : Array Value) (t1 t2 : Bool) :
  Meets (Builtin.«zip.__new__» ⟨[.type "zip", .ref l1, .ref l2], []⟩) (fun _ R s => SrS s.heap l1 xs t1 /\ SrS s.heap l2 ys t2 /\ R (.ok (.ret (.ref (zH4 s.heap l1 l2 t1 t2).objs.size))) { s with heap := zH5 s.heap l1 l2 t1 t2 }) :=
 .of_wp fun prog w A R s h => by
  obtain ⟨hp, g, d, tk, os⟩ := s
  obtain ⟨hl1, hl2, h⟩ := h
  have hsub := sub_zip
  have L1 : SrS (Shared.heap ⟨hp, g, d, tk, os⟩) l1 xs t1 := hl1
  have L2 : SrS (Shared.heap ⟨hp.push (QG l1 t1), g, d, tk, os⟩) l2 ys t2 := hl2.at fun o e => Heap.get?_push_of_some _ e
  wp_walk using UR L1, UR L2
  exact ⟨_, rfl, h⟩
theorem call_zip {l1 l2 : Addr} {xs ys : Array Value} {t1 t2 : Bool} {Q : Value -> Shared -> Prop} (hl1 : SrS s.heap l1 xs t1) (hl2 : SrS s.heap l2 ys t2)
  (h : ∀ h', IsZip h' (s.heap.objs.size + 4) (s.heap.objs.size + 2) (s.heap.objs.size + 3) .none -> IsPair h' (s.heap.objs.size + 2) (.ref s.heap.objs.size) (.ref (s.heap.objs.size + 1)) ->
   IsPair h' (s.heap.objs.size + 3) .none .none -> SrI h' s.heap.objs.size l1 0 t1 -> SrI h' (s.heap.objs.size + 1) l2 0 t2 ->
   (∀ c o, s.heap.get? c = some o -> h'.get? c = some o) -> Q (.ref (s.heap.objs.size + 4)) { s with heap := h' }) :
  wpAny (model prog w) A (call (.type "zip") [.ref l1, .ref l2]) Q E s := by
 refine callType_new F.called_zip (by decide) (F.typeCall_zip_2 _ _) (F.newCall_zip_2 _ _) (fun obj => F.args_object_init_3 obj _ _) F.entry_zip_new (zdz l1 l2 xs ys t1 t2) ⟨hl1, hl2, ?_⟩
 have z1 : (zH1 s.heap l1 t1).objs.size = s.heap.objs.size + 1 := Heap.size_push ..
 have z2 : (zH2 s.heap l1 l2 t1 t2).objs.size = s.heap.objs.size + 2 := by rw [Heap.size_push, z1]
 have z3 : (zH3 s.heap l1 l2 t1 t2).objs.size = s.heap.objs.size + 3 := by rw [Heap.size_push, z2]
 have z4 : (zH4 s.heap l1 l2 t1 t2).objs.size = s.heap.objs.size + 4 := by rw [Heap.size_push, z3]
 have g5 : (zH5 s.heap l1 l2 t1 t2).get? (zH4 s.heap l1 l2 t1 t2).objs.size = some _ := Heap.get?_push_size _ rfl
 have g4 : (zH5 s.heap l1 l2 t1 t2).get? (zH3 s.heap l1 l2 t1 t2).objs.size = some _ := Heap.get?_push_of_some _ (Heap.get?_push_size _ rfl)
 have g3 : (zH5 s.heap l1 l2 t1 t2).get? (zH2 s.heap l1 l2 t1 t2).objs.size = some _ := Heap.get?_push_of_some _ (Heap.get?_push_of_some _ (Heap.get?_push_size _ rfl))
 have g2 : SrI (zH5 s.heap l1 l2 t1 t2) (zH1 s.heap l1 t1).objs.size l2 0 t2 := SrI.new.at fun o e => Heap.get?_push_of_some _ (Heap.get?_push_of_some _ (Heap.get?_push_of_some _ e))
 have g1 : SrI (zH5 s.heap l1 l2 t1 t2) s.heap.objs.size l1 0 t1 := SrI.new.at fun o e => Heap.get?_push_of_some _ (Heap.get?_push_of_some _ (Heap.get?_push_of_some _ (Heap.get?_push_of_some _ e)))
 show _ /\ _
 rw [z2, z3, z4] at g5
 rw [z1, z2] at g3
 rw [z3] at g4
 rw [z1] at g2
 rw [z4]
 exact ⟨⟨_, g5, rfl⟩, h _ g5 g3 g4 g1 g2 fun c o x => Heap.get?_push_of_some _ (Heap.get?_push_of_some _ (Heap.get?_push_of_some _ (Heap.get?_push_of_some _ (Heap.get?_push_of_some _ x))))⟩
end
def Itz (K : PySem.W.Frag) (l1 l2 : Addr) (t1 t2 : Bool) : It :=
 ⟨fun i H => ∃ xs ys x y, Sq K H l1 xs t1 /\ Sq K H l2 ys t2 /\ xs[i]? = some x /\ ys[i]? = some y,
   fun i H x H' => ∃ p v w, x = .ref p /\ H p = none /\ H' = upd H p (.tup [v, w]) /\ (∀ xs, Sq K H l1 xs t1 -> xs[i]? = some v) /\ ∀ ys, Sq K H l2 ys t2 -> ys[i]? = some w,
   fun i H => ∃ xs ys, Sq K H l1 xs t1 /\ Sq K H l2 ys t2 /\ (xs.length <= i \/ ys.length <= i)⟩
theorem turn_zip {P : Program} {w : World} {K : PySem.W.Frag} {elts : List Expr} {k : Nat} {pos : Pos} (z TI TO i1 i2 l1 l2 : Addr) (t1 t2 : Bool) (D : ZipApart z TI TO i1 i2 l1 l2) :
  Turn P w K (.Tuple elts k pos) (Itz K l1 l2 t1 t2) [z, TI, TO, i1, i2] z (fun i h => IsZip h z TI TO .none /\ IsPair h TI (.ref i1) (.ref i2) /\ (∃ a b, IsPair h TO a b) /\ SrI h i1 l1 i t1 /\ SrI h i2 l2 i t2) where
 mem := by simp
 obj := fun i h st b hb => by
  obtain ⟨hz, hTI, ⟨a, c, hTO⟩, h1, h2⟩ := st
  simp only [List.mem_cons, List.not_mem_nil, or_false] at hb
  rcases hb with rfl | rfl | rfl | rfl | rfl
  ·exact ⟨_, hz, fun v q => by cases q⟩
  ·exact ⟨_, hTI, fun v q => by cases q⟩
  ·exact ⟨_, hTO, fun v q => by cases q⟩
  ·exact h1.obj
  ·exact h2.obj
 keep := fun i h h' st kk => by
  obtain ⟨hz, hTI, ⟨a, c, hTO⟩, h1, h2⟩ := st
  exact ⟨kk z (by simp) _ hz, kk TI (by simp) _ hTI, ⟨a, c, kk TO (by simp) _ hTO⟩, h1.at fun o e => kk i1 (by simp) o e, h2.at fun o e => kk i2 (by simp) o e⟩
 item := by
  intro X hP hw hK hc i pins s σ H E I hf st hg
  subst hP hw hK
  obtain ⟨xs, ys, x, y, hq1, hq2, hx, hy⟩ := hg
  obtain ⟨a1, r1, s1, _⟩ := VD I hq1
  obtain ⟨a2, r2, s2, _⟩ := VD I hq2
  obtain ⟨u1, hu1, ru1⟩ := r1.get hx
  obtain ⟨u2, hu2, ru2⟩ := r2.get hy
  obtain ⟨hz, hTI, ⟨a, c, hTO⟩, h1, h2⟩ := st
  have fresh : ∀ b o, s.heap.get? b = some o -> b ≠ s.heap.objs.size := fun b o e => Nat.ne_of_lt (Heap.lt_size e)
  refine zip_pn D hz hTI hTO h1 h2 s1 s2 (x := u1) (y := u2) (by simpa using hu1) (by simpa using hu2) fun h' z' o' i1' i2' p' kk => ?_
  refine ⟨_, rfl, wpAny_letOwnedTupleGo_zip z' fun h'' z'' hsb => ?_⟩
  have ke : ∀ b o, b ∉ [z, TI, TO, i1, i2] -> s.heap.get? b = some o -> h''.get? b = some o := fun b o hb e => by
   simp only [List.mem_cons, List.not_mem_nil, or_false, not_or] at hb
   exact hsb.extBut _ _ hb.1 (kk b o (by simp [hb.1, hb.2.2.1, hb.2.2.2.1, hb.2.2.2.2]) e)
  refine ⟨.ref s.heap.objs.size, upd H s.heap.objs.size (.tup [x, y]), zdT (s' := { s with heap := h'' }) (its := [u1, u2]) I hf rfl rfl ke (hsb.extBut _ _ (Ne.symm (fresh z _ hz)) p') (.cons ru1 (.cons ru2 .nil)) (by show 2 <= sizeLine; decide), rfl, ?_, ?_, fun b hb => ?_⟩
  ·exact ⟨_, x, y, rfl, I.hok.fresh (Nat.le_refl _), rfl, fun zs hz => by rw [zc0 I hz hq1]; exact hx, fun zs hz => by rw [zc0 I hz hq2]; exact hy⟩
  ·exact ⟨z'', hsb.extBut _ _ D.TIz (kk TI _ (by simp [D.TIz, D.TITO, D.TIi1, D.TIi2]) hTI), ⟨_, _, hsb.extBut _ _ D.TOz o'⟩, i1'.at fun o e => hsb.extBut _ _ D.i1z e, i2'.at fun o e => hsb.extBut _ _ D.i2z e⟩
  ·have q := (hf b hb).1
   obtain ⟨o, ho⟩ : ∃ o, s.heap.get? b = some o := by
    simp only [List.mem_cons, List.not_mem_nil, or_false] at hb
    rcases hb with rfl | rfl | rfl | rfl | rfl
    ·exact ⟨_, hz⟩
    ·exact ⟨_, hTI⟩
    ·exact ⟨_, hTO⟩
    ·obtain ⟨o, ho, _⟩ := h1.obj; exact ⟨o, ho⟩
    ·obtain ⟨o, ho, _⟩ := h2.obj; exact ⟨o, ho⟩
   rw [Zz (fresh b o ho)]; exact q
 done := by
  intro X hP hw hK hc i pins s σ H E I hf st hg
  subst hP hw hK
  obtain ⟨xs, ys, hq1, hq2, hx⟩ := hg
  obtain ⟨a1, r1, s1, _⟩ := VD I hq1
  obtain ⟨a2, r2, s2, _⟩ := VD I hq2
  obtain ⟨hz, hTI, ⟨a, c, hTO⟩, h1, h2⟩ := st
  have n1 := r1.length
  have n2 := r2.length
  have he : a1.toArray[i]? = none \/ a2.toArray[i]? = none := by
   rcases hx with q | q
   ·exact .inl (by simp; omega)
   ·exact .inr (by simp; omega)
  exact zip_pe (I.ok.hd hc) D hz hTI hTO h1 h2 s1 s2 he fun h' kk => ⟨rfl, inv_ch (ch := [z, TI, TO, i1, i2]) (s' := { s with heap := h' }) I hf rfl rfl fun b o hb e => kk b o (fun q => hb (by simp at q ⊢; rcases q with q | q | q | q <;> simp [q])) e⟩
 self := fun _ _ _ _ _ st h => wpAny_pyIter_zip st.1 h
section
variable {X : Cx} {W : Str -> Hp -> Prop} {tg a b c e : Expr} {es elts : List Expr} {da db : DE} {pos : Pos}
def iZp (K : PySem.W.Frag) (ta : TA) : TI := fun σ H R => ta σ H fun vs H1 => ∃ a b t1 t2, vs = [.ref a, .ref b] /\ (∃ xs, Sq K H1 a xs t1) /\ (∃ ys, Sq K H1 b ys t2) /\ R (Itz K a b t1 t2) H1
theorem pi_zip {l1 l2 : Expr} {ta : TA} {p tp : Pos} {k : Nat} (hg : Gl X "zip") (hm : X.mg "zip" = none) (hl : PA X [l1, l2] ta) (hs : starEach [l1, l2] X.env = (false, eval l1 X.env) :: starEach [l2] X.env := by rfl)
  (hpl : (backTo pos (starEach [l2] X.env)).any (·.1) = false := by rfl) : PI X (.Tuple elts k tp) (.Call (.Name "zip" p) [l1, l2] [] pos) (iZp X.K ta) := by
 intro pins s σ H R I h
 refine Call_ (U0 I hg hm (show bootBuiltins "zip" = some (.type "zip") by decide +kernel) (PyProof.Rows.callWith_type1 (thn (hl pos pins s σ H _ I h) fun us s1 ⟨vs, H1, I1, r1, q1⟩ => ?_) hs hpl))
 obtain ⟨l1, l2, t1, t2, rfl, ⟨xs, hq1⟩, ⟨ys, hq2⟩, q⟩ := q1
 obtain ⟨u1, u2, rfl, ru1, ru2⟩ := vals2 r1
 cases ru1
 cases ru2
 obtain ⟨a1, rv1, s1', _⟩ := VD I1 hq1
 obtain ⟨a2, rv2, s2', _⟩ := VD I1 hq2
 have lt1 := s1'.lt
 have lt2 := s2'.lt
 refine call_zip s1' s2' fun h' hz hTI hTO h1 h2 kk => wpAny_pyIter_zip hz ?_
 have I2 : Inv X pins σ H1 { s1 with heap := h' } := I1.kept (t' := s1.toks) kk
 have ap : ZipApart (s1.heap.objs.size + 4) (s1.heap.objs.size + 2) (s1.heap.objs.size + 3) s1.heap.objs.size (s1.heap.objs.size + 1) l1 l2 := by
  constructor <;> (intro e; simp only [Addr] at *; omega)
 refine ⟨_, [s1.heap.objs.size + 4, s1.heap.objs.size + 2, s1.heap.objs.size + 3, s1.heap.objs.size, s1.heap.objs.size + 1], _, Itz X.K l1 l2 t1 t2, H1, rfl, I2, turn_zip _ _ _ _ _ l1 l2 t1 t2 ap, ⟨hz, hTI, ⟨_, _, hTO⟩, h1, h2⟩, fun b hb => ?_, q⟩
 have hb' : s1.heap.objs.size <= b := by
  simp only [List.mem_cons, List.not_mem_nil, or_false] at hb
  rcases hb with rfl | rfl | rfl | rfl | rfl
  ·exact Nat.le_add_right _ _
  ·exact Nat.le_add_right _ _
  ·exact Nat.le_add_right _ _
  ·exact Nat.le_refl _
  ·exact Nat.le_add_right _ _
 exact I1.fpOk hb' (I1.hok.fresh hb')
theorem zbq : ∀ (xs ys : List PyData) (i : Nat) (t : PyData), (zipT xs ys)[i]? = some t -> ∃ x y, xs[i]? = some x /\ ys[i]? = some y /\ t = .tuple [x, y]
 | [], ys, i, t, h => by simp [zipT] at h
 | x :: xs, [], i, t, h => by simp [zipT] at h
 | x :: xs, y :: ys, 0, t, h => by simp [zipT] at h; exact ⟨x, y, rfl, rfl, h.symm⟩
 | x :: xs, y :: ys, i + 1, t, h => by
  simp only [zipT, List.getElem?_cons_succ] at h
  obtain ⟨a, b, h1, h2, h3⟩ := zbq xs ys i t h
  exact ⟨a, b, by simpa using h1, by simpa using h2, h3⟩
theorem zbp : ∀ (xs ys : List PyData) (i : Nat), (zipT xs ys).length <= i -> xs.length <= i \/ ys.length <= i
 | [], ys, i, h => .inl (Nat.zero_le _)
 | x :: xs, [], i, h => .inr (Nat.zero_le _)
 | x :: xs, y :: ys, 0, h => by simp [zipT] at h
 | x :: xs, y :: ys, i + 1, h => by
  simp only [zipT, List.length_cons] at h
  rcases zbp xs ys i (by omega) with q | q
  ·exact .inl (by simp; omega)
  ·exact .inr (by simp; omega)
theorem yld_zip {H : Hp} {P : Pv} {l1 l2 : Addr} {t1 t2 : Bool} {xs ys : List PyData} {vs ws : List V} (q1 : ∀ H' P', Tr H P H' P' -> Sq X.K H' l1 vs t1) (q2 : ∀ H' P', Tr H P H' P' -> Sq X.K H' l2 ws t2) (r1 : Rls X.K H P xs vs) (r2 : Rls X.K H P ys ws) :
  Yld X.K (Itz X.K l1 l2 t1 t2) (zipT xs ys) H P := by
 intro H' P' tr nf i
 have a1 := Rls.go tr xs vs r1
 have a2 := Rls.go tr ys ws r2
 refine ⟨fun tt e => ?_, fun hl => ⟨vs, ws, q1 H' P' tr, q2 H' P' tr, by rw [<- r1.length, <- r2.length]; exact zbp xs ys i hl⟩⟩
 obtain ⟨x, y, e1, e2, rfl⟩ := zbq xs ys i tt e
 obtain ⟨v, ev, rv⟩ := a1.getT e1
 obtain ⟨w, ew, rw'⟩ := a2.getT e2
 refine ⟨⟨vs, ws, v, w, q1 H' P' tr, q2 H' P' tr, ev, ew⟩, fun z H'' yy => ?_⟩
 obtain ⟨p, v', w', rfl, hp, rfl, hv, hw⟩ := yy
 have z1 := hv vs (q1 H' P' tr)
 have z2 := hw ws (q2 H' P' tr)
 rw [ev] at z1
 rw [ew] at z2
 cases z1
 cases z2
 exact ⟨ZB hp, ZK.mpr ⟨p, _, rfl, .off Zs (nf p hp), Zr.mpr ⟨v, [w], rfl, Rl.go (.same (ZB hp)) x v rv, Zr.mpr ⟨w, [], rfl, Rl.go (.same (ZB hp)) y w rw', ZG.mpr rfl⟩⟩⟩⟩
theorem seq_of {K : PySem.W.Frag} {H : Hp} {P : Pv} {t : PyData} {v : V} {xs : List PyData} (r : Rl K H P t v) (e : t = .list xs \/ t = .tuple xs) : ∃ l vs b, v = .ref l /\ (∀ H' P', Tr H P H' P' -> Sq K H' l vs b) /\ Rls K H P xs vs := by
 rcases e with rfl | rfl
 ·obtain ⟨l, vs, rfl, sl, rs⟩ := ZR.mp r
  exact ⟨l, vs, false, rfl, fun H' P' tr => (sl.go tr).sq, rs⟩
 ·obtain ⟨l, vs, rfl, sl, rs⟩ := ZK.mp r
  exact ⟨l, vs, true, rfl, fun H' P' tr => (sl.go tr).sq, rs⟩
theorem zdQ {p tp : Pos} {k : Nat} (hg : Gl X "zip") (hm : X.mg "zip" = none) (ha : EV X W a da) (hb : EV X W b db) (hs : starEach [a, b] X.env = (false, eval a X.env) :: starEach [b] X.env := by rfl) (hs2 : starEach [b] X.env = (false, eval b X.env) :: starEach [] X.env := by rfl)
  (hpl : (backTo pos (starEach [b] X.env)).any (·.1) = false := by rfl) : IV X W (.Tuple elts k tp) (.Call (.Name "zip" p) [a, b] [] pos) (iZip (iSeq da) (iSeq db)) :=
 Jg (pi_zip hg hm (Z0 ha (Z0 hb Y0 hs2) hs) hs hpl) fun σ H R ⟨G, P, h, q⟩ => by
  unfold iZip iSeq at q
  refine ⟨G, P, h, ?_⟩
  cases ea : da G with
  | stuck => rw [ea] at q; exact q.elim
  | exc c => rw [ea] at q; exact q
  | ok tx =>
   intro x H1 s1 rx
   refine ⟨G, P, h.same s1, ?_⟩
   cases eb : db G with
   | stuck =>
    rw [ea, eb, Res.bind_ok] at q
    cases tx <;> exact q.elim
   | exc c =>
    rw [ea, eb, Res.bind_ok] at q
    cases tx <;> first | exact q.elim | exact fun H' s => q H' (s1.trans s)
   | ok ty =>
    intro y H2 s2 ry
    have q' := q
    rw [ea, eb, Res.bind_ok] at q'
    have fin : ∀ xs ys, (tx = .list xs \/ tx = .tuple xs) -> (ty = .list ys \/ ty = .tuple ys) -> PostI X.K W H P (.ok (zipT xs ys)) R -> ∃ a b t1 t2, [x, y] = [V.ref a, V.ref b] /\ (∃ xs, Sq X.K H2 a xs t1) /\ (∃ ys, Sq X.K H2 b ys t2) /\ R (Itz X.K a b t1 t2) H2 := fun xs ys e1 e2 q' => by
     obtain ⟨l1, v1, b1, rfl, f1, g1⟩ := seq_of (Rl.go (.same s2) tx x rx) e1
     obtain ⟨l2, v2, b2, rfl, f2, g2⟩ := seq_of ry e2
     exact ⟨l1, l2, b1, b2, rfl, ⟨v1, f1 H2 P (.refl _ _)⟩, ⟨v2, f2 H2 P (.refl _ _)⟩, q' _ H2 (s1.trans s2) (yld_zip f1 f2 g1 g2)⟩
    cases tx <;> cases ty <;> first | exact q'.elim | exact fin _ _ (.inl rfl) (.inl rfl) q' | exact fin _ _ (.inl rfl) (.inr rfl) q' | exact fin _ _ (.inr rfl) (.inl rfl) q' | exact fin _ _ (.inr rfl) (.inr rfl) q'
end
end Fx
namespace Fx
open PySem PySem.Spec PyProof.Rows L2
def cf (k : Option NameKind) : Bool := k == some .cell || k == some .free
theorem cf_ok {k : Option NameKind} (h : cf k = true) : k = some .cell \/ k = some .free := by
 unfold cf at h
 rw [Bool.or_eq_true] at h
 rcases h with h | h
 ·exact .inl (by simpa using h)
 ·exact .inr (by simpa using h)
def capChk (scope : Scope) (env : Env) (N0 N : List Str) (nv : Nat) (cap : List Nat) : Bool :=
 (List.range cap.length).all fun i => match (cap[i]? : Option Nat), (N[nv + i]? : Option Str) with
  | some j, some x => N0[j]? == some x && cf ((relabel scope env).names.lookup x) && cf (env.kindOf x)
  | _, _ => true
def zeo (scope : Scope) (env : Env) (N0 N : List Str) (nv : Nat) (cap : List Nat) : Bool :=
 (scope.names.all fun y => y.2 != .cell) && (scope.kind == .function) && (scope.names.all fun y => y.2 != .local || scope.names.lookup y.1 == some .local)
  && (scope.names.all fun y => y.2 != .free || cf (env.kindOf y.1)) && (N.length == nv + cap.length) && capChk scope env N0 N nv cap
theorem Y6 {X : Cx} {scope : Scope} {N : List Str} {nv : Nat} {cap : List Nat} (h : zeo scope X.env X.N N nv cap = true) : CompOk X scope N nv cap := by
 unfold zeo at h
 simp only [Bool.and_eq_true, List.all_eq_true] at h
 obtain ⟨⟨⟨⟨⟨h1, h2⟩, h3⟩, h4⟩, h5⟩, h6⟩ := h
 refine ⟨fun y hy => by simpa using h1 y hy, by simpa using h2, fun y hy e => ?_, fun y hy e => ?_, by simpa using h5, fun i j x hc hx => ?_⟩
 ·have := h3 y hy
  rw [e] at this
  simpa using this
 ·have := h4 y hy
  rw [e] at this
  exact cf_ok (by simpa using this)
 ·unfold capChk at h6
  rw [List.all_eq_true] at h6
  have hi : i < cap.length := (List.getElem?_eq_some_iff.mp hc).1
  have := h6 i (List.mem_range.mpr hi)
  rw [hc, hx] at this
  simp only [Bool.and_eq_true] at this
  exact ⟨by simpa using this.1.1, cf_ok this.1.2, cf_ok this.2⟩
section
variable {X : Cx} {W : Str -> Hp -> Prop} {fl : Bool} {a b c e : Expr} {es : List Expr} {da db : DE} {pos : Pos}
theorem UT {K : PySem.W.Frag} {H1 : Hp} {P : Pv} {p : Addr} {ts : List PyData} {vs : List V} {o : HO} (hp : H1 p = none) (rs : Rls K H1 P ts vs) : Rls K (upd H1 p o) (P.fbd p) ts vs :=
 Rls.go (.same (ZB hp)) ts vs (Rls.go (Tr.tofbd hp) ts vs rs)
theorem Uk {d : DA} (h : AV X W es d) : OV X W (.List es pos) (oLst d) :=
 Zv (pe_lst h) fun σ H Q ⟨G, P, h, q⟩ => by
  unfold oLst at q
  obtain ⟨q1, q2, q3⟩ := zcd q
  refine Wv h q1 q2 fun ts vs H1 es' s1 h1 rs => ?_
  have q4 := q3 ts es'
  split at q4
  ·rename_i hl
   exact ⟨Jq hl rs, fun p hp => q4 p vs _ (s1.trans (ZB hp)) (s1.free hp) Zs (UT hp rs)⟩
  ·exact q4.elim
theorem zdo {p : Pos} (hg : Gl X "list") (hm : X.mg "list" = none) (ha : EV X W a da) (hs : starEach [a] X.env = (false, eval a X.env) :: starEach [] X.env := by rfl) : OV X W (.Call (.Name "list" p) [a] [] pos) (zdu da) :=
 Zv (Wm zay hg hm (show bootBuiltins "list" = some (.type "list") by decide +kernel) (Z0 ha Y0 hs) (he := hs)) fun σ H Q ⟨G, P, h, q⟩ => by
  unfold zdu at q
  obtain ⟨q1, q2, q3⟩ := Q3 q
  refine ZD h q1 q2 fun tx x H1 ex s1 h1 rx => ?_
  have q4 := q3 tx ex
  cases tx <;> try exact q4.elim
  ·obtain ⟨l, vs, rfl, sl, rs⟩ := ZR.mp rx
   exact ⟨l, vs, rfl, .inl sl.sq, fun p hp => q4 p vs _ (s1.trans (ZB hp)) (s1.free hp) Zs (UT hp rs)⟩
  ·obtain ⟨l, vs, rfl, sl, rs⟩ := ZK.mp rx
   exact ⟨l, vs, rfl, .inr sl.sq, fun p hp => q4 p vs _ (s1.trans (ZB hp)) (s1.free hp) Zs (UT hp rs)⟩
theorem zb0 {p : Pos} (hg : Gl X "tuple") (hm : X.mg "tuple" = none) (ha : EV X W a da) (hs : starEach [a] X.env = (false, eval a X.env) :: starEach [] X.env := by rfl) : EV X W (.Call (.Name "tuple" p) [a] [] pos) (d1 zd2 da) :=
 Zv (Wm JD hg hm (show bootBuiltins "tuple" = some (.type "tuple") by decide +kernel) (Z0 ha Y0 hs) (he := hs)) fun σ H Q h => zbt (fun H P σ G x tx Q h rx q => by
  cases tx <;> try exact q.elim
  ·obtain ⟨l, vs, rfl, sl, rs⟩ := ZR.mp rx
   exact ⟨l, vs, rfl, .inl ⟨sl.sq, fun p hp => q _ _ (ZB hp) (ZK.mpr ⟨p, vs, rfl, .off Zs (h.off_new hp), Rls.go (.same (ZB hp)) _ vs rs⟩)⟩⟩
  ·obtain ⟨l, vs, rfl, sl, rs⟩ := ZK.mp rx
   exact ⟨l, vs, rfl, .inr ⟨sl.sq, q _ H (Same.refl H) rx⟩⟩) h
theorem JX {K : PySem.W.Frag} {H : Hp} {P : Pv} : ∀ {bs : List Bool} {vs : List V}, Rls K H P (bs.map .bool) vs -> vs = bs.map V.bl
 | [], vs, h => ZG.mp h
 | b :: bs, vs, h => by
  obtain ⟨v, r, rfl, a, q⟩ := Zr.mp h
  rw [YG.mp a, JX q]
  rfl
theorem call_all (hc : X.calm = true) : Qw X (.builtin "all") (fun xs H Q => ∃ (p : Addr) (bs : List Bool), xs = [.ref p] /\ SqL X.K H p (bs.map V.bl) /\ Q (.bl (bs.all id)) H) := by
 intro pins s σ H xs us Q I r h
 obtain ⟨l, bs, rfl, hq, q⟩ := h
 obtain ⟨u, rfl, ru⟩ := Qx r
 cases ru
 obtain ⟨its, rv, pl, hz⟩ := I.list hq
 have hl : s.heap.IsList l its.toArray := pl.isList
 have hlt : l < s.heap.objs.size := by obtain ⟨_, e, _⟩ := hl; exact Heap.lt_size e
 have hb : ∀ (i : Nat) (v : Value), its[i]? = some v -> ∃ b, bs[i]? = some b /\ v = .bool b := fun i v e => by
  have hi : i < its.length := (List.getElem?_eq_some_iff.mp e).1
  have hl2 := rv.length
  rw [List.length_map] at hl2
  have hi2 : i < bs.length := by omega
  obtain ⟨u, hu, ru⟩ := rv.get (i := i) (x := V.bl bs[i]) (by simp [hi2])
  rw [e] at hu; cases hu
  cases ru
  exact ⟨bs[i], by simp [hi2], rfl⟩
 refine call_all_walk (wpAny_pyIter_list hl ?_)
 refine ⟨s.heap.objs.size, [s.heap.objs.size, l], [s.heap.objs.size], its.toArray.size, _, _, fun i => (bs[i]?).getD true, rfl, Walks.list (A := X.A.in1) (I.ok.hd hc) _ l (Nat.ne_of_lt hlt) its.toArray,
  ⟨⟨_, Heap.get?_push_size _ rfl, rfl, rfl⟩, hl.push _⟩, fun i v s' Q' E' hP hQ => ?_, fun h' tk hk => ?_⟩
 ·obtain ⟨b, e, rfl⟩ := hb i v (by simpa using hP)
  simp only [e, Option.getD_some] at hQ
  exact wpAny_truthy_bool hQ
 ·have e : ((List.range its.toArray.size).all fun i => (bs[i]?).getD true) = bs.all id := by
   have hl2 := rv.length
   rw [List.length_map] at hl2
   rw [List.size_toArray, <- hl2, Bool.eq_iff_iff, List.all_eq_true, List.all_eq_true]
   constructor
   ·intro h b hb
    obtain ⟨i, hi, e⟩ := List.getElem_of_mem hb
    have := h i (List.mem_range.mpr hi)
    simp only [List.getElem?_eq_getElem hi, Option.getD_some, e] at this
    exact this
   ·intro h i hi
    have hi' := List.mem_range.mp hi
    simp only [List.getElem?_eq_getElem hi', Option.getD_some]
    exact h _ (List.getElem_mem hi')
  rw [e]
  have kk : ∀ b x, s.heap.get? b = some x -> h'.get? b = some x := fun b x e => hk b x (fun hm => by rw [List.mem_singleton.mp hm] at e; exact Nat.lt_irrefl _ (Heap.lt_size e)) (Heap.get?_push_of_some _ e)
  exact ⟨.bl _, H, I.kept (t' := tk) kk, rfl, q⟩
theorem ev_all {p : Pos} (hg : Gl X "all") (hm : X.mg "all" = none) (ha : EV X W a da) (hc : X.calm = true := by rfl) (hs : starEach [a] X.env = (false, eval a X.env) :: starEach [] X.env := by rfl) : EV X W (.Call (.Name "all" p) [a] [] pos) (d1 fAll da) :=
 Zv (Ve (call_all hc) hg hm (show bootBuiltins "all" = some (.builtin "all") by decide +kernel) (Z0 ha Y0 hs) (he := hs)) fun σ H Q h => zbt (fun H P σ G x tx Q h rx q => by
  cases tx <;> try exact q.elim
  rename_i xs
  obtain ⟨l, vs, rfl, sl, rs⟩ := ZR.mp rx
  simp only [fAll] at q
  cases e : allT xs with
  | stuck => rw [e] at q; exact q.elim
  | exc c => exact absurd e (zcg xs c)
  | ok k =>
   rw [e, Res.bind_ok] at q
   obtain ⟨bs, rfl, rfl⟩ := zeD e
   have := JX rs
   subst this
   exact ⟨l, bs, rfl, sl.sq, ZH q⟩) h
theorem Jr {G : List Sl} {i : Nat} (h : QH G i = true) : ∃ xs, G[i]? = some (.own xs) := by
 unfold QH at h
 split at h
 ·rename_i xs e; exact ⟨xs, e⟩
 ·cases h
theorem JM {i : Nat} {x : Str} {is : List Nat} {p1 p2 p3 : Pos} (hi : X.N[i]? = some x) (he : EV X W e da) (hv : Vis X.env.scope x := by first | exact Or.inl rfl | exact Or.inr (Or.inl rfl) | exact Or.inr (Or.inr rfl)) (hd : (x == ("__debug__" : Str)) = false := by decide)
  (hcd : (x == ("__classdict__" : Str)) = false := by decide) (hsw : swapsWith (.Call (.Attribute (.Name x p1) "append" p2) [e] [] p3) none pos.line X.env = pure false := by rfl)
  (hbase : attributeBase (.Name x p1) "append" X.env (eval (.Name x p1) X.env) = eval (.Name x p1) X.env := by rfl)
  (hfew : ((backTo p3 (starEach [e] X.env)).all (fun x => !x.1) && (backToKw p3 (keywordEach [] X.env)).all (fun x => x.1.isSome)
   && decide (([e] : List Expr).length + ([] : List Keyword).length + (if ([] : List Keyword).isEmpty then 0 else 1) < 30)) = true := by rfl)
  (hline : (p2.endLine == p3.line) = true := by rfl) (hs : starEach [e] X.env = (false, eval e X.env) :: starEach [] X.env := by rfl) :
  SV X W fl (.Expr (.Call (.Attribute (.Name x p1) "append" p2) [e] [] p3) pos) (dApp i is da) :=
 XQ (zdi (pe_bm PySem.F.plainAttrs_list PySem.F.slot_list_append PySem.F.type_list_append zae (Uj hi hv hd hcd) (Z0 he Y0 hs) hbase hfew hline hs rfl) hsw) fun D σ H ⟨G, P, h, q⟩ => by
  unfold dApp at q
  obtain ⟨P1, h1, g⟩ := h.frz is
  split at q
  ·rename_i ho
   obtain ⟨xs0, e0⟩ := Jr ho
   obtain ⟨q1, q2, q3⟩ := zaB q
   obtain ⟨p, vs, ev, ep, eh, rs⟩ := h.sl i _ e0
   refine ⟨.ref p, getD_some ev, .inl ⟨rfl, vs, SqL.of eh⟩, ?_⟩
   refine ZD h1 (fun c e H' s => q1 c e H' P1 (g.trans (.same s))) q2 fun t v H1 et s1 h2 r => ?_
   obtain ⟨P2, h3, r3, g3⟩ := after h h1 g s1 r
   have q4 := q3 t et
   unfold zaH at q4
   split at q4
   ·rename_i xs1 e1
    split at q4
    ·rename_i hz
     obtain ⟨p', vs', ev', ep', eh', rs'⟩ := h3.sl i _ e1
     rw [ev] at ev'
     cases ev'
     have hl := rs'.length
     obtain ⟨h4, g4⟩ := h3.upOwn e1 ep' (rs'.append (Zr.mpr ⟨v, [], rfl, r3, ZG.mpr rfl⟩))
     exact ⟨p, vs', v, rfl, rfl, eh', by rw [sizeLine_eq]; omega, q4 σ _ P2 (g3.trans g4) h4⟩
    ·exact q4.elim
   ·exact q4.elim
  ·exact q.elim
theorem VC {i : Nat} {x : Str} {is : List Nat} {dk : DE} {k : Expr} {p1 p2 : Pos} (hi : X.N[i]? = some x) (hk : EV X W k dk) (he : EV X W e da) (hv : Vis X.env.scope x := by first | exact Or.inl rfl | exact Or.inr (Or.inl rfl) | exact Or.inr (Or.inr rfl)) (hd : (x == ("__debug__" : Str)) = false := by decide)
  (hcd : (x == ("__classdict__" : Str)) = false := by decide)
  (ha : ∀ v, assign (.Subscript (.Name x p1) k p2) X.env v = (do
   let ov <- holding [v] (eval (.Name x p1) X.env)
   let iv <- holding [v, ov] (eval k X.env)
   standAt p2
   holding [v, ov, iv] (setItem ov iv v)
   release [v, ov, iv] []) := by intro _; rfl)
  (hs : swapsWithSole [.Subscript (.Name x p1) k p2] e pos.line X.env = pure false := by rfl) (hw : swappedStores [.Subscript (.Name x p1) k p2] e X.env = pure none := by rfl)
  (h1 : (assignEach [.Subscript (.Name x p1) k p2] X.env).map (·.2) = [assign (.Subscript (.Name x p1) k p2) X.env] := by rfl) :
  SV X W fl (.Assign [.Subscript (.Name x p1) k p2] e pos) (WJ i is dk da) :=
 XQ (ps_asg he (pg_sub (Uj hi hv hd hcd) hk set_list ha) hs hw h1) fun D σ H ⟨G, P, h, q⟩ => by
  unfold WJ at q
  obtain ⟨P1, h1, g⟩ := h.frz is
  obtain ⟨q1, q2, q3⟩ := zaB q
  refine ZD h1 (fun c e H' s => q1 c e H' P1 (g.trans (.same s))) q2 fun t v H1 et s1 h2 r => ?_
  obtain ⟨P2, h3, r3, g3⟩ := after h h1 g s1 r
  have q4 := q3 t et
  generalize (if Y7 t = true then G else frz is G) = G' at h3 q4
  split at q4
  ·rename_i ho
   obtain ⟨xs0, e0⟩ := Jr ho
   obtain ⟨p, vs, ev, ep, eh, rs⟩ := h3.sl i _ e0
   refine ⟨.ref p, getD_some ev, ?_⟩
   obtain ⟨q5, q6, q7⟩ := zaB q4
   refine ZD h2 (fun c e H' s => q5 c e H' P1 ((g.trans (.same s1)).trans (.same s))) q6 fun kt kv H2 ek s2 h4 rk => ?_
   have q8 := q7 kt ek
   unfold JP at q8
   rw [e0] at q8
   cases kt <;> try exact q8.elim
   rename_i j
   simp only at q8
   cases em : ixP xs0.length j with
   | none => rw [em] at q8; exact q8.elim
   | some m =>
    rw [em] at q8
    have h5 := h3.same s2
    have hl := rs.length
    obtain ⟨p', vs', ev', ep', eh', rs'⟩ := h5.sl i _ e0
    rw [ev] at ev'
    cases ev'
    have hl' := rs'.length
    obtain ⟨h6, g6⟩ := h5.upOwn e0 ep' (rs'.set m (Rl.go (.same s2) t v r3))
    refine ⟨p, vs', j, m, rfl, Zx.mp rk, eh', by rw [<- hl', <- ixP_eq]; exact em, q8 σ _ P2 ((g3.trans (.same s2)).trans g6) h6⟩
  ·exact q4.elim
end
end Fx
namespace Fx
open PySem PySem.Spec PyProof.Rows L2
section
variable {X : Cx} {W : Str -> Hp -> Prop} {a b c e : Expr} {es : List Expr} {da db : DE} {pos : Pos}
theorem zd6 {i : Nat} {x : Str} {p1 : Pos} (hi : X.N[i]? = some x) (hb : EV X W b db) (hs : zbo b) (hv : Vis X.env.scope x := by first | exact Or.inl rfl | exact Or.inr (Or.inl rfl) | exact Or.inr (Or.inr rfl)) (hd : (x == ("__debug__" : Str)) = false := by decide)
  (hcd : (x == ("__classdict__" : Str)) = false := by decide) : EV X W (.Subscript (.Name x p1) b pos) (dIxN i db) :=
 Zv (pe_ix (zdM.or ix_tup) (Uj hi hv hd hcd) hb hs) fun σ H Q ⟨G, P, h, q⟩ => by
  unfold dIxN at q
  cases e : G[i]? with
  | none => rw [e] at q; exact q.elim
  | some s =>
   rw [e] at q
   cases s with
   | emp => exact q.elim
   | dct xs => exact q.elim
   | own xs =>
    obtain ⟨p, vs, ev, ep, eh, rs⟩ := h.sl i _ e
    refine ⟨.ref p, getD_some ev, ?_⟩
    obtain ⟨q1, q2, q3⟩ := Vy q
    refine ZD h q1 q2 fun ty y H1 ey s1 h1 ry => ?_
    have q4 := YA.up (q3 ty ey) s1
    cases ty <;> try exact q4.elim
    rename_i j
    simp only [fIx] at q4
    cases et : atP xs j with
    | none => rw [et] at q4; exact q4.elim
    | some t =>
     rw [et] at q4
     obtain ⟨v, e1, r⟩ := zaG (Rls.go (.same s1) xs vs rs) et
     exact .inl ⟨p, vs, j, v, rfl, Zx.mp ry, SqL.of (s1.kp _ _ eh Ul), e1, q4 v H1 (Same.refl H1) r⟩
   | val t =>
    obtain ⟨v, ev, rx⟩ := h.sl i _ e
    refine ⟨v, getD_some ev, ?_⟩
    obtain ⟨q1, q2, q3⟩ := Vy q
    refine ZD h q1 q2 fun ty y H1 ey s1 h1 ry => ?_
    have q4 := YA.up (q3 ty ey) s1
    have rx1 := Rl.go (.same s1) t v rx
    cases t <;> cases ty <;> try exact q4.elim
    ·rename_i xs j
     obtain ⟨l, us, rfl, s2, r2⟩ := ZR.mp rx1
     simp only [fIx] at q4
     cases et : atP xs j with
     | none => rw [et] at q4; exact q4.elim
     | some t =>
      rw [et] at q4
      obtain ⟨w, e1, r⟩ := zaG r2 et
      exact .inl ⟨l, us, j, w, rfl, Zx.mp ry, s2.sq, e1, q4 w H1 (Same.refl H1) r⟩
    ·rename_i xs j
     obtain ⟨l, us, rfl, s2, r2⟩ := ZK.mp rx1
     simp only [fIx] at q4
     cases et : atP xs j with
     | none => rw [et] at q4; exact q4.elim
     | some t =>
      rw [et] at q4
      obtain ⟨w, e1, r⟩ := zaG r2 et
      exact .inr ⟨l, us, j, w, rfl, Zx.mp ry, s2.sq, e1, q4 w H1 (Same.refl H1) r⟩
theorem ev_lenN {i : Nat} {x : Str} {p p1 : Pos} (hg : Gl X "len") (hm : X.mg "len" = none) (hi : X.N[i]? = some x) (hv : Vis X.env.scope x := by first | exact Or.inl rfl | exact Or.inr (Or.inl rfl) | exact Or.inr (Or.inr rfl)) (hd : (x == ("__debug__" : Str)) = false := by decide)
  (hcd : (x == ("__classdict__" : Str)) = false := by decide) (hs : starEach [.Name x p1] X.env = (false, eval (.Name x p1) X.env) :: starEach [] X.env := by rfl) : EV X W (.Call (.Name "len" p) [.Name x p1] [] pos) (dLenN i) :=
 Zv (Ve UF hg hm PySem.boot_len (Z0 (Uj hi hv hd hcd) Y0 hs) (he := hs)) fun σ H Q ⟨G, P, h, q⟩ => by
  unfold dLenN at q
  cases e : G[i]? with
  | none => rw [e] at q; exact q.elim
  | some s =>
   rw [e] at q
   cases s with
   | emp => exact q.elim
   | dct xs => exact q.elim
   | own xs =>
    obtain ⟨p, vs, ev, ep, eh, rs⟩ := h.sl i _ e
    refine ⟨.ref p, getD_some ev, p, vs, rfl, .inl (SqL.of eh), ?_⟩
    rw [<- rs.length]; exact Yk q
   | val t =>
    obtain ⟨v, ev, rx⟩ := h.sl i _ e
    refine ⟨v, getD_some ev, ?_⟩
    cases t <;> try exact q.elim
    ·obtain ⟨l, us, rfl, s1, r1⟩ := ZR.mp rx
     refine ⟨l, us, rfl, .inl s1.sq, ?_⟩
     rw [<- r1.length]; exact Yk q
    ·obtain ⟨l, us, rfl, s1, r1⟩ := ZK.mp rx
     refine ⟨l, us, rfl, .inr s1.sq, ?_⟩
     rw [<- r1.length]; exact Yk q
theorem zc7 (n d : Nat) (o : Option Int) : sIxT n d o = HT.sIx n d o := by cases o <;> rfl
theorem cut_rls {K : PySem.W.Frag} {H : Hp} {P : Pv} {xs : List PyData} {vs : List V} (lo hi : Option Int) (r : Rls K H P xs vs) : Rls K H P (cutT xs lo hi) (cutV vs lo hi) := by
 unfold cutT cutV
 rw [zc7, zc7, r.length]
 exact (r.drop _).take _
def PV (X : Cx) (W : Str -> Hp -> Prop) (e : Option Expr) (d : DP) : Prop := PO X e fun σ H Q => ∃ G P, Hol X.K H P σ G /\ match d G with
 | .ok o => ∀ H', Same H H' -> Q o H'
 | .exc c => ∀ H', Same H H' -> W c H'
 | .stuck => False
theorem pv_no : PV X W none pNo := fun pins s σ H Q I ⟨G, P, h, q⟩ => po_none pins s σ H Q I (q H (Same.refl H))
theorem pv_at (he : EV X W e da) : PV X W (some e) (pAt da) := fun pins s σ H Q I ⟨G, P, h, q⟩ => po_some he pins s σ H Q I (by
 unfold pAt at q
 refine ⟨G, P, h, ?_⟩
 cases ed : da G with
 | stuck => rw [ed] at q; exact q.elim
 | exc c => rw [ed] at q; exact q
 | ok t =>
  rw [ed, Res.bind_ok] at q
  cases t <;> try exact q.elim
  exact fun v H' s r => ⟨_, Zx.mp r, q H' s⟩)
theorem zbI {lo hi : Option Expr} {dl dh : DP} {p2 : Pos} (ha : EV X W a da) (hl : PV X W lo dl) (hh : PV X W hi dh) : OV X W (.Subscript a (.Slice lo hi none p2) pos) (oCut da dl dh) :=
 Zv (pe_slice sl_list ha hl hh) fun σ H Q ⟨G, P, h, q⟩ => by
  unfold oCut at q
  obtain ⟨q1, q2, q3⟩ := Q3 q
  refine ZD h q1 q2 fun tx x H1 ex s1 h1 rx => ⟨G, P, h1, ?_⟩
  have q4 := q3 tx ex
  cases el : dl G with
  | stuck => rw [el] at q4; exact q4.elim
  | exc c => rw [el] at q4; exact fun H' s => q4 H' (s1.trans s)
  | ok l =>
   rw [el, Res.bind_ok] at q4
   refine fun H2 s2 => ⟨G, P, h1.same s2, ?_⟩
   cases eh : dh G with
   | stuck => rw [eh] at q4; exact q4.elim
   | exc c => rw [eh] at q4; exact fun H' s => q4 H' ((s1.trans s2).trans s)
   | ok u =>
    rw [eh, Res.bind_ok] at q4
    intro H3 s3
    cases tx <;> try exact q4.elim
    obtain ⟨p, vs, rfl, sl, rs⟩ := ZR.mp (Rl.go (.same (s2.trans s3)) _ x rx)
    exact ⟨p, vs, rfl, sl.sq, fun p hp => q4 p _ _ (((s1.trans s2).trans s3).trans (ZB hp)) (((s1.trans s2).trans s3).free hp) Zs (UT hp (cut_rls l u rs))⟩
end
end Fx
namespace Fx
open PySem
@[simp] def dRetO (i : Nat) : DS := fun G => match G[i]? with
 | some (.own xs) => .ok (.rt (.list xs))
 | _ => .stuck
@[simp] def asL : PyData -> Res (List PyData)
 | .list xs => .ok xs
 | _ => .stuck
@[simp] def za4 (f : DF) (a : DA) : DA := fun G => (a G).bind fun ts => (f ts).bind asL
def dUnp (st : PyData -> List Sl -> Res (List Sl)) (is : List Nat) (e : DE) : DS := fun G => (e (frz is G)).bind fun t => (st t (if Y7 t then G else frz is G)).bind fun G' => .ok (.nx G')
@[simp] theorem dUnp_cons (st : PyData -> List Sl -> Res (List Sl)) (i : Nat) (is : List Nat) (e : DE) (G : List Sl) : dUnp st (i :: is) e G = (e (frz (i :: is) G)).bind fun t => (st t (if Y7 t then G else frz (i :: is) G)).bind fun G' => .ok (.nx G') := rfl
@[simp] def set2 (i j : Nat) (G : List Sl) : List PyData -> Res Out
 | [x, y] => .ok (.nx ((G.set i (.val x)).set j (.val y)))
 | _ => .stuck
def dPar (i j : Nat) (is : List Nat) (d : DA) : DS := fun G => (d (frz is G)).bind fun ts => set2 i j (if Ww ts then G else frz is G) ts
@[simp] theorem dPar_cons (i j k : Nat) (is : List Nat) (d : DA) (G : List Sl) : dPar i j (k :: is) d G = (d (frz (k :: is) G)).bind fun ts => set2 i j (if Ww ts then G else frz (k :: is) G) ts := rfl
@[simp] def fMin : PyData -> PyData -> Res PyData
 | .int i, .int j => .ok (.int (if j < i then j else i))
 | _, _ => .stuck
end Fx
namespace Fx
open PySem
def lkp (f : Str) : List (PyData × PyData) -> Option PyData
 | [] => none
 | (.str n, t) :: r => if n = f then some t else lkp f r
 | _ => none
def fFld (f : Str) : PyData -> Res PyData
 | .dict kvs => ofO (lkp f kvs)
 | _ => .stuck
def zipK : List Str -> List PyData -> List (PyData × PyData)
 | n :: ns, t :: ts => (.str n, t) :: zipK ns ts
 | _, _ => []
@[simp] def dMk (ns : List Str) (d : DA) : DE := fun G => (d G).bind fun xs => if xs.length = ns.length /\ ns ≠ [] then .ok (.dict (zipK ns xs)) else .stuck
@[simp] def oRep (a : DA) (b : DE) : DA := fun G => (a G).bind fun xs => (b G).bind fun y => match y with
 | .int k => if X3 k = true /\ xs.length * k.toNat <= 16777216 then .ok (List.replicate k.toNat xs).flatten else .stuck
 | _ => .stuck
@[simp] def zcu (a : DA) : DA := fun G => (a G).bind fun xs => if xs.length <= 16777216 then .ok xs else .stuck
end Fx
namespace Fx
open PySem PySem.Spec PyProof.Rows L2
def PostN (K : PySem.W.Frag) (H : Hp) (P : Pv) (t : PyData) (Q : VK) : Prop := match t with
 | .list xs => ∀ p us H', Same H H' -> H p = none -> H' p = some (.lst us) -> Rls K H' (P.fbd p) xs us -> Q (.ref p) H'
 | t => ∀ v H', Same H H' -> Rl K H' P t v -> Q v H'
def spN (K : PySem.W.Frag) (cl : Option (Str -> Value)) (np : Nat) (f : DF) : Sp := fun vs H Q E => vs.length = np /\ ∃ ts P, Rls K H P ts vs /\ (∀ i, P.own i = none) /\ ((∀ a, P.fb a -> ∃ o, H a = some o /\ LD o) /\ Vg K H) /\
 match f ts with
 | .ok t => PostN K H P t Q
 | .exc c => spX E H c cl
 | .stuck => False
theorem fn_new {P : Program} {w : World} {K : PySem.W.Frag} {mg : Str -> Option Value} {base : Heap} {x qual : Str} {st : Stmt} {f : Addr} {fd : FuncData} {N ps : List Str} {k np : Nat} {d : DS} (F : Fun K x qual st f fd) (S : FnScope N ps (Zc st)) (hnp : ps.length = np)
  (hb : ∀ (cdv : Value) (A : Around) (outer : List Env) (s : Shared) (H : Hp) (E : XK), Room k (A.deeper (envOfC qual (Zc st) s.heap.objs.size f cdv)) ->
   SVs (cxOf CX0 P w K mg base N qual (Zc st) f cdv A outer s H E).nox (fun _ _ => False) true (Zl st) d) : FnOk P w K mg base CX0 (k + 1) f fd ps (spN K none np (runQ N.length np d)) := by
 refine F.ok S (fun vs H Q E h => by rw [hnp]; exact h.1) fun cdv A outer s H vs Q E hr h => ⟨_, hb cdv A outer s H E hr, ?_⟩
 obtain ⟨hl, ts, P', rs, ho, hf, q⟩ := h
 have hlt : ts.length = np := by rw [rs.length]; exact hl
 refine ⟨_, P', zak rs ho hf, ?_⟩
 unfold runQ runF at q
 rw [if_pos hlt] at q
 have en : N.length - np = N.length - ts.length := by rw [hlt]
 rw [en] at q
 have sm : ∀ H' P2, Go H P' H' P2 -> Same H H' := fun H' P2 g => g.all ho
 cases e : d (ts.map .val ++ List.replicate (N.length - ts.length) .emp) with
 | stuck => rw [e] at q; exact q.elim
 | exc c => rw [e] at q; exact q.elim
 | ok o =>
  rw [e, Res.bind_ok] at q
  cases o with
  | nx G => exact fun σ' H' P2 g h' => q .non H' (sm H' P2 g) (Wd.mpr rfl)
  | rt t =>
   intro v H' P2 g r n
   obtain ⟨p, us, xs, rfl, rfl, e3, rr, fr⟩ := n rfl
   refine q p us H' (sm H' P2 g) ?_ e3 (Rls.go (P := P2.fbd p) (P' := P'.fbd p) (fun b o e _ z => ⟨e, fun i w => (by have w' : P'.own i = some b := w; rw [ho i] at w'; cases w'), fun w => z.2 (Or.elim w (fun w => Or.inl (by rw [g.fbe]; exact w)) Or.inr)⟩) xs us rr)
   cases eh : H p with
   | none => rfl
   | some o =>
    by_cases nt : Nt o
    ·obtain ⟨i, w⟩ := fr o eh nt; rw [ho i] at w; cases w
    ·obtain ⟨ps', rfl⟩ := not_nt nt
     obtain ⟨qs, w⟩ := g.tbk _ _ eh
     rw [e3] at w; cases w
  | bk G => exact q.elim
  | ct G => exact q.elim
structure Cln (P : Program) (w : World) (K : PySem.W.Frag) (mg : Str -> Option Value) (base : Heap) (k : Nat) (x : Str) (np : Nat) (f : DF) : Prop where
 ex : ∃ (fa : Addr) (fd : FuncData) (ps : List Str), FnOk P w K mg base CX0 k fa fd ps (spN K none np f) /\ mg x = some (.ref fa) /\ PySem.W.keepIn K (.ref fa) = true /\ ZP K fd ps []
 nox : ∀ ts c, f ts ≠ .exc c
structure Caln (X : Cx) (W : Str -> Hp -> Prop) (cl : Option (Str -> Value)) (k : Nat) (x : Str) (np : Nat) (f : DF) : Prop where
 ex : ∃ (CX : CXT) (fa : Addr) (fd : FuncData) (ps : List Str), FnOk X.prog X.w X.K X.mg X.base CX k fa fd ps (spN X.K cl np f) /\ X.mg x = some (.ref fa) /\ PySem.W.keepIn X.K (.ref fa) = true /\ ZP X.K fd ps [] /\ Qv CX X (EX cl W)
 nox : cl = none -> ∀ ts c, f ts ≠ .exc c
section
variable {P : Program} {w : World} {K : PySem.W.Frag} {mg : Str -> Option Value} {base : Heap}
theorem Cln.mono {j k np : Nat} {x : Str} {f : DF} (C : Cln P w K mg base j x np f) (h : j <= k) : Cln P w K mg base k x np f := by
 obtain ⟨fa, fd, ps, F, r⟩ := C.ex
 exact ⟨⟨fa, fd, ps, F.mono h, r⟩, C.nox⟩
theorem Cln.cal {X : Cx} {W : Str -> Hp -> Prop} {k np : Nat} {x : Str} {f : DF} (C : Cln X.prog X.w X.K X.mg X.base k x np f) : Caln X W none k x np f := by
 obtain ⟨fa, fd, ps, F, hm, hk, hb⟩ := C.ex
 exact ⟨⟨CX0, fa, fd, ps, F, hm, hk, hb, fun _ _ _ _ _ _ _ h => h.elim⟩, fun _ => C.nox⟩
theorem cln_of {x : Str} {st : Stmt} {fa : Addr} {fd : FuncData} {N ps : List Str} {k n np : Nat} {d : DS} (F : Fun K x x st fa fd) (hm : mg x = some (.ref fa)) (b : ZP K fd ps []) (S : FnScope N ps (Zc st)) (hnp : ps.length = np) (hN : N.length = n)
  (hb : ∀ (cdv : Value) (A : Around) (outer : List Env) (s : Shared) (H : Hp) (E : XK), Room k (A.deeper (envOfC x (Zc st) s.heap.objs.size fa cdv)) ->
   SVs (cxOf CX0 P w K mg base N x (Zc st) fa cdv A outer s H E).nox (fun _ _ => False) true (Zl st) d) : Cln P w K mg base (k + 1) x np (runQ n np d) := by
 subst hN
 exact ⟨⟨fa, fd, ps, fn_new F S hnp hb, hm, F.kp, b⟩, fun ts c => zbz _ _ _ ts c⟩
end
section
variable {X : Cx} {W : Str -> Hp -> Prop} {fl : Bool} {a b c e : Expr} {es : List Expr} {da db : DE} {pos : Pos}
theorem zdp {cl : Option (Str -> Value)} {k np : Nat} {x : Str} {f : DF} {d : DA} {p : Pos} (C : Caln X W cl k x np f) (hr : Room k X.A) (hg : Gl X x) (ha : AV X W (e :: es) d) (hL : ∀ G ts, d G = .ok ts -> ts.length = np := by first | exact zdJ | exact zdI | exact zdH | exact len_c4) (hdb : (x == ("__debug__" : Str)) = false := by decide)
  (he : starEach (e :: es) X.env = (false, eval e X.env) :: starEach es X.env := by rfl) (hpl : (backTo pos (starEach es X.env)).any (·.1) = false := by rfl) : OV X W (.Call (.Name x p) (e :: es) [] pos) (za4 f d) := by
 obtain ⟨CX, fa, fd, ps, F, hm, hk, hb, hx⟩ := C.ex
 refine Zv (zdm (x := x) (p := p) F hr hg hm hk hb .nil hx ha (hdb := hdb) (he := he) (hpl := hpl)) fun σ H Q ⟨G, P, h, q⟩ => ?_
 unfold za4 at q
 obtain ⟨q1, q2, q3⟩ := zcd q
 refine Wv h q1 q2 fun ts vs H1 es' s1 h1 rs => ?_
 have q4 := q3 ts es'
 have el : (vs ++ []) = vs := List.append_nil vs
 rw [el]
 have gg : Tr H1 P H1 ⟨fun _ => none, fun a => ¬ Off P a⟩ := fun a o e1 _ o1 => ⟨e1, fun _ z => (by cases z), fun z => z o1⟩
 refine ⟨by rw [<- rs.length]; exact hL G ts es', ts, ⟨fun _ => none, fun a => ¬ Off P a⟩, Rls.go gg ts vs rs, fun _ => rfl, ⟨fun a z => h1.ld z, h1.tab⟩, ?_⟩
 ·cases e : f ts with
  | ok t =>
   rw [e, Res.bind_ok] at q4
   cases t <;> try exact q4.elim
   rename_i xs
   intro p us H' s hp hl r
   refine q4 p us H' (s1.trans s) (s1.free hp) hl (Rls.go (fun b o eb _ z => ⟨eb, ?_⟩) xs us r)
   have o1 : Off P b := Classical.byContradiction fun w => z.2 (.inl w)
   exact ⟨o1.1, fun w => w.elim o1.2 fun w => z.2 (.inr w)⟩
  | exc c =>
   rw [e] at q4
   cases ec : cl with
   | none => exact absurd e (C.nox ec ts c)
   | some g => exact fun dx H' s => ⟨c, g, rfl, rfl, q4 H' (s1.trans s)⟩
  | stuck => rw [e] at q4; exact q4
theorem zcZ (i : Nat) {x : Str} {p : Pos} (hN : X.N[i]? = some x := by rfl) (hv : Vis X.env.scope x := by first | exact Or.inl rfl | exact Or.inr (Or.inl rfl) | exact Or.inr (Or.inr rfl)) (hd : (x == ("__debug__" : Str)) = false := by decide)
  (hcd : (x == ("__classdict__" : Str)) = false := by decide) : SV X W fl (.Return (some (.Name x p)) pos) (dRetO i) :=
 XQ (ps_ret (Uj hN hv hd hcd)) fun D σ H ⟨G, P, h, q⟩ => by
  unfold dRetO at q
  obtain ⟨h', g⟩ := h.frzA
  cases e : G[i]? with
  | none => rw [e] at q; exact q.elim
  | some s =>
   rw [e] at q
   cases s with
   | emp => exact q.elim
   | val t => exact q.elim
   | dct xs => exact q.elim
   | own xs =>
    obtain ⟨p', vs, e1, e2, e3, r⟩ := h.sl i _ e
    have z : (frzA G)[i]? = some (.val (.list xs)) := by rw [WA, e]; rfl
    obtain ⟨v, e4, r2⟩ := h'.sl i _ z
    rw [e1] at e4
    cases e4
    exact ⟨.ref p', getD_some e1, q _ H P.bare g r2 fun _ => ⟨p', vs, xs, rfl, rfl, e3, Rls.go (P := P) (P' := P.bare.fbd p') (fun a o ea _ o1 => ⟨ea, fun j w => (by cases w), fun w => Or.elim w o1.2 fun w => o1.1 i (by rw [e2, w])⟩) xs vs r, fun o _ _ => ⟨i, e2⟩⟩⟩
end
end Fx
namespace Fx
open PySem PySem.Spec PyProof.Rows L2
section
variable {X : Cx} {W : Str -> Hp -> Prop} {fl : Bool} {tg a b c e : Expr} {es : List Expr} {da db dc : DE} {pos : Pos}
theorem tCB2_of {r : List V -> Hp -> VK -> Prop} {f : PyData -> PyData -> Res PyData} (hf : ∀ (H : Hp) (P : Pv) (σ : L2.St) (G : List Sl) (x y : V) (tx ty : PyData) (Q : VK), Hol X.K H P σ G -> Rl X.K H P tx x -> Rl X.K H P ty y -> YA X.K W H P (f tx ty) Q -> r [x, y] H Q) {σ : L2.St} {H : Hp} {Q : VK} (h : tF X.K W (d2 f da db) σ H Q) :
  tCB r (zcW (tF X.K W da) (zcW (tF X.K W db) tNil)) σ H Q := by
 obtain ⟨G, P, h, q⟩ := h
 unfold d2 at q
 obtain ⟨q1, q2, q3⟩ := Vy q
 refine ZD h q1 q2 fun tx x H1 ex s1 h1 rx => ?_
 obtain ⟨q4, q5, q6⟩ := Vy (q3 tx ex)
 refine ZD h1 (fun c e H' s => q4 c e H' (s1.trans s)) q5 fun ty y H2 ey s2 h2 ry => ?_
 exact hf H2 P σ G x y tx ty Q h2 (Rl.go (.same s2) tx x rx) ry ((q6 ty ey).up (s1.trans s2))
theorem ev_min {p : Pos} (hg : Gl X "min") (hm : X.mg "min" = none) (ha : EV X W a da) (hb : EV X W b db) (hc : X.calm = true := by rfl) (hs : starEach [a, b] X.env = (false, eval a X.env) :: starEach [b] X.env := by rfl) (hs2 : starEach [b] X.env = (false, eval b X.env) :: starEach [] X.env := by rfl)
  (hpl : (backTo pos (starEach [b] X.env)).any (·.1) = false := by rfl) : EV X W (.Call (.Name "min" p) [a, b] [] pos) (d2 fMin da db) :=
 Zv (Ve (zeu hc) hg hm (show bootBuiltins "min" = some (.builtin "min") by decide +kernel) (Z0 ha (Z0 hb Y0 hs2) hs) (he := hs) (hpl := hpl)) fun σ H Q h => tCB2_of (fun H P σ G x y tx ty Q h rx ry q => by
  cases tx <;> cases ty <;> try exact q.elim
  exact ⟨_, _, by rw [Zx.mp rx, Zx.mp ry], Yk q⟩) h
end
end Fx
namespace Lw
open PySem Fx
def WH : DS :=
  (dRet (dC (.bool true)))
def WI : DS :=
  dSeq (dFor (Zi 2) [] (iSeq (dVar 0))
  (dIf (tNot (tV (Zn ZW (Zd (dVar 2) dNil))))
  (dRet (dC (.bool false)))
  ZO))
  WH
def Vm : DS :=
  dSeq (dIf (tOr (tNot (tV (d1 (fIs isList) (dVar 0)))) (tV (d2 fNe (d1 fLen (dVar 0)) (dVar 1))))
  (dRet (dC (.bool false)))
  ZO)
  WI
def Z6 : DF := runQ 3 2 Vm
def WB : DS :=
  (dRet (dC (.bool true)))
def Qj : DS :=
  dSeq (dFor (Zi 2) [] (iSeq (dVar 0))
  (dIf (tV (Zn Yo (Zd (dTup (Zd (d2 fIx (dVar 2) (dC (.int 1))) (Zd (dC (.int 1)) dNil))) (Zd (Zn Xi (Zd (d2 fIx (dVar 2) (dC (.int 0))) (Zd (dVar 1) dNil))) dNil))))
  (dRet (dC (.bool false)))
  ZO))
  WB
def YH : DF := runQ 3 2 Qj
end Lw
namespace Lw
open PySem Fx
theorem za8 {ps : List Rat} {k : Nat} (h : ps.length = k) : Z6 [.list (ps.map fr), .int k] = .ok (.bool true) := by
 obtain ⟨G', e, hG⟩ := Jt (st := Zi 2) (b := (dIf (tNot (tV (Zn ZW (Zd (dVar 2) dNil)))) (dRet (dC (.bool false))) ZO))
  (fun _ G => ∃ s, G = [.val (.list (ps.map fr)), .val (.int k), s]) (ps.map fr) 0 [.val (.list (ps.map fr)), .val (.int k), .emp] ⟨.emp, rfl⟩ fun i x G hx ⟨s, hG⟩ => by
   subst hG
   rw [List.getElem?_map] at hx
   cases hz : ps[i]? with
   | none => rw [hz] at hx; cases hx
   | some q =>
    rw [hz] at hx
    cases hx
    exact ⟨_, rfl, [.val (.list (ps.map fr)), .val (.int k), .val (fr q)], .inl (by simp [isfr_ok]), ⟨_, rfl⟩⟩
 obtain ⟨s, rfl⟩ := hG
 simp [Z6, runQ, runF, Vm, WI, WH, fNe, h, e]
def colN (j : Nat) (l : Lim) : Int := l.1.getD j 0
end Lw
namespace Fx
open PySem PySem.Spec PyProof.Rows L2
section
variable {K : PySem.W.Frag} {H H' : Hp} {P P' : Pv}
theorem zdd {C : Addr} {f : Str} {t : PyData} : ∀ {kvs : List (PyData × PyData)} {fs : List (Str × V)}, Rlp K H P C kvs fs -> lkp f kvs = some t -> ∃ v, fs.lookup f = some v /\ Wb K C f /\ Rl K H P t v
 | [], fs, _, e => by simp [lkp] at e
 | (k, u) :: r, fs, h, e => by
  obtain ⟨n, v, r', rfl, rfl, na, rv, rr⟩ := zbF.mp h
  simp only [lkp] at e
  split at e
  ·rename_i z
   cases e
   subst z
   exact ⟨v, by rw [List.lookup_cons, beq_self_eq_true], na, rv⟩
  ·rename_i z
   obtain ⟨v', e1, e2, e3⟩ := zdd rr e
   refine ⟨v', ?_, e2, e3⟩
   rw [List.lookup_cons, show (f == n) = false from beq_eq_false_iff_ne.mpr fun q => z q.symm]
   exact e1
theorem zdb {C : Addr} : ∀ {ns : List Str} {ts : List PyData} {vs : List V}, (∀ n ∈ ns, Wb K C n) -> Rls K H P ts vs -> Rlp K H P C (zipK ns ts) (ns.zip vs)
 | [], ts, vs, _, _ => by simp only [zipK, List.zip_nil_left]; exact zdc.mpr rfl
 | n :: ns, [], vs, _, r => by rw [ZG.mp r]; simp only [zipK, List.zip_nil_right]; exact zdc.mpr rfl
 | n :: ns, t :: ts, vs, h, r => by
  obtain ⟨v, r', rfl, a, b⟩ := Zr.mp r
  simp only [zipK, List.zip_cons_cons]
  exact zbF.mpr ⟨n, v, _, rfl, rfl, h n (by simp), a, zdb (fun m hm => h m (by simp [hm])) b⟩
end
def spI (C : Addr) (ns : List Str) : Sp := fun vs H Q _ => ∃ x dx us, vs = .ref x :: us /\ us.length = ns.length /\ H x = some (.ins C dx []) /\ Q .non (upd H x (.ins C dx (ns.zip us)))
theorem spI_len {C : Addr} {ns : List Str} {vs : List V} {H : Hp} {Q : VK} {E : XK} (h : spI C ns vs H Q E) : vs.length = ns.length + 1 := by
 obtain ⟨x, dx, us, rfl, hl, _⟩ := h
 simp [hl]
theorem spI3 {C : Addr} {n1 n2 n3 : Str} {vs : List V} {H : Hp} {Q : VK} {E : XK} (h : spI C [n1, n2, n3] vs H Q E) : ∃ x dx u1 u2 u3, vs = [.ref x, u1, u2, u3] /\ H x = some (.ins C dx []) /\ Q .non (upd H x (.ins C dx [(n1, u1), (n2, u2), (n3, u3)])) := by
 obtain ⟨x, dx, us, rfl, hl, hx, q⟩ := h
 match us, hl with
 | [u1, u2, u3], _ => exact ⟨x, dx, u1, u2, u3, rfl, hx, q⟩
theorem putF3 {n1 n2 n3 : Str} {u1 u2 u3 : V} (h12 : ¬ n1 = n2) (h13 : ¬ n1 = n3) (h23 : ¬ n2 = n3) : putF n3 u3 (putF n2 u2 (putF n1 u1 [])) = [(n1, u1), (n2, u2), (n3, u3)] := by
 show putF n3 u3 (putF n2 u2 [(n1, u1)]) = _
 show putF n3 u3 (if n1 = n2 then _ else (n1, u1) :: [(n2, u2)]) = _
 rw [if_neg h12]
 show (if n1 = n3 then _ else (n1, u1) :: (if n2 = n3 then _ else (n2, u2) :: [(n3, u3)])) = _
 rw [if_neg h13, if_neg h23]
structure Mko (P : Program) (w : World) (K : PySem.W.Frag) (mg : Str -> Option Value) (base : Heap) (k : Nat) (x : Str) (ns : List Str) : Prop where
 ex : ∃ (C f : Addr) (fd : FuncData) (ps : List Str), L2.Mk K C f /\ FnOk P w K mg base CX0 k f fd ps (spI C ns) /\ mg x = some (.ref C) /\ ZP K fd ps [] /\ Cls K C /\ ∀ n ∈ ns, Wb K C n
theorem Mko.mono {P : Program} {w : World} {K : PySem.W.Frag} {mg : Str -> Option Value} {base : Heap} {j k : Nat} {x : Str} {ns : List Str} (M : Mko P w K mg base j x ns) (h : j <= k) : Mko P w K mg base k x ns := by
 obtain ⟨C, f, fd, ps, m, F, r⟩ := M.ex
 exact ⟨C, f, fd, ps, m, F.mono h, r⟩
section
variable {X : Cx} {W : Str -> Hp -> Prop} {fl : Bool} {a b c e : Expr} {es : List Expr} {da db : DE} {pos : Pos}
theorem XS {f : Str} (ha : EV X W a da) (hb : attributeBase a f X.env (eval a X.env) = eval a X.env := by rfl) : EV X W (.Attribute a f pos) (d1 (fFld f) da) :=
 Zv (pe_fld ha hb) fun σ H Q ⟨G, P, h, q⟩ => by
  unfold d1 at q
  obtain ⟨q1, q2, q3⟩ := Vy q
  refine ZD h q1 q2 fun tx x H1 ex s1 h1 rx => ?_
  have q4 := YA.up (q3 tx ex) s1
  cases tx <;> try exact q4.elim
  rename_i kvs
  cases kvs with
  | nil => exact q4.elim
  | cons y ys =>
   obtain ⟨k, w⟩ := y
   cases k <;> try exact (show False from q4).elim
   rename_i sk
   obtain ⟨a, C, dx, fs, rfl, ha, off, cl, r⟩ := rl_obj.mp rx
   simp only [fFld] at q4
   cases el : lkp f ((.str sk, w) :: ys) with
   | none => rw [el] at q4; exact q4.elim
   | some t =>
    rw [el] at q4
    obtain ⟨v, hv, na, rv⟩ := zdd r el
    exact ⟨a, C, dx, fs, v, rfl, ha, cl, na, hv, q4 v H1 (Same.refl _) rv⟩
theorem zd5 {k : Nat} {x : Str} {ns : List Str} {d : DA} {p : Pos} (M : Mko X.prog X.w X.K X.mg X.base k x ns) (hr : Room (k + 1) X.A) (hg : Gl X x) (ha : AV X W (e :: es) d) (hdb : (x == ("__debug__" : Str)) = false := by decide)
  (he : starEach (e :: es) X.env = (false, eval e X.env) :: starEach es X.env := by rfl) (hpl : (backTo pos (starEach es X.env)).any (·.1) = false := by rfl) : EV X W (.Call (.Name x p) (e :: es) [] pos) (dMk ns d) := by
 obtain ⟨C, f, fd, ps, m, F, hm, hb, cl, na⟩ := M.ex
 refine Zv (pe_make (x := x) (p := p) (E := E0) m F hr hg hm hb .nil pass0 ha (hdb := hdb) (he := he) (hpl := hpl)) fun σ H Q ⟨G, P, h, q⟩ => ?_
 unfold dMk at q
 obtain ⟨q1, q2, q3⟩ := zce q
 refine Wv h q1 q2 fun ts vs H1 es' s1 h1 rs => ?_
 have q4 := YA.up (q3 ts es') s1
 split at q4
 ·rename_i hl
  intro x dx hx hdx hne
  have sm : Same H1 (upd (upd (upd H1 dx (.own x)) x (.ins C dx [])) x (.ins C dx (ns.zip vs))) := .of fun b o e => by
   rw [Zz (ZF e hx), Zz (ZF e hx), Zz (ZF e hdx)]; exact e
  refine ⟨x, dx, vs ++ [], rfl, by rw [List.append_nil, <- rs.length]; exact hl.1, Zs, rfl, ?_⟩
  rw [List.append_nil]
  refine q4 _ _ sm ?_
  obtain ⟨hl, hn⟩ := hl
  have rz := zdb (K := X.K) (C := C) (ns := ns) na (Rls.go (.same sm) ts vs rs)
  cases ns with
  | nil => exact absurd rfl hn
  | cons n ns =>
   cases ts with
   | nil => simp at hl
   | cons t ts => exact rl_obj.mpr ⟨x, C, dx, _, rfl, Zs, h1.off_new hx, cl, rz⟩
 ·exact q4.elim
theorem zbX {K : PySem.W.Frag} {H : Hp} {P : Pv} {ts : List PyData} {vs : List V} (r : Rls K H P ts vs) : ∀ n : Nat, Rls K H P (List.replicate n ts).flatten (List.replicate n vs).flatten
 | 0 => ZG.mpr rfl
 | n + 1 => by
  rw [List.replicate_succ, List.flatten_cons, List.replicate_succ, List.flatten_cons]
  exact r.append (zbX r n)
theorem ov_rep {dl : DA} (ha : OV X W a dl) (hb : EV X W b db) : OV X W (.BinOp a .Mult b pos) (oRep dl db) :=
 Zv (pe_op op_rep ha hb) fun σ H Q ⟨G, P, h, q⟩ => by
  unfold oRep at q
  obtain ⟨q1, q2, q3⟩ := zcd q
  refine ⟨G, P, h, ?_⟩
  cases el : dl G with
  | stuck => exact absurd el q2
  | exc c => exact fun H' s => q1 c el H' s
  | ok xs =>
   intro p vs H1 s1 hp hl rl
   obtain ⟨q4, q5, q6⟩ := Q3 (q3 xs el)
   refine ZD (h.same s1) (fun c e H' s => q4 c e H' (s1.trans s)) q5 fun ty y H2 ey s2 h2 ry => ?_
   have q7 := q6 ty ey
   cases ty <;> try exact q7.elim
   rename_i k
   simp only at q7
   split at q7
   ·rename_i hz
    have hb1 := Vd hz.1
    have el2 := rl.length
    refine ⟨p, k, vs, rfl, Zx.mp ry, s2.kp _ _ hl Ul, by omega, by omega, by rw [sizeLine_eq, <- el2]; exact hz.2, fun p2 hp2 => ?_⟩
    refine q7 p2 _ _ ((s1.trans s2).trans (ZB hp2)) ((s1.trans s2).free hp2) Zs ?_
    exact UT hp2 (zbX (Rls.go (P := P.fbd p) (P' := P) .fbd _ _ (Rls.go (.same s2) _ _ rl)) k.toNat)
   ·exact q7.elim
theorem zcR : ∀ {xs : List V} {us : List Value}, xs.length = us.length -> (∀ (i : Nat) x u, xs[i]? = some x -> us[i]? = some u -> RelV x u) -> Vals xs us
 | [], [], _, _ => .nil
 | [], u :: us, h, _ => by simp at h
 | x :: xs, [], h, _ => by simp at h
 | x :: xs, u :: us, h, r => .cons (r 0 x u rfl rfl) (zcR (by simpa using h) fun i y v e1 e2 => r (i + 1) y v (by simpa using e1) (by simpa using e2))
theorem VZ (hc : X.calm = true) : Qw X (.type "list") (fun xs H Q => ∃ r lo hi, xs = [.ref r] /\ H r = some (.rng lo hi) /\ -(2 ^ 62) <= lo /\ lo < 2 ^ 62 /\ -(2 ^ 62) <= hi /\ hi < 2 ^ 62 /\ (hi - lo).toNat <= 16777216 /\
  ∀ l, H l = none -> Q (.ref l) (upd H l (.lst ((List.range (hi - lo).toNat).map fun (i : Nat) => V.int (lo + (i : Int)))))) := by
 intro pins s σ H xs us Q I r h
 obtain ⟨p, lo, hi, rfl, hp, h1, h2, h3, h4, hz, q⟩ := h
 obtain ⟨u, rfl, rx⟩ := Qx r
 cases rx
 obtain ⟨t, u, v, e⟩ := (show ∃ t u v, s.heap.get? p = some { cls := .type "range", data := .fields #[.int lo t, .int hi u, .int 1 v] } from I.hok p _ hp)
 refine call_list_range (n := (hi - lo).toNat) (I.ok.hd hc) (show IsRange s.heap p lo hi 1 t u v from e) (small_one h1 h2 h3 h4) (by rw [rangeSize_one]; split <;> omega) hz fun h' tk acc c' kp ea it => ?_
 have rv : Vals ((List.range (hi - lo).toNat).map fun (i : Nat) => V.int (lo + (i : Int))) acc.toList := by
  refine zcR (by rw [List.length_map, List.length_range, Array.length_toList, it.1]) fun i x u e1 e2 => ?_
  rw [List.getElem?_map] at e1
  cases ei : (List.range (hi - lo).toNat)[i]? with
  | none => rw [ei] at e1; cases e1
  | some j =>
   rw [ei] at e1
   obtain ⟨hj, ej⟩ := List.getElem?_eq_some_iff.mp ei
   rw [List.getElem_range] at ej
   subst ej
   cases e1
   obtain ⟨t, rfl⟩ := it.2 i u (by simpa using e2)
   exact ⟨t, by rw [Int.mul_one]⟩
 refine ⟨.ref s.heap.objs.size, _, I.laid (t' := tk) kp (Nat.le_refl _) (show WM X.prog X.w _ h' _ (.lst _) from ⟨by rw [List.length_map, List.length_range, sizeLine_eq]; exact hz, acc.toList, c', rv, by simpa using ea⟩), rfl, q _ (I.hok.fresh (Nat.le_refl _))⟩
theorem zcc : Qw X (.type "range") (fun xs H Q => (∃ j, xs = [.int j] /\ ∀ r, H r = none -> Q (.ref r) (upd H r (.rng 0 j))) \/ (∃ i j, xs = [.int i, .int j] /\ ∀ r, H r = none -> Q (.ref r) (upd H r (.rng i j)))) := by
 intro pins s σ H xs us Q I r h
 rcases h with ⟨j, rfl, q⟩ | ⟨i, j, rfl, q⟩
 ·obtain ⟨u, rfl, t, rfl⟩ := Qx r
  refine call_range_1 ⟨.ref s.heap.objs.size, _, I.laid (fun b o e => Heap.get?_push_of_some _ e) (Nat.le_refl _) (show WM X.prog X.w _ _ _ (.rng 0 j) from ⟨_, _, _, Heap.get?_push_size _ rfl⟩), rfl, q _ (I.hok.fresh (Nat.le_refl _))⟩
 ·cases r with
  | cons r1 rr =>
   cases rr with
   | cons r2 rr =>
    cases rr
    obtain ⟨t, rfl⟩ := r1
    obtain ⟨t', rfl⟩ := r2
    refine call_range_2 ⟨.ref s.heap.objs.size, _, I.laid (fun b o e => Heap.get?_push_of_some _ e) (Nat.le_refl _) (show WM X.prog X.w _ _ _ (.rng i j) from ⟨_, _, _, Heap.get?_push_size _ rfl⟩), rfl, q _ (I.hok.fresh (Nat.le_refl _))⟩
theorem zbD {K : PySem.W.Frag} {H : Hp} {P : Pv} (lo : Int) (n : Nat) : Rls K H P (rngT lo n) ((List.range n).map fun (i : Nat) => V.int (lo + (i : Int))) := by
 unfold rngT
 have : ∀ l : List Nat, Rls K H P (l.map fun (k : Nat) => .int (lo + (k : Int))) (l.map fun (i : Nat) => V.int (lo + (i : Int))) := by
  intro l
  induction l with
  | nil => exact ZG.mpr rfl
  | cons x l ih => exact Zr.mpr ⟨_, _, rfl, Zx.mpr rfl, ih⟩
 exact this _
theorem ov_rng1 {p p2 pos2 : Pos} (hg : Gl X "list") (hm : X.mg "list" = none) (hg2 : Gl X "range") (hm2 : X.mg "range" = none) (ha : EV X W a da) (hc : X.calm = true := by rfl) (hs : starEach [a] X.env = (false, eval a X.env) :: starEach [] X.env := by rfl)
  (hs2 : starEach [.Call (.Name "range" p2) [a] [] pos2] X.env = (false, eval (.Call (.Name "range" p2) [a] [] pos2) X.env) :: starEach [] X.env := by rfl) : OV X W (.Call (.Name "list" p) [.Call (.Name "range" p2) [a] [] pos2] [] pos) (zcu (iRng da)) :=
 Zv (Wm (VZ hc) hg hm (show bootBuiltins "list" = some (.type "list") by decide +kernel) (Z0 (Wm zcc hg2 hm2 boot_range (Z0 ha Y0 hs) (he := hs)) Y0 hs2) (he := hs2)) fun σ H Q ⟨G, P, h, q⟩ => by
  unfold zcu iRng at q
  obtain ⟨q1, q2, q3⟩ := Q3 (show zbn X.K W H P ((da G).bind fun x => ((match x with
   | .int j => if X3 j = true then .ok (rngT 0 j.toNat) else .stuck
   | _ => .stuck : Res (List PyData)).bind fun xs => if xs.length <= 16777216 then .ok xs else .stuck)) Q by
    cases e : da G <;> rw [e] at q <;> exact q)
  refine ZD h q1 q2 fun tx x H1 ex s1 h1 rx => ?_
  have q4 := q3 tx ex
  cases tx <;> try exact q4.elim
  rename_i j
  simp only at q4
  split at q4
  ·rename_i hj
   rw [Res.bind_ok] at q4
   split at q4
   ·rename_i hz
    have hb := Vd hj
    have hl : (rngT 0 j.toNat).length = j.toNat := by simp [rngT]
    refine .inl ⟨j, by rw [Zx.mp rx], fun r hr => ⟨r, 0, j, rfl, Zs, by omega, by omega, by omega, by omega, by rw [Int.sub_zero, <- hl]; exact hz, fun l hl' => ?_⟩⟩
    have s2 : Same H (upd H1 r (.rng 0 j)) := s1.trans (ZB hr)
    rw [Int.sub_zero]
    exact q4 l _ _ (s2.trans (ZB hl')) (s2.free hl') Zs (zbD 0 j.toNat)
   ·exact q4.elim
  ·exact q4.elim
theorem ov_rng2 {p p2 pos2 : Pos} (hg : Gl X "list") (hm : X.mg "list" = none) (hg2 : Gl X "range") (hm2 : X.mg "range" = none) (ha : EV X W a da) (hb : EV X W b db) (hc : X.calm = true := by rfl) (hs : starEach [a, b] X.env = (false, eval a X.env) :: starEach [b] X.env := by rfl)
  (hs3 : starEach [b] X.env = (false, eval b X.env) :: starEach [] X.env := by rfl) (hpl : (backTo pos2 (starEach [b] X.env)).any (·.1) = false := by rfl)
  (hs2 : starEach [.Call (.Name "range" p2) [a, b] [] pos2] X.env = (false, eval (.Call (.Name "range" p2) [a, b] [] pos2) X.env) :: starEach [] X.env := by rfl) : OV X W (.Call (.Name "list" p) [.Call (.Name "range" p2) [a, b] [] pos2] [] pos) (zcu (iRng2 da db)) :=
 Zv (Wm (VZ hc) hg hm (show bootBuiltins "list" = some (.type "list") by decide +kernel) (Z0 (Wm zcc hg2 hm2 boot_range (Z0 ha (Z0 hb Y0 hs3) hs) (he := hs) (hpl := hpl)) Y0 hs2) (he := hs2)) fun σ H Q ⟨G, P, h, q⟩ => by
  unfold zcu iRng2 at q
  obtain ⟨q1, q2, q3⟩ := Q3 (show zbn X.K W H P ((da G).bind fun x => (db G).bind fun y => ((match x, y with
   | .int i, .int j => if X3 i = true /\ X3 j = true then .ok (rngT i (j - i).toNat) else .stuck
   | _, _ => .stuck : Res (List PyData)).bind fun xs => if xs.length <= 16777216 then .ok xs else .stuck)) Q by
    cases e : da G <;> rw [e] at q <;> cases e2 : db G <;> rw [e2] at q <;> exact q)
  refine ZD h q1 q2 fun tx x H1 ex s1 h1 rx => ?_
  obtain ⟨q4, q5, q6⟩ := Q3 (q3 tx ex)
  refine ZD h1 (fun c e H' s => q4 c e H' (s1.trans s)) q5 fun ty y H2 ey s2 h2 ry => ?_
  have q7 := q6 ty ey
  cases tx <;> cases ty <;> try exact q7.elim
  rename_i i j
  simp only at q7
  split at q7
  ·rename_i hj
   rw [Res.bind_ok] at q7
   split at q7
   ·rename_i hz
    have hb1 := Vd hj.1
    have hb2 := Vd hj.2
    have hl : (rngT i (j - i).toNat).length = (j - i).toNat := by simp [rngT]
    refine .inr ⟨i, j, by rw [Zx.mp rx, Zx.mp ry], fun r hr => ⟨r, i, j, rfl, Zs, by omega, by omega, by omega, by omega, by rw [<- hl]; exact hz, fun l hl' => ?_⟩⟩
    have s3 : Same H (upd H2 r (.rng i j)) := (s1.trans s2).trans (ZB hr)
    exact q7 l _ _ (s3.trans (ZB hl')) (s3.free hl') Zs (zbD i (j - i).toNat)
   ·exact q7.elim
  ·exact q7.elim
theorem isN_b (t : PyData) : ∃ k, fIsN t = .ok (.bool k) := by cases t <;> exact ⟨_, rfl⟩
theorem notN_b (t : PyData) : ∃ k, U5 t = .ok (.bool k) := by cases t <;> exact ⟨_, rfl⟩
theorem tv_of1 {f : PyData -> Res PyData} (hf : ∀ t, ∃ k, f t = .ok (.bool k)) {σ : L2.St} {H : Hp} {Q : Bool -> Hp -> Prop} (h : tFT X.K W (tV (d1 f da)) σ H Q) : tF X.K W (d1 f da) σ H fun x H1 => ∃ c, x = .bl c /\ Q c H1 := by
 obtain ⟨G, P, h, q⟩ := h
 refine ⟨G, P, h, ?_⟩
 unfold tV at q
 cases e : d1 f da G with
 | stuck => rw [e] at q; exact q
 | exc c => rw [e] at q; exact q
 | ok t =>
  rw [e] at q
  have hb : ∃ k, t = .bool k := by
   unfold d1 at e
   cases e1 : da G with
   | stuck => rw [e1] at e; cases e
   | exc c => rw [e1] at e; cases e
   | ok tx =>
    rw [e1, Res.bind_ok] at e
    obtain ⟨k, e3⟩ := hf tx
    rw [e3] at e
    cases e
    exact ⟨k, rfl⟩
  obtain ⟨k, rfl⟩ := hb
  exact fun v H' s r => ⟨k, YG.mp r, q H' s⟩
theorem tv_isN {j pos'} (ha : EV X W a da) : TV X W (.Compare a [.Is] [.Constant .none j pos'] pos) (tV (d1 fIsN da)) := by
 intro pins s σ H Q I h
 refine pt_cmp (t := tF X.K W (d1 fIsN da)) (fun pins s σ H Q I h => ?_) (by first | exact Jm _ (by decide) (by decide) | rfl) pins s σ H Q I (tv_of1 isN_b h)
 exact pc_isN ha pins s σ H Q I (by
  obtain ⟨G, P, h, q⟩ := h
  unfold d1 at q
  obtain ⟨q1, q2, q3⟩ := Vy q
  refine ZD h q1 q2 fun tx x H1 ex s1 h1 rx => ?_
  have q4 := YA.up (q3 tx ex) s1
  cases tx with
  | none => rw [Wd.mp rx]; exact ZH q4
  | bool b => rw [YG.mp rx]; exact ZH q4
  | int b => rw [Zx.mp rx]; exact ZH q4
  | str b => rw [QN.mp rx]; exact ZH q4
  | list b => obtain ⟨l, us, rfl, _⟩ := ZR.mp rx; exact ZH q4
  | tuple b => obtain ⟨l, us, rfl, _⟩ := ZK.mp rx; exact ZH q4
  | dict b => rcases zaS.mp rx with ⟨_, l, rfl, _⟩ | ⟨_, l, _, _, _, rfl, _⟩ | ⟨l, _, _, rfl, _⟩ <;> exact ZH q4)
theorem zcT {j pos'} (ha : EV X W a da) : TV X W (.Compare a [.IsNot] [.Constant .none j pos'] pos) (tV (d1 U5 da)) := by
 intro pins s σ H Q I h
 refine pt_cmp (t := tF X.K W (d1 U5 da)) (fun pins s σ H Q I h => ?_) (by first | exact Jm _ (by decide) (by decide) | rfl) pins s σ H Q I (tv_of1 notN_b h)
 exact pc_notN ha pins s σ H Q I (by
  obtain ⟨G, P, h, q⟩ := h
  unfold d1 at q
  obtain ⟨q1, q2, q3⟩ := Vy q
  refine ZD h q1 q2 fun tx x H1 ex s1 h1 rx => ?_
  have q4 := YA.up (q3 tx ex) s1
  cases tx with
  | none => rw [Wd.mp rx]; exact ZH q4
  | bool b => rw [YG.mp rx]; exact ZH q4
  | int b => rw [Zx.mp rx]; exact ZH q4
  | str b => rw [QN.mp rx]; exact ZH q4
  | list b => obtain ⟨l, us, rfl, _⟩ := ZR.mp rx; exact ZH q4
  | tuple b => obtain ⟨l, us, rfl, _⟩ := ZK.mp rx; exact ZH q4
  | dict b => rcases zaS.mp rx with ⟨_, l, rfl, _⟩ | ⟨_, l, _, _, _, rfl, _⟩ | ⟨l, _, _, rfl, _⟩ <;> exact ZH q4)
end
end Fx
namespace Fx
open PySem PySem.Spec PyProof.Rows L2
section
variable {X : Cx} {pins : List (Addr × Obj)} {σ : L2.St} {H : Hp} {s : Shared}
def Mine (X : Cx) (pins : List (Addr × Obj)) (b : Addr) : Prop := b ≠ X.env.locals /\ b ∉ X.fs /\ (b ∈ X.ex \/ X.s₀.heap.objs.size <= b) /\ (∀ x c, X.env.cells.lookup x = some c -> c ≠ b) /\ ∀ p ∈ X.pn ++ pins, p.1 ≠ b
theorem Mine.of {b : Addr} (f : FpOk X pins H b) : Mine X pins b := ⟨f.2.1, f.2.2.1, f.2.2.2.1, f.2.2.2.2.1, f.2.2.2.2.2⟩
theorem Inv.turn1 {t' : Nat} {it : Addr} {h' : Heap} (I : Inv X pins σ H s) (m : Mine X pins it) (hn : H it = none) (k : ∀ b o, b ≠ it -> s.heap.get? b = some o -> h'.get? b = some o) : Inv X pins σ H { s with heap := h', toks := t' } :=
 I.turned k hn m.1 m.2.2.1 m.2.2.2.1 m.2.2.2.2
theorem Jf {h : Heap} {a : Addr} {its : Array Value} (p : PlainL h a its) : h.IsList a its := p.isList
variable {xs : List V} {kf : Nat -> Int} {H0 : Hp} {l I S q : Addr} {R : Result -> Shared -> Prop}
end
end Fx
namespace Sx
def sumN : Nat -> (Nat -> Int) -> Int
 | 0, _ => 0
 | n + 1, f => sumN n f + f n
theorem Xs : ∀ {n : Nat} {f g : Nat -> Int}, (∀ i, i < n -> f i = g i) -> sumN n f = sumN n g
 | 0, f, g, h => rfl
 | n + 1, f, g, h => by
  simp only [sumN]
  rw [Xs (fun i hi => h i (by omega)), h n (by omega)]
theorem zaL (n : Nat) (f g : Nat -> Int) : sumN n (fun i => f i + g i) = sumN n f + sumN n g := by
 induction n with
 | zero => rfl
 | succ n ih => simp only [sumN, ih]; omega
theorem Vo (n : Nat) (a : Int) (f : Nat -> Int) : sumN n (fun i => a * f i) = a * sumN n f := by
 induction n with
 | zero => simp [sumN]
 | succ n ih => simp only [sumN, ih, Int.mul_add]
theorem sum_zero {n : Nat} {f : Nat -> Int} (h : ∀ i, i < n -> f i = 0) : sumN n f = 0 := by
 induction n with
 | zero => rfl
 | succ n ih => simp only [sumN, ih (fun i hi => h i (by omega)), h n (by omega)]; rfl
theorem V2 {n k : Nat} {f : Nat -> Int} (hk : k < n) (h : ∀ i, i < n -> i ≠ k -> f i = 0) : sumN n f = f k := by
 induction n with
 | zero => omega
 | succ n ih =>
  simp only [sumN]
  by_cases e : k = n
  ·subst e
   rw [sum_zero (fun i hi => h i (by omega) (by omega))]; omega
  ·rw [ih (by omega) (fun i hi => h i (by omega)), h n (by omega) (by omega)]; omega
theorem zaK {n k l : Nat} {f : Nat -> Int} (hk : k < l) (hl : l < n) (h : ∀ i, i < n -> i ≠ k -> i ≠ l -> f i = 0) : sumN n f = f k + f l := by
 induction n with
 | zero => omega
 | succ n ih =>
  simp only [sumN]
  by_cases e : l = n
  ·subst e
   rw [V2 (k := k) (by omega) (fun i hi hne => h i (by omega) hne (by omega))]
  ·rw [ih (by omega) (fun i hi => h i (by omega)), h n (by omega) (by omega) (by omega)]; omega
abbrev Vec := Nat -> Int
abbrev Mat := Nat -> Vec
def skip (i : Nat) (v : Mat) : Mat := fun k => if k < i then v k else v (k + 1)
def sg : Nat -> Int
 | 0 => 1
 | n + 1 => - sg n
def det : Nat -> Mat -> Int
 | 0, _ => 1
 | n + 1, v => sumN (n + 1) fun i => sg i * v i n * det n (skip i v)
def put (v : Mat) (k : Nat) (x : Vec) : Mat := fun i => if i = k then x else v i
@[simp] theorem YZ (v : Mat) (k : Nat) (x : Vec) : put v k x k = x := if_pos rfl
theorem X7 {v : Mat} {k i : Nat} {x : Vec} (h : i ≠ k) : put v k x i = v i := if_neg h
theorem put_put (v : Mat) (k : Nat) (x y : Vec) : put (put v k x) k y = put v k y := by
 funext i; unfold put; by_cases e : i = k <;> simp [e]
theorem X8 {v : Mat} {k l : Nat} {x y : Vec} (h : k ≠ l) : put (put v k x) l y = put (put v l y) k x := by
 funext i; unfold put
 by_cases e : i = k
 ·by_cases e2 : i = l
  ·omega
  ·simp [e, h]
 ·simp [e]
theorem Wy (v : Mat) (k : Nat) : put v k (v k) = v := by
 funext i; unfold put; by_cases e : i = k <;> simp [e]
theorem Xv : ∀ {n : Nat} {v u : Mat}, (∀ i c, i < n -> c < n -> v i c = u i c) -> det n v = det n u
 | 0, v, u, h => rfl
 | n + 1, v, u, h => by
  simp only [det]
  refine Xs fun i hi => ?_
  rw [h i n hi (by omega)]
  congr 1
  refine Xv fun k c hk hc => ?_
  unfold skip
  split
  ·exact h k c (by omega) (by omega)
  ·exact h (k + 1) c (by omega) (by omega)
theorem Q8 (v : Mat) (k : Nat) (x : Vec) : skip k (put v k x) = skip k v := by
 funext i; unfold skip put
 split
 ·rw [if_neg (by omega)]
 ·rw [if_neg (by omega)]
theorem Vp {v : Mat} {i k : Nat} {x : Vec} (h : k < i) : skip i (put v k x) = put (skip i v) k x := by
 funext j; unfold skip put
 by_cases e : j = k
 ·subst e; simp [h]
 ·simp only [e, if_false]
  split
  ·rfl
  ·rw [if_neg (by omega)]
theorem Vq {v : Mat} {i k : Nat} {x : Vec} (h : i < k) : skip i (put v k x) = put (skip i v) (k - 1) x := by
 funext j; unfold skip put
 by_cases e : j = k - 1
 ·subst e
  rw [if_neg (by omega), if_pos (by omega), if_pos rfl]
 ·rw [if_neg e]
  split
  ·rename_i g; rw [if_neg (by omega)]; exact (if_pos g).symm
  ·rename_i g; rw [if_neg (by omega)]; exact (if_neg g).symm
theorem Vw : ∀ {n : Nat} (v : Mat) {k : Nat} (a b : Int) (x y : Vec), k < n -> det n (put v k fun c => a * x c + b * y c) = a * det n (put v k x) + b * det n (put v k y)
 | 0, v, k, a, b, x, y, h => by omega
 | n + 1, v, k, a, b, x, y, h => by
  simp only [det]
  rw [<- Vo, <- Vo, <- zaL]
  refine Xs fun i hi => ?_
  by_cases e : i = k
  ·subst e
   simp only [YZ, Q8]
   generalize det n (skip i v) = d
   generalize sg i = s
   grind
  ·rw [X7 e, X7 e, X7 e]
   rcases Nat.lt_or_gt_of_ne e with g | g
   ·rw [Vq g, Vq g, Vq g, Vw (skip i v) a b x y (by omega)]
    grind
   ·rw [Vp g, Vp g, Vp g, Vw (skip i v) a b x y (by omega)]
    grind
theorem Jy : ∀ {n : Nat} {v : Mat} {k : Nat}, k + 1 < n -> (∀ c, c < n -> v k c = v (k + 1) c) -> det n v = 0
 | 0, v, k, h, e => by omega
 | n + 1, v, k, h, e => by
  simp only [det]
  rw [zaK (k := k) (l := k + 1) (by omega) h fun i hi h1 h2 => ?_]
  ·have : det n (skip k v) = det n (skip (k + 1) v) := by
    refine Xv fun i c hi hc => ?_
    unfold skip
    by_cases g : i < k
    ·rw [if_pos g, if_pos (by omega)]
    ·rw [if_neg g]
     by_cases g2 : i = k
     ·subst g2; rw [if_pos (by omega)]; exact (e c (by omega)).symm
     ·rw [if_neg (by omega)]
   rw [this, e n (by omega)]
   simp only [sg]
   generalize det n (skip (k + 1) v) = d
   grind
  ·rcases Nat.lt_or_gt_of_ne h1 with g | g
   ·rw [Jy (n := n) (v := skip i v) (k := k - 1) (by omega), Int.mul_zero]
    intro c hc
    unfold skip
    rw [if_neg (by omega), if_neg (by omega), show k - 1 + 1 = k by omega]
    exact e c (by omega)
   ·rw [Jy (n := n) (v := skip i v) (k := k) (by omega), Int.mul_zero]
    intro c hc
    unfold skip
    rw [if_pos (by omega), if_pos (by omega)]
    exact e c (by omega)
theorem U8 {n : Nat} {v : Mat} {p l : Nat} (hp : p < n) (hl : l < n) (hne : p ≠ l) (alt : ∀ z : Vec, det n (put (put v p z) l z) = 0) (x y : Vec) : det n (put (put v p y) l x) = - det n (put (put v p x) l y) := by
 have h := alt fun c => 1 * x c + 1 * y c
 rw [Vw _ 1 1 x y hl, X8 hne, X8 hne, Vw _ 1 1 x y hp, Vw _ 1 1 x y hp, <- X8 hne, <- X8 hne, <- X8 hne, <- X8 hne, alt x, alt y] at h
 omega
theorem zbf {n : Nat} : ∀ (d : Nat) {v : Mat} {k l : Nat}, l = k + 1 + d -> l < n -> (∀ c, c < n -> v k c = v l c) -> det n v = 0
 | 0, v, k, l, h, hl, e => by subst h; exact Jy hl e
 | d + 1, v, k, l, h, hl, e => by
  obtain ⟨m, rfl⟩ : ∃ m, l = m + 1 := ⟨k + 1 + d, by omega⟩
  have an := U8 (n := n) (v := v) (p := m) (l := m + 1) (by omega) hl (by omega) (fun z => Jy hl fun c hc => by
   rw [X7 (i := m) (k := m + 1) (by omega), YZ, YZ]) (v m) (v (m + 1))
  have z := zbf (n := n) d (v := put (put v m (v (m + 1))) (m + 1) (v m)) (k := k) (l := m) (by omega) (by omega) fun c hc => by
   rw [X7 (i := k) (k := m + 1) (by omega), X7 (i := k) (k := m) (by omega), X7 (i := m) (k := m + 1) (by omega), YZ]; exact e c hc
  rw [z, Wy, Wy] at an
  omega
theorem WW {n : Nat} {v : Mat} {k l : Nat} (hk : k < n) (hl : l < n) (hne : k ≠ l) (e : ∀ c, c < n -> v k c = v l c) : det n v = 0 := by
 rcases Nat.lt_or_gt_of_ne hne with g | g
 ·exact zbf (l - k - 1) (by omega) hl e
 ·exact zbf (k - l - 1) (by omega) hk fun c hc => (e c hc).symm
theorem det_anti {n : Nat} {v : Mat} {p l : Nat} (hp : p < n) (hl : l < n) (hne : p ≠ l) (x y : Vec) : det n (put (put v p y) l x) = - det n (put (put v p x) l y) :=
 U8 hp hl hne (fun z => WW hp hl hne fun c hc => by rw [X7 hne, YZ, YZ]) x y
theorem Jx {n : Nat} (v : Mat) {k : Nat} (a : Int) (x : Vec) (h : k < n) : det n (put v k fun c => a * x c) = a * det n (put v k x) := by
 have := Vw v a 0 x x h
 simpa using this
theorem zbe {n : Nat} (v : Mat) {k : Nat} (h : k < n) (m : Nat) (a : Nat -> Int) (u : Nat -> Vec) : det n (put v k fun c => sumN m fun j => a j * u j c) = sumN m fun j => a j * det n (put v k (u j)) := by
 induction m with
 | zero =>
  simp only [sumN]
  have := Jx v 0 (fun _ => 0) h
  simpa using this
 | succ m ih =>
  simp only [sumN]
  have := Vw v 1 (a m) (fun c => sumN m fun j => a j * u j c) (u m) h
  simp only [Int.one_mul] at this
  rw [this, ih]
theorem sg_abs (n : Nat) : sg n = 1 \/ sg n = -1 := by
 induction n with
 | zero => exact .inl rfl
 | succ n ih => simp only [sg]; omega
def fact : Nat -> Nat
 | 0 => 1
 | n + 1 => (n + 1) * fact n
theorem sum_abs {n : Nat} {f : Nat -> Int} {B : Nat} (h : ∀ i, i < n -> (f i).natAbs <= B) : (sumN n f).natAbs <= n * B := by
 induction n with
 | zero => simp [sumN]
 | succ n ih =>
  have h1 := ih fun i hi => h i (by omega)
  have h2 := h n (by omega)
  simp only [sumN, Nat.succ_mul]
  omega
theorem zbg {B : Nat} : ∀ {n : Nat} {v : Mat}, (∀ i c, i < n -> c < n -> (v i c).natAbs <= B) -> (det n v).natAbs <= fact n * B ^ n
 | 0, v, h => by simp [det, fact]
 | n + 1, v, h => by
  simp only [det, fact]
  have := sum_abs (n := n + 1) (f := fun i => sg i * v i n * det n (skip i v)) (B := B * (fact n * B ^ n)) fun i hi => by
   have h1 := h i n hi (by omega)
   have h2 := zbg (n := n) (v := skip i v) (B := B) fun k c hk hc => by
    unfold skip
    split
    ·exact h k c (by omega) (by omega)
    ·exact h (k + 1) c (by omega) (by omega)
   rw [Int.natAbs_mul, Int.natAbs_mul]
   have h3 : (sg i).natAbs = 1 := by rcases sg_abs i with e | e <;> rw [e] <;> rfl
   rw [h3, Nat.one_mul]
   exact Nat.mul_le_mul h1 h2
  refine Nat.le_trans this (Nat.le_of_eq ?_)
  rw [Nat.pow_succ]
  simp only [Nat.mul_assoc, Nat.mul_comm, Nat.mul_left_comm]
end Sx
namespace Sx
def eK (K : Nat) : Vec := fun c => if c = K then 1 else 0
def Vh (K : Nat) (M : Mat) (h : Nat -> Nat) : Mat := fun j => if j < K then M (h j) else eK K
structure Bd where
 h : Nat -> Nat
 D : Int
 R : Nat -> Nat -> Int
structure Good (K N : Nat) (M : Mat) (b : Bd) : Prop where
 pos : 0 < b.D
 dt : ∃ σ : Int, σ * σ = 1 /\ b.D = σ * det (K + 1) (Vh K M b.h) /\ ∀ i j, i < N -> j <= K -> b.R i j = σ * det (K + 1) (put (Vh K M b.h) j (M i))
 cr : ∀ i c, i < N -> c <= K -> sumN (K + 1) (fun j => b.R i j * Vh K M b.h j c) = b.D * M i c
 hN : ∀ j, j < K -> b.h j < N
def iabs (x : Int) : Int := if x < 0 then -x else x
def tk (x y : Int) : Int := if 0 < x then y else -y
theorem iabs_pos {x : Int} (h : x ≠ 0) : 0 < iabs x := by unfold iabs; split <;> omega
def swR (b : Bd) (t p : Nat) (i j : Nat) : Int := if j = p then tk (b.R t p) (b.R i p) else (iabs (b.R t p) * b.R i j - tk (b.R t p) (b.R i p) * b.R t j).fdiv b.D
def swp (b : Bd) (t p : Nat) : Bd := ⟨fun j => if j = p then t else b.h j, iabs (b.R t p), swR b t p⟩
theorem sum_ite {n p : Nat} (h : p < n) (a : Int) : sumN n (fun j => if j = p then a else 0) = a := by
 rw [V2 h fun i hi hne => if_neg hne, if_pos rfl]
theorem sum_two' {n k l : Nat} {f : Nat -> Int} (hkn : k < n) (hln : l < n) (hne : k ≠ l) (h : ∀ i, i < n -> i ≠ k -> i ≠ l -> f i = 0) : sumN n f = f k + f l := by
 rcases Nat.lt_or_gt_of_ne hne with g | g
 ·exact zaK g hln h
 ·rw [zaK g hkn fun i hi h1 h2 => h i hi h2 h1]; omega
theorem fdiv_of {x y d : Int} (hd : 0 < d) (h : x = d * y) : x.fdiv d = y := by
 rw [h, Int.mul_fdiv_cancel_left _ (by omega)]
section
variable {K N : Nat} {M : Mat} {b b1 b2 : Bd} {t p : Nat}
theorem Vh_swp (hp : p < K) : Vh K M (swp b t p).h = put (Vh K M b.h) p (M t) := by
 funext j
 show (if j < K then M (if j = p then t else b.h j) else eK K) = (if j = p then M t else if j < K then M (b.h j) else eK K)
 by_cases e : j = p
 ·subst e; simp [hp]
 ·simp [e]
theorem Vh_K : Vh K M b.h K = eK K := if_neg (by omega)
theorem Vh_lt {j : Nat} (h : j < K) : Vh K M b.h j = M (b.h j) := if_pos h
theorem Good.lin (g : Good K N M b1) {q : Nat} (hq : q <= K) : ∃ φ : Vec -> Int, (∀ i, i < N -> b1.R i q = φ (M i)) /\ (∀ m (a : Nat -> Int) (u : Nat -> Vec), φ (fun c => sumN m fun j => a j * u j c) = sumN m fun j => a j * φ (u j)) /\ (∀ u u' : Vec, (∀ c, c <= K -> u c = u' c) -> φ u = φ u') /\ (∀ a u, φ (fun c => a * u c) = a * φ u) /\ φ (eK K) = (if q = K then b1.D else 0) /\ ∀ j, j < K -> φ (M (b1.h j)) = if j = q then b1.D else 0 := by
 obtain ⟨σ, hs, hD, hR⟩ := g.dt
 refine ⟨fun u => σ * det (K + 1) (put (Vh K M b1.h) q u), fun i hi => hR i q hi hq, fun m a u => ?_, fun u u' e => ?_, fun a u => ?_, ?_, fun j hj => ?_⟩
 ·show σ * _ = _
  rw [zbe _ (by omega), <- Vo]
  exact Xs fun j _ => by rw [Int.mul_left_comm]
 ·show σ * _ = σ * _
  congr 1
  refine Xv fun i c hi hc => ?_
  unfold put
  split
  ·exact e c (by omega)
  ·rfl
 ·show σ * _ = a * (σ * _)
  rw [Jx _ _ _ (by omega), Int.mul_left_comm]
 ·show σ * det (K + 1) (put (Vh K M b1.h) q (eK K)) = _
  by_cases e : q = K
  ·subst e
   rw [if_pos rfl, hD, <- Vh_K (b := b1) (M := M), Wy]
  ·rw [if_neg e, WW (k := q) (l := K) (by omega) (by omega) e (fun c hc => by rw [YZ, X7 (Ne.symm e), Vh_K]), Int.mul_zero]
 ·show σ * det (K + 1) (put (Vh K M b1.h) q (M (b1.h j))) = _
  rw [<- Vh_lt (b := b1) (M := M) hj]
  by_cases e : j = q
  ·subst e
   rw [if_pos rfl, hD, Wy]
  ·rw [if_neg e, WW (k := q) (l := j) (by omega) (by omega) (Ne.symm e) (fun c hc => by rw [YZ, X7 e]), Int.mul_zero]
theorem Good.two (g1 : Good K N M b1) (g2 : Good K N M b2) {i q : Nat} (hi : i < N) (hq : q <= K) :
  b2.D * b1.R i q = sumN K (fun j => b2.R i j * b1.R (b2.h j) q) + b2.R i K * (if q = K then b1.D else 0) := by
 obtain ⟨φ, h1, h2, h3, h4, h5, _⟩ := g1.lin hq
 rw [h1 i hi, <- h4, <- h5, h3 _ (fun c => sumN (K + 1) fun j => b2.R i j * Vh K M b2.h j c) fun c hc => (g2.cr i c hi hc).symm, h2]
 simp only [sumN]
 rw [Vh_K]
 congr 1
 exact Xs fun j hj => by rw [Vh_lt hj, h1 _ (g2.hN j hj)]
theorem Good.head (g : Good K N M b) {j q : Nat} (hj : j < K) (hq : q <= K) : b.R (b.h j) q = if j = q then b.D else 0 := by
 obtain ⟨φ, h1, h2, h3, h4, h5, h6⟩ := g.lin hq
 rw [h1 _ (g.hN j hj), h6 j hj]
theorem Good.swap (g : Good K N M b) (ht : t < N) (hp : p < K) (hne : b.R t p ≠ 0) :
  Good K N M (swp b t p) /\ ∀ i j, i < N -> j <= K -> j ≠ p -> b.D * (swp b t p).R i j = iabs (b.R t p) * b.R i j - tk (b.R t p) (b.R i p) * b.R t j := by
 obtain ⟨σ, hs, hD, hR⟩ := g.dt
 obtain ⟨s, hs2, hab, htk⟩ : ∃ s : Int, s * s = 1 /\ iabs (b.R t p) = s * b.R t p /\ ∀ y, tk (b.R t p) y = s * y := by
  by_cases e : 0 < b.R t p
  ·exact ⟨1, rfl, by unfold iabs; rw [if_neg (by omega)]; omega, fun y => by unfold tk; rw [if_pos e]; omega⟩
  ·exact ⟨-1, rfl, by unfold iabs; rw [if_pos (by omega)]; omega, fun y => by unfold tk; rw [if_neg e]; omega⟩
 have hV := Vh_swp (K := K) (M := M) (b := b) (t := t) hp
 have dR : ∀ i j, i < N -> j <= K -> det (K + 1) (put (Vh K M b.h) j (M i)) = σ * b.R i j := fun i j hi hj => by
  rw [hR i j hi hj, <- Int.mul_assoc, hs, Int.one_mul]
 have key : ∀ i j, i < N -> j <= K -> j ≠ p -> b.D * det (K + 1) (put (put (Vh K M b.h) p (M t)) j (M i)) = σ * (b.R t p * b.R i j - b.R i p * b.R t j) := by
  intro i j hi hj hjp
  rw [X8 (Ne.symm hjp), <- Jx _ _ _ (by omega), Xv (u := put (put (Vh K M b.h) j (M i)) p fun c => sumN (K + 1) fun l => b.R t l * Vh K M b.h l c), zbe _ (by omega), sum_two' (k := p) (l := j) (by omega) (by omega) (Ne.symm hjp) fun l hl h1 h2 => ?_]
  ·rw [X8 hjp, Wy, dR i j hi hj, det_anti (by omega) (by omega) hjp, Wy, dR i p hi (by omega)]
   grind
  ·rw [WW (k := p) (l := l) (by omega) hl (Ne.symm h1) (fun c hc => by rw [YZ, X7 h1, X7 h2]), Int.mul_zero]
  ·intro a c ha hc
   unfold put
   split
   ·exact (g.cr t c ht (by omega)).symm
   ·rfl
 have ex : ∀ i j, i < N -> j <= K -> j ≠ p -> (swp b t p).R i j = s * σ * det (K + 1) (put (put (Vh K M b.h) p (M t)) j (M i)) := by
  intro i j hi hj hjp
  show swR b t p i j = _
  unfold swR
  rw [if_neg hjp, hab, htk]
  refine fdiv_of g.pos ?_
  have k := key i j hi hj hjp
  have e : b.D * (s * σ * det (K + 1) (put (put (Vh K M b.h) p (M t)) j (M i))) = s * σ * (b.D * det (K + 1) (put (put (Vh K M b.h) p (M t)) j (M i))) := by rw [Int.mul_left_comm]
  rw [e, k]
  have e2 : s * σ * (σ * (b.R t p * b.R i j - b.R i p * b.R t j)) = s * (σ * σ) * (b.R t p * b.R i j - b.R i p * b.R t j) := by grind
  rw [e2, hs]
  grind
 have exD : ∀ i j, i < N -> j <= K -> j ≠ p -> b.D * (swp b t p).R i j = iabs (b.R t p) * b.R i j - tk (b.R t p) (b.R i p) * b.R t j := by
  intro i j hi hj hjp
  rw [ex i j hi hj hjp]
  have k := key i j hi hj hjp
  have e : b.D * (s * σ * det (K + 1) (put (put (Vh K M b.h) p (M t)) j (M i))) = s * σ * (b.D * det (K + 1) (put (put (Vh K M b.h) p (M t)) j (M i))) := by rw [Int.mul_left_comm]
  rw [e, k, hab, htk]
  have e2 : s * σ * (σ * (b.R t p * b.R i j - b.R i p * b.R t j)) = s * (σ * σ) * (b.R t p * b.R i j - b.R i p * b.R t j) := by grind
  rw [e2, hs]
  grind
 have exp : ∀ i, (swp b t p).R i p = s * b.R i p := fun i => by
  show swR b t p i p = _
  unfold swR
  rw [if_pos rfl, htk]
 refine ⟨⟨iabs_pos hne, ⟨s * σ, by grind, ?_, fun i j hi hj => ?_⟩, fun i c hi hc => ?_, fun j hj => ?_⟩, exD⟩
 ·show iabs _ = _
  rw [hV, dR t p ht (by omega), hab]
  have : s * σ * (σ * b.R t p) = s * (σ * σ) * b.R t p := by grind
  rw [this, hs, Int.mul_one]
 ·rw [hV]
  by_cases e : j = p
  ·subst e
   rw [put_put, dR i j hi hj, exp]
   have : s * σ * (σ * b.R i j) = s * (σ * σ) * b.R i j := by grind
   rw [this, hs, Int.mul_one]
  ·exact ex i j hi hj e
 ·have hD0 : b.D ≠ 0 := by have := g.pos; omega
  refine Int.eq_of_mul_eq_mul_left hD0 ?_
  rw [<- Vo, hV]
  have : ∀ j, j < K + 1 -> b.D * ((swp b t p).R i j * put (Vh K M b.h) p (M t) j c) = (s * b.R t p * (b.R i j * Vh K M b.h j c) + (-(s * b.R i p)) * (b.R t j * Vh K M b.h j c)) + (if j = p then b.D * (s * b.R i p) * M t c else 0) := by
   intro j hj
   by_cases e : j = p
   ·subst e
    rw [exp, YZ, if_pos rfl]
    grind
   ·rw [X7 e, if_neg e, <- Int.mul_assoc, exD i j hi (by omega) e, hab, htk]
    grind
  rw [Xs this, zaL, zaL, Vo, Vo, sum_ite (by omega), g.cr i c hi hc, g.cr t c ht hc]
  show _ = b.D * (iabs _ * _)
  rw [hab]
  grind
 ·show (if j = p then t else b.h j) < N
  split
  ·exact ht
  ·exact g.hN j hj
theorem Good.size (g : Good K N M b) {B : Nat} (hB : 1 <= B) (hM : ∀ i c, i < N -> c <= K -> (M i c).natAbs <= B) : b.D.natAbs <= fact (K + 1) * B ^ (K + 1) /\ ∀ i j, i < N -> j <= K -> (b.R i j).natAbs <= fact (K + 1) * B ^ (K + 1) := by
 obtain ⟨σ, hs, hD, hR⟩ := g.dt
 have s1 : σ.natAbs = 1 := by
  have : σ.natAbs * σ.natAbs = 1 := by rw [<- Int.natAbs_mul, hs]; rfl
  exact Nat.eq_one_of_mul_eq_one_left this
 have hV : ∀ i c, i < K + 1 -> c < K + 1 -> (Vh K M b.h i c).natAbs <= B := fun i c hi hc => by
  unfold Vh
  split
  ·rename_i hj; exact hM _ c (g.hN i hj) (by omega)
  ·unfold eK; split <;> simp <;> omega
 constructor
 ·rw [hD, Int.natAbs_mul, s1, Nat.one_mul]
  exact zbg hV
 ·intro i j hi hj
  rw [hR i j hi hj, Int.natAbs_mul, s1, Nat.one_mul]
  refine zbg fun a c ha hc => ?_
  unfold put
  split
  ·exact hM i c hi (by omega)
  ·exact hV a c ha hc
end
end Sx
namespace Sx
def idM : Mat := fun i c => if c = i then 1 else 0
theorem zb4 : ∀ n, det n idM * det n idM = 1
 | 0 => rfl
 | n + 1 => by
  have e : det (n + 1) idM = sg n * det n idM := by
   simp only [det]
   rw [V2 (k := n) (by omega) fun i hi hne => by
    have : idM i n = 0 := if_neg (fun z => hne z.symm)
    rw [this, Int.mul_zero, Int.zero_mul]]
   have h1 : idM n n = 1 := if_pos rfl
   have h2 : det n (skip n idM) = det n idM := Xv fun i c hi hc => by unfold skip; rw [if_pos hi]
   rw [h1, h2, Int.mul_one]
  have ih := zb4 n
  have hs : sg n * sg n = 1 := by rcases sg_abs n with h | h <;> rw [h] <;> rfl
  rw [e]
  have : sg n * det n idM * (sg n * det n idM) = (sg n * sg n) * (det n idM * det n idM) := by grind
  rw [this, hs, ih]; rfl
theorem zcF {n j : Nat} (hj : j < n) (x : Vec) : det n (put idM j x) = x j * det n idM := by
 have e : det n (put idM j x) = det n (put idM j fun c' => sumN n fun c => x c * idM c c') := by
  refine Xv fun i c hi hc => ?_
  unfold put
  split
  ·show x c = sumN n fun a => x a * idM a c
   rw [V2 (k := c) hc fun a ha hne => by
    have : idM a c = 0 := if_neg (fun z => hne z.symm)
    rw [this, Int.mul_zero]]
   have : idM c c = 1 := if_pos rfl
   rw [this, Int.mul_one]
  ·rfl
 rw [e, zbe _ hj, V2 (k := j) hj fun a ha hne => by
  rw [WW (k := j) (l := a) hj ha (Ne.symm hne) (fun c hc => by rw [YZ, X7 hne]), Int.mul_zero], Wy]
theorem zcD {K N : Nat} {M : Mat} {b : Bd} (hh : ∀ j, j < K -> b.h j = j) (hD : b.D = 1) (hR : ∀ i j, b.R i j = M i j) (hM : ∀ j c, j < K -> c <= K -> M j c = if c = j then 1 else 0) (hKN : K <= N) : Good K N M b := by
 have hV : ∀ i c, i < K + 1 -> c < K + 1 -> Vh K M b.h i c = idM i c := fun i c hi hc => by
  unfold Vh idM
  split
  ·rename_i h; rw [hh i h, hM i c h (by omega)]
  ·have : i = K := by omega
   rw [this]; rfl
 have dV : det (K + 1) (Vh K M b.h) = det (K + 1) idM := Xv hV
 refine ⟨by rw [hD]; decide, ⟨det (K + 1) idM, zb4 _, ?_, fun i j hi hj => ?_⟩, fun i c hi hc => ?_, fun j hj => by rw [hh j hj]; omega⟩
 ·rw [hD, dV, zb4]
 ·have e : det (K + 1) (put (Vh K M b.h) j (M i)) = det (K + 1) (put idM j (M i)) := Xv fun a c ha hc => by
   unfold put
   split
   ·rfl
   ·exact hV a c ha hc
  rw [e, zcF (by omega), hR, Int.mul_left_comm, zb4, Int.mul_one]
 ·rw [hD, Int.one_mul, V2 (k := c) (by omega) fun a ha hne => by
   rw [hV a c ha (by omega)]
   have : idM a c = 0 := if_neg (fun z => hne z.symm)
   rw [this, Int.mul_zero], hV c c (by omega) (by omega), hR]
  have : idM c c = 1 := if_pos rfl
  rw [this, Int.mul_one]
end Sx
namespace Lw
open PySem Fx
def zb5 : DS :=
  (dRet (dVar 2))
def zb6 : DS :=
  dSeq (WJ 2 [] (dVar 1) (dC (.int 1)))
  zb5
def d_unit : DS :=
  dSeq (WL 2 [] (oRep (oLst (Zd (dC (.int 0)) dNil)) (dVar 0)))
  zb6
def QR : DF := runQ 3 2 d_unit
def QT : DS :=
  (dRet (d2 fAdd (dL (YD 1 [] (Zi 0) (iSeq (d2 fIx (dVar 0) (dC (.int 0)))) tT (d1 fNeg (dVar 0)))) (dLst (Zd (d2 fIx (dVar 0) (dC (.int 1))) dNil))))
def XJ : DF := runQ 1 1 QT
def W5 : DS :=
  (dRet (dMk ["heads", "divisor", "rows"] (Zd (dL (zcu (iRng (dVar 2)))) (Zd (dC (.int 1)) (Zd (d2 fAdd (d2 fAdd (dVar 3) (dVar 4)) (dLst (Zd (d2 fAdd (dVar 1) (dLst (Zd (dC (.int 0)) dNil))) dNil))) dNil)))))
def W6 : DS :=
  dSeq (dSet 4 [] (dL (YD 1 [] (Zi 0) (iSeq (d2 fIx (dVar 0) (dC (.int 1)))) tT (Zn XJ (Zd (dVar 0) dNil)))))
  W5
def W7 : DS :=
  dSeq (dSet 3 [] (dL (YD 1 [2] (Zi 0) (iRng (dVar 2)) tT (Zn QR (Zd (d2 fAdd (dVar 1) (dC (.int 1))) (Zd (dVar 0) dNil))))))
  W6
def VV : DS :=
  dSeq (dSet 2 [] (d2 fIx (dVar 0) (dC (.int 0))))
  W7
def Y2 : DF := runQ 5 2 VV
def QS : DS :=
  (dRet (dL (zcu (iRng2 (d1 fLen (d1 (fFld "heads") (dVar 0))) (d2 fSub (d1 fLen (d1 (fFld "rows") (dVar 0))) (dC (.int 1)))))))
def YT : DF := runQ 1 1 QS
def WX : DS :=
  (dRet (dVar 6))
def WY : DS :=
  dSeq (WJ 6 [] (dVar 2) (dVar 5))
  WX
def WZ : DS :=
  dSeq (WL 6 [] (YD 2 [4, 5, 3] (Xf 0 1) (iZip (iSeq (dVar 0)) (iSeq (dVar 1))) tT (d2 fDiv (d2 fSub (d2 fMul (dVar 2) (dVar 0)) (d2 fMul (dVar 3) (dVar 1))) (dVar 4))))
  WY
def W0 : DS :=
  dSeq (dSet 5 [] (dIfE (tV (d2 fGt (d2 fIx (dVar 1) (dVar 2)) (dC (.int 0)))) (d2 fIx (dVar 0) (dVar 2)) (d1 fNeg (d2 fIx (dVar 0) (dVar 2)))))
  WZ
def VP : DS :=
  dSeq (dSet 4 [] (d1 fAbs (d2 fIx (dVar 1) (dVar 2))))
  W0
def Yx : DF := runQ 7 4 VP
def Qc : DS :=
  (dRet (dMk ["heads", "divisor", "rows"] (Zd (dVar 4) (Zd (d1 fAbs (d2 fIx (dVar 3) (dVar 2))) (Zd (dVar 5) dNil)))))
def Qd : DS :=
  dSeq (dSet 5 [] (dL (YD 1 [3, 2, 0] (Zi 0) (iSeq (d1 (fFld "rows") (dVar 0))) tT (Zn Yx (Zd (dVar 0) (Zd (dVar 1) (Zd (dVar 2) (Zd (d1 (fFld "divisor") (dVar 3)) dNil))))))))
  Qc
def Qe : DS :=
  dSeq (WJ 4 [] (dVar 2) (dVar 1))
  Qd
def Qf : DS :=
  dSeq (WL 4 [] (zdu (d1 (fFld "heads") (dVar 0))))
  Qe
def zar : DS :=
  dSeq (dSet 3 [] (d2 fIx (d1 (fFld "rows") (dVar 0)) (dVar 1)))
  Qf
def Wn : DF := runQ 6 3 zar
def Vl : DS :=
  (dRet (dC .none))
def W1 : DS :=
  dSeq (dFor (Zi 1) [] (iSeq (Zn YT (Zd (dVar 0) dNil)))
  (dIf (tV (d2 fLt (d2 fIx (d2 fIx (d1 (fFld "rows") (dVar 0)) (dVar 1)) (d1 fNeg (dC (.int 1)))) (dC (.int 0))))
  (dRet (dVar 1))
  ZO))
  Vl
def Yc : DF := runQ 2 1 W1
def QV : DS :=
  (dRet (dL (YD 1 [0] (Zi 0) (iRng (d1 fLen (d1 (fFld "heads") (dVar 0)))) tT (Zn Uo (Zd (d2 fIx (d2 fIx (d1 (fFld "rows") (dVar 1)) (dVar 0)) (d1 fNeg (dC (.int 1)))) (Zd (d1 (fFld "divisor") (dVar 1)) dNil))))))
def XL : DF := runQ 1 1 QV
end Lw
namespace Lw
open PySem Fx
structure LB where
 heads : List Nat
 D : Int
 rows : List (List Int)
abbrev eI (xs : List Int) : PyData := .list (xs.map .int)
abbrev eH (hs : List Nat) : PyData := .list (hs.map fun (h : Nat) => .int (h : Int))
def eB (b : LB) : PyData := .dict [(.str "heads", eH b.heads), (.str "divisor", .int b.D), (.str "rows", .list (b.rows.map eI))]
def LB.bd (b : LB) : Sx.Bd := ⟨fun j => b.heads.getD j 0, b.D, fun i j => (b.rows.getD i []).getD j 0⟩
@[simp] theorem bd_D (b : LB) : b.bd.D = b.D := rfl
@[simp] theorem bd_h (b : LB) (j : Nat) : b.bd.h j = b.heads.getD j 0 := rfl
theorem bd_R (b : LB) (i j : Nat) : b.bd.R i j = (b.rows.getD i []).getD j 0 := rfl
structure WFb (K m : Nat) (b : LB) : Prop where
 hl : b.heads.length = K
 rl : b.rows.length = K + m + 1
 ll : ∀ r ∈ b.rows, r.length = K + 1
 kk : K <= 1000
 mm : m <= 1000
structure Sm (b : LB) : Prop where
 d0 : b.D ≠ 0
 d : b.D.natAbs < 2 ^ 1000
 r : ∀ r ∈ b.rows, ∀ x ∈ r, x.natAbs < 2 ^ 1000
@[simp] theorem zd1 (b : LB) : fFld "heads" (eB b) = .ok (eH b.heads) := rfl
@[simp] theorem fld_div (b : LB) : fFld "divisor" (eB b) = .ok (.int b.D) := rfl
@[simp] theorem fld_rows (b : LB) : fFld "rows" (eB b) = .ok (.list (b.rows.map eI)) := rfl
@[simp] theorem scalT_eB (b : LB) : Y7 (eB b) = false := rfl
theorem at_nat {α : Type} {f : α -> PyData} {xs : List α} {i : Nat} (d : α) (h : i < xs.length) : atP (xs.map f) (i : Int) = some (f (xs.getD i d)) := by
 rw [Xn h]
 simp [List.getD_eq_getElem?_getD, h]
theorem zez {α : Type} {f : α -> PyData} {xs : List α} {k : Nat} (d : α) (h : xs.length = k + 1) : atP (xs.map f) (-1) = some (f (xs.getD k d)) := by
 unfold atP ixP
 rw [List.length_map, h]
 rw [if_neg (by omega), if_pos (by omega)]
 have e : ((-1 : Int) + ((k + 1 : Nat) : Int)).toNat = k := by omega
 rw [e]
 simp [List.getD_eq_getElem?_getD, h]
section
variable {K m : Nat} {b : LB}
theorem WFb.row (w : WFb K m b) {i : Nat} (h : i < K + m + 1) : (b.rows.getD i []).length = K + 1 := by
 have hi : i < b.rows.length := by rw [w.rl]; exact h
 have e : b.rows.getD i [] = b.rows[i] := by simp [List.getD_eq_getElem?_getD, hi]
 rw [e]
 exact w.ll _ (List.getElem_mem hi)
theorem WFb.mem (w : WFb K m b) {i : Nat} (h : i < K + m + 1) : b.rows.getD i [] ∈ b.rows := by
 have hi : i < b.rows.length := by rw [w.rl]; exact h
 have e : b.rows.getD i [] = b.rows[i] := by simp [List.getD_eq_getElem?_getD, hi]
 rw [e]
 exact List.getElem_mem hi
theorem Wz {α : Type} {xs : List α} {i : Nat} {d : α} (h : i < xs.length) : xs.getD i d ∈ xs := by
 have e : xs.getD i d = xs[i] := by simp [List.getD_eq_getElem?_getD, h]
 rw [e]
 exact List.getElem_mem h
theorem zbQ (w : WFb K m b) {i : Nat} (h : i < K + m + 1) : fIx (.list (b.rows.map eI)) (.int (i : Int)) = .ok (eI (b.rows.getD i [])) := by
 simp only [fIx]
 rw [at_nat [] (by rw [w.rl]; exact h)]
 rfl
theorem zbR {row : List Int} {j : Nat} (h : j < row.length) : fIx (eI row) (.int (j : Int)) = .ok (.int (row.getD j 0)) := by
 simp only [eI, fIx]
 rw [at_nat 0 h]
 rfl
theorem zdN {row : List Int} {k : Nat} (h : row.length = k + 1) : fIx (eI row) (.int (-1)) = .ok (.int (row.getD k 0)) := by
 simp only [eI, fIx]
 rw [zez 0 h]
 rfl
theorem zbC (w : WFb K m b) : YT [eB b] = .ok (.list (rngT K m)) := by
 have e : ((K + m + 1 : Nat) : Int) - 1 = ((K + m : Nat) : Int) := by omega
 have h1 : X3 (K : Int) = true := ZZ (by have := w.kk; omega)
 have h2 : X3 ((K + m : Nat) : Int) = true := ZZ (by have := w.kk; have := w.mm; omega)
 have e3 : (((K + m : Nat) : Int) - (K : Int)).toNat = m := by omega
 have h3 : (rngT (K : Int) m).length <= 16777216 := by rw [Wx]; have := w.mm; omega
 have e' : (K : Int) + (m : Int) + 1 - 1 = ((K + m : Nat) : Int) := by omega
 simp [YT, QS, runQ, runF, w.hl, w.rl, h1, e, e', h2, e3, h3, -Int.natCast_add]
end
def V1 (row line : List Int) (p : Nat) (D : Int) : List Int :=
 ((row.zip line).map fun q => (Sx.iabs (line.getD p 0) * q.1 - Sx.tk (line.getD p 0) (row.getD p 0) * q.2).fdiv D).set p (Sx.tk (line.getD p 0) (row.getD p 0))
theorem iabs_sz {x : Int} {n : Nat} (h : x.natAbs < 2 ^ n) : (Sx.iabs x).natAbs < 2 ^ n := by unfold Sx.iabs; split <;> omega
theorem tk_sz {x y : Int} {n : Nat} (h : y.natAbs < 2 ^ n) : (Sx.tk x y).natAbs < 2 ^ n := by unfold Sx.tk; split <;> omega
theorem Qy {row line : List Int} {p : Nat} {D : Int} {K : Nat} (hr : row.length = K + 1) (hl : line.length = K + 1) (hp : p < K) (hK : K <= 1000) (d0 : D ≠ 0) (hD : D.natAbs < 2 ^ 1000) (h1 : ∀ x ∈ row, x.natAbs < 2 ^ 1000) (h2 : ∀ x ∈ line, x.natAbs < 2 ^ 1000) :
  Yx [eI row, eI line, .int p, .int D] = .ok (eI (V1 row line p D)) := by
 have e1 : fIx (eI line) (.int (p : Int)) = .ok (.int (line.getD p 0)) := zbR (by omega)
 have e2 : fIx (eI row) (.int (p : Int)) = .ok (.int (row.getD p 0)) := zbR (by omega)
 have hdv : QJ D = true := Jw d0 hD (by omega)
 have hpv := iabs_sz (h2 _ (Wz (xs := line) (i := p) (d := 0) (by omega)))
 have htk := tk_sz (x := line.getD p 0) (h1 _ (Wz (xs := row) (i := p) (d := 0) (by omega)))
 unfold V1
 generalize line.getD p 0 = lp at *
 generalize row.getD p 0 = rp at *
 have ea : (if lp < 0 then -lp else lp) = Sx.iabs lp := rfl
 have et : (if 0 < lp then (Res.ok (PyData.int rp)) else .ok (.int (-rp))) = .ok (.int (Sx.tk lp rp)) := by unfold Sx.tk; split <;> rfl
 generalize Sx.iabs lp = pv at *
 generalize Sx.tk lp rp = tv at *
 have hlen : (zipT (row.map .int) (line.map .int)).length <= 16777216 := by
  rw [Vz]; simp; omega
 have hc : Ym (Xf 0 1) tT (d2 fDiv (d2 fSub (d2 fMul (dVar 2) (dVar 0)) (d2 fMul (dVar 3) (dVar 1))) (dVar 4)) [.emp, .emp, .val (.int pv), .val (.int tv), .val (.int D)] (zipT (row.map .int) (line.map .int))
   = .ok (((row.zip line).map fun q => (pv * q.1 - tv * q.2).fdiv D).map .int) := by
  rw [Vz, List.map_map]
  refine Z3 (fun (q : Int × Int) => PyData.tuple [.int q.1, .int q.2]) _ _ fun q hq => ?_
  have m1 := YE hpv (h1 _ (List.of_mem_zip hq).1) (by omega)
  have m2 := YE htk (h2 _ (List.of_mem_zip hq).2) (by omega)
  refine ⟨_, rfl, ?_⟩
  simp [m1, m2, hdv]
 have es : ixP (((row.zip line).map fun q => (pv * q.1 - tv * q.2).fdiv D).map PyData.int).length (p : Int) = some p := by
  unfold ixP
  rw [if_pos (by omega), if_pos (by simp; omega)]
  simp
 generalize hw : ((row.zip line).map fun q => (pv * q.1 - tv * q.2).fdiv D) = ws at *
 have es' : ixP ws.length (p : Int) = some p := by simpa using es
 simp [Yx, VP, W0, WZ, WY, WX, runQ, runF, e1, e2, ea, et, eI, hlen, hc, es', -fIx, List.map_set]
theorem zcX {row line : List Int} {p : Nat} {D : Int} {n : Nat} (hr : row.length = n) (hl : line.length = n) : (V1 row line p D).length = n := by
 simp [V1, hr, hl]
def lsw (b : LB) (t p : Nat) : LB := ⟨b.heads.set p t, Sx.iabs (b.bd.R t p), b.rows.map fun row => V1 row (b.rows.getD t []) p b.D⟩
section
variable {K m : Nat} {b : LB} {t p : Nat}
theorem lsw_wf (w : WFb K m b) (ht : t < K + m + 1) : WFb K m (lsw b t p) := by
 refine ⟨by simp [lsw, w.hl], by simp [lsw, w.rl], fun r hr => ?_, w.kk, w.mm⟩
 obtain ⟨row, hrow, rfl⟩ := List.mem_map.mp hr
 exact zcX (w.ll row hrow) (w.row ht)
theorem zcY {row line : List Int} {p j : Nat} {D : Int} {n : Nat} (hr : row.length = n) (hl : line.length = n) (hp : p < n) :
  (V1 row line p D).getD j 0 = if j = p then Sx.tk (line.getD p 0) (row.getD p 0) else (Sx.iabs (line.getD p 0) * row.getD j 0 - Sx.tk (line.getD p 0) (row.getD p 0) * line.getD j 0).fdiv D := by
 unfold V1
 rw [List.getD_eq_getElem?_getD, List.getElem?_set]
 by_cases e : j = p
 ·subst e
  simp [hr, hl, hp]
 ·rw [if_neg (Ne.symm e), if_neg e]
  by_cases hj : j < n
  ·have ez : (row.zip line)[j]? = some (row.getD j 0, line.getD j 0) := by
    rw [List.getElem?_zip_eq_some]
    constructor
    ·rw [List.getElem?_eq_getElem (by omega)]; simp [List.getD_eq_getElem?_getD, List.getElem?_eq_getElem (show j < row.length by omega)]
    ·rw [List.getElem?_eq_getElem (by omega)]; simp [List.getD_eq_getElem?_getD, List.getElem?_eq_getElem (show j < line.length by omega)]
   rw [List.getElem?_map, ez]
   rfl
  ·have ez : (row.zip line)[j]? = none := by rw [List.getElem?_eq_none_iff]; simp [hr, hl]; omega
   have e1 : row.getD j 0 = 0 := by rw [List.getD_eq_getElem?_getD, List.getElem?_eq_none_iff.mpr (by omega)]; rfl
   have e2 : line.getD j 0 = 0 := by rw [List.getD_eq_getElem?_getD, List.getElem?_eq_none_iff.mpr (by omega)]; rfl
   rw [List.getElem?_map, ez, e1, e2]
   simp
theorem bd_lsw (w : WFb K m b) (ht : t < K + m + 1) (hp : p < K) : (lsw b t p).bd = Sx.swp b.bd t p := by
 unfold LB.bd Sx.swp
 congr 1
 ·funext j
  show (b.heads.set p t).getD j 0 = if j = p then t else b.heads.getD j 0
  rw [List.getD_eq_getElem?_getD, List.getElem?_set]
  by_cases e : j = p
  ·subst e; simp [w.hl, hp]
  ·rw [if_neg (Ne.symm e), if_neg e, List.getD_eq_getElem?_getD]
 ·funext i j
  show ((b.rows.map fun row => V1 row (b.rows.getD t []) p b.D).getD i []).getD j 0 = Sx.swR b.bd t p i j
  by_cases hi : i < K + m + 1
  ·have e : (b.rows.map fun row => V1 row (b.rows.getD t []) p b.D).getD i [] = V1 (b.rows.getD i []) (b.rows.getD t []) p b.D := by
    have hi' : i < b.rows.length := by rw [w.rl]; exact hi
    simp [List.getD_eq_getElem?_getD, hi']
   rw [e, zcY (w.row hi) (w.row ht) (by omega)]
   rfl
  ·have e : (b.rows.map fun row => V1 row (b.rows.getD t []) p b.D).getD i [] = [] := by
    have hi' : ¬ i < b.rows.length := by rw [w.rl]; exact hi
    simp [List.getD_eq_getElem?_getD, hi']
   have e2 : ∀ j, b.bd.R i j = 0 := fun j => by
    have hi' : ¬ i < b.rows.length := by rw [w.rl]; exact hi
    simp [bd_R, List.getD_eq_getElem?_getD, hi']
   rw [e]
   unfold Sx.swR
   rw [e2, e2]
   have t0 : Sx.tk (b.bd.R t p) 0 = 0 := by unfold Sx.tk; split <;> rfl
   rw [t0]
   simp
theorem zcl (w : WFb K m b) (s : Sm b) (ht : t < K + m + 1) (hp : p < K) : Wn [eB b, .int t, .int p] = .ok (eB (lsw b t p)) := by
 have hr := zbQ w ht
 have hlen : b.rows.length <= 16777216 := by rw [w.rl]; have := w.kk; have := w.mm; omega
 have hc : Ym (Zi 0) tT (Zn Yx (Zd (dVar 0) (Zd (dVar 1) (Zd (dVar 2) (Zd (d1 (fFld "divisor") (dVar 3)) dNil))))) [.emp, .val (eI (b.rows.getD t [])), .val (.int p), .val (eB b)] (b.rows.map eI) = .ok (b.rows.map fun row => eI (V1 row (b.rows.getD t []) p b.D)) := by
  refine Z3 eI _ _ fun row hrow => ⟨_, rfl, ?_⟩
  have := Qy (w.ll row hrow) (w.row ht) hp w.kk s.d0 s.d (s.r row hrow) (s.r _ (w.mem ht))
  simp [this, -List.getD_eq_getElem?_getD]
 have hp2 : ixP b.heads.length (p : Int) = some p := by
  unfold ixP
  rw [if_pos (by omega), if_pos (by rw [w.hl]; omega)]
  simp
 have e1 : fIx (eI (b.rows.getD t [])) (.int (p : Int)) = .ok (.int (b.bd.R t p)) := zbR (by rw [w.row ht]; omega)
 have ea : (if b.bd.R t p < 0 then -b.bd.R t p else b.bd.R t p) = Sx.iabs (b.bd.R t p) := rfl
 generalize hline : b.rows.getD t [] = line at *
 generalize hR : b.bd.R t p = rtp at *
 have el : lsw b t p = ⟨b.heads.set p t, Sx.iabs rtp, b.rows.map fun row => V1 row line p b.D⟩ := by unfold lsw; rw [hline, hR]
 rw [el]
 simp [Wn, zar, Qf, Qe, Qd, Qc, runQ, runF, hr, hc, hp2, e1, ea, hlen, -fIx, zipK]
 simp [eB, List.map_set, Function.comp_def]
theorem VH (lo : Int) (n : Nat) : rngT lo (n + 1) = .int lo :: rngT (lo + 1) n := by
 unfold rngT
 rw [List.range_succ_eq_map]
 simp only [List.map_cons, List.map_map, Int.natCast_zero, Int.add_zero]
 congr 1
 refine List.map_congr_left fun k _ => ?_
 simp only [Function.comp]
 congr 1
 omega
theorem search {st : PyData -> List Sl -> Res (List Sl)} {b : DS} {P : Nat -> Bool} (Inv : List Sl -> Prop) : ∀ (n lo : Nat) (G : List Sl), Inv G ->
  (∀ t G', lo <= t -> t < lo + n -> Inv G' -> ∃ G1 G2, st (.int (t : Int)) G' = .ok G1 /\ b G1 = (if P t = true then .ok (.rt (.int (t : Int))) else .ok (.nx G2)) /\ Inv G2) ->
  (∃ t, lo <= t /\ t < lo + n /\ P t = true /\ (∀ t', lo <= t' -> t' < t -> P t' = false) /\ forL st b (rngT (lo : Int) n) G = .ok (.rt (.int (t : Int)))) \/
  ((∀ t, lo <= t -> t < lo + n -> P t = false) /\ ∃ G', Inv G' /\ forL st b (rngT (lo : Int) n) G = .ok (.nx G'))
 | 0, lo, G, hG, h => .inr ⟨fun t h1 h2 => by omega, G, hG, by simp [rngT, forL]⟩
 | n + 1, lo, G, hG, h => by
  obtain ⟨G1, G2, e1, e2, h2⟩ := h lo G (Nat.le_refl _) (by omega) hG
  rw [VH]
  have ec : (lo : Int) + 1 = ((lo + 1 : Nat) : Int) := by omega
  rw [ec]
  unfold forL
  rw [e1, Res.bind_ok, e2]
  cases hp : P lo with
  | true => exact .inl ⟨lo, Nat.le_refl _, by omega, hp, fun t' a b => by omega, by simp⟩
  | false =>
   simp only [Bool.false_eq_true, if_false, Res.bind_ok]
   rcases search Inv n (lo + 1) G2 h2 (fun t G' a b c => h t G' (by omega) (by omega) c) with ⟨t, a1, a2, a3, a4, a5⟩ | ⟨a1, G', a2, a3⟩
   ·refine .inl ⟨t, by omega, by omega, a3, fun t' b1 b2 => ?_, a5⟩
    by_cases z : t' = lo
    ·rw [z]; exact hp
    ·exact a4 t' (by omega) b2
   ·refine .inr ⟨fun t b1 b2 => ?_, G', a2, a3⟩
    by_cases z : t = lo
    ·rw [z]; exact hp
    ·exact a1 t (by omega) (by omega)
theorem zbd (i j : Int) : fNe (.int i) (.int j) = .ok (.bool (!decide (i = j))) := by simp [fNe]
theorem short_ok (w : WFb K m b) : (∃ t, K <= t /\ t < K + m /\ b.bd.R t K < 0 /\ (∀ i, K <= i -> i < t -> 0 <= b.bd.R i K) /\ Yc [eB b] = .ok (.int t)) \/ ((∀ t, K <= t -> t < K + m -> 0 <= b.bd.R t K) /\ Yc [eB b] = .ok .none) := by
 have hrm := zbC w
 have hs := search (st := Zi 1) (b := (dIf (tV (d2 fLt (d2 fIx (d2 fIx (d1 (fFld "rows") (dVar 0)) (dVar 1)) (d1 fNeg (dC (.int 1)))) (dC (.int 0)))) (dRet (dVar 1)) ZO)) (P := fun t => decide (b.bd.R t K < 0))
  (fun G => ∃ s, G = [.val (eB b), s]) m K [.val (eB b), .emp] ⟨_, rfl⟩ fun t G' h1 h2 ⟨s, hG⟩ => by
   subst hG
   have e1 := zbQ w (i := t) (by omega)
   have e2 : fIx (eI (b.rows.getD t [])) (.int (-1)) = .ok (.int (b.bd.R t K)) := zdN (w.row (by omega))
   refine ⟨_, [.val (eB b), .val (.int t)], rfl, ?_, ⟨_, rfl⟩⟩
   generalize b.bd.R t K = r at *
   by_cases hz : r < 0 <;> simp [e1, e2, hz, -fIx, -List.getD_eq_getElem?_getD]
 rcases hs with ⟨t, a1, a2, a3, a4, a5⟩ | ⟨a1, G', ⟨s, hG⟩, a3⟩
 ·refine .inl ⟨t, a1, a2, by simpa using a3, fun i h1 h2 => by have := a4 i h1 h2; simp at this; omega, ?_⟩
  simp [Yc, W1, runQ, runF, hrm, a5, -fIx, -dIf]
 ·refine .inr ⟨fun t h1 h2 => by have := a1 t h1 h2; simp at this; omega, ?_⟩
  simp [Yc, W1, Vl, runQ, runF, hrm, a3, -fIx, -dIf]
end
end Lw
namespace Lw
open PySem Fx
def JJ (n i : Nat) : List Int := (List.replicate n 0).set i 1
def JW (l : Lim) : List Int := l.1.map (fun x => -x) ++ [l.2]
def WK (K : Nat) (ls : List Lim) (goal : List Int) : List (List Int) := (List.range K).map (fun i => JJ (K + 1) i) ++ ls.map JW ++ [goal ++ [0]]
def lb0 (K : Nat) (ls : List Lim) (goal : List Int) : LB := ⟨List.range K, 1, WK K ls goal⟩
theorem unit_ok {n i : Nat} (h : i < n) (hn : n <= 1001) : QR [.int n, .int i] = .ok (eI (JJ n i)) := by
 have h1 : X3 (n : Int) = true := ZZ (by omega)
 have h2 : ixP n (i : Int) = some i := by
  unfold ixP
  rw [if_pos (by omega), if_pos (by omega)]
  simp
 have h3 : n <= 16777216 := by omega
 have e : (List.replicate n [PyData.int 0]).flatten = (List.replicate n (0 : Int)).map .int := by
  rw [List.map_replicate]
  clear h h1 h2 h3 hn
  induction n with
  | zero => rfl
  | succ n ih => rw [List.replicate_succ, List.flatten_cons, ih, List.replicate_succ]; rfl
 simp [QR, d_unit, zb6, zb5, runQ, runF, h1, h3, e, h2, JJ, List.map_set]
theorem zaR {l : Lim} {k : Nat} (h : l.1.length = k) (hk : k <= 1000) : XJ [limT l] = .ok (eI (JW l)) := by
 have hc : Ym (Zi 0) tT (d1 fNeg (dVar 0)) [.emp] (l.1.map .int) = .ok ((l.1.map fun x => -x).map .int) := by
  rw [List.map_map]
  exact Z3 PyData.int _ _ fun x _ => ⟨_, rfl, rfl⟩
 have hl : l.1.length <= 16777216 := by omega
 have hl2 : l.1.length + 1 <= 16777216 := by omega
 simp [XJ, QT, runQ, runF, limT, at0, at1, hc, hl, hl2, JW]
theorem QI {K m : Nat} {ls : List Lim} {goal : List Int} (hK : K <= 1000) (hm : ls.length = m) (hm2 : m <= 1000) (hw : ∀ l ∈ ls, l.1.length = K) (hg : goal.length = K) : Y2 [.tuple [.int K, .tuple (ls.map limT)], eI goal] = .ok (eB (lb0 K ls goal)) := by
 have h1 : X3 (K : Int) = true := ZZ (by omega)
 have h2 : (rngT 0 K).length <= 16777216 := by rw [Wx]; omega
 have c1 : Ym (Zi 0) tT (Zn QR (Zd (d2 fAdd (dVar 1) (dC (.int 1))) (Zd (dVar 0) dNil))) [.emp, .val (.int K)] (rngT 0 K) = .ok ((List.range K).map fun i => eI (JJ (K + 1) i)) := by
  rw [VI]
  refine Z3 (fun (k : Nat) => PyData.int (k : Int)) _ _ fun i hi => ⟨_, rfl, ?_⟩
  have := unit_ok (n := K + 1) (i := i) (by have := List.mem_range.mp hi; omega) (by omega)
  have e : ((K + 1 : Nat) : Int) = (K : Int) + 1 := by omega
  rw [e] at this
  simp [this]
 have c2 : Ym (Zi 0) tT (Zn XJ (Zd (dVar 0) dNil)) [.emp] (ls.map limT) = .ok (ls.map fun l => eI (JW l)) := by
  refine Z3 limT _ _ fun l hl => ⟨_, rfl, ?_⟩
  simp [zaR (hw l hl) hK]
 have h3 : ls.length <= 16777216 := by omega
 have h4 : K + ls.length <= 16777216 := by omega
 have h5 : K + ls.length + 1 <= 16777216 := by omega
 have h6 : goal.length + 1 <= 16777216 := by omega
 simp [Y2, VV, W7, W6, W5, runQ, runF, at0, at1, h1, h2, c1, c2, h3, h4, h5, h6, zipK]
 simp [eB, lb0, WK, VI, Function.comp_def]
section
variable {K m : Nat} {ls : List Lim} {goal : List Int}
theorem zc8 (hm : ls.length = m) : (WK K ls goal).length = K + m + 1 := by simp [WK, hm]; omega
theorem lb0_wf (hK : K <= 1000) (hm : ls.length = m) (hm2 : m <= 1000) (hw : ∀ l ∈ ls, l.1.length = K) (hg : goal.length = K) : WFb K m (lb0 K ls goal) := by
 refine ⟨by simp [lb0], zc8 hm, fun r hr => ?_, hK, hm2⟩
 have hr' : r ∈ WK K ls goal := hr
 unfold WK at hr'
 rcases List.mem_append.mp hr' with h | h
 ·rcases List.mem_append.mp h with h | h
  ·obtain ⟨i, _, rfl⟩ := List.mem_map.mp h
   simp [JJ]
  ·obtain ⟨l, hl, rfl⟩ := List.mem_map.mp h
   simp [JW, hw l hl]
 ·rw [List.mem_singleton.mp h]
  simp [hg]
theorem zc9 {i : Nat} (hi : i < K) : (WK K ls goal).getD i [] = JJ (K + 1) i := by
 unfold WK
 rw [List.getD_eq_getElem?_getD, List.append_assoc, List.getElem?_append_left (by simpa using hi)]
 simp [hi]
theorem zbB {i : Nat} (hi : i < ls.length) : (WK K ls goal).getD (K + i) [] = JW (ls.getD i ([], 0)) := by
 unfold WK
 rw [List.getD_eq_getElem?_getD, List.append_assoc, List.getElem?_append_right (by simp)]
 simp [hi, List.getD_eq_getElem?_getD, List.getElem?_append_left]
theorem JV : (WK K ls goal).getD (K + ls.length) [] = goal ++ [0] := by
 unfold WK
 rw [List.getD_eq_getElem?_getD, List.getElem?_append_right (by simp)]
 simp
def M0 (K : Nat) (ls : List Lim) (goal : List Int) : Sx.Mat := (lb0 K ls goal).bd.R
theorem zbO (hm : ls.length = m) : Sx.Good K (K + m + 1) (M0 K ls goal) (lb0 K ls goal).bd := by
 refine Sx.zcD (fun j hj => ?_) rfl (fun _ _ => rfl) (fun j c hj hc => ?_) (by omega)
 ·show (List.range K).getD j 0 = j
  simp [hj]
 ·show ((WK K ls goal).getD j []).getD c 0 = _
  rw [zc9 hj]
  unfold JJ
  rw [List.getD_eq_getElem?_getD, List.getElem?_set]
  by_cases e : c = j
  ·subst e; rw [if_pos rfl, if_pos (by simp; omega), if_pos rfl]; rfl
  ·rw [if_neg (Ne.symm e), if_neg e, List.getElem?_replicate]
   split <;> rfl
end
structure Bo (K m : Nat) (M : Sx.Mat) (b : LB) : Prop where
 wf : WFb K m b
 g : Sx.Good K (K + m + 1) M b.bd
 hw : ∀ j, j < K -> b.bd.h j < K + m
structure Mz (K m : Nat) (M : Sx.Mat) (B : Nat) : Prop where
 b1 : 1 <= B
 le : ∀ i c, i < K + m + 1 -> c <= K -> (M i c).natAbs <= B
 z : Sx.fact (K + 1) * B ^ (K + 1) < 2 ^ 1000
section
variable {K m B : Nat} {M : Sx.Mat} {b : LB} {t p : Nat}
theorem Bo.sm (o : Bo K m M b) (z : Mz K m M B) : Sm b := by
 obtain ⟨h1, h2⟩ := o.g.size z.b1 z.le
 refine ⟨by have : 0 < b.D := o.g.pos; omega, Nat.lt_of_le_of_lt h1 z.z, fun r hr x hx => ?_⟩
 obtain ⟨i, hi, rfl⟩ := List.getElem_of_mem hr
 obtain ⟨j, hj, rfl⟩ := List.getElem_of_mem hx
 rw [o.wf.rl] at hi
 have hj' := hj
 rw [o.wf.ll _ (List.getElem_mem _)] at hj'
 have := h2 i j hi (by omega)
 have e : b.bd.R i j = b.rows[i][j] := by
  rw [bd_R]
  have e1 : b.rows.getD i [] = b.rows[i] := by simp [List.getD_eq_getElem?_getD, show i < b.rows.length by rw [o.wf.rl]; exact hi]
  rw [e1]
  simp [List.getD_eq_getElem?_getD, hj]
 rw [e] at this
 exact Nat.lt_of_le_of_lt this z.z
theorem Bo.swap (o : Bo K m M b) (ht : K <= t) (ht2 : t < K + m) (hp : p < K) (hne : b.bd.R t p ≠ 0) : Bo K m M (lsw b t p) := by
 refine ⟨lsw_wf o.wf (by omega), ?_, fun j hj => ?_⟩
 ·rw [bd_lsw o.wf (by omega) hp]
  exact (o.g.swap (by omega) hp hne).1
 ·rw [bd_lsw o.wf (by omega) hp]
  show (if j = p then t else b.bd.h j) < K + m
  split
  ·exact ht2
  ·exact o.hw j hj
end
end Lw
namespace Lw
open PySem Fx
theorem div_add {a b D : Int} (h : D ≠ 0) : Rat.divInt a D + Rat.divInt b D = Rat.divInt (a + b) D := by
 simp only [Rat.divInt_eq_div]
 have : (D : Rat) ≠ 0 := by exact_mod_cast h
 grind
theorem div_mul {a b D : Int} : (a : Rat) * Rat.divInt b D = Rat.divInt (a * b) D := by
 simp only [Rat.divInt_eq_div, Rat.intCast_mul]
 grind
theorem div_le {a b D : Int} (h : 0 < D) (hh : a <= b * D) : Rat.divInt a D <= (b : Rat) := by
 rw [Rat.le_iff_sub_nonneg]
 have e : (b : Rat) - Rat.divInt a D = Rat.divInt (b * D - a) D := by
  simp only [Rat.divInt_eq_div, Rat.intCast_mul, Rat.intCast_sub]
  have : (D : Rat) ≠ 0 := by exact_mod_cast (show D ≠ 0 by omega)
  grind
 rw [e]
 exact (Rat.divInt_nonneg_iff_of_pos_right h).mpr (by omega)
theorem JK : ∀ (n : Nat) (f : Nat -> Int), Sx.sumN (n + 1) f = f 0 + Sx.sumN n (fun i => f (i + 1))
 | 0, f => by simp [Sx.sumN]
 | n + 1, f => by
  have := JK n f
  simp only [Sx.sumN] at this ⊢
  omega
theorem zeb {α : Type} (d : α) (f : α -> Int) {D : Int} (hD : D ≠ 0) : ∀ (ls : List α) (g : Nat -> Int), dot (ls.map f) ((List.range ls.length).map fun i => Rat.divInt (g i) D) = Rat.divInt (Sx.sumN ls.length fun i => f (ls.getD i d) * g i) D
 | [], g => by simp [dot, Sx.sumN]
 | l :: ls, g => by
  have ih := zeb d f hD ls (fun i => g (i + 1))
  rw [List.length_cons, List.range_succ_eq_map, List.map_cons, List.map_cons, List.map_map, JK]
  simp only [dot]
  have e : ((List.range ls.length).map ((fun i => Rat.divInt (g i) D) ∘ Nat.succ)) = (List.range ls.length).map fun i => Rat.divInt (g (i + 1)) D := rfl
  rw [e, ih, div_mul, div_add hD]
  rfl
theorem Zt {α : Type} {xs : List α} {n : Nat} {d : α} (h : n < xs.length) : xs[n] = xs.getD n d := by simp [List.getD_eq_getElem?_getD, h]
def pt (K : Nat) (b : LB) : List Rat := (List.range K).map fun i => Rat.divInt (b.bd.R i K) b.D
section
variable {K m B : Nat} {M : Sx.Mat} {b : LB} {t : Nat}
theorem zaU (o : Bo K m M b) (s : Sm b) : XL [eB b] = .ok (.list ((pt K b).map fr)) := by
 have h1 : X3 (K : Int) = true := ZZ (by have := o.wf.kk; omega)
 have h2 : (rngT 0 K).length <= 16777216 := by rw [Wx]; have := o.wf.kk; omega
 have hc : Ym (Zi 0) tT (Zn Uo (Zd (d2 fIx (d2 fIx (d1 (fFld "rows") (dVar 1)) (dVar 0)) (d1 fNeg (dC (.int 1)))) (Zd (d1 (fFld "divisor") (dVar 1)) dNil))) [.emp, .val (eB b)] (rngT 0 K) = .ok ((List.range K).map fun i => fr (Rat.divInt (b.bd.R i K) b.D)) := by
  rw [VI]
  refine Z3 (fun (k : Nat) => PyData.int (k : Int)) _ _ fun i hi => ⟨_, rfl, ?_⟩
  have hi' := List.mem_range.mp hi
  have e1 := zbQ o.wf (i := i) (by omega)
  have e2 : fIx (eI (b.rows.getD i [])) (.int (-1)) = .ok (.int (b.bd.R i K)) := zdN (o.wf.row (by omega))
  have e3 := zdY (u := b.bd.R i K) s.d0 s.d (by omega)
  generalize b.bd.R i K = r at *
  simp [e1, e2, e3, -fIx, -List.getD_eq_getElem?_getD]
 simp [XL, QV, runQ, runF, o.wf.hl, h1, h2, hc, pt]
end
end Lw
namespace Lw
open PySem Fx
section
variable {K m : Nat} {ls : List Lim} {goal : List Int}
theorem JE (hw : ∀ l ∈ ls, l.1.length = K) {i c : Nat} (hi : i < ls.length) (hc : c < K) : M0 K ls goal (K + i) c = -(colN c (ls.getD i ([], 0))) := by
 show ((WK K ls goal).getD (K + i) []).getD c 0 = _
 rw [zbB hi]
 have hl := hw _ (Wz (xs := ls) (d := ([], 0)) hi)
 generalize ls.getD i ([], 0) = l at *
 unfold JW colN
 rw [List.getD_eq_getElem?_getD, List.getElem?_append_left (by simpa [hl] using hc), List.getElem?_map, List.getD_eq_getElem?_getD, List.getElem?_eq_getElem (by omega)]
 rfl
theorem JF (hw : ∀ l ∈ ls, l.1.length = K) {i : Nat} (hi : i < ls.length) : M0 K ls goal (K + i) K = (ls.getD i ([], 0)).2 := by
 show ((WK K ls goal).getD (K + i) []).getD K 0 = _
 rw [zbB hi]
 have hl := hw _ (Wz (xs := ls) (d := ([], 0)) hi)
 generalize ls.getD i ([], 0) = l at *
 unfold JW
 rw [List.getD_eq_getElem?_getD, List.getElem?_append_right (by simp [hl])]
 simp [hl]
theorem M0_goal (hm : ls.length = m) (hg : goal.length = K) {c : Nat} (hc : c < K) : M0 K ls goal (K + m) c = goal.getD c 0 := by
 show ((WK K ls goal).getD (K + m) []).getD c 0 = _
 rw [<- hm, JV, List.getD_eq_getElem?_getD, List.getElem?_append_left (by omega), List.getD_eq_getElem?_getD]
theorem M0_goalK (hm : ls.length = m) (hg : goal.length = K) : M0 K ls goal (K + m) K = 0 := by
 show ((WK K ls goal).getD (K + m) []).getD K 0 = _
 rw [<- hm, JV, List.getD_eq_getElem?_getD, List.getElem?_append_right (by omega)]
 simp [hg]
theorem M0_amt {i c : Nat} (hi : i < K) (hc : c <= K) : M0 K ls goal i c = if c = i then 1 else 0 := by
 show ((WK K ls goal).getD i []).getD c 0 = _
 rw [zc9 hi]
 unfold JJ
 rw [List.getD_eq_getElem?_getD, List.getElem?_set]
 by_cases e : c = i
 ·subst e; rw [if_pos rfl, if_pos (by simp; omega), if_pos rfl]; rfl
 ·rw [if_neg (Ne.symm e), if_neg e, List.getElem?_replicate]
  split <;> rfl
theorem Mz.of {B : Nat} (hb : 1 <= B) (hm : ls.length = m) (hw : ∀ l ∈ ls, l.1.length = K) (hg : goal.length = K) (h1 : ∀ l ∈ ls, (∀ x ∈ l.1, x.natAbs <= B) /\ l.2.natAbs <= B) (h2 : ∀ x ∈ goal, x.natAbs <= B) (hz : Sx.fact (K + 1) * B ^ (K + 1) < 2 ^ 1000) : Mz K m (M0 K ls goal) B := by
 refine ⟨hb, fun i c hi hc => ?_, hz⟩
 rcases (show i < K \/ (K <= i /\ i < K + m) \/ i = K + m by omega) with h | h | h
 ·rw [M0_amt h hc]; split <;> simp <;> omega
 ·obtain ⟨j, rfl⟩ : ∃ j, i = K + j := ⟨i - K, by omega⟩
  have hj : j < ls.length := by omega
  have hmem := Wz (xs := ls) (d := ([], 0)) hj
  by_cases e : c = K
  ·subst e; rw [JF hw hj]; exact (h1 _ hmem).2
  ·rw [JE hw hj (by omega), Int.natAbs_neg]
   exact (h1 _ hmem).1 _ (Wz (by rw [hw _ hmem]; omega))
 ·subst h
  by_cases e : c = K
  ·subst e; rw [M0_goalK hm hg]; simp
  ·rw [M0_goal hm hg (by omega)]
   exact h2 _ (Wz (by omega))
end
section
variable {K m B : Nat} {ls : List Lim} {goal : List Int} {b : LB} {t : Nat}
theorem Bo.lin (o : Bo K m (M0 K ls goal) b) (hm : ls.length = m) {i q : Nat} (hi : i < K + m + 1) (hq : q <= K) : b.bd.R i q = Sx.sumN K (fun c => M0 K ls goal i c * b.bd.R c q) + M0 K ls goal i K * (if q = K then b.D else 0) := by
 have e := o.g.two (zbO (K := K) (ls := ls) (goal := goal) hm) hi hq
 have e1 : (lb0 K ls goal).bd.D = 1 := rfl
 rw [e1, Int.one_mul] at e
 rw [e]
 congr 1
 refine Sx.Xs fun c hc => ?_
 have e2 : (lb0 K ls goal).bd.h c = c := by show (List.range K).getD c 0 = c; simp [hc]
 rw [e2]; rfl
theorem Bo.room (o : Bo K m (M0 K ls goal) b) (hm : ls.length = m) (hw : ∀ l ∈ ls, l.1.length = K) {i q : Nat} (hi : i < m) (hq : q <= K) :
  Sx.sumN K (fun c => colN c (ls.getD i ([], 0)) * b.bd.R c q) = (if q = K then (ls.getD i ([], 0)).2 * b.D else 0) - b.bd.R (K + i) q := by
 rw [o.lin hm (i := K + i) (by omega) hq, JF hw (by omega)]
 have e : Sx.sumN K (fun c => M0 K ls goal (K + i) c * b.bd.R c q) = Sx.sumN K (fun c => (-1) * (colN c (ls.getD i ([], 0)) * b.bd.R c q)) := Sx.Xs fun c hc => by
  rw [JE hw (by omega) hc]; grind
 rw [e, Sx.Vo]
 by_cases h : q = K
 ·rw [if_pos h, if_pos h]; omega
 ·rw [if_neg h, if_neg h]; omega
theorem dot_pt {ws : List Int} (hl : ws.length = K) (hD : b.D ≠ 0) : dot ws (pt K b) = Rat.divInt (Sx.sumN K fun c => ws.getD c 0 * b.bd.R c K) b.D := by
 have := zeb (0 : Int) (fun x => x) hD ws (fun i => b.bd.R i K)
 rw [hl, List.map_id''] at this
 ·exact this
 ·intro x; rfl
end
end Lw
namespace Lw
open PySem Fx
structure DK (K m B n0 : Nat) (ls : List Lim) : Prop where
 k : K <= 1000
 m1 : m <= 1000
 len : ls.length = m
 w : ∀ l ∈ ls, l.1.length = K
 b1 : 1 <= B
 sz : ∀ l ∈ ls, (∀ x ∈ l.1, x.natAbs <= B) /\ l.2.natAbs <= B
 z : Sx.fact (K + 1) * B ^ (K + 1) < 2 ^ n0
 n : n0 <= 1000
 fu : (K + m + 1) ^ K < 1000000000000
abbrev Qa (K : Nat) (ls : List Lim) : PyData := .tuple [.int K, .tuple (ls.map limT)]
structure SzB (K m n0 : Nat) (b : LB) : Prop where
 d : b.D.natAbs < 2 ^ n0
 r : ∀ i j, i < K + m + 1 -> j <= K -> (b.bd.R i j).natAbs < 2 ^ n0
section
variable {K m B n0 : Nat} {ls : List Lim} {goal : List Int} {b : LB} {t : Nat}
theorem DK.mz (d : DK K m B n0 ls) (hg : goal.length = K) (h2 : ∀ x ∈ goal, x.natAbs <= B) : Mz K m (M0 K ls goal) B :=
 .of d.b1 d.len d.w hg d.sz h2 (Nat.lt_of_lt_of_le d.z (JY d.n))
theorem DK.szb (d : DK K m B n0 ls) (hg : goal.length = K) (h2 : ∀ x ∈ goal, x.natAbs <= B) (o : Bo K m (M0 K ls goal) b) : SzB K m n0 b := by
 obtain ⟨h1, h3⟩ := o.g.size d.b1 (d.mz hg h2).le
 exact ⟨Nat.lt_of_le_of_lt h1 d.z, fun i j hi hj => Nat.lt_of_le_of_lt (h3 i j hi hj) d.z⟩
theorem DK.bo0 (d : DK K m B n0 ls) (hg : goal.length = K) : Bo K m (M0 K ls goal) (lb0 K ls goal) := by
 refine ⟨lb0_wf d.k d.len d.m1 d.w hg, zbO d.len, fun j hj => ?_⟩
 show (List.range K).getD j 0 < K + m
 simp [hj]; omega
theorem pt_sz (o : SzB K m n0 b) (s : Sm b) : ∀ q ∈ pt K b, Sz n0 q := fun q hq => by
 obtain ⟨i, hi, rfl⟩ := List.mem_map.mp hq
 exact U7 s.d0 (o.r i K (by have := List.mem_range.mp hi; omega) (Nat.le_refl _)) o.d
end
end Lw
namespace Lw
open PySem Fx
theorem at20 (x y : PyData) : atP [x, y] 0 = some x := rfl
theorem at3a (x y z : PyData) : atP [x, y, z] 0 = some x := rfl
theorem at3b (x y z : PyData) : atP [x, y, z] 1 = some y := rfl
theorem at3c (x y z : PyData) : atP [x, y, z] 2 = some z := rfl
end Lw
namespace Fx
open PySem
def dHs : List ((Str -> Bool) × (Str -> Bool) × DS) -> Str -> DS
 | [], _ => fun _ => .stuck
 | (y, n, h) :: r, c => fun G => if y c then noX (h G) else if n c then dHs r c G else .stuck
@[simp] theorem dHs_cons (y n : Str -> Bool) (h : DS) (r : List ((Str -> Bool) × (Str -> Bool) × DS)) (c : Str) (G : List Sl) : dHs ((y, n, h) :: r) c G = if y c then noX (h G) else if n c then dHs r c G else .stuck := rfl
end Fx
namespace Fx
open PySem
@[simp] def extOwn (i : Nat) (G' : List Sl) (ts : List PyData) : Res Out :=
 match G'[i]? with
 | some (.own xs) => if xs.length + ts.length <= 16777216 then .ok (.nx (G'.set i (.own (xs ++ ts)))) else .stuck
 | _ => .stuck
@[simp] def dExt (i : Nat) (e : DA) : DS := fun G => if QH G i then (e G).bind fun ts => extOwn i G ts else .stuck
def maxL : Int -> List PyData -> Res PyData
 | m, [] => .ok (.int m)
 | m, .int i :: r => maxL (if m < i then i else m) r
 | _, _ => .stuck
@[simp] def maxD (n : Int) : PyData -> Res PyData
 | .list [] => .ok (.int n)
 | .list (.int i :: r) => maxL i r
 | _ => .stuck
end Fx
namespace L2
open PySem PySem.Spec PyProof.Rows
section
variable {κ : Type} [DecidableEq κ]
def valV (kvs : List (κ × V)) (k : κ) : Option V := (kvs.find? fun kv => decide (kv.1 = k)).map (·.2)
theorem valV_nil {k : κ} : valV ([] : List (κ × V)) k = none := rfl
end
end L2
namespace Fx
open PySem PySem.Spec PyProof.Rows L2
theorem star_tup {xs es : List Expr} {k : Nat} {pos : Pos} {env : Env} : starEach (.Tuple xs k pos :: es) env = (false, eval (.Tuple xs k pos) env) :: starEach es env := rfl
theorem star_lst {xs es : List Expr} {pos : Pos} {env : Env} : starEach (.List xs pos :: es) env = (false, eval (.List xs pos) env) :: starEach es env := rfl
end Fx
namespace Fx
open PySem PySem.Spec PyProof.Rows L2
section
variable {X : Cx} {W : Str -> Hp -> Prop} {fl : Bool} {tg a e : Expr} {da : DE} {pos : Pos} {i : Nat} {x : Str}
theorem ss_ext {o : DA} {p1 p2 p3 : Pos} (hi : X.N[i]? = some x) (he : OV X W e o) (hv : Vis X.env.scope x := by first | exact Or.inl rfl | exact Or.inr (Or.inl rfl) | exact Or.inr (Or.inr rfl)) (hd : (x == ("__debug__" : Str)) = false := by decide)
  (hcd : (x == ("__classdict__" : Str)) = false := by decide) (hsw : swapsWith (.Call (.Attribute (.Name x p1) "extend" p2) [e] [] p3) none pos.line X.env = pure false := by rfl)
  (hbase : attributeBase (.Name x p1) "extend" X.env (eval (.Name x p1) X.env) = eval (.Name x p1) X.env := by rfl)
  (hfew : ((backTo p3 (starEach [e] X.env)).all (fun x => !x.1) && (backToKw p3 (keywordEach [] X.env)).all (fun x => x.1.isSome)
   && decide (([e] : List Expr).length + ([] : List Keyword).length + (if ([] : List Keyword).isEmpty then 0 else 1) < 30)) = true := by rfl)
  (hline : (p2.endLine == p3.line) = true := by rfl) (hs : starEach [e] X.env = (false, eval e X.env) :: starEach [] X.env := by rfl) :
  SV X W fl (.Expr (.Call (.Attribute (.Name x p1) "extend" p2) [e] [] p3) pos) (dExt i o) :=
 XQ (zdi (pe_bm PySem.F.plainAttrs_list PySem.F.slot_list_extend PySem.F.type_list_extend zdy (Uj hi hv hd hcd) (Z0 he Y0 hs) hbase hfew hline hs rfl) hsw) fun D σ H ⟨G, P, h, q⟩ => by
  unfold dExt at q
  split at q
  ·rename_i ho
   obtain ⟨xs0, e0⟩ := Jr ho
   obtain ⟨p, vs, ev, ep, eh, rs⟩ := h.sl i _ e0
   refine ⟨.ref p, getD_some ev, .inl ⟨rfl, vs, SqL.of eh⟩, G, P, h, ?_⟩
   cases eo : o G with
   | stuck => rw [eo] at q; exact q.elim
   | exc c => rw [eo] at q; exact fun H' s => q H' P (.same s)
   | ok ts =>
    rw [eo, Res.bind_ok] at q
    intro b us H1 s1 hb hl rb
    unfold extOwn at q
    rw [e0] at q
    simp only at q
    split at q
    ·rename_i hz
     have h1 := h.same s1
     obtain ⟨p', vs', ev', ep', eh', rs'⟩ := h1.sl i _ e0
     rw [ev] at ev'
     cases ev'
     have l1 := rs'.length
     have l2 := rb.length
     obtain ⟨h4, g4⟩ := h1.upOwn e0 ep' (rs'.append (Rls.go .fbd ts us rb))
     exact ⟨p, b, vs', us, rfl, rfl, eh', hl, by rw [sizeLine_eq]; omega, q σ _ P ((Go.same s1).trans g4) h4⟩
    ·exact q.elim
  ·exact q.elim
end
end Fx
namespace Fx
open PySem PySem.Spec PyProof.Rows L2
def mxI : Int -> List Int -> Int
 | m, [] => m
 | m, i :: r => mxI (if m < i then i else m) r
theorem zdB : ∀ {xs : List PyData} {m : Int} {t : PyData}, maxL m xs = .ok t -> ∃ ks : List Int, xs = ks.map .int /\ t = .int (mxI m ks)
 | [], m, t, h => by cases h; exact ⟨[], rfl, rfl⟩
 | x :: xs, m, t, h => by
  cases x <;> try (cases h; done)
  rename_i i
  obtain ⟨ks, rfl, rfl⟩ := zdB (xs := xs) (m := if m < i then i else m) h
  exact ⟨i :: ks, rfl, rfl⟩
theorem zbM : ∀ {xs : List PyData} {m : Int} {c : Str}, maxL m xs ≠ .exc c
 | [], m, c => by intro h; cases h
 | x :: xs, m, c => by
  cases x <;> try (intro h; cases h; done)
  exact zbM (xs := xs)
theorem max_args (a d : Value) : argsOk "max" ⟨[a], [(Str.ofString "default", d)]⟩ := by unfold argsOk; kernel_rfl
section
variable {X : Cx} {pins : List (Addr × Obj)} {σ : L2.St} {H : Hp} {l I S : Addr} {R : Result -> Shared -> Prop} {ks : List Int} {dv : Value}
theorem int_gt {A : Around} {s : Shared} {Q : Value -> Shared -> Prop} {E : Value -> Shared -> Prop} {a b : Int} {t u : Tok} (q : Q (.bool (decide (b < a))) s) : wpAny (model X.prog X.w) A (richCompare .Gt (.int a t) (.int b u)) Q E s :=
 CmpOf.ints_gt (prog := X.prog) (w := X.w) (A := A) (P := fun i v => ∃ t, v = .int (if i = 0 then a else b) t) (fun i => if i = 0 then a else b) (fun i v h => h) 0 1 _ _ _ _ _ ⟨t, rfl⟩ ⟨u, rfl⟩ q
theorem max_loop (hh : X.A.handled = none) (hlI : l ≠ I) (hSI : S ≠ I) (mS : Mine X pins S) (mI : Mine X pins I) (nS : H S = none) (nI : H I = none) (hl : SqL X.K H l (ks.map V.int)) :
  ∀ (r j : Nat) (s : Shared) (m : Int) (tb : Tok) (c : Nat), ks.length - (j + 1) = r -> j + 1 <= ks.length -> Inv X pins σ H s -> s.heap.get? S = some (seqObj "list" #[.int m tb, .int m tb] c) -> s.heap.IsListIter I l (j + 1) ->
   (∀ t s', Inv X pins σ H s' -> R (.ok (.ret (.int (mxI m (ks.drop (j + 1))) t))) s') -> codeAny (model X.prog X.w) X.A (.builtin "max.loop" ⟨[.ref I, .none, .ref S], [(Str.ofString "default", dv)]⟩) R s := by
 have nm : (toString "max" ++ toString ".loop" : String) = "max.loop" := by decide
 intro r
 induction r with
 | zero =>
  intro j s m tb c hr hj J eS hit fin
  obtain ⟨its, rv, pl, hz⟩ := J.list hl
  have hlen := rv.length
  rw [List.length_map] at hlen
  have W := Walks.list (prog := X.prog) (w := X.w) (A := X.A.in1) hh I l hlI its.toArray
  have hsz : its.toArray.size = j + 1 := by rw [List.size_toArray]; omega
  refine codeAny_builtin PySem.F.entry_max_loop ?_; rw [Around.under_plainId PySem.F.plain_max_loop _]
  show wpAny _ X.A.in1 (seqItems? (.ref S) >>= _) _ _ _; refine wpAny_bind (wpAny_seqItems eS rfl ?_)
  show wpAny _ X.A.in1 (tryCatch (pyNext (.ref I)) _ >>= _) _ _ _
  refine wpAny_bind (wpAny_tryCatch (W.done _ _ _ ⟨by rw [hsz]; exact hit, Jf pl⟩ fun h' tk' hk' => ?_))
  have J1 : Inv X pins σ H { s with heap := h', toks := tk' } := Fx.Inv.turn1 J mI nI fun b o hb e => hk' b o (by simpa using hb) e
  have hS' := hk' S _ (by simpa using hSI) eS
  have s1 := Heap.SameBut.update h' S (Obj.mapSeq fun _ => (#[] : Array Value))
  show wpAny _ X.A.in1 (updateSeq S (fun _ => #[]) >>= _) _ _ _; refine wpAny_bind ?_
  refine wpAny_updateSeq hS' rfl (wpAny_bind (wpAny_letGo (wpAny_pure ?_)))
  have e0 : ks.drop (j + 1) = [] := List.drop_eq_nil_of_le (by omega)
  rw [e0] at fin
  exact fin tb _ (Fx.Inv.turn1 J1 mS nS fun b o hb e => (s1.2 b hb).trans e)
 | succ r ih =>
  intro j s m tb c hr hj J eS hit fin
  have hlt : j + 1 < ks.length := by omega
  obtain ⟨its, rv, pl, hz⟩ := J.list hl
  have hlen := rv.length
  rw [List.length_map] at hlen
  have W := Walks.list (prog := X.prog) (w := X.w) (A := X.A.in1) hh I l hlI its.toArray
  have hsz : its.toArray.size = its.length := List.size_toArray ..
  refine codeAny_builtin PySem.F.entry_max_loop ?_; rw [Around.under_plainId PySem.F.plain_max_loop _]
  show wpAny _ X.A.in1 (seqItems? (.ref S) >>= _) _ _ _; refine wpAny_bind (wpAny_seqItems eS rfl ?_)
  show wpAny _ X.A.in1 (tryCatch (pyNext (.ref I)) _ >>= _) _ _ _
  refine wpAny_bind (wpAny_tryCatch (W.item (j + 1) _ _ _ (by rw [hsz, <- hlen]; exact hlt) ⟨hit, Jf pl⟩ fun u h' tk' hP hst' hk' => ?_))
  have hu : its[j + 1]? = some u := by simpa using hP
  have J1 : Inv X pins σ H { s with heap := h', toks := tk' } := Fx.Inv.turn1 J mI nI fun b o hb e => hk' b o (by simpa using hb) e
  have hS' := hk' S _ (by simpa using hSI) eS
  obtain ⟨u', hu', ru⟩ := rv.get (show (ks.map V.int)[j + 1]? = some (.int ks[j + 1]) by simp [hlt])
  rw [hu] at hu'
  cases hu'
  obtain ⟨t2, rfl⟩ := (show ∃ t, u = .int ks[j + 1] t from ru)
  have ed : ks.drop (j + 1) = ks[j + 1] :: ks.drop (j + 1 + 1) := List.drop_eq_getElem_cons hlt
  rw [ed] at fin
  generalize ks[j + 1] = kk at *
  show wpAny _ X.A.in1 (tryCatch (holding [_, _] (richCompare .Gt (.int kk t2) (.int m tb) >>= _)) _ >>= _) _ _ _
  refine wpAny_bind (wpAny_tryCatch (wpAny_holding (wpAny_bind (int_gt ?_))))
  refine wpAny_bind (wpAny_holding (wpAny_truthy_bool ?_)); refine wpAny_bind (wpAny_letGo (wpAny_pure ?_))
  by_cases hb' : m < kk
  ·have s1 := Heap.SameBut.update h' S (Obj.mapSeq fun _ => #[.int kk t2, .int kk t2])
   obtain ⟨c2, hc2⟩ : ∃ c2, (h'.update S (Obj.mapSeq fun _ => #[.int kk t2, .int kk t2])).get? S = some (seqObj "list" #[.int kk t2, .int kk t2] c2) := ⟨_, get?_update_seq hS' fun _ => #[.int kk t2, .int kk t2]⟩
   simp only [hb', decide_true, if_true]; refine wpAny_bind ?_
   refine wpAny_updateSeq hS' rfl (wpAny_bind (wpAny_letGo ?_)); rw [nm]
   have J4 := Fx.Inv.turn1 (t' := tk') J1 mS nS fun b o hb e => (s1.2 b hb).trans e
   obtain ⟨oI, hoI, hoc, hod⟩ := id hst'.1
   refine wpAny_pure ⟨plainId_quiet PySem.F.plain_max_loop _, ih (j + 1) _ kk t2 c2 (by omega) hlt J4 hc2 ⟨oI, (s1.2 I hSI.symm).trans hoI, hoc, hod⟩ fun t s' J' => ?_⟩
   have := fin t s' J'
   simp only [mxI, if_pos hb'] at this
   exact this
  ·simp only [hb', decide_false, Bool.false_eq_true, if_false]; refine wpAny_bind (wpAny_letGo ?_); rw [nm]
   refine wpAny_pure ⟨plainId_quiet PySem.F.plain_max_loop _, ih (j + 1) _ m tb c (by omega) hlt J1 hS' hst'.1 fun t s' J' => ?_⟩
   have := fin t s' J'
   simp only [mxI, if_neg hb'] at this
   exact this
theorem zax {s : Shared} {Q : Value -> Shared -> Prop} {E : Value -> Shared -> Prop} (hh : X.A.handled = none) (J : Inv X pins σ H s) (hl : SqL X.K H l (ks.map V.int)) (fin0 : ks = [] -> ∀ s', Inv X pins σ H s' -> Q dv s')
  (fin : ∀ k r, ks = k :: r -> ∀ t s', Inv X pins σ H s' -> Q (.int (mxI k r) t) s') : wpAny (model X.prog X.w) X.A (call (.builtin "max") [.ref l] [(Str.ofString "default", dv)]) Q E s := by
 have nm : (toString "max" ++ toString ".loop" : String) = "max.loop" := by decide
 obtain ⟨its, rv, pl, hz⟩ := J.list hl
 have hls := Jf pl
 have hlen := rv.length
 rw [List.length_map] at hlen
 obtain ⟨ol, hol, hol2⟩ := id hls
 have hll : l < s.heap.objs.size := Heap.lt_size hol
 refine kmk_tree PySem.F.kind_max PySem.F.plain_max PySem.F.entry_max (max_args _ _) ?_
 show wpAny _ X.A.in1 (Builtin.Builtins.bindParams "max" ["key", "default"] 0 ⟨[], [(Str.ofString "default", dv)]⟩ >>= _) _ _ s
 refine wpAny_bind (wpAny_of_eq (show Builtin.Builtins.bindParams "max" ["key", "default"] 0 ⟨[], [(Str.ofString "default", dv)]⟩ = pure [none, some dv] from rfl) ?_)
 refine wpAny_bind (wpAny_pure ?_); refine wpAny_bind (wpAny_pyIter_list hls ?_); refine wpAny_bind (wpAny_newList ?_ (Nat.zero_le _)); rw [nm]
 have hS : (s.heap.push { cls := .type "list_iterator", data := .fields #[.ref l, .int 0 0] }).objs.size = s.heap.objs.size + 1 := size_push' ..
 have hlI : l ≠ s.heap.objs.size := Nat.ne_of_lt hll
 have nI : H s.heap.objs.size = none := J.hok.fresh (Nat.le_refl _)
 have nS : H (s.heap.push { cls := .type "list_iterator", data := .fields #[.ref l, .int 0 0] }).objs.size = none := J.hok.fresh (by rw [hS]; exact Nat.le_succ _)
 have mI : Mine X pins s.heap.objs.size := .of (J.fpOk (Nat.le_refl _) nI)
 have mS : Mine X pins (s.heap.push { cls := .type "list_iterator", data := .fields #[.ref l, .int 0 0] }).objs.size := .of (J.fpOk (by rw [hS]; exact Nat.le_succ _) nS)
 have hSI : (s.heap.push { cls := .type "list_iterator", data := .fields #[.ref l, .int 0 0] }).objs.size ≠ s.heap.objs.size := by rw [hS]; exact Nat.ne_of_gt (Nat.lt_succ_self _)
 refine wpAny_pure ⟨plainId_quiet PySem.F.plain_max_loop _, ?_⟩
 have kpH : ∀ b o, s.heap.get? b = some o -> ((s.heap.push { cls := .type "list_iterator", data := .fields #[.ref l, .int 0 0] }).push (seqObj "list" #[] 0)).get? b = some o := fun b o e => Heap.get?_push_of_some _ (Heap.get?_push_of_some _ e)
 have gI : ((s.heap.push { cls := .type "list_iterator", data := .fields #[.ref l, .int 0 0] }).push (seqObj "list" #[] 0)).get? s.heap.objs.size = some { cls := .type "list_iterator", data := .fields #[.ref l, .int 0 0] } := Heap.get?_push_of_some _ (Heap.get?_push_size _ rfl)
 have gS : ((s.heap.push { cls := .type "list_iterator", data := .fields #[.ref l, .int 0 0] }).push (seqObj "list" #[] 0)).get? (s.heap.push { cls := .type "list_iterator", data := .fields #[.ref l, .int 0 0] }).objs.size = some (seqObj "list" #[] 0) := Heap.get?_push_size _ rfl
 have W := Walks.list (prog := X.prog) (w := X.w) (A := X.A.in1) hh s.heap.objs.size l hlI its.toArray
 have hsz : its.toArray.size = its.length := List.size_toArray ..
 have JH : Inv X pins σ H { s with heap := (s.heap.push { cls := .type "list_iterator", data := .fields #[.ref l, .int 0 0] }).push (seqObj "list" #[] 0) } := J.kept (t' := s.toks) kpH
 have hlsH : ((s.heap.push { cls := .type "list_iterator", data := .fields #[.ref l, .int 0 0] }).push (seqObj "list" #[] 0)).IsList l its.toArray := ⟨ol, kpH _ _ hol, hol2⟩
 generalize hSS : (s.heap.push { cls := .type "list_iterator", data := .fields #[.ref l, .int 0 0] }).objs.size = S at *
 refine codeAny_builtin PySem.F.entry_max_loop ?_; rw [Around.under_plainId PySem.F.plain_max_loop _]
 show wpAny _ X.A.in1 (seqItems? (.ref _) >>= _) _ _ _; refine wpAny_bind (wpAny_seqItems gS rfl ?_)
 show wpAny _ X.A.in1 (tryCatch (pyNext (.ref s.heap.objs.size)) _ >>= _) _ _ _
 cases ks with
 | nil =>
  refine wpAny_bind (wpAny_tryCatch (W.done _ _ _ ⟨by rw [hsz, <- hlen]; exact ⟨_, gI, rfl, rfl⟩, hlsH⟩ fun h' tk' hk' => ?_))
  have J1 : Inv X pins σ H { s with heap := h', toks := tk' } := Fx.Inv.turn1 (s := { s with heap := (s.heap.push { cls := .type "list_iterator", data := .fields #[.ref l, .int 0 0] }).push (seqObj "list" #[] 0) }) JH mI nI fun b o hb e => hk' b o (by simpa using hb) e
  exact wpAny_bind (wpAny_rule (wpAny_pure (fin0 rfl _ J1)))
 | cons k r =>
  refine wpAny_bind (wpAny_tryCatch (W.item 0 _ _ _ (by rw [hsz, <- hlen]; simp) ⟨⟨_, gI, rfl, rfl⟩, hlsH⟩ fun u h' tk' hP hst' hk' => ?_))
  have hu : its[0]? = some u := by simpa using hP
  have J1 : Inv X pins σ H { s with heap := h', toks := tk' } := Fx.Inv.turn1 (s := { s with heap := (s.heap.push { cls := .type "list_iterator", data := .fields #[.ref l, .int 0 0] }).push (seqObj "list" #[] 0) }) JH mI nI fun b o hb e => hk' b o (by simpa using hb) e
  have hS' := hk' _ _ (by simpa using hSI) gS
  obtain ⟨u', hu', ru⟩ := rv.get (show ((k :: r).map V.int)[0]? = some (.int k) from rfl)
  rw [hu] at hu'
  cases hu'
  obtain ⟨t2, rfl⟩ := (show ∃ t, u = .int k t from ru)
  have s1 := Heap.SameBut.update h' S (Obj.mapSeq fun _ => #[.int k t2, .int k t2])
  obtain ⟨c2, hc2⟩ : ∃ c2, (h'.update S (Obj.mapSeq fun _ => #[.int k t2, .int k t2])).get? S = some (seqObj "list" #[.int k t2, .int k t2] c2) := ⟨_, get?_update_seq hS' fun _ => #[.int k t2, .int k t2]⟩
  show wpAny _ X.A.in1 (updateSeq S (fun _ => #[.int k t2, .int k t2]) >>= _) _ _ _; refine wpAny_bind ?_
  refine wpAny_updateSeq hS' rfl ?_; rw [nm]
  have J4 := Fx.Inv.turn1 (t' := tk') J1 mS nS fun b o hb e => (s1.2 b hb).trans e
  obtain ⟨oI, hoI, hoc, hod⟩ := id hst'.1
  refine wpAny_pure ⟨plainId_quiet PySem.F.plain_max_loop _, max_loop hh hlI hSI mS mI nS nI hl _ 0 _ k t2 c2 rfl (by simp) J4 hc2 ⟨oI, (s1.2 _ hSI.symm).trans hoI, hoc, hod⟩ fun t s' J' => ?_⟩
  exact fin k r rfl t s' J'
end
section
variable {X : Cx} {W : Str -> Hp -> Prop} {a : Expr} {da : DE} {pos : Pos}
theorem QM {K : PySem.W.Frag} {H : Hp} {P : Pv} : ∀ {ns : List Int} {vs : List V}, Rls K H P (ns.map .int) vs -> vs = ns.map V.int
 | [], vs, r => ZG.mp r
 | n :: ns, vs, r => by
  obtain ⟨v, r', rfl, a, c⟩ := Zr.mp r
  rw [QM c, Zx.mp a]; rfl
theorem ev_maxD {n : Int} {ed : Expr} {p kp : Pos} (hr : X.A.handled = none) (hg : Gl X "max") (hm : X.mg "max" = none) (ha : EV X W a da) (hd : EV X W ed (dC (.int n))) (hs : starEach [a] X.env = (false, eval a X.env) :: starEach [] X.env := by rfl) :
  EV X W (.Call (.Name "max" p) [a] [⟨some "default", ed, kp⟩] pos) (d1 (maxD n) da) := by
 intro pins s σ H Q I ⟨G, P, h, q⟩
 unfold d1 at q
 obtain ⟨q1, q2, q3⟩ := Vy q
 refine wpAny_Call_Name_kw (U0 I hg hm (show bootBuiltins "max" = some (.builtin "max") by decide +kernel) ?_)
 refine callWith_kw (thn (Z0 ha Y0 hs pos pins s σ H (fun vs H1 => ∃ tx v, vs = [v] /\ da G = .ok tx /\ Same H H1 /\ Hol X.K H1 P σ G /\ Rl X.K H1 P tx v) I (ZD h q1 q2 fun tx v H1 ex s1 h1 rx => ⟨tx, v, rfl, ex, s1, h1, rx⟩)) fun us s1 ⟨vs, H1, I1, r1, tx, v, ev, ex, sm1, h1, rx⟩ => ?_) (by rw [hs]; rfl) (by rw [hs]; rfl)
 subst ev
 obtain ⟨u1, rfl, ru⟩ := Qx r1
 refine thn ((pk_cons hd pk_nil) pos pins s1 σ H1 (fun zs H2 => ∃ v, zs = [v] /\ v = .int n /\ Same H1 H2) I1 ⟨G, P, h1, fun v H2 s2 r2 => ⟨v, rfl, Zx.mp r2, s2⟩⟩) fun ws s2 ⟨zs, H2, I2, r2, v2, ez, ev2, sm2⟩ => ?_
 subst ez ev2
 obtain ⟨w2, rfl, rw2⟩ := Qx r2
 obtain ⟨tn, rfl⟩ := (show ∃ t, w2 = .int n t from rw2)
 show wpAny _ _ (call (.builtin "max") [u1] [(Str.ofString "default", .int n tn)]) _ _ _
 have q4 := q3 tx ex
 cases tx <;> try exact q4.elim
 rename_i ts
 obtain ⟨l, vs, rfl, sl, rs⟩ := ZR.mp rx
 cases ru
 have sl2 := sl.go (.same sm2)
 have rs2 := Rls.go (.same sm2) ts vs rs
 cases ts with
 | nil =>
  have e0 := ZG.mp rs2
  subst e0
  refine zax (ks := []) hr I2 sl2.sq (fun _ s' J => ?_) (fun k r z => by cases z)
  exact ⟨.int n, H2, J, ⟨tn, rfl⟩, q4 _ H2 (sm1.trans sm2) (Zx.mpr rfl)⟩
 | cons y ts =>
  cases y <;> try exact q4.elim
  rename_i k
  have q5 : YA X.K W H P (maxL k ts) Q := q4
  cases em : maxL k ts with
  | stuck => rw [em] at q5; exact q5.elim
  | exc c => exact absurd em zbM
  | ok t =>
   rw [em] at q5
   obtain ⟨ks, rfl, rfl⟩ := zdB em
   have e0 : vs = (k :: ks).map V.int := QM (ns := k :: ks) rs2
   subst e0
   refine zax (ks := k :: ks) hr I2 sl2.sq (fun z => by cases z) (fun k' r' z t s' J => ?_)
   cases z
   exact ⟨.int (mxI k ks), H2, J, ⟨t, rfl⟩, q5 _ H2 (sm1.trans sm2) (Zx.mpr rfl)⟩
end
end Fx
namespace Fx
open PySem PySem.Spec PyProof.Rows L2
def fNin : PyData -> PyData -> Res PyData
 | x, .list xs => if ZY x && ZY (.list xs) then .ok (.bool (!xs.any fun y => y.eqv x)) else .stuck
 | _, _ => .stuck
theorem fNin_b : ∀ x y, (∃ k, fNin x y = .ok (.bool k)) \/ fNin x y = .stuck := by
 intro x y
 unfold fNin
 split
 ·split
  ·exact .inl ⟨_, rfl⟩
  ·exact .inr rfl
 ·exact .inr rfl
def rNin (K : PySem.W.Frag) (k : Bool -> Bool) : R2 := fun x y H Q => ∃ P tx xs, Rl K H P tx x /\ Rl K H P (.list xs) y /\ ZY tx = true /\ ZY (.list xs) = true /\ Q (.bl (k (xs.any fun t => t.eqv tx))) H
variable {X : Cx} {W : Str -> Hp -> Prop}
theorem zcm {xs : List PyData} (h : ZY (.list xs) = true) : PyData.depthAll xs <= 63 := by
 unfold ZY at h
 rw [Bool.and_eq_true] at h
 have h2 := of_decide_eq_true h.2
 unfold PyData.depth at h2
 omega
theorem zdq (hu : X.A.units + 64 < cLine) : OpR X (compareOp .NotIn) (rNin X.K fun k => !k) /\ Fop X W (rNin X.K fun k => !k) fNin :=
 ⟨by
  intro pins s σ H x y v u Q I rx ry h
  obtain ⟨P, tx, xs, hx, hy, sx, sy, q⟩ := h
  obtain ⟨as, ra⟩ := Rl.reads I tx x v (YM sx) hx rx
  obtain ⟨bs, rb⟩ := Rl.reads I (.list xs) y u (YM sy) hy ry
  have := zcm sy
  exact SeqAt.notIn_list_reads rb ra (by simpa [PyData.canLay0] using YM sy) (YM sx) (by have := Nat.min_le_left (PyData.depthAll xs) tx.depth; omega) ⟨.bl _, H, I, rfl, q⟩,
 fun H P σ G x y tx ty Q h rx ry q => by
  unfold fNin at q
  split at q
  ·split at q
   ·rename_i hc
    rw [Bool.and_eq_true] at hc
    exact ⟨P, _, _, rx, ry, hc.1, hc.2, ZH q⟩
   ·exact q.elim
  ·exact q.elim⟩
end Fx
namespace K12
open PySem Fx Lw
def V0 : List Sl -> Nat := fun _ => 1000
def Yn : List Sl -> Nat := fun _ => 1000
def Xm : DS :=
  (dRet (dC .none))
def Wt : DS :=
  dSeq (dFor (Xf 3 4) [] (iEnum (iSeq (d1 (fFld "heads") (dVar 0))))
  (dIf (tAnd (tV (d2 fLt (dVar 4) (dVar 2))) (tV (d2 fNe (d2 fIx (d2 fIx (d1 (fFld "rows") (dVar 0)) (dVar 1)) (dVar 3)) (dC (.int 0)))))
  (dRet (dVar 3))
  ZO))
  Xm
def X1 : DS :=
  dSeq (dSet 2 [] (d1 fLen (d1 (fFld "heads") (dVar 0))))
  Wt
def ZN : DF := runQ 5 2 X1
def Xj : DS :=
  (dRetO 2)
def Wq : DS :=
  dSeq (dFor (Zi 3) [] (iSeq (Zn YT (Zd (dVar 0) dNil)))
  (dSeq (dSet 4 [] (Zn ZN (Zd (dVar 0) (Zd (dVar 3) dNil))))
  (dIf (tAnd (tV (d2 fGt (dVar 3) (dVar 1))) (tV (d1 U5 (dVar 4))))
  (dApp 2 [] (Zn Wn (Zd (dVar 0) (Zd (dVar 3) (Zd (dVar 4) dNil)))))
  ZO)))
  Xj
def Xk : DS :=
  dSeq (WL 2 [] (oLst dNil))
  Wq
def XT : DS :=
  dSeq (dSet 1 [] (d1 (maxD (-1)) (dL (YD 1 [0] (Zi 0) (iSeq (d1 (fFld "heads") (dVar 0))) (tV (d2 fGe (dVar 0) (d1 fLen (d1 (fFld "heads") (dVar 1))))) (dVar 0)))))
  Xk
def Yb : DF := runQ 5 1 XT
def YL : DS :=
  (dRet (dVar 1))
def X0 : DS :=
  dSeq (dFor (Zi 2) [] (iRng (d2 fIx (dVar 0) (dC (.int 0))))
  (dSeq (WL 3 [] (oLst dNil))
  (dSeq (dFor (Zi 4) [] (iSeq (dVar 1))
  (dExt 3 (za4 Yb (Zd (dVar 4) dNil))))
  (dSet 1 [3] (dVar 3)))))
  YL
def Ws : DS :=
  dSeq (dSet 1 [] (dLst (Zd (Zn Y2 (Zd (dVar 0) (Zd (dL (oRep (oLst (Zd (dC (.int 0)) dNil)) (d2 fIx (dVar 0) (dC (.int 0))))) dNil))) dNil)))
  X0
def ZX : DF := runQ 5 1 Ws
def Xy : DS :=
  (dRet (dC (.bool false)))
def Vn : DS :=
  dSeq (dFor (Xf 2 3) [] (iZip (iSeq (dVar 0)) (iSeq (dVar 1)))
  (dIf (tV (d2 fNe (dVar 2) (dVar 3)))
  (dRet (Zn V8 (Zd (dVar 2) (Zd (dVar 3) dNil))))
  ZO))
  Xy
def Z7 : DF := runQ 4 2 Vn
def Ua : DS :=
  (dRet (d2 fAdd (d2 fAdd (dL (oCut (dVar 0) pNo (pAt (dVar 2)))) (dLst (Zd (dVar 1) dNil))) (dL (oCut (dVar 0) (pAt (dVar 2)) pNo))))
def Xl : DS :=
  dSeq (dIf (tAnd (tV (d2 fLt (dVar 2) (d1 fLen (dVar 0)))) (tV (d2 fEq (d2 fIx (dVar 0) (dVar 2)) (dVar 1))))
  (dRet (dVar 0))
  ZO)
  Ua
def QU : DS :=
  dSeq (X2 V0 (tAnd (tV (d2 fLt (dVar 2) (d1 fLen (dVar 0)))) (tV (Zn Z7 (Zd (d2 fIx (dVar 0) (dVar 2)) (Zd (dVar 1) dNil)))))
  (dSet 2 [] (d2 fAdd (dVar 2) (dC (.int 1)))))
  Xl
def zb7 : DS :=
  dSeq (dSet 2 [] (dC (.int 0)))
  QU
def X9 : DF := runQ 3 2 zb7
def Vx : DS :=
  (dRet (dVar 1))
def Qs : DS :=
  dSeq (dFor (Zi 2) [] (iSeq (Zn ZX (Zd (dVar 0) dNil)))
  (dIf (tV (d1 fIsN (Zn Yc (Zd (dVar 2) dNil))))
  (dSet 1 [] (Zn X9 (Zd (dVar 1) (Zd (Zn XL (Zd (dVar 2) dNil)) dNil))))
  ZO))
  Vx
def Qt : DS :=
  dSeq (dSet 1 [] (dLst dNil))
  Qs
def zau : DS :=
  dSeq (dIf (tOr (tV (d2 fGt (d2 fIx (dVar 0) (dC (.int 0))) (dC (.int 3)))) (tV (d2 fGt (d1 fLen (d2 fIx (dVar 0) (dC (.int 1)))) (dC (.int 12)))))
  dNev
  ZO)
  Qt
def WV : DF := runQ 3 1 zau
def WC : DS :=
  (dRetO 3)
def VT : DS :=
  dSeq (dFor (Zi 4) [] (iRng (d1 fLen (dVar 0)))
  (dSeq (dSet 5 [] (d2 fIx (dVar 0) (dVar 4)))
  (dSeq (dIf (tAnd (tV (d2 fNe (dVar 4) (dVar 1))) (tV (d2 fNe (d2 fIx (dVar 5) (dVar 2)) (dC (.int 0)))))
  (dSet 5 [] (dL (YD 2 [0, 1, 2, 5] (Xf 0 1) (iZip (iSeq (dVar 5)) (iSeq (d2 fIx (dVar 0) (dVar 1)))) tT (d2 fSub (d2 fMul (dVar 0) (d2 fIx (d2 fIx (dVar 2) (dVar 3)) (dVar 4))) (d2 fMul (dVar 1) (d2 fIx (dVar 5) (dVar 4)))))))
  ZO)
  (dApp 3 [] (dVar 5)))))
  WC
def Qk : DS :=
  dSeq (WL 3 [] (oLst dNil))
  VT
def YI : DF := runQ 6 3 Qk
def XU : DS :=
  (dRet (dL (YD 1 [2, 1] (Zi 0) (iRng (dVar 1)) tT (Zn YU (Zd (d2 fIx (d2 fIx (dVar 1) (dVar 0)) (dVar 2)) (Zd (d2 fIx (d2 fIx (dVar 1) (dVar 0)) (dVar 0)) dNil))))))
def XV : DS :=
  dSeq (dFor (Zi 3) [] (iRng (dVar 1))
  (dSeq (dSet 4 [] (dVar 3))
  (dSeq (X2 Yn (tAnd (tV (d2 fLt (dVar 4) (dVar 1))) (tV (d2 fEq (d2 fIx (dIxN 2 (dVar 4)) (dVar 3)) (dC (.int 0)))))
  (dSet 4 [] (d2 fAdd (dVar 4) (dC (.int 1)))))
  (dSeq (dIf (tV (d2 fEq (dVar 4) (dVar 1)))
  (dRet (dC .none))
  ZO)
  (dSeq (dSet 5 [] (dIxN 2 (dVar 4)))
  (dSeq (WJ 2 [] (dVar 4) (dIxN 2 (dVar 3)))
  (dSeq (WJ 2 [] (dVar 3) (dVar 5))
  (WL 2 [2] (za4 YI (Zd (dVar 2) (Zd (dVar 3) (Zd (dVar 3) dNil))))))))))))
  XU
def VS : DS :=
  dSeq (WL 2 [] (YD 1 [] (Zi 0) (iSeq (dVar 0)) tT (d2 fAdd (d2 fIx (dVar 0) (dC (.int 0))) (dLst (Zd (d2 fIx (dVar 0) (dC (.int 1))) dNil)))))
  XV
def Ye : DF := runQ 6 2 VS
def XY : DS :=
  (dRet (dVar 2))
def W4 : DS :=
  dSeq (dFor (Zi 3) [] (iRng (dVar 1))
  (dSeq (WL 4 [] (oLst dNil))
  (dSeq (dFor (Zi 5) [] (iSeq (dVar 2))
  (dFor (Zi 6) [] (iRng (dVar 0))
  (dIf (tOr (tV (d2 fEq (dVar 5) (dLst dNil))) (tV (d2 fGt (dVar 6) (d2 fIx (dVar 5) (d1 fNeg (dC (.int 1)))))))
  (dApp 4 [] (d2 fAdd (dVar 5) (dLst (Zd (dVar 6) dNil))))
  ZO)))
  (dSet 2 [4] (dVar 4)))))
  XY
def VU : DS :=
  dSeq (dSet 2 [] (dLst (Zd (dLst dNil) dNil)))
  W4
def Yz : DF := runQ 7 2 VU
def WD : DS :=
  (dRet (dC (.bool false)))
def Qo : DS :=
  dSeq (dFor (Zi 2) [] (iRng (d1 fLen (dVar 0)))
  (dIf (tV (d2 fNe (d2 fIx (dVar 0) (dVar 2)) (d2 fIx (dVar 1) (dVar 2))))
  (dRet (Zn Yo (Zd (d2 fIx (dVar 0) (dVar 2)) (Zd (d2 fIx (dVar 1) (dVar 2)) dNil))))
  ZO))
  WD
def YJ : DF := runQ 3 2 Qo
def zbi : DS :=
  (dRet (d2 fEq (d1 fLen (dVar 4)) (dLenN 5)))
def zbj : DS :=
  dSeq (dFor (Zi 8) [] (iRng (d1 fLen (dVar 4)))
  (dSeq (dIf (tOr (tNot (tV (Zn Z6 (Zd (d2 fIx (dVar 4) (dVar 8)) (Zd (dVar 2) dNil))))) (tV (d2 fNin (d2 fIx (dVar 4) (dVar 8)) (dVar 5))))
  (dRet (dC (.bool false)))
  ZO)
  (dIf (tAnd (tV (d2 fGt (dVar 8) (dC (.int 0)))) (tNot (tV (Zn YJ (Zd (d2 fIx (dVar 4) (d2 fSub (dVar 8) (dC (.int 1)))) (Zd (d2 fIx (dVar 4) (dVar 8)) dNil))))))
  (dRet (dC (.bool false)))
  ZO)))
  zbi
def zee : DS :=
  dSeq (dFor (Zi 6) [] (iSeq (Zn Yz (Zd (d1 fLen (dVar 3)) (Zd (dVar 2) dNil))))
  (dSeq (dSet 7 [] (Zn Ye (Zd (dL (YD 1 [3] (Zi 0) (iSeq (dVar 6)) tT (d2 fIx (dVar 1) (dVar 0)))) (Zd (dVar 2) dNil))))
  (dIf (tAnd (tV (d1 U5 (dVar 7))) (tAnd (tV (Zn YH (Zd (dVar 3) (Zd (dVar 7) dNil)))) (tV (d2 fNin (dVar 7) (dVar 5)))))
  (dApp 5 [] (dVar 7))
  ZO)))
  zbj
def zef : DS :=
  dSeq (WL 5 [] (oLst dNil))
  zee
def zeg : DS :=
  dSeq (dIf (tNot (tV (d1 (fIs isList) (dVar 4))))
  (dRet (dC (.bool false)))
  ZO)
  zef
def zbk : DS :=
  dSeq (dSet 4 [] (Zn WV (Zd (Zn WU (Zd (dVar 2) (Zd (Zn Xu (Zd (dVar 3) dNil)) dNil))) dNil)))
  zeg
def JA : DS :=
  dSeq (dIf (tV (d2 fEq (d2 fMod (Zn Zj (Zd (dVar 0) (Zd (dC (.int 2)) dNil))) (dC (.int 4))) (dC (.int 3))))
  (dSet 3 [] (dL (YD 1 [] (Zi 0) (iSeq (dVar 3)) tT (dTup (Zd (dL (YD 1 [] (Zi 0) (iSeq (d2 fIx (dVar 0) (dC (.int 0)))) tT (d2 fSub (d2 fMod (dVar 0) (dC (.int 7))) (dC (.int 3))))) (Zd (d2 fMod (d2 fIx (dVar 0) (dC (.int 1))) (dC (.int 9))) dNil))))))
  ZO)
  zbk
def zeh : DS :=
  dSeq (dSet 3 [] (dL (YD 1 [2] (Zi 0) (iSeq (dL (oCut (d2 fIx (dVar 1) (dC (.int 1))) pNo (pAt (dC (.int 7)))))) tT (dTup (Zd (dL (oCut (d2 fIx (dVar 0) (dC (.int 0))) pNo (pAt (dVar 1)))) (Zd (d2 fIx (dVar 0) (dC (.int 1))) dNil))))))
  JA
def zei : DS :=
  dSeq (dSet 2 [] (d2 fMin (d2 fIx (dVar 1) (dC (.int 0))) (dC (.int 3))))
  zeh
def d_law : DS :=
  dSeq (dSet 1 [] (Zn XN (Zd (dVar 0) dNil)))
  zei
def zbc : DF := runQ 9 1 d_law
end K12
namespace K12
abbrev Mx := Nat -> Nat -> Int
def rs : Nat -> (Nat -> Rat) -> Rat
 | 0, _ => 0
 | n + 1, f => rs n f + f n
theorem YY : ∀ {n : Nat} {f g : Nat -> Rat}, (∀ i, i < n -> f i = g i) -> rs n f = rs n g
 | 0, _, _, _ => rfl
 | n + 1, f, g, h => by
  show rs n f + f n = rs n g + g n
  rw [YY fun i hi => h i (by omega), h n (by omega)]
theorem rs_add (n : Nat) (f g : Nat -> Rat) : rs n (fun i => f i + g i) = rs n f + rs n g := by
 induction n with
 | zero => simp only [rs]; grind
 | succ n ih => simp only [rs, ih]; grind
theorem Uh (n : Nat) (a : Rat) (f : Nat -> Rat) : rs n (fun i => a * f i) = a * rs n f := by
 induction n with
 | zero => simp [rs]
 | succ n ih => simp only [rs, ih]; grind
theorem Jd {n : Nat} {f : Nat -> Rat} (h : ∀ i, i < n -> f i = 0) : rs n f = 0 := by
 induction n with
 | zero => rfl
 | succ n ih => show rs n f + f n = 0; rw [ih fun i hi => h i (by omega), h n (by omega)]; grind
theorem zbA {n k : Nat} {f : Nat -> Rat} (hk : k < n) (h : ∀ i, i < n -> i ≠ k -> f i = 0) : rs n f = f k := by
 induction n with
 | zero => omega
 | succ n ih =>
  show rs n f + f n = f k
  by_cases e : k = n
  ·subst e; rw [Jd fun i hi => h i (by omega) (by omega)]; grind
  ·rw [ih (by omega) fun i hi ne => h i (by omega) ne, h n (by omega) (fun q => e q.symm)]; grind
theorem rs_two {n k l : Nat} {f : Nat -> Rat} (hk : k < l) (hl : l < n) (h : ∀ i, i < n -> i ≠ k -> i ≠ l -> f i = 0) : rs n f = f k + f l := by
 induction n with
 | zero => omega
 | succ n ih =>
  show rs n f + f n = f k + f l
  by_cases e : l = n
  ·subst e; rw [zbA hk fun i hi ne => h i (by omega) ne (by omega)]
  ·rw [ih (by omega) fun i hi n1 n2 => h i (by omega) n1 n2, h n (by omega) (by omega) (fun q => e q.symm)]; grind
def rv (K : Nat) (R : Mx) (y : Nat -> Rat) (i : Nat) : Rat := rs (K + 1) fun j => (R i j : Rat) * y j
def Kl (K : Nat) (R : Mx) (y : Nat -> Rat) : Prop := ∀ i, i < K -> rv K R y i = 0
def swR (R : Mx) (a b : Nat) : Mx := fun i => if i = a then R b else if i = b then R a else R i
def eaR (R : Mx) (p : Nat) : Mx := fun i j => if i ≠ p /\ R i p ≠ 0 then R i j * R p p - R p j * R i p else R i j
def fnd (R : Mx) (K p : Nat) : Nat -> Nat -> Option Nat
 | 0, _ => none
 | f + 1, a => if a < K then (if R a p = 0 then fnd R K p f (a + 1) else some a) else none
theorem VN {R : Mx} {K p : Nat} : ∀ {f a b : Nat}, fnd R K p f a = some b -> a <= b /\ b < K /\ R b p ≠ 0
 | 0, _, _, h => by cases h
 | f + 1, a, b, h => by
  unfold fnd at h
  split at h
  ·split at h
   ·obtain ⟨h1, h2, h3⟩ := VN h; exact ⟨by omega, h2, h3⟩
   ·rename_i q1 q2; cases h; exact ⟨Nat.le_refl _, q1, q2⟩
  ·cases h
theorem zbW {R : Mx} {K p : Nat} : ∀ {f a : Nat}, fnd R K p f a = none -> K <= a + f -> ∀ i, a <= i -> i < K -> R i p = 0
 | 0, a, _, q, i, h1, h2 => by omega
 | f + 1, a, h, q, i, h1, h2 => by
  unfold fnd at h
  split at h
  ·split at h
   ·rename_i q1 q2
    by_cases e : i = a
    ·rw [e]; exact q2
    ·exact zbW h (by omega) i (by omega) h2
   ·cases h
  ·rename_i q1; omega
def stp (K p : Nat) (R : Mx) : Option Mx := (fnd R K p K p).map fun a => eaR (swR R a p) p
def elm (K : Nat) : Nat -> Mx -> Option Mx
 | 0, R => some R
 | n + 1, R => (elm K n R).bind (stp K n)
theorem zbu {K : Nat} {R : Mx} {y : Nat -> Rat} {a b i : Nat} : rv K (swR R a b) y i = if i = a then rv K R y b else if i = b then rv K R y a else rv K R y i := by
 unfold rv swR; split
 ·rfl
 ·split <;> rfl
theorem Kl_sw {K : Nat} {R : Mx} {y : Nat -> Rat} {a b : Nat} (ha : a < K) (hb : b < K) : Kl K (swR R a b) y ↔ Kl K R y := by
 constructor
 ·intro h i hi
  by_cases e : i = a
  ·have := h b hb; rw [zbu] at this
   by_cases e2 : b = a
   ·rw [if_pos e2] at this; rw [e, <- e2]; exact this
   ·rw [if_neg e2, if_pos rfl] at this; rw [e]; exact this
  ·by_cases e2 : i = b
   ·have := h a ha; rw [zbu, if_pos rfl] at this; rw [e2]; exact this
   ·have := h i hi; rw [zbu, if_neg e, if_neg e2] at this; exact this
 ·intro h i hi
  rw [zbu]; split
  ·exact h b hb
  ·split
   ·exact h a ha
   ·exact h i hi
theorem zd9 {K : Nat} {R : Mx} {y : Nat -> Rat} {p i : Nat} : rv K (eaR R p) y i = if i ≠ p /\ R i p ≠ 0 then rv K R y i * (R p p : Rat) - rv K R y p * (R i p : Rat) else rv K R y i := by
 unfold rv eaR
 by_cases q : i ≠ p /\ R i p ≠ 0
 ·rw [if_pos q]
  have e : ∀ j, j < K + 1 -> ((((if i ≠ p /\ R i p ≠ 0 then R i j * R p p - R p j * R i p else R i j) : Int)) : Rat) * y j = (R p p : Rat) * ((R i j : Rat) * y j) + (-(R i p : Rat)) * ((R p j : Rat) * y j) := fun j _ => by
   rw [if_pos q, Rat.intCast_sub, Rat.intCast_mul, Rat.intCast_mul]; grind
  rw [YY e, rs_add, Uh, Uh]; grind
 ·rw [if_neg q]
  exact YY fun j _ => by rw [if_neg q]
theorem Kl_ea {K : Nat} {R : Mx} {y : Nat -> Rat} {p : Nat} (hp : p < K) (h0 : R p p ≠ 0) : Kl K (eaR R p) y ↔ Kl K R y := by
 constructor
 ·intro h i hi
  have hpp := h p hp
  rw [zd9, if_neg (fun q => q.1 rfl)] at hpp
  have hi' := h i hi
  rw [zd9] at hi'
  split at hi'
  ·rw [hpp] at hi'
   have z : rv K R y i * (R p p : Rat) = 0 := by grind
   rcases Rat.mul_eq_zero.mp z with z | z
   ·exact z
   ·exact absurd (Rat.intCast_eq_zero_iff.mp z) h0
  ·exact hi'
 ·intro h i hi
  rw [zd9]; split
  ·rw [h i hi, h p hp]; grind
  ·exact h i hi
theorem stp_Kl {K p : Nat} {R R' : Mx} (h : stp K p R = some R') (hp : p < K) (y : Nat -> Rat) : Kl K R' y ↔ Kl K R y := by
 obtain ⟨a, e, rfl⟩ := Option.map_eq_some_iff.mp h
 obtain ⟨h1, h2, h3⟩ := VN e
 have hpp : swR R a p p p ≠ 0 := by
  unfold swR; by_cases q : p = a
  ·rw [if_pos q]; rw [<- q] at h3; exact h3
  ·rw [if_neg q, if_pos rfl]; exact h3
 rw [Kl_ea hp hpp, Kl_sw h2 hp]
def Dg (K n : Nat) (R : Mx) : Prop := ∀ j, j < n -> R j j ≠ 0 /\ ∀ i, i < K -> i ≠ j -> R i j = 0
theorem stp_Dg {K p : Nat} {R R' : Mx} (h : stp K p R = some R') (hp : p < K) (d : Dg K p R) : Dg K (p + 1) R' := by
 obtain ⟨a, e, rfl⟩ := Option.map_eq_some_iff.mp h
 obtain ⟨h1, h2, h3⟩ := VN e
 have hpp : swR R a p p p ≠ 0 := by
  unfold swR; by_cases q : p = a
  ·rw [if_pos q]; rw [<- q] at h3; exact h3
  ·rw [if_neg q, if_pos rfl]; exact h3
 have sw : ∀ j, j < p -> swR R a p j j ≠ 0 /\ ∀ i, i < K -> i ≠ j -> swR R a p i j = 0 := fun j hj => by
  obtain ⟨d1, d2⟩ := d j hj
  refine ⟨by unfold swR; rw [if_neg (by omega), if_neg (by omega)]; exact d1, fun i hi ne => ?_⟩
  unfold swR; split
  ·exact d2 p hp (by omega)
  ·split
   ·exact d2 a h2 (by omega)
   ·exact d2 i hi ne
 intro j hj
 by_cases ej : j = p
 ·subst ej
  refine ⟨by unfold eaR; rw [if_neg (fun q => q.1 rfl)]; exact hpp, fun i hi ne => ?_⟩
  unfold eaR; split
  ·rw [Int.mul_comm, Int.sub_self]
  ·rename_i q; exact Classical.byContradiction fun z => q ⟨ne, z⟩
 ·obtain ⟨d1, d2⟩ := sw j (by omega)
  have z : swR R a p p j = 0 := d2 p hp (by omega)
  refine ⟨?_, fun i hi ne => ?_⟩
  ·unfold eaR; split
   ·rw [z, Int.zero_mul, Int.sub_zero]; exact Int.mul_ne_zero d1 hpp
   ·exact d1
  ·unfold eaR; split
   ·rw [z, d2 i hi ne, Int.zero_mul, Int.zero_mul]; rfl
   ·exact d2 i hi ne
theorem U6 {K : Nat} : ∀ {n : Nat} {R R' : Mx}, elm K n R = some R' -> n <= K -> Dg K n R' /\ ∀ y, Kl K R' y ↔ Kl K R y
 | 0, R, R', h, _ => by cases h; exact ⟨fun j hj => by omega, fun y => Iff.rfl⟩
 | n + 1, R, R', h, hn => by
  obtain ⟨Q, e, e2⟩ := Option.bind_eq_some_iff.mp h
  obtain ⟨d, k⟩ := U6 e (by omega)
  exact ⟨stp_Dg e2 (by omega) d, fun y => (stp_Kl e2 (by omega) y).trans (k y)⟩
theorem ker_of {K n : Nat} {R Q : Mx} (h : elm K n R = some Q) (hn : n < K) (f : stp K n Q = none) : ∃ y : Nat -> Rat, Kl K R y /\ y n = 1 /\ (∀ j, n < j -> y j = 0) := by
 obtain ⟨d, k⟩ := U6 h (by omega)
 have z : ∀ i, n <= i -> i < K -> Q i n = 0 := fun i h1 h2 => zbW (f := K) (a := n) (by
  unfold stp at f; cases e : fnd Q K n K n with
  | none => rfl
  | some a => rw [e] at f; cases f) (by omega) i h1 h2
 refine ⟨fun j => if j < n then -((Q j n : Rat) / (Q j j : Rat)) else if j = n then 1 else 0, (k _).mp fun i hi => ?_, (if_neg (by omega)).trans (if_pos rfl), fun j hj => (if_neg (by omega)).trans (if_neg (by omega))⟩
 unfold rv
 by_cases hin : i < n
 ·have d0 : (Q i i : Rat) ≠ 0 := fun q => (d i hin).1 (Rat.intCast_eq_zero_iff.mp q)
  rw [rs_two (k := i) (l := n) hin (by omega) fun j hj n1 n2 => ?_]
  ·dsimp only; rw [if_pos hin, if_neg (Nat.lt_irrefl n), if_pos rfl]
   have : (Q i i : Rat) * -((Q i n : Rat) / (Q i i : Rat)) = -(Q i n : Rat) := by
    rw [Rat.mul_neg, Rat.mul_comm, Rat.div_mul_cancel d0]
   rw [this]; grind
  ·by_cases q : j < n
   ·rw [(d j q).2 i hi (fun e => n1 e.symm)]; exact Rat.zero_mul _
   ·dsimp only; rw [if_neg q, if_neg n2]; exact Rat.mul_zero _
 ·refine Jd fun j hj => ?_
  by_cases q : j < n
  ·rw [(d j q).2 i hi (by omega)]; exact Rat.zero_mul _
  ·by_cases q2 : j = n
   ·rw [q2, z i (by omega) hi]; exact Rat.zero_mul _
   ·dsimp only; rw [if_neg q, if_neg q2]; exact Rat.mul_zero _
theorem sol_of {K : Nat} {R Q : Mx} (h : elm K K R = some Q) (y : Nat -> Rat) : Kl K R y ↔ ∀ i, i < K -> y i = -((Q i K : Rat) / (Q i i : Rat)) * y K := by
 obtain ⟨d, k⟩ := U6 h (Nat.le_refl _)
 rw [<- k y]
 have val : ∀ i, i < K -> rv K Q y i = (Q i i : Rat) * y i + (Q i K : Rat) * y K := fun i hi => by
  unfold rv
  exact rs_two hi (by omega) fun j hj n1 n2 => by rw [(d j (by omega)).2 i hi (fun e => n1 e.symm)]; exact Rat.zero_mul _
 constructor
 ·intro a i hi
  have d0 : (Q i i : Rat) ≠ 0 := fun q => (d i hi).1 (Rat.intCast_eq_zero_iff.mp q)
  have e := a i hi
  rw [val i hi] at e
  have e2 : y i * (Q i i : Rat) = (-((Q i K : Rat) / (Q i i : Rat)) * y K) * (Q i i : Rat) := by
   have : (-((Q i K : Rat) / (Q i i : Rat)) * y K) * (Q i i : Rat) = -(((Q i K : Rat) / (Q i i : Rat)) * (Q i i : Rat)) * y K := by grind
   rw [this, Rat.div_mul_cancel d0]; grind
  have e3 : (y i - (-((Q i K : Rat) / (Q i i : Rat)) * y K)) * (Q i i : Rat) = 0 := by grind
  rcases Rat.mul_eq_zero.mp e3 with z | z
  ·grind
  ·exact absurd z d0
 ·intro a i hi
  have d0 : (Q i i : Rat) ≠ 0 := fun q => (d i hi).1 (Rat.intCast_eq_zero_iff.mp q)
  rw [val i hi, a i hi]
  have : (Q i i : Rat) * (-((Q i K : Rat) / (Q i i : Rat)) * y K) = -(((Q i K : Rat) / (Q i i : Rat)) * (Q i i : Rat)) * y K := by grind
  rw [this, Rat.div_mul_cancel d0]; grind
def Al (K : Nat) (R Q : Mx) : Prop := ∀ i j, i < K -> j < K -> R i j = Q i j
theorem zd0 {K p : Nat} {R Q : Mx} (h : Al K R Q) (hp : p < K) : ∀ f a, fnd R K p f a = fnd Q K p f a
 | 0, _ => rfl
 | f + 1, a => by
  unfold fnd
  by_cases q : a < K
  ·rw [if_pos q, if_pos q, h a p q hp, zd0 h hp f (a + 1)]
  ·rw [if_neg q, if_neg q]
theorem stp_al {K p : Nat} {R Q R' : Mx} (h : Al K R Q) (hp : p < K) (e : stp K p R = some R') : ∃ Q', stp K p Q = some Q' /\ Al K R' Q' := by
 obtain ⟨a, e1, rfl⟩ := Option.map_eq_some_iff.mp e
 refine ⟨eaR (swR Q a p) p, by unfold stp; rw [<- zd0 h hp, e1]; rfl, ?_⟩
 have ha := (VN e1).2.1
 have s : Al K (swR R a p) (swR Q a p) := fun i j hi hj => by
  unfold swR; split
  ·exact h p j hp hj
  ·split
   ·exact h a j ha hj
   ·exact h i j hi hj
 intro i j hi hj
 unfold eaR; rw [s i j hi hj, s i p hi hp, s p p hp hp, s p j hp hj]
theorem elm_al {K : Nat} {R Q : Mx} (h : Al K R Q) : ∀ {n : Nat} {R' : Mx}, elm K n R = some R' -> n <= K -> ∃ Q', elm K n Q = some Q' /\ Al K R' Q'
 | 0, R', e, _ => by cases e; exact ⟨Q, rfl, h⟩
 | n + 1, R', e, hn => by
  obtain ⟨R1, e1, e2⟩ := Option.bind_eq_some_iff.mp e
  obtain ⟨Q1, q1, a1⟩ := elm_al h e1 (by omega)
  obtain ⟨Q2, q2, a2⟩ := stp_al a1 (by omega) e2
  exact ⟨Q2, by show (elm K n Q).bind (stp K n) = _; rw [q1]; exact q2, a2⟩
theorem meet_any {K : Nat} {R Q : Mx} (h : elm K K R = some Q) (c : Nat -> Int) : ∃ x : Nat -> Rat, ∀ i, i < K -> rs K (fun j => (R i j : Rat) * x j) = (c i : Rat) := by
 obtain ⟨Q', e, _⟩ := elm_al (Q := fun i j => if j = K then c i else R i j) (fun i j hi hj => (if_neg (by omega)).symm) h (Nat.le_refl _)
 have k := (sol_of e fun j => if j = K then -1 else -((Q' j K : Rat) / (Q' j j : Rat)) * (-1)).mpr fun i hi => by rw [if_neg (by omega), if_pos rfl]
 refine ⟨fun j => if j = K then -1 else -((Q' j K : Rat) / (Q' j j : Rat)) * (-1), fun i hi => ?_⟩
 have z := k i hi
 unfold rv at z
 have z' : rs K (fun j => (((if j = K then c i else R i j : Int)) : Rat) * (if j = K then -1 else -((Q' j K : Rat) / (Q' j j : Rat)) * (-1))) + (((if K = K then c i else R i K : Int)) : Rat) * (if K = K then -1 else -((Q' K K : Rat) / (Q' K K : Rat)) * (-1)) = 0 := z
 rw [if_pos rfl, if_pos rfl] at z'
 rw [YY (g := fun j => (((if j = K then c i else R i j : Int)) : Rat) * (if j = K then -1 else -((Q' j K : Rat) / (Q' j j : Rat)) * (-1))) fun j hj => by dsimp only; rw [if_neg (show ¬ j = K by omega), if_neg (show ¬ j = K by omega)]]
 grind
end K12
namespace K12
open Sx (sumN Vec Mat Bd Good Vh eK idM)
theorem JC (f : Nat -> Int) : ∀ n, ((sumN n f : Int) : Rat) = rs n fun i => (f i : Rat)
 | 0 => rfl
 | n + 1 => by show ((sumN n f + f n : Int) : Rat) = _; rw [Rat.intCast_add, JC f n]; rfl
theorem rs_swap (m n : Nat) (f : Nat -> Nat -> Rat) : rs m (fun i => rs n (fun j => f i j)) = rs n (fun j => rs m (fun i => f i j)) := by
 induction m with
 | zero => exact (Jd fun _ _ => rfl).symm
 | succ m ih => show rs m _ + rs n _ = rs n (fun j => rs m (fun i => f i j) + f m j); rw [ih, rs_add]
def mv (K : Nat) (v : Nat -> Int) (y : Nat -> Rat) : Rat := rs (K + 1) fun c => (v c : Rat) * y c
variable {K N : Nat} {M : Mat} {b : Bd}
theorem cmb (g : Good K N M b) (y : Nat -> Rat) {i : Nat} (hi : i < N) : (b.D : Rat) * mv K (M i) y = rs (K + 1) fun j => (b.R i j : Rat) * mv K (Vh K M b.h j) y := by
 unfold mv
 rw [<- Uh]
 have e : ∀ c, c < K + 1 -> (b.D : Rat) * ((M i c : Rat) * y c) = rs (K + 1) fun j => (b.R i j : Rat) * ((Vh K M b.h j c : Rat) * y c) := fun c hc => by
  have z := congrArg (fun t : Int => (t : Rat) * y c) (g.cr i c hi (by omega))
  rw [JC, Rat.intCast_mul] at z
  rw [<- Rat.mul_assoc, <- z, Rat.mul_comm, <- Uh]
  exact YY fun j _ => by rw [Rat.intCast_mul]; grind
 rw [YY e, rs_swap]
 exact YY fun j _ => by rw [<- Uh]
theorem mv_eK (y : Nat -> Rat) : mv K (eK K) y = y K := by
 unfold mv
 rw [zbA (k := K) (by omega) fun c hc ne => by unfold eK; rw [if_neg ne]; exact Rat.zero_mul _]
 unfold eK; rw [if_pos rfl]; exact Rat.one_mul _
theorem mv_unit {i : Nat} (hi : i < K) (hM : ∀ c, c <= K -> M i c = if c = i then 1 else 0) (y : Nat -> Rat) : mv K (M i) y = y i := by
 unfold mv
 rw [zbA (k := i) (by omega) fun c hc ne => by rw [hM c (by omega), if_neg ne]; exact Rat.zero_mul _, hM i (by omega), if_pos rfl]
 exact Rat.one_mul _
theorem at_heads (g : Good K N M b) (y : Nat -> Rat) (h : ∀ j, j < K -> mv K (M (b.h j)) y = 0) {i : Nat} (hi : i < N) : (b.D : Rat) * mv K (M i) y = (b.R i K : Rat) * y K := by
 rw [cmb g y hi, zbA (k := K) (by omega) fun j hj ne => by rw [Sx.Vh_lt (by omega), h j (by omega)]; exact Rat.mul_zero _, Sx.Vh_K, mv_eK]
theorem D_ne (g : Good K N M b) : (b.D : Rat) ≠ 0 := fun q => by have := g.pos; have := Rat.intCast_eq_zero_iff.mp q; omega
theorem zdW (g : Good K N M b) (hKN : K <= N) (hM : ∀ i c, i < K -> c <= K -> M i c = if c = i then 1 else 0) (y : Nat -> Rat) (h : ∀ j, j < K -> mv K (M (b.h j)) y = 0) (h0 : y K = 0) {i : Nat} (hi : i < K) : y i = 0 := by
 have z := at_heads g y h (i := i) (by omega)
 rw [mv_unit hi (hM i · hi), h0, Rat.mul_zero] at z
 exact (Rat.mul_eq_zero.mp z).resolve_left (D_ne g)
theorem pt_heads (g : Good K N M b) (hh : ∀ j, j < K -> b.h j < N) (y : Nat -> Rat) (hy : ∀ i, i < N -> (b.D : Rat) * mv K (M i) y = (b.R i K : Rat) * y K) {j : Nat} (hj : j < K) : mv K (M (b.h j)) y = 0 := by
 have z := hy _ (hh j hj)
 rw [g.head hj (Nat.le_refl K), if_neg (by omega)] at z
 have z' : (b.D : Rat) * mv K (M (b.h j)) y = 0 := by rw [z]; exact Rat.zero_mul _
 exact (Rat.mul_eq_zero.mp z').resolve_left (D_ne g)
theorem zdv (g : Good K N M b) {t : Nat} (ht : t < N) (hc : ∀ j, j < K -> b.h j < K -> b.R t j = 0) (y y' : Nat -> Rat) (he : ∀ j, j < K -> K <= b.h j -> mv K (M (b.h j)) y = mv K (M (b.h j)) y') (h0 : y K = y' K) : mv K (M t) y = mv K (M t) y' := by
 have z := cmb g y ht
 have z' := cmb g y' ht
 have e : (rs (K + 1) fun j => (b.R t j : Rat) * mv K (Vh K M b.h j) y) = rs (K + 1) fun j => (b.R t j : Rat) * mv K (Vh K M b.h j) y' := YY fun j hj => by
  by_cases q : j < K
  ·rw [Sx.Vh_lt q]
   by_cases q2 : b.h j < K
   ·rw [hc j q q2]; exact (Rat.zero_mul _).trans (Rat.zero_mul _).symm
   ·rw [he j q (by omega)]
  ·have : j = K := by omega
   subst this; rw [Sx.Vh_K, mv_eK, mv_eK, h0]
 have w : (b.D : Rat) * (mv K (M t) y - mv K (M t) y') = 0 := by rw [e] at z; grind
 have := (Rat.mul_eq_zero.mp w).resolve_left (D_ne g)
 grind
theorem zep (g : Good K N M b) (W : Mx) {Q : Mx} (he : elm K K W = some Q) (sel : Nat -> Nat) (hs : ∀ s c, s < K -> c < K -> M (sel s) c = -(W s c)) (hN : ∀ s, s < K -> sel s < N)
  {r : Nat} (hr : r < K) (hd : ∀ j, j < K -> K <= b.h j -> ∃ s, s < K /\ s ≠ r /\ b.h j = sel s) : ∃ j, j < K /\ b.h j < K /\ b.R (sel r) j ≠ 0 := by
 refine Classical.byContradiction fun no => ?_
 have hc : ∀ j, j < K -> b.h j < K -> b.R (sel r) j = 0 := fun j h1 h2 => Classical.byContradiction fun q => no ⟨j, h1, h2, q⟩
 obtain ⟨x, hx⟩ := meet_any he fun s => if s = r then 1 else 0
 have val : ∀ s, s < K -> mv K (M (sel s)) (fun c => if c = K then 0 else x c) = -(((if s = r then 1 else 0 : Int)) : Rat) := fun s hs' => by
  unfold mv
  show rs K (fun c => (M (sel s) c : Rat) * (if c = K then 0 else x c)) + (M (sel s) K : Rat) * (if K = K then 0 else x K) = _
  rw [if_pos rfl, Rat.mul_zero, YY (g := fun c => (-1) * ((W s c : Rat) * x c)) fun c hc' => by rw [if_neg (show ¬ c = K by omega), hs s c hs' hc', Rat.intCast_neg]; grind, Uh, hx s hs']
  grind
 have nul : ∀ v : Nat -> Int, mv K v (fun _ => 0) = 0 := fun v => Jd fun c _ => Rat.mul_zero _
 have z := zdv g (hN r hr) hc (fun c => if c = K then 0 else x c) (fun _ => 0) (fun j h1 h2 => by
  obtain ⟨s, s1, s2, s3⟩ := hd j h1 h2
  rw [s3, val s s1, if_neg s2, nul]; rfl) (if_pos rfl)
 rw [val r hr, if_pos rfl, nul] at z
 revert z; decide
end K12
namespace K12
open PySem Fx Lw
section
variable {K m : Nat} {b : LB} {t : Nat}
def bAm : DS := (dIf (tAnd (tV (d2 fLt (dVar 4) (dVar 2))) (tV (d2 fNe (d2 fIx (d2 fIx (d1 (fFld "rows") (dVar 0)) (dVar 1)) (dVar 3)) (dC (.int 0)))))
  (dRet (dVar 3))
  ZO)
theorem am_body (w : WFb K m b) (ht : t < K + m + 1) {j : Nat} (hj : j < K) (h : Nat) : bAm [.val (eB b), .val (.int t), .val (.int K), .val (.int j), .val (.int h)] = if h < K /\ b.bd.R t j ≠ 0 then .ok (.rt (.int j)) else .ok (.nx [.val (eB b), .val (.int t), .val (.int K), .val (.int j), .val (.int h)]) := by
 have e1 := zbQ w ht
 have e2 : fIx (eI (b.rows.getD t [])) (.int (j : Int)) = .ok (.int (b.bd.R t j)) := zbR (by rw [w.row ht]; omega)
 have e3 := zbd (b.bd.R t j) 0
 generalize eI (b.rows.getD t []) = RR at e1 e2
 by_cases hk : h < K
 ·have hk' : (h : Int) < (K : Int) := by omega
  by_cases hr : b.bd.R t j = 0
  ·rw [if_neg (fun z => z.2 hr)]
   rw [hr] at e2 e3
   simp [bAm, hk', e1, e2, e3, -fIx]
  ·rw [if_pos ⟨hk, hr⟩]
   simp [bAm, hk', e1, e2, e3, hr, -fIx]
 ·have hk' : ¬ (h : Int) < (K : Int) := by omega
  rw [if_neg (fun z => hk z.1)]
  simp [bAm, hk']
theorem zeC (w : WFb K m b) (ht : t < K + m + 1) : ∀ (hs : List Nat) (n : Nat) (s3 s4 : Sl), b.heads.drop n = hs -> (∃ j, j < K /\ b.bd.h j < K /\ b.bd.R t j ≠ 0 /\ forL (Xf 3 4) bAm (Vv n (hs.map fun (h : Nat) => .int (h : Int))) [.val (eB b), .val (.int t), .val (.int K), s3, s4] = .ok (.rt (.int j))) \/
  ((∀ j, n <= j -> j < K -> b.bd.h j < K -> b.bd.R t j = 0) /\ ∃ s3' s4', forL (Xf 3 4) bAm (Vv n (hs.map fun (h : Nat) => .int (h : Int))) [.val (eB b), .val (.int t), .val (.int K), s3, s4] = .ok (.nx [.val (eB b), .val (.int t), .val (.int K), s3', s4']))
 | [], n, s3, s4, hd => by
  right
  refine ⟨fun j h1 h2 => ?_, s3, s4, rfl⟩
  have := congrArg List.length hd
  rw [List.length_drop, w.hl] at this
  simp at this
  omega
 | h :: hs, n, s3, s4, hd => by
  have hn : n < b.heads.length := by
   have := congrArg List.length hd
   rw [List.length_drop] at this
   simp at this
   omega
  have hnK : n < K := by rw [<- w.hl]; exact hn
  rw [List.drop_eq_getElem_cons hn] at hd
  have hh : b.heads[n] = h := (List.cons.inj hd).1
  have hd' := (List.cons.inj hd).2
  have hb : b.bd.h n = h := by rw [bd_h, <- Zt hn]; exact hh
  have e := am_body w ht hnK h
  by_cases c : h < K /\ b.bd.R t n ≠ 0
  ·left
   rw [if_pos c] at e
   refine ⟨n, hnK, by rw [hb]; exact c.1, c.2, ?_⟩
   rw [List.map_cons]
   unfold Vv forL
   simp only [Xf, List.set, Res.bind_ok, e]
  ·rw [if_neg c] at e
   have st : forL (Xf 3 4) bAm (Vv n ((h :: hs).map fun (h : Nat) => .int (h : Int))) [.val (eB b), .val (.int t), .val (.int K), s3, s4] = forL (Xf 3 4) bAm (Vv (n + 1) (hs.map fun (h : Nat) => .int (h : Int))) [.val (eB b), .val (.int t), .val (.int K), .val (.int n), .val (.int h)] := by
    rw [List.map_cons]
    conv => lhs; unfold Vv forL
    simp only [Xf, List.set, Res.bind_ok, e]
   rw [st]
   rcases zeC w ht hs (n + 1) (.val (.int n)) (.val (.int h)) hd' with ⟨j, j1, j2, j3, j4⟩ | ⟨j1, j2⟩
   ·exact .inl ⟨j, j1, j2, j3, j4⟩
   ·refine .inr ⟨fun j h1 h2 h3 => ?_, j2⟩
    by_cases z : j = n
    ·subst z
     rw [hb] at h3
     exact Classical.byContradiction fun q => c ⟨h3, q⟩
    ·exact j1 j (by omega) h2 h3
theorem zeB (w : WFb K m b) (ht : t < K + m + 1) : (∃ j, j < K /\ b.bd.h j < K /\ b.bd.R t j ≠ 0 /\ ZN [eB b, .int t] = .ok (.int j)) \/ ((∀ j, j < K -> b.bd.h j < K -> b.bd.R t j = 0) /\ ZN [eB b, .int t] = .ok .none) := by
 have h1 : Wt = dSeq (dFor (Xf 3 4) [] (iEnum (iSeq (d1 (fFld "heads") (dVar 0)))) bAm) Xm := rfl
 have hl : (b.heads.map fun (h : Nat) => PyData.int (h : Int)).length = K := by simp [w.hl]
 rcases zeC w ht b.heads 0 .emp .emp (by simp) with ⟨j, j1, j2, j3, j4⟩ | ⟨j1, s3, s4, j2⟩
 ·refine .inl ⟨j, j1, j2, j3, ?_⟩
  simp [ZN, X1, h1, runQ, runF, w.hl, j4]
 ·refine .inr ⟨fun j => j1 j (by omega), ?_⟩
  simp [ZN, X1, h1, Xm, runQ, runF, w.hl, j2]
def Y5 (K : Nat) (hs : List Nat) : Int := match hs.filter fun h => decide (K <= h) with
 | [] => -1
 | h :: r => r.foldl (fun (a : Int) (x : Nat) => if a < (x : Int) then (x : Int) else a) (h : Int)
theorem zaf : ∀ (r : List Nat) (a : Int), maxL a (r.map fun (h : Nat) => PyData.int (h : Int)) = .ok (.int (r.foldl (fun (a : Int) (x : Nat) => if a < (x : Int) then (x : Int) else a) a))
 | [], a => rfl
 | x :: r, a => by
  rw [List.map_cons]
  show maxL (if a < (x : Int) then (x : Int) else a) _ = _
  rw [zaf r]
  rfl
theorem Ju : ∀ (r : List Nat) (a : Int), a <= r.foldl (fun (a : Int) (x : Nat) => if a < (x : Int) then (x : Int) else a) a /\ (∀ x ∈ r, (x : Int) <= r.foldl (fun (a : Int) (x : Nat) => if a < (x : Int) then (x : Int) else a) a) /\ (r.foldl (fun (a : Int) (x : Nat) => if a < (x : Int) then (x : Int) else a) a = a \/ ∃ x ∈ r, r.foldl (fun (a : Int) (x : Nat) => if a < (x : Int) then (x : Int) else a) a = (x : Int))
 | [], a => ⟨Int.le_refl _, fun x hx => absurd hx List.not_mem_nil, .inl rfl⟩
 | y :: r, a => by
  obtain ⟨h1, h2, h3⟩ := Ju r (if a < (y : Int) then (y : Int) else a)
  simp only [List.foldl_cons]
  refine ⟨?_, fun x hx => ?_, ?_⟩
  ·refine Int.le_trans ?_ h1
   split <;> omega
  ·rcases List.mem_cons.mp hx with rfl | hx
   ·refine Int.le_trans ?_ h1
    split <;> omega
   ·exact h2 x hx
  ·rcases h3 with h3 | ⟨x, hx, h3⟩
   ·rw [h3]
    split
    ·exact .inr ⟨y, List.mem_cons_self, rfl⟩
    ·exact .inl rfl
   ·exact .inr ⟨x, List.mem_cons_of_mem _ hx, h3⟩
theorem last_ge {hs : List Nat} {h : Nat} (hm : h ∈ hs) (hk : K <= h) : (h : Int) <= Y5 K hs := by
 have hf : h ∈ hs.filter fun h => decide (K <= h) := List.mem_filter.mpr ⟨hm, decide_eq_true hk⟩
 unfold Y5
 cases e : hs.filter fun h => decide (K <= h) with
 | nil => rw [e] at hf; cases hf
 | cons x r =>
  rw [e] at hf
  obtain ⟨h1, h2, _⟩ := Ju r (x : Int)
  rcases List.mem_cons.mp hf with rfl | hf
  ·exact h1
  ·exact h2 h hf
theorem last_is {hs : List Nat} : Y5 K hs = -1 \/ ∃ h ∈ hs, K <= h /\ Y5 K hs = (h : Int) := by
 unfold Y5
 cases e : hs.filter fun h => decide (K <= h) with
 | nil => exact .inl rfl
 | cons x r =>
  have hin : ∀ y ∈ x :: r, y ∈ hs /\ K <= y := fun y hy => by
   rw [<- e] at hy
   have := List.mem_filter.mp hy
   exact ⟨this.1, of_decide_eq_true this.2⟩
  obtain ⟨_, _, h3⟩ := Ju r (x : Int)
  rcases h3 with h3 | ⟨y, hy, h3⟩
  ·exact .inr ⟨x, (hin x List.mem_cons_self).1, (hin x List.mem_cons_self).2, h3⟩
  ·exact .inr ⟨y, (hin y (List.mem_cons_of_mem _ hy)).1, (hin y (List.mem_cons_of_mem _ hy)).2, h3⟩
theorem last_ok (w : WFb K m b) : (d1 (maxD (-1)) (dL (YD 1 [0] (Zi 0) (iSeq (d1 (fFld "heads") (dVar 0))) (tV (d2 fGe (dVar 0) (d1 fLen (d1 (fFld "heads") (dVar 1))))) (dVar 0)))) [.val (eB b), .emp, .emp, .emp, .emp] = .ok (.int (Y5 K b.heads)) := by
 have e := Q0 (st := Zi 0) (c := (tV (d2 fGe (dVar 0) (d1 fLen (d1 (fFld "heads") (dVar 1)))))) (e := dVar 0) (C := [.emp, .val (eB b)]) (fun (h : Nat) => PyData.int (h : Int)) (fun (h : Nat) => PyData.int (h : Int)) (fun h => decide (K <= h)) b.heads fun h hh => ⟨[.val (.int h), .val (eB b)], rfl, by simp [w.hl], fun _ => by simp⟩
 have hl : b.heads.length <= 16777216 := by rw [w.hl]; have := w.kk; omega
 have e2 : (dL (YD 1 [0] (Zi 0) (iSeq (d1 (fFld "heads") (dVar 0))) (tV (d2 fGe (dVar 0) (d1 fLen (d1 (fFld "heads") (dVar 1))))) (dVar 0))) [.val (eB b), .emp, .emp, .emp, .emp] = .ok (.list ((b.heads.filter fun h => decide (K <= h)).map fun (h : Nat) => PyData.int (h : Int))) := by
  simp only [dL, YD, iSeq, d1, dVar, List.getElem?_cons_zero, Res.bind_ok, zd1, eH, List.length_map, hl, if_true]
  show (Ym (Zi 0) _ (dVar 0) [.emp, .val (eB b)] _).bind _ = _
  rw [e]
  rfl
 show ((dL _) _).bind (maxD (-1)) = _
 rw [e2, Res.bind_ok]
 unfold Y5
 cases b.heads.filter fun h => decide (K <= h) with
 | nil => rfl
 | cons x r =>
  rw [List.map_cons]
  show maxL (x : Int) _ = _
  rw [zaf]
def bW1 : DS := (dSeq (dSet 4 [] (Zn ZN (Zd (dVar 0) (Zd (dVar 3) dNil))))
  (dIf (tAnd (tV (d2 fGt (dVar 3) (dVar 1))) (tV (d1 U5 (dVar 4))))
  (dApp 2 [] (Zn Wn (Zd (dVar 0) (Zd (dVar 3) (Zd (dVar 4) dNil)))))
  ZO))
def Nx (K m : Nat) (b : LB) (t : Nat) (b' : LB) : Prop := K <= t /\ t < K + m /\ Y5 K b.heads < (t : Int) /\ ∃ j, j < K /\ b.bd.h j < K /\ b.bd.R t j ≠ 0 /\ b' = lsw b t j
theorem Q4 (w : WFb K m b) (s : Sm b) : ∀ (n lo : Nat) (bs : List LB) (s3 s4 : Sl), K <= lo -> lo + n = K + m -> bs.length + n <= 2000 -> ∃ (bs' : List LB) (s3' s4' : Sl), forL (Zi 3) bW1 (rngT lo n) [.val (eB b), .val (.int (Y5 K b.heads)), .own (bs.map eB), s3, s4] = .ok (.nx [.val (eB b), .val (.int (Y5 K b.heads)), .own ((bs ++ bs').map eB), s3', s4']) /\
  bs'.length <= n /\ (∀ b' ∈ bs', ∃ t, lo <= t /\ Nx K m b t b') /\ (∀ t, lo <= t -> t < K + m -> Y5 K b.heads < (t : Int) -> (∃ j, j < K /\ b.bd.h j < K /\ b.bd.R t j ≠ 0) -> ∃ b' ∈ bs', Nx K m b t b')
 | 0, lo, bs, s3, s4, h1, h2, _ => ⟨[], s3, s4, by simp [rngT, forL], by simp, fun b' hb => absurd hb List.not_mem_nil, fun t ht1 ht2 => by omega⟩
 | n + 1, lo, bs, s3, s4, h1, h2, h3 => by
  have hlo : lo < K + m + 1 := by omega
  have hlen : (bs.map eB).length < 16777216 := by simp; omega
  rw [VH]
  have lo1 : ((lo : Int) + 1) = ((lo + 1 : Nat) : Int) := by push_cast; rfl
  rw [lo1]
  rcases zeB w hlo with ⟨j, j1, j2, j3, j4⟩ | ⟨j1, j4⟩
  ·by_cases hg : Y5 K b.heads < (lo : Int)
   ·have sw := zcl w s hlo j1
    obtain ⟨bs', s3', s4', e, e1, e2, e3⟩ := Q4 w s n (lo + 1) (bs ++ [lsw b lo j]) (.val (.int lo)) (.val (.int j)) (by omega) (by omega) (by simp; omega)
    refine ⟨lsw b lo j :: bs', s3', s4', ?_, by simp; omega, fun b' hb => ?_, fun t ht1 ht2 ht3 ht4 => ?_⟩
    ·have bb : bW1 [.val (eB b), .val (.int (Y5 K b.heads)), .own (bs.map eB), .val (.int lo), s4] = .ok (.nx [.val (eB b), .val (.int (Y5 K b.heads)), .own ((bs ++ [lsw b lo j]).map eB), .val (.int lo), .val (.int j)]) := by
      generalize Y5 K b.heads = L at *
      simp [bW1, j4, hg, sw]
      simpa using hlen
     unfold forL
     simp only [Zi, List.set, Res.bind_ok, bb]
     simpa using e
    ·rcases List.mem_cons.mp hb with rfl | hb
     ·exact ⟨lo, Nat.le_refl _, h1, by omega, hg, j, j1, j2, j3, rfl⟩
     ·obtain ⟨t, q1, q2⟩ := e2 b' hb
      exact ⟨t, by omega, q2⟩
    ·by_cases z : t = lo
     ·subst z
      exact ⟨_, List.mem_cons_self, h1, ht2, hg, j, j1, j2, j3, rfl⟩
     ·obtain ⟨b', q1, q2⟩ := e3 t (by omega) ht2 ht3 ht4
      exact ⟨b', List.mem_cons_of_mem _ q1, q2⟩
   ·obtain ⟨bs', s3', s4', e, e1, e2, e3⟩ := Q4 w s n (lo + 1) bs (.val (.int lo)) (.val (.int j)) (by omega) (by omega) (by omega)
    refine ⟨bs', s3', s4', ?_, by omega, fun b' hb => ?_, fun t ht1 ht2 ht3 ht4 => ?_⟩
    ·have bb : bW1 [.val (eB b), .val (.int (Y5 K b.heads)), .own (bs.map eB), .val (.int lo), s4] = .ok (.nx [.val (eB b), .val (.int (Y5 K b.heads)), .own (bs.map eB), .val (.int lo), .val (.int j)]) := by
      generalize Y5 K b.heads = L at *
      simp [bW1, j4, hg]
     unfold forL
     simp only [Zi, List.set, Res.bind_ok, bb]
     exact e
    ·obtain ⟨t, q1, q2⟩ := e2 b' hb
     exact ⟨t, by omega, q2⟩
    ·by_cases z : t = lo
     ·subst z; exact absurd ht3 hg
     ·exact e3 t (by omega) ht2 ht3 ht4
  ·obtain ⟨bs', s3', s4', e, e1, e2, e3⟩ := Q4 w s n (lo + 1) bs (.val (.int lo)) (.val .none) (by omega) (by omega) (by omega)
   refine ⟨bs', s3', s4', ?_, by omega, fun b' hb => ?_, fun t ht1 ht2 ht3 ht4 => ?_⟩
   ·have bb : bW1 [.val (eB b), .val (.int (Y5 K b.heads)), .own (bs.map eB), .val (.int lo), s4] = .ok (.nx [.val (eB b), .val (.int (Y5 K b.heads)), .own (bs.map eB), .val (.int lo), .val .none]) := by
     generalize Y5 K b.heads = L at *
     by_cases hg : L < (lo : Int)
     ·simp [bW1, j4, hg]
     ·simp [bW1, j4, hg]
    unfold forL
    simp only [Zi, List.set, Res.bind_ok, bb]
    exact e
   ·obtain ⟨t, q1, q2⟩ := e2 b' hb
    exact ⟨t, by omega, q2⟩
   ·by_cases z : t = lo
    ·subst z
     obtain ⟨j, a1, a2, a3⟩ := ht4
     exact absurd (j1 j a1 a2) a3
    ·exact e3 t (by omega) ht2 ht3 ht4
theorem zaW (w : WFb K m b) (s : Sm b) : ∃ bs : List LB, Yb [eB b] = .ok (.list (bs.map eB)) /\ bs.length <= m /\ (∀ b' ∈ bs, ∃ t, Nx K m b t b') /\ (∀ t, K <= t -> t < K + m -> Y5 K b.heads < (t : Int) -> (∃ j, j < K /\ b.bd.h j < K /\ b.bd.R t j ≠ 0) -> ∃ b' ∈ bs, Nx K m b t b') := by
 have mm := w.mm
 obtain ⟨bs, s3, s4, e, e1, e2, e3⟩ := Q4 w s m K [] .emp .emp (Nat.le_refl _) rfl (by simp; omega)
 refine ⟨bs, ?_, e1, fun b' hb => let ⟨t, _, q⟩ := e2 b' hb; ⟨t, q⟩, e3⟩
 have l := last_ok w
 have r := zbC w
 have h2 : Wq = dSeq (dFor (Zi 3) [] (iSeq (Zn YT (Zd (dVar 0) dNil))) bW1) Xj := rfl
 have hd : XT [.val (eB b), .emp, .emp, .emp, .emp] = Xk [.val (eB b), .val (.int (Y5 K b.heads)), .emp, .emp, .emp] := by
  show ((dSet 1 [] _ _).bind _) = _
  rw [zb9, l]
  rfl
 have hq : Yb [eB b] = noX ((XT [.val (eB b), .emp, .emp, .emp, .emp]).bind fun o => match o with
  | .rt t => .ok t
  | .nx _ => .ok .none
  | _ => .stuck) := rfl
 rw [hq, hd]
 have e' : forL (Zi 3) bW1 (rngT K m) [.val (eB b), .val (.int (Y5 K b.heads)), .own [], .emp, .emp] = .ok (.nx [.val (eB b), .val (.int (Y5 K b.heads)), .own (bs.map eB), s3, s4]) := by simpa using e
 generalize Y5 K b.heads = L at *
 generalize bs.map eB = BS at *
 simp [Xk, h2, Xj, r, e']
end
end K12
namespace K12
open PySem Fx Lw
section
variable {K m B : Nat} {b b' : LB} {t s : Nat} {M : Sx.Mat}
structure Bs (K m : Nat) (M : Sx.Mat) (s : Nat) (b : LB) : Prop where
 bo : Bo K m M b
 cnt : b.heads.countP (fun h => decide (K <= h)) = s
 asc : ∃ c : List Nat, c.length = s /\ c.Pairwise (· < ·) /\ ∀ t, t ∈ c ↔ (t ∈ b.heads /\ K <= t)
theorem Jp {hs : List Nat} {j t x : Nat} (hj : j < hs.length) (h0 : hs[j] < K) (ht : K <= t) : (x ∈ hs.set j t /\ K <= x) ↔ ((x ∈ hs /\ K <= x) \/ x = t) := by
 constructor
 ·rintro ⟨h, hk⟩
  rcases List.mem_or_eq_of_mem_set h with h | h
  ·exact .inl ⟨h, hk⟩
  ·exact .inr h
 ·rintro (⟨h, hk⟩ | rfl)
  ·refine ⟨?_, hk⟩
   obtain ⟨i, hi, rfl⟩ := List.getElem_of_mem h
   have hne : i ≠ j := fun z => by subst z; omega
   rw [List.mem_iff_getElem]
   exact ⟨i, by simpa using hi, by rw [List.getElem_set_ne (Ne.symm hne)]⟩
  ·exact ⟨List.mem_set hj x, ht⟩
theorem Nx.heads (w : WFb K m b) (n : Nx K m b t b') : ∃ j, ∃ hj : j < b.heads.length, b.heads[j] < K /\ b'.heads = b.heads.set j t := by
 obtain ⟨_, _, _, j, j1, j2, _, rfl⟩ := n
 have hj : j < b.heads.length := by rw [w.hl]; exact j1
 refine ⟨j, hj, ?_, rfl⟩
 rw [bd_h, <- Zt hj] at j2
 exact j2
theorem Nx.bo (o : Bo K m M b) (n : Nx K m b t b') : Bo K m M b' := by
 obtain ⟨h1, h2, _, j, j1, j2, j3, rfl⟩ := n
 exact o.swap h1 h2 j1 j3
theorem Nx.rooms (w : WFb K m b) (n : Nx K m b t b') (x : Nat) : (x ∈ b'.heads /\ K <= x) ↔ ((x ∈ b.heads /\ K <= x) \/ x = t) := by
 obtain ⟨j, hj, h0, e⟩ := n.heads w
 rw [e]
 exact Jp hj h0 n.1
theorem Nx.bs (z : Bs K m M s b) (n : Nx K m b t b') : Bs K m M (s + 1) b' := by
 have w := z.bo.wf
 refine ⟨n.bo z.bo, ?_, ?_⟩
 ·obtain ⟨j, hj, h0, e⟩ := n.heads w
  rw [e, List.countP_set hj, z.cnt]
  have d1 : decide (K <= b.heads[j]) = false := decide_eq_false (by omega)
  have d2 : decide (K <= t) = true := decide_eq_true n.1
  simp [d1, d2]
 ·obtain ⟨c, c1, c2, c3⟩ := z.asc
  refine ⟨c ++ [t], by simp [c1], List.pairwise_append.mpr ⟨c2, List.pairwise_singleton _ _, fun x hx y hy => ?_⟩, fun x => ?_⟩
  ·rw [List.mem_singleton.mp hy]
   obtain ⟨q1, q2⟩ := (c3 x).mp hx
   have := last_ge q1 q2
   have := n.2.2.1
   omega
  ·rw [n.rooms w, List.mem_append, c3, List.mem_singleton]
def bEx : DS := (dExt 3 (za4 Yb (Zd (dVar 4) dNil)))
theorem zbZ (z : Mz K m M B) {g0 g1 g2 : PyData} : ∀ (bs acc : List LB) (s4 : Sl), (∀ b ∈ bs, Bo K m M b) -> acc.length + bs.length * m <= 1000000 -> ∃ (out : List LB) (s4' : Sl), forL (Zi 4) bEx (bs.map eB) [.val g0, .val g1, .val g2, .own (acc.map eB), s4] = .ok (.nx [.val g0, .val g1, .val g2, .own ((acc ++ out).map eB), s4']) /\
  out.length <= bs.length * m /\ (∀ b' ∈ out, ∃ b ∈ bs, ∃ t, Nx K m b t b') /\ (∀ b ∈ bs, ∀ t, K <= t -> t < K + m -> Y5 K b.heads < (t : Int) -> (∃ j, j < K /\ b.bd.h j < K /\ b.bd.R t j ≠ 0) -> ∃ b' ∈ out, Nx K m b t b')
 | [], acc, s4, _, _ => ⟨[], s4, by simp [forL], by simp, fun b' hb => absurd hb List.not_mem_nil, fun b hb => absurd hb List.not_mem_nil⟩
 | b :: bs, acc, s4, hb, hl => by
  have o := hb b List.mem_cons_self
  obtain ⟨os, e1, e2, e3, e4⟩ := zaW o.wf (o.sm z)
  simp only [List.length_cons, Nat.succ_mul] at hl
  obtain ⟨out, s4', f1, f2, f3, f4⟩ := zbZ z (g0 := g0) (g1 := g1) (g2 := g2) bs (acc ++ os) (.val (eB b)) (fun b hb' => hb b (List.mem_cons_of_mem _ hb')) (by simp; omega)
  refine ⟨os ++ out, s4', ?_, by simp [Nat.succ_mul]; omega, fun b' hb' => ?_, fun x hx t t1 t2 t3 t4 => ?_⟩
  ·have bb : bEx [.val g0, .val g1, .val g2, .own (acc.map eB), .val (eB b)] = .ok (.nx [.val g0, .val g1, .val g2, .own ((acc ++ os).map eB), .val (eB b)]) := by
    have l : (acc.map eB).length + (os.map eB).length <= 16777216 := by simp; omega
    rw [List.map_append]
    generalize acc.map eB = A at *
    generalize os.map eB = O at *
    simp [bEx, za4, e1, l]
   rw [List.map_cons]
   unfold forL
   simp only [Zi, List.set, Res.bind_ok, bb]
   rw [f1, List.append_assoc]
  ·rcases List.mem_append.mp hb' with q | q
   ·obtain ⟨t, ht⟩ := e3 b' q
    exact ⟨b, List.mem_cons_self, t, ht⟩
   ·obtain ⟨x, hx, t, ht⟩ := f3 b' q
    exact ⟨x, List.mem_cons_of_mem _ hx, t, ht⟩
  ·rcases List.mem_cons.mp hx with rfl | hx
   ·obtain ⟨b', q1, q2⟩ := e4 t t1 t2 t3 t4
    exact ⟨b', List.mem_append_left _ q1, q2⟩
   ·obtain ⟨b', q1, q2⟩ := f4 x hx t t1 t2 t3 t4
    exact ⟨b', List.mem_append_right _ q1, q2⟩
structure Sel (K m : Nat) (M : Sx.Mat) (sel : Nat -> Nat) : Prop where
 lo : ∀ s, s < K -> K <= sel s /\ sel s < K + m
 inc : ∀ r s, r < s -> s < K -> sel r < sel s
 W : ∃ (W Q : Mx), elm K K W = some Q /\ ∀ s c, s < K -> c < K -> M (sel s) c = -(W s c)
theorem Sel.step {sel : Nat -> Nat} (S : Sel K m M sel) (hs : s < K) (o : Bo K m M b) (hh : ∀ x, (x ∈ b.heads /\ K <= x) ↔ ∃ r, r < s /\ x = sel r) : Y5 K b.heads < (sel s : Int) /\ ∃ j, j < K /\ b.bd.h j < K /\ b.bd.R (sel s) j ≠ 0 := by
 constructor
 ·rcases last_is (K := K) (hs := b.heads) with e | ⟨h, h1, h2, e⟩
  ·rw [e]; omega
  ·rw [e]
   obtain ⟨r, r1, r2⟩ := (hh h).mp ⟨h1, h2⟩
   have := S.inc r s r1 hs
   omega
 ·obtain ⟨W, Q, e, hW⟩ := S.W
  refine zep o.g W e sel hW (fun s hs => by have := (S.lo s hs).2; omega) hs fun j hj hk => ?_
  have hj' : j < b.heads.length := by rw [o.wf.hl]; exact hj
  obtain ⟨r, r1, r2⟩ := (hh (b.bd.h j)).mp ⟨by rw [bd_h, <- Zt hj']; exact List.getElem_mem hj', hk⟩
  exact ⟨r, by omega, by omega, r2⟩
def bOu : DS := (dSeq (WL 3 [] (oLst dNil))
  (dSeq (dFor (Zi 4) [] (iSeq (dVar 1)) bEx)
  (dSet 1 [3] (dVar 3))))
structure All (K m : Nat) (M : Sx.Mat) (s : Nat) (bs : List LB) : Prop where
 len : bs.length <= m ^ s
 snd : ∀ b ∈ bs, Bs K m M s b
 cpl : ∀ sel, Sel K m M sel -> ∃ b ∈ bs, ∀ x, (x ∈ b.heads /\ K <= x) ↔ ∃ r, r < s /\ x = sel r
theorem out_step (z : Mz K m M B) {g0 : PyData} {bs : List LB} (a : All K m M s bs) (hs : s < K) (hm : m ^ s * m <= 1000000) (s3 s4 : Sl) : ∃ (bs' : List LB) (s3' s4' : Sl), All K m M (s + 1) bs' /\ bOu [.val g0, .val (.list (bs.map eB)), .val (.int s), s3, s4] = .ok (.nx [.val g0, .val (.list (bs'.map eB)), .val (.int s), s3', s4']) := by
 have hlen : bs.length * m <= 1000000 := Nat.le_trans (Nat.mul_le_mul_right _ a.len) hm
 obtain ⟨out, s4', f1, f2, f3, f4⟩ := zbZ z (g0 := g0) (g1 := .list (bs.map eB)) (g2 := .int s) bs [] s4 (fun b hb => (a.snd b hb).bo) (by simpa using hlen)
 refine ⟨out, .val (.list (out.map eB)), s4', ⟨?_, fun b' hb' => ?_, fun sel S => ?_⟩, ?_⟩
 ·rw [Nat.pow_succ]
  exact Nat.le_trans f2 (Nat.mul_le_mul_right _ a.len)
 ·obtain ⟨b, hb, t, n⟩ := f3 b' hb'
  exact n.bs (a.snd b hb)
 ·obtain ⟨b, hb, hh⟩ := a.cpl sel S
  have o := (a.snd b hb).bo
  obtain ⟨q1, q2⟩ := S.step hs o hh
  obtain ⟨b', hb', n⟩ := f4 b hb (sel s) (S.lo s hs).1 (S.lo s hs).2 q1 q2
  refine ⟨b', hb', fun x => ?_⟩
  rw [n.rooms o.wf, hh]
  constructor
  ·rintro (⟨r, r1, r2⟩ | rfl)
   ·exact ⟨r, by omega, r2⟩
   ·exact ⟨s, by omega, rfl⟩
  ·rintro ⟨r, r1, r2⟩
   by_cases q : r = s
   ·exact .inr (by rw [r2, q])
   ·exact .inl ⟨r, by omega, r2⟩
 ·have f1' : forL (Zi 4) bEx (bs.map eB) [.val g0, .val (.list (bs.map eB)), .val (.int s), .own [], s4] = .ok (.nx [.val g0, .val (.list (bs.map eB)), .val (.int s), .own (out.map eB), s4']) := by simpa using f1
  generalize out.map eB = O at *
  generalize bs.map eB = A at *
  simp [bOu, f1', dSet]
theorem zex {ls : List Lim} (d : DK K m B n0 ls) (h3 : K <= 3) (h12 : m <= 12) : ∃ bs : List LB, All K m (M0 K ls (List.replicate K 0)) K bs /\ ZX [Qa K ls] = .ok (.list (bs.map eB)) := by
 have hg : (List.replicate K (0 : Int)).length = K := by simp
 have z := d.mz hg (fun x hx => by rw [List.eq_of_mem_replicate hx]; simp)
 have o := d.bo0 hg
 have fb := QI d.k d.len d.m1 d.w hg
 have a0 : All K m (M0 K ls (List.replicate K 0)) 0 [lb0 K ls (List.replicate K 0)] := by
  have nr : ∀ x, ¬ (x ∈ (lb0 K ls (List.replicate K 0)).heads /\ K <= x) := fun x ⟨h1, h2⟩ => by
   have := List.mem_range.mp h1
   omega
  refine ⟨by simp, fun b hb => ?_, fun sel S => ⟨_, List.mem_cons_self, fun x => ⟨fun q => (nr x q).elim, fun ⟨r, r1, _⟩ => by omega⟩⟩⟩
  rw [List.mem_singleton.mp hb]
  refine ⟨o, ?_, [], rfl, .nil, fun t => ⟨fun q => absurd q List.not_mem_nil, fun q => (nr t q).elim⟩⟩
  rw [List.countP_eq_zero]
  intro x hx
  have := List.mem_range.mp (show x ∈ List.range K from hx)
  simp; omega
 have mp : ∀ s, s < K -> m ^ s * m <= 1000000 := fun s hs => by
  have : m ^ (s + 1) <= 12 ^ 3 := Nat.le_trans (Nat.pow_le_pow_left h12 _) (Nat.pow_le_pow_right (by decide) (by omega))
  rw [Nat.pow_succ] at this
  omega
 obtain ⟨G', e, hG⟩ := V7 (st := Zi 2) (b := bOu) (n := K) (G := [.val (Qa K ls), .val (.list ([lb0 K ls (List.replicate K 0)].map eB)), .emp, .emp, .emp]) (fun s G => ∃ (bs : List LB) (s2 s3 s4 : Sl), All K m (M0 K ls (List.replicate K 0)) s bs /\ G = [.val (Qa K ls), .val (.list (bs.map eB)), s2, s3, s4]) ⟨_, .emp, .emp, .emp, a0, rfl⟩ fun s G hs ⟨bs, s2, s3, s4, a, hG⟩ => by
  subst hG
  obtain ⟨bs', s3', s4', a', e⟩ := out_step z (g0 := Qa K ls) a hs (mp s hs) s3 s4
  exact ⟨_, rfl, _, .inl e, ⟨bs', _, _, _, a', rfl⟩⟩
 obtain ⟨bs, s2, s3, s4, a, rfl⟩ := hG
 refine ⟨bs, a, ?_⟩
 have h1 : X0 = dSeq (dFor (Zi 2) [] (iRng (d2 fIx (dVar 0) (dC (.int 0)))) bOu) YL := rfl
 have hr : X3 (K : Int) = true := ZZ (by omega)
 have rep : (List.replicate K [PyData.int 0]).flatten = (List.replicate K (0 : Int)).map .int := by
  rw [List.map_replicate]
  clear fb a0 mp e a h1 hr o z hg d h3
  induction K with
  | zero => rfl
  | succ n ih => rw [List.replicate_succ, List.flatten_cons, ih, List.replicate_succ]; rfl
 have kl : (K : Int) <= 16777216 := by omega
 have kl2 : K <= 16777216 := by omega
 simp only [Qa, eI, List.map_replicate] at fb e ⊢
 generalize bs.map eB = O at *
 generalize ls.map limT = LL at *
 simp at e
 simp [ZX, Ws, h1, YL, runQ, runF, at0, hr, kl, kl2, fb, e]
end
end K12
namespace K12
open PySem Fx Lw
def Rq (K : Nat) (ls : List Lim) (q : List Nat) : Mx := fun s j => if j < K then (ls.getD (q.getD s 0) ([], 0)).1.getD j 0 else (ls.getD (q.getD s 0) ([], 0)).2
theorem zb2 {K : Nat} {R : Mx} : ∀ {n : Nat}, elm K n R = none -> ∃ k Q, k < n /\ elm K k R = some Q /\ stp K k Q = none
 | 0, h => by cases h
 | n + 1, h => by
  cases e : elm K n R with
  | none =>
   obtain ⟨k, Q, h1, h2, h3⟩ := zb2 e
   exact ⟨k, Q, by omega, h2, h3⟩
  | some Q => exact ⟨n, Q, by omega, e, by unfold elm at h; rw [e] at h; exact h⟩
section
variable {K m B n0 : Nat} {b : LB} {ls : List Lim} {q : List Nat} {goal : List Int}
theorem mv_rv (hw : ∀ l ∈ ls, l.1.length = K) {s : Nat} (hs : q.getD s 0 < ls.length) (y : Nat -> Rat) : mv K (M0 K ls goal (K + q.getD s 0)) y = -(rv K (Rq K ls q) (fun c => if c = K then -(y K) else y c) s) := by
 unfold mv rv
 have e : ∀ f : Nat -> Rat, rs (K + 1) f = rs K f + f K := fun f => rfl
 rw [e, e, JF hw hs]
 dsimp only
 rw [if_pos rfl]
 have r1 : rs K (fun c => (M0 K ls goal (K + q.getD s 0) c : Rat) * y c) = rs K (fun c => (-1) * ((Rq K ls q s c : Rat) * (if c = K then -(y K) else y c))) := YY fun c hc => by
  rw [JE hw hs hc, if_neg (by omega)]
  unfold Rq colN
  rw [if_pos hc, Rat.intCast_neg]
  grind
 rw [r1, Uh]
 have r2 : Rq K ls q s K = (ls.getD (q.getD s 0) ([], 0)).2 := if_neg (by omega)
 rw [r2]
 grind
structure Hd (K m : Nat) (b : LB) (q : List Nat) : Prop where
 all : ∀ j, j < K -> ∃ s, s < K /\ b.bd.h j = K + q.getD s 0
 on : ∀ s, s < K -> ∃ j, j < K /\ b.bd.h j = K + q.getD s 0
 lt : ∀ s, s < K -> q.getD s 0 < m
theorem amt_unit : ∀ i c, i < K -> c <= K -> M0 K ls goal i c = if c = i then 1 else 0 := fun i c hi hc => M0_amt hi hc
theorem zdA (hm : ls.length = m) (hw : ∀ l ∈ ls, l.1.length = K) (o : Bo K m (M0 K ls goal) b) (h : Hd K m b q) : ∃ Q, elm K K (Rq K ls q) = some Q /\ ∀ i, i < K -> Q i i ≠ 0 /\ Rat.divInt (b.bd.R i K) b.D = Rat.divInt (Q i K) (Q i i) := by
 have g := o.g
 have hq : ∀ s, s < K -> q.getD s 0 < ls.length := fun s hs => by rw [hm]; exact h.lt s hs
 cases e : elm K K (Rq K ls q) with
 | none =>
  obtain ⟨n, Q, n1, n2, n3⟩ := zb2 e
  obtain ⟨y, y1, y2, y3⟩ := ker_of n2 n1 n3
  have yK : y K = 0 := y3 K (by omega)
  have ye : (fun c => if c = K then -(y K) else y c) = y := by
   funext c
   by_cases z : c = K
   ·rw [if_pos z, z, yK]; rfl
   ·rw [if_neg z]
  have hz : ∀ j, j < K -> mv K (M0 K ls goal (b.bd.h j)) y = 0 := fun j hj => by
   obtain ⟨s, s1, s2⟩ := h.all j hj
   rw [s2, mv_rv hw (hq s s1) y, ye, y1 s s1]
   rfl
  have := zdW g (by omega) amt_unit y hz yK n1
  rw [y2] at this
  exact absurd this (by decide)
 | some Q =>
  refine ⟨Q, rfl, fun i hi => ?_⟩
  have D0 := D_ne g
  obtain ⟨dg, _⟩ := U6 e (Nat.le_refl _)
  have Qi := (dg i hi).1
  refine ⟨Qi, ?_⟩
  let y : Nat -> Rat := fun c => if c = K then 1 else (b.bd.R c K : Rat) / (b.D : Rat)
  have yK : y K = 1 := if_pos rfl
  have hy : ∀ i, i < K + m + 1 -> (b.bd.D : Rat) * mv K (M0 K ls goal i) y = (b.bd.R i K : Rat) * y K := fun i hi => by
   rw [yK, Rat.mul_one]
   have l := o.lin hm hi (Nat.le_refl K)
   rw [if_pos rfl] at l
   have e1 : mv K (M0 K ls goal i) y = rs K (fun c => (M0 K ls goal i c : Rat) * y c) + (M0 K ls goal i K : Rat) * y K := rfl
   rw [e1, yK, Rat.mul_one]
   have e2 : (b.bd.D : Rat) * rs K (fun c => (M0 K ls goal i c : Rat) * y c) = rs K fun c => ((M0 K ls goal i c * b.bd.R c K : Int) : Rat) := by
    rw [<- Uh]
    refine YY fun c hc => ?_
    show (b.D : Rat) * ((M0 K ls goal i c : Rat) * (if c = K then 1 else (b.bd.R c K : Rat) / (b.D : Rat))) = _
    rw [if_neg (by omega), Rat.intCast_mul]
    have := Rat.div_mul_cancel (a := (b.bd.R c K : Rat)) (show (b.D : Rat) ≠ 0 from D0)
    grind
   rw [<- JC] at e2
   rw [l, Rat.intCast_add, Rat.intCast_mul]
   have e3 : (b.bd.D : Rat) = (b.D : Rat) := rfl
   rw [e3] at e2 ⊢
   grind
  have hz : ∀ j, j < K -> mv K (M0 K ls goal (b.bd.h j)) y = 0 := fun j hj => pt_heads g g.hN y hy hj
  have kl : Kl K (Rq K ls q) (fun c => if c = K then -(y K) else y c) := fun s hs => by
   obtain ⟨j, j1, j2⟩ := h.on s hs
   have := hz j j1
   rw [j2, mv_rv hw (hq s hs) y] at this
   grind
  have sl := (sol_of e _).mp kl i hi
  simp only [if_pos] at sl
  rw [if_neg (by omega), yK] at sl
  have yi : y i = (b.bd.R i K : Rat) / (b.D : Rat) := if_neg (by omega)
  rw [yi] at sl
  rw [Rat.divInt_eq_div, Rat.divInt_eq_div, sl]
  grind
theorem keep_iff (hm : ls.length = m) (hw : ∀ l ∈ ls, l.1.length = K) (o : Bo K m (M0 K ls goal) b) (d0 : b.D ≠ 0) : (∀ t, K <= t -> t < K + m -> 0 <= b.bd.R t K) ↔ ∀ l ∈ ls, dot l.1 (pt K b) <= (l.2 : Rat) := by
 have key : ∀ i (hi : i < ls.length), (0 <= b.bd.R (K + i) K ↔ dot ls[i].1 (pt K b) <= (ls[i].2 : Rat)) := fun i hi => by
  have hi' : i < m := by rw [<- hm]; exact hi
  rw [dot_pt (hw _ (List.getElem_mem hi)) d0]
  have e := o.room hm hw hi' (Nat.le_refl K)
  rw [if_pos rfl] at e
  have eg : ls.getD i ([], 0) = ls[i] := (Zt hi).symm
  rw [eg] at e
  have e2 : Sx.sumN K (fun c => ls[i].1.getD c 0 * b.bd.R c K) = Sx.sumN K (fun c => colN c ls[i] * b.bd.R c K) := rfl
  rw [e2, e]
  have pos : 0 < b.D := o.g.pos
  constructor
  ·intro h
   exact div_le pos (by omega)
  ·intro h
   refine Classical.byContradiction fun z => ?_
   have hlt : ls[i].2 * b.D < ls[i].2 * b.D - b.bd.R (K + i) K := by omega
   have : (ls[i].2 : Rat) < Rat.divInt (ls[i].2 * b.D - b.bd.R (K + i) K) b.D := by
    rw [Rat.divInt_eq_div]
    have p : (0 : Rat) < (b.D : Rat) := Rat.intCast_lt_intCast.mpr pos
    have q : ((ls[i].2 * b.D : Int) : Rat) < ((ls[i].2 * b.D - b.bd.R (K + i) K : Int) : Rat) := Rat.intCast_lt_intCast.mpr hlt
    rw [Rat.intCast_mul] at q
    exact (Rat.lt_div_iff p).mpr q
   exact absurd h (Rat.not_le.mpr this)
 constructor
 ·intro h l hl
  obtain ⟨i, hi, rfl⟩ := List.getElem_of_mem hl
  exact (key i hi).mp (h (K + i) (by omega) (by rw [<- hm]; omega))
 ·intro h t t1 t2
  obtain ⟨i, rfl⟩ : ∃ i, t = K + i := ⟨t - K, by omega⟩
  have hi : i < ls.length := by rw [hm]; omega
  exact (key i hi).mpr (h _ (List.getElem_mem hi))
structure Ch (K m : Nat) (q : List Nat) : Prop where
 len : q.length = K
 inc : q.Pairwise (· < ·)
 lt : ∀ x ∈ q, x < m
theorem Bs.rooms (z : Bs K m (M0 K ls goal) K b) : ∀ h ∈ b.heads, K <= h := fun h hh => by
 have c := z.cnt
 rw [<- z.bo.wf.hl, List.countP_eq_length] at c
 have := c h hh
 rw [z.bo.wf.hl] at this
 exact of_decide_eq_true this
theorem Bs.choice (z : Bs K m (M0 K ls goal) K b) : ∃ q, Ch K m q /\ Hd K m b q := by
 obtain ⟨c, c1, c2, c3⟩ := z.asc
 have w := z.bo.wf
 have hw : ∀ x ∈ b.heads, x < K + m := fun x hx => by
  obtain ⟨j, hj, rfl⟩ := List.getElem_of_mem hx
  have := z.bo.hw j (by rw [<- w.hl]; exact hj)
  rw [bd_h, <- Zt hj] at this
  exact this
 have ck : ∀ x ∈ c, K <= x /\ x < K + m := fun x hx => ⟨((c3 x).mp hx).2, hw x ((c3 x).mp hx).1⟩
 have get : ∀ s, s < K -> K + (c.map (· - K)).getD s 0 = c.getD s 0 := fun s hs => by
  have hs' : s < c.length := by omega
  have : (c.map (· - K)).getD s 0 = c[s] - K := by simp [List.getD_eq_getElem?_getD, hs']
  rw [this, <- Zt hs']
  have := (ck _ (List.getElem_mem hs')).1
  omega
 refine ⟨c.map (· - K), ⟨by simp [c1], List.pairwise_map.mpr (c2.imp_of_mem fun {x y} hx hy h => ?_), fun x hx => ?_⟩, ⟨fun j hj => ?_, fun s hs => ?_, fun s hs => ?_⟩⟩
 ·have := (ck x hx).1; have := (ck y hy).1; omega
 ·obtain ⟨y, hy, rfl⟩ := List.mem_map.mp hx
  have := ck y hy; omega
 ·have hj' : j < b.heads.length := by rw [w.hl]; exact hj
  have hm : b.bd.h j ∈ b.heads := by rw [bd_h, <- Zt hj']; exact List.getElem_mem hj'
  obtain ⟨s, hs, e⟩ := List.getElem_of_mem ((c3 _).mpr ⟨hm, z.rooms _ hm⟩)
  exact ⟨s, by omega, by rw [get s (by omega), <- Zt hs, e]⟩
 ·have hs' : s < c.length := by omega
  obtain ⟨h1, h2⟩ := (c3 c[s]).mp (List.getElem_mem hs')
  obtain ⟨j, hj, e⟩ := List.getElem_of_mem h1
  exact ⟨j, by rw [<- w.hl]; exact hj, by rw [get s hs, <- Zt hs', bd_h, <- Zt hj, e]⟩
 ·have hs' : s < (c.map (· - K)).length := by simp; omega
  rw [<- Zt hs']
  obtain ⟨y, hy, e⟩ := List.mem_map.mp (List.getElem_mem hs')
  rw [<- e]
  have := ck y hy; omega
theorem All.board {bs : List LB} (a : All K m (M0 K ls goal) K bs) (hm : ls.length = m) (hw : ∀ l ∈ ls, l.1.length = K) (c : Ch K m q) {Q : Mx} (e : elm K K (Rq K ls q) = some Q) : ∃ b ∈ bs, Bs K m (M0 K ls goal) K b /\ Hd K m b q := by
 have lt : ∀ s, s < K -> q.getD s 0 < m := fun s hs => by
  have hs' : s < q.length := by rw [c.len]; exact hs
  rw [<- Zt hs']
  exact c.lt _ (List.getElem_mem hs')
 have S : Sel K m (M0 K ls goal) fun s => K + q.getD s 0 := ⟨fun s hs => ⟨by omega, by have := lt s hs; omega⟩, fun r s h1 h2 => by
  have hr : r < q.length := by rw [c.len]; omega
  have hs : s < q.length := by rw [c.len]; omega
  rw [<- Zt hr, <- Zt hs]
  have := List.pairwise_iff_getElem.mp c.inc r s hr hs h1
  omega, Rq K ls q, Q, e, fun s j hs hj => by
   rw [JE hw (by rw [hm]; exact lt s hs) hj]
   unfold Rq colN
   rw [if_pos hj]⟩
 obtain ⟨b, hb, hh⟩ := a.cpl _ S
 have z := a.snd b hb
 refine ⟨b, hb, z, ⟨fun j hj => ?_, fun s hs => ?_, lt⟩⟩
 ·have hj' : j < b.heads.length := by rw [z.bo.wf.hl]; exact hj
  have hmem : b.bd.h j ∈ b.heads := by rw [bd_h, <- Zt hj']; exact List.getElem_mem hj'
  obtain ⟨r, r1, r2⟩ := (hh _).mp ⟨hmem, z.rooms _ hmem⟩
  exact ⟨r, r1, r2⟩
 ·obtain ⟨h1, h2⟩ := (hh (K + q.getD s 0)).mpr ⟨s, hs, rfl⟩
  obtain ⟨j, hj, ej⟩ := List.getElem_of_mem h1
  exact ⟨j, by rw [<- z.bo.wf.hl]; exact hj, by rw [bd_h, <- Zt hj, ej]⟩
def mpt (K : Nat) (Q : Mx) : List Rat := (List.range K).map fun i => Rat.divInt (Q i K) (Q i i)
theorem mpt_pt (hm : ls.length = m) (hw : ∀ l ∈ ls, l.1.length = K) (o : Bo K m (M0 K ls goal) b) (h : Hd K m b q) {Q : Mx} (e : elm K K (Rq K ls q) = some Q) : mpt K Q = pt K b := by
 obtain ⟨Q', e', hh⟩ := zdA hm hw o h
 rw [e] at e'
 cases e'
 exact List.map_congr_left fun i hi => (hh i (List.mem_range.mp hi)).2.symm
end
end K12
namespace K12
open PySem Fx Lw
def lexB : List Rat -> List Rat -> Bool
 | a :: as, b :: bs => if a = b then lexB as bs else decide (a < b)
 | _, _ => false
theorem zdE : ∀ p : List Rat, lexB p p = false
 | [] => rfl
 | a :: p => by simp [lexB, zdE p]
theorem zdD : ∀ {p q : List Rat}, p.length = q.length -> lexB p q = false -> p ≠ q -> lexB q p = true
 | [], [], _, _, h => absurd rfl h
 | a :: p, b :: q, hl, h1, h2 => by
  unfold lexB at h1 ⊢
  by_cases e : a = b
  ·subst e
   rw [if_pos rfl] at h1 ⊢
   exact zdD (by simpa using hl) h1 fun z => h2 (by rw [z])
  ·rw [if_neg e] at h1
   rw [if_neg (Ne.symm e)]
   have := of_decide_eq_false h1
   exact decide_eq_true (Rat.lt_of_le_of_ne (Rat.not_lt.mp this) (Ne.symm e))
 | [], _ :: _, hl, _, _ => by simp at hl
 | _ :: _, [], hl, _, _ => by simp at hl
theorem UY : ∀ {p q r : List Rat}, lexB p q = true -> lexB q r = true -> lexB p r = true
 | a :: p, b :: q, c :: r, h1, h2 => by
  unfold lexB at *
  by_cases e1 : a = b
  ·subst e1
   rw [if_pos rfl] at h1
   by_cases e2 : a = c
   ·rw [if_pos e2] at h2 ⊢
    exact UY h1 h2
   ·rw [if_neg e2] at h2 ⊢
    exact h2
  ·rw [if_neg e1] at h1
   have l1 := of_decide_eq_true h1
   by_cases e2 : b = c
   ·subst e2
    rw [if_neg e1]
    exact h1
   ·rw [if_neg e2] at h2
    have l2 := of_decide_eq_true h2
    have l3 : a < c := by grind
    rw [if_neg (fun z => by rw [z] at l3; exact Rat.lt_irrefl l3)]
    exact decide_eq_true l3
 | [], _, _, h1, _ => by simp [lexB] at h1
 | _ :: _, [], _, h1, _ => by simp [lexB] at h1
 | _ :: _, _ :: _, [], _, h2 => by simp [lexB] at h2
def ptL (p : List Rat) : PyData := .list (p.map fr)
def bCb : DS := (dIf (tV (d2 fNe (dVar 2) (dVar 3)))
  (dRet (Zn V8 (Zd (dVar 2) (Zd (dVar 3) dNil))))
  ZO)
theorem zet {n0 : Nat} (hn : n0 <= 1000) {t0 t1 : PyData} : ∀ (p q : List Rat) (s2 s3 : Sl), (∀ x ∈ p, Sz n0 x) -> (∀ x ∈ q, Sz n0 x) -> forL (Xf 2 3) bCb (zipT (p.map fr) (q.map fr)) [.val t0, .val t1, s2, s3] = .ok (.rt (.bool (lexB p q))) \/ (lexB p q = false /\ ∃ s2' s3', forL (Xf 2 3) bCb (zipT (p.map fr) (q.map fr)) [.val t0, .val t1, s2, s3] = .ok (.nx [.val t0, .val t1, s2', s3']))
 | [], q, s2, s3, _, _ => .inr ⟨rfl, s2, s3, by cases q <;> rfl⟩
 | _ :: _, [], s2, s3, _, _ => .inr ⟨rfl, s2, s3, rfl⟩
 | a :: p, b :: q, s2, s3, hp, hq => by
  have ne := fNe_fr a b
  have bl := zcf (hp a List.mem_cons_self) (hq b List.mem_cons_self) (by omega)
  by_cases e : a = b
  ·subst e
   have bb : bCb [.val t0, .val t1, .val (fr a), .val (fr a)] = .ok (.nx [.val t0, .val t1, .val (fr a), .val (fr a)]) := by
    simp at ne
    simp [bCb, ne]
   have st : forL (Xf 2 3) bCb (zipT ((a :: p).map fr) ((a :: q).map fr)) [.val t0, .val t1, s2, s3] = forL (Xf 2 3) bCb (zipT (p.map fr) (q.map fr)) [.val t0, .val t1, .val (fr a), .val (fr a)] := by
    rw [List.map_cons, List.map_cons]
    conv => lhs; unfold zipT forL
    simp only [Xf, List.set, Res.bind_ok, bb]
   have lx : lexB (a :: p) (a :: q) = lexB p q := by simp [lexB]
   rw [st, lx]
   exact zet hn p q _ _ (fun x hx => hp x (List.mem_cons_of_mem _ hx)) fun x hx => hq x (List.mem_cons_of_mem _ hx)
  ·left
   have lx : lexB (a :: p) (b :: q) = decide (a < b) := by simp [lexB, e]
   have bb : bCb [.val t0, .val t1, .val (fr a), .val (fr b)] = .ok (.rt (.bool (decide (a < b)))) := by
    simp [e] at ne
    simp [bCb, ne, bl]
   rw [lx, List.map_cons, List.map_cons]
   unfold zipT forL
   simp only [Xf, List.set, Res.bind_ok, bb]
theorem zey {n0 : Nat} (hn : n0 <= 1000) {p q : List Rat} (hp : ∀ x ∈ p, Sz n0 x) (hq : ∀ x ∈ q, Sz n0 x) : Z7 [ptL p, ptL q] = .ok (.bool (lexB p q)) := by
 have h : Vn = dSeq (dFor (Xf 2 3) [] (iZip (iSeq (dVar 0)) (iSeq (dVar 1))) bCb) Xy := rfl
 simp only [ptL]
 rcases zet hn (t0 := .list (p.map fr)) (t1 := .list (q.map fr)) p q .emp .emp hp hq with e | ⟨l, s2, s3, e⟩
 ·simp [Z7, h, runQ, runF, e]
 ·simp [Z7, h, Xy, runQ, runF, e, l]
structure Up (K n0 : Nat) (L : List (List Rat)) : Prop where
 asc : L.Pairwise fun p q => lexB p q = true
 len : ∀ p ∈ L, p.length = K
 sz : ∀ p ∈ L, ∀ x ∈ p, Sz n0 x
def cPi : DT := (tAnd (tV (d2 fLt (dVar 2) (d1 fLen (dVar 0)))) (tV (Zn Z7 (Zd (d2 fIx (dVar 0) (dVar 2)) (Zd (dVar 1) dNil)))))
def bPi : DS := (dSet 2 [] (d2 fAdd (dVar 2) (dC (.int 1))))
theorem zdk {K n0 : Nat} (hn : n0 <= 1000) {L : List (List Rat)} (u : Up K n0 L) {p : List Rat} (hp : ∀ x ∈ p, Sz n0 x) : ∀ (n j fuel : Nat), L.length - j = n -> j <= L.length -> n < fuel -> (∀ i (hi : i < L.length), i < j -> lexB L[i] p = true) -> ∃ k, k <= L.length /\ (∀ i (hi : i < L.length), i < k -> lexB L[i] p = true) /\ (∀ hk : k < L.length, lexB L[k] p = false) /\ Xq cPi bPi fuel [.val (.list (L.map ptL)), .val (ptL p), .val (.int j)] = .ok (.nx [.val (.list (L.map ptL)), .val (ptL p), .val (.int k)])
 | n, j, 0, _, _, hf, _ => by omega
 | n, j, fuel + 1, hn', hj, hf, hb => by
  by_cases hjl : j < L.length
  ·have at_ : atP (L.map ptL) (j : Int) = some (ptL L[j]) := Xn hjl
   have bf := zey hn (u.sz _ (List.getElem_mem hjl)) hp
   have lt : (j : Int) < (L.length : Int) := by omega
   have ct : cPi (frzA [.val (.list (L.map ptL)), .val (ptL p), .val (.int j)]) = .ok (lexB L[j] p) := by
    have ll : (L.map ptL).length = L.length := by simp
    generalize L.map ptL = LL at *
    generalize ptL L[j] = x1 at *
    generalize ptL p = x2 at *
    simp [cPi, ll, lt, at_, bf]
   cases e : lexB L[j] p with
   | false =>
    refine ⟨j, hj, hb, fun _ => e, ?_⟩
    unfold Xq
    rw [ct, e]
    rfl
   | true =>
    obtain ⟨k, k1, k2, k3, k4⟩ := zdk hn u hp (n - 1) (j + 1) fuel (by omega) (by omega) (by omega) fun i hi hij => by
     by_cases z : i = j
     ·subst z; exact e
     ·exact hb i hi (by omega)
    refine ⟨k, k1, k2, k3, ?_⟩
    unfold Xq
    rw [ct, e, Res.bind_ok, if_pos rfl]
    have bb : bPi [.val (.list (L.map ptL)), .val (ptL p), .val (.int j)] = .ok (.nx [.val (.list (L.map ptL)), .val (ptL p), .val (.int ((j + 1 : Nat) : Int))]) := by simp [bPi]
    rw [bb, Res.bind_ok]
    exact k4
  ·have ej : j = L.length := by omega
   refine ⟨j, hj, hb, fun hk => absurd hk hjl, ?_⟩
   have lt : ¬ (j : Int) < (L.length : Int) := by omega
   have ct : cPi (frzA [.val (.list (L.map ptL)), .val (ptL p), .val (.int j)]) = .ok false := by
    simp [cPi, lt]
   unfold Xq
   rw [ct]
   rfl
theorem cut_to {L : List PyData} {k : Nat} (h : k <= L.length) : cutT L none (some (k : Int)) = L.take k := by
 unfold cutT
 simp only [sIxT]
 rw [if_neg (by omega)]
 simp
theorem cut_from {L : List PyData} {k : Nat} (h : k <= L.length) : cutT L (some (k : Int)) none = L.drop k := by
 unfold cutT
 simp only [sIxT]
 rw [if_neg (by omega)]
 have : min (k : Int).toNat L.length = k := by simp; omega
 rw [this]
 exact List.take_of_length_le (by simp)
theorem zao : ∀ a b : List Rat, PyData.eqvAll (a.map fr) (b.map fr) = decide (a = b)
 | [], [] => by simp [PyData.eqvAll]
 | [], _ :: _ => by simp [PyData.eqvAll]
 | _ :: _, [] => by simp [PyData.eqvAll]
 | x :: a, y :: b => by
  simp only [List.map_cons, PyData.eqvAll, eqv_fr, zao a b]
  by_cases h1 : x = y <;> by_cases h2 : a = b <;> simp [h1, h2]
theorem eqv_pt (a b : List Rat) : PyData.eqv (ptL a) (ptL b) = decide (a = b) := by
 simp only [ptL, PyData.eqv]
 exact zao a b
theorem JO (a : List Rat) : Shp 2 (ptL a) := Q9 fun x _ => zby x
theorem fEq_pt (a b : List Rat) : fEq (ptL a) (ptL b) = .ok (.bool (decide (a = b))) := by
 unfold fEq
 split
 ·rename_i e1 e2; cases e1
 ·simp [(JO a).ok (by decide), (JO b).ok (by decide), eqv_pt]
theorem put_ok {K n0 : Nat} (hn : n0 <= 1000) {L : List (List Rat)} (u : Up K n0 L) (hl : L.length < 900) {p : List Rat} (lp : p.length = K) (hp : ∀ x ∈ p, Sz n0 x) : ∃ L', Up K n0 L' /\ L'.length <= L.length + 1 /\ (∀ x, x ∈ L' ↔ x ∈ L \/ x = p) /\ X9 [.list (L.map ptL), ptL p] = .ok (.list (L'.map ptL)) := by
 obtain ⟨k, k1, k2, k3, k4⟩ := zdk hn u hp L.length 0 1000 rfl (by omega) (by omega) fun i hi h => by omega
 have h1 : QU = dSeq (X2 V0 cPi bPi) Xl := rfl
 have wh : X2 V0 cPi bPi [.val (.list (L.map ptL)), .val (ptL p), .val (.int 0)] = .ok (.nx [.val (.list (L.map ptL)), .val (ptL p), .val (.int k)]) := k4
 have top : ∀ t, Xl [.val (.list (L.map ptL)), .val (ptL p), .val (.int k)] = .ok (.rt t) -> X9 [.list (L.map ptL), ptL p] = .ok t := fun t ht => by
  generalize L.map ptL = LL at *
  generalize ptL p = x2 at *
  simp [X9, zb7, h1, runQ, runF, wh, ht, -X2]
 have ins : (∀ hk : k < L.length, L[k] ≠ p) -> Up K n0 (L.take k ++ [p] ++ L.drop k) := fun hne => by
  have bef : ∀ x ∈ L.take k, lexB x p = true := fun x hx => by
   obtain ⟨i, hi, rfl⟩ := List.getElem_of_mem hx
   rw [List.length_take] at hi
   rw [List.getElem_take]
   exact k2 i (by omega) (by omega)
  have aft : ∀ x ∈ L.drop k, lexB p x = true := fun x hx => by
   obtain ⟨i, hi, rfl⟩ := List.getElem_of_mem hx
   rw [List.length_drop] at hi
   rw [List.getElem_drop]
   have hk : k < L.length := by omega
   have f := zdD (by rw [u.len _ (List.getElem_mem hk), lp]) (k3 hk) (hne hk)
   by_cases z : i = 0
   ·subst z; exact f
   ·exact UY f (List.pairwise_iff_getElem.mp u.asc k (k + i) hk (by omega) (by omega))
  refine ⟨?_, fun x hx => ?_, fun x hx => ?_⟩
  ·rw [List.append_assoc, List.pairwise_append]
   refine ⟨u.asc.sublist (List.take_sublist _ _), ?_, fun x hx y hy => ?_⟩
   ·show (p :: L.drop k).Pairwise _
    rw [List.pairwise_cons]
    exact ⟨aft, u.asc.sublist (List.drop_sublist _ _)⟩
   ·rcases List.mem_cons.mp (show y ∈ p :: L.drop k from hy) with rfl | hy
    ·exact bef x hx
    ·exact UY (bef x hx) (aft y hy)
  ·rcases List.mem_append.mp hx with hx | hx
   ·rcases List.mem_append.mp hx with hx | hx
    ·exact u.len x (List.mem_of_mem_take hx)
    ·rw [List.mem_singleton.mp hx]; exact lp
   ·exact u.len x (List.mem_of_mem_drop hx)
  ·rcases List.mem_append.mp hx with hx | hx
   ·rcases List.mem_append.mp hx with hx | hx
    ·exact u.sz x (List.mem_of_mem_take hx)
    ·rw [List.mem_singleton.mp hx]; exact hp
   ·exact u.sz x (List.mem_of_mem_drop hx)
 have memI : ∀ x, x ∈ L.take k ++ [p] ++ L.drop k ↔ x ∈ L \/ x = p := fun x => by
  conv => rhs; rw [<- List.take_append_drop k L]
  simp only [List.mem_append, List.mem_singleton]
  constructor
  ·rintro ((h | h) | h)
   ·exact .inl (.inl h)
   ·exact .inr h
   ·exact .inl (.inr h)
  ·rintro ((h | h) | h)
   ·exact .inl (.inl h)
   ·exact .inr h
   ·exact .inl (.inr h)
 have ll : (L.map ptL).length = L.length := by simp
 have run : (∀ hk : k < L.length, L[k] ≠ p) -> Xl [.val (.list (L.map ptL)), .val (ptL p), .val (.int k)] = .ok (.rt (.list ((L.take k ++ [p] ++ L.drop k).map ptL))) := fun hne => by
  have c1 := cut_to (L := L.map ptL) (k := k) (by simpa using k1)
  have c2 := cut_from (L := L.map ptL) (k := k) (by simpa using k1)
  have em : (L.take k ++ [p] ++ L.drop k).map ptL = (L.map ptL).take k ++ [ptL p] ++ (L.map ptL).drop k := by simp [List.map_append, List.map_take, List.map_drop]
  rw [em]
  have l1 : ((L.map ptL).take k).length = k := by simp; omega
  have l2 : ((L.map ptL).drop k).length = L.length - k := by simp
  have z1 : k + 1 <= 16777216 := by omega
  have z2 : k + 1 + (L.length - k) <= 16777216 := by omega
  have z3 : k <= 16777215 := by omega
  by_cases hk : k < L.length
  ·have lt : (k : Int) < (L.length : Int) := by omega
   have at_ : atP (L.map ptL) (k : Int) = some (ptL L[k]) := Xn hk
   have q := fEq_pt L[k] p
   rw [decide_eq_false (hne hk)] at q
   generalize ptL L[k] = x1 at *
   generalize ptL p = x2 at *
   generalize L.map ptL = LL at *
   generalize LL.take k = T1 at *
   generalize LL.drop k = T2 at *
   simp [Xl, Ua, ll, lt, at_, q, c1, c2, l1, l2, z1, z2, z3]
  ·have lt : ¬ (k : Int) < (L.length : Int) := by omega
   generalize ptL p = x2 at *
   generalize L.map ptL = LL at *
   generalize LL.take k = T1 at *
   generalize LL.drop k = T2 at *
   simp [Xl, Ua, ll, lt, c1, c2, l1, l2, z1, z2, z3]
 by_cases hk : k < L.length
 ·by_cases e : L[k] = p
  ·refine ⟨L, u, by omega, fun x => ⟨.inl, fun h => h.elim id fun h => by rw [h, <- e]; exact List.getElem_mem hk⟩, top _ ?_⟩
   have lt : (k : Int) < (L.length : Int) := by omega
   have at_ : atP (L.map ptL) (k : Int) = some (ptL L[k]) := Xn hk
   have q := fEq_pt L[k] p
   rw [decide_eq_true e] at q
   generalize ptL L[k] = x1 at *
   generalize ptL p = x2 at *
   generalize L.map ptL = LL at *
   simp [Xl, ll, lt, at_, q]
  ·exact ⟨_, ins fun _ => e, by simp; omega, memI, top _ (run fun _ => e)⟩
 ·exact ⟨_, ins fun h => absurd h hk, by simp; omega, memI, top _ (run fun h => absurd h hk)⟩
section
variable {K m B n0 : Nat} {ls : List Lim}
def bCo : DS := (dIf (tV (d1 fIsN (Zn Yc (Zd (dVar 2) dNil))))
  (dSet 1 [] (Zn X9 (Zd (dVar 1) (Zd (Zn XL (Zd (dVar 2) dNil)) dNil))))
  ZO)
theorem pt_len (b : LB) : (pt K b).length = K := by simp [pt]
theorem zeq (d : DK K m B n0 ls) {g0 : PyData} {goal : List Int} (hg : goal.length = K) (h2 : ∀ x ∈ goal, x.natAbs <= B) : ∀ (bs : List LB) (L : List (List Rat)) (s2 : Sl), (∀ b ∈ bs, Bo K m (M0 K ls goal) b) -> Up K n0 L -> L.length + bs.length < 900 -> ∃ (L' : List (List Rat)) (s2' : Sl), Up K n0 L' /\ L'.length <= L.length + bs.length /\ (∀ x, x ∈ L' ↔ x ∈ L \/ ∃ b ∈ bs, (∀ t, K <= t -> t < K + m -> 0 <= b.bd.R t K) /\ x = pt K b) /\ forL (Zi 2) bCo (bs.map eB) [.val g0, .val (.list (L.map ptL)), s2] = .ok (.nx [.val g0, .val (.list (L'.map ptL)), s2'])
 | [], L, s2, _, u, _ => ⟨L, s2, u, by simp, fun x => ⟨.inl, fun h => h.elim id fun ⟨b, hb, _⟩ => absurd hb List.not_mem_nil⟩, rfl⟩
 | b :: bs, L, s2, hb, u, hl => by
  have o := hb b List.mem_cons_self
  have z := d.mz hg h2
  have sm := o.sm z
  have sz := d.szb hg h2 o
  simp only [List.length_cons] at hl
  have rest := fun L' (u' : Up K n0 L') (hl' : L'.length <= L.length + 1) s => zeq d (g0 := g0) hg h2 bs L' s (fun b hb' => hb b (List.mem_cons_of_mem _ hb')) u' (by omega)
  rcases short_ok o.wf with ⟨t, t1, t2, t3, _, t5⟩ | ⟨t1, t2⟩
  ·obtain ⟨L', s2', u', l', m', e'⟩ := rest L u (by omega) (.val (eB b))
   refine ⟨L', s2', u', by simp; omega, fun x => ?_, ?_⟩
   ·rw [m']
    constructor
    ·rintro (h | ⟨c, c1, c2, c3⟩)
     ·exact .inl h
     ·exact .inr ⟨c, List.mem_cons_of_mem _ c1, c2, c3⟩
    ·rintro (h | ⟨c, c1, c2, c3⟩)
     ·exact .inl h
     ·rcases List.mem_cons.mp c1 with rfl | c1
      ·have := c2 t t1 t2; omega
      ·exact .inr ⟨c, c1, c2, c3⟩
   ·have bb : bCo [.val g0, .val (.list (L.map ptL)), .val (eB b)] = .ok (.nx [.val g0, .val (.list (L.map ptL)), .val (eB b)]) := by
     generalize L.map ptL = LL at *
     simp [bCo, t5]
    rw [List.map_cons]
    unfold forL
    simp only [Zi, List.set, Res.bind_ok, bb]
    exact e'
  ·have po := zaU o sm
   obtain ⟨L1, u1, l1, m1, e1⟩ := put_ok d.n u (by omega) (pt_len b) (pt_sz sz sm)
   obtain ⟨L', s2', u', l', m', e'⟩ := rest L1 u1 l1 (.val (eB b))
   refine ⟨L', s2', u', by simp; omega, fun x => ?_, ?_⟩
   ·rw [m', m1]
    constructor
    ·rintro ((h | h) | ⟨c, c1, c2, c3⟩)
     ·exact .inl h
     ·exact .inr ⟨b, List.mem_cons_self, t1, h⟩
     ·exact .inr ⟨c, List.mem_cons_of_mem _ c1, c2, c3⟩
    ·rintro (h | ⟨c, c1, c2, c3⟩)
     ·exact .inl (.inl h)
     ·rcases List.mem_cons.mp c1 with rfl | c1
      ·exact .inl (.inr c3)
      ·exact .inr ⟨c, c1, c2, c3⟩
   ·have bb : bCo [.val g0, .val (.list (L.map ptL)), .val (eB b)] = .ok (.nx [.val g0, .val (.list (L1.map ptL)), .val (eB b)]) := by
     have e1' : X9 [.list (L.map ptL), .list ((pt K b).map fr)] = .ok (.list (L1.map ptL)) := e1
     generalize L.map ptL = LL at *
     generalize L1.map ptL = LL1 at *
     simp [bCo, t2, po, e1']
    rw [List.map_cons]
    unfold forL
    simp only [Zi, List.set, Res.bind_ok, bb]
    exact e'
theorem zcH (d : DK K m B n0 ls) (h3 : K <= 3) (h7 : m <= 7) : ∃ (bs : List LB) (L : List (List Rat)), All K m (M0 K ls (List.replicate K 0)) K bs /\ Up K n0 L /\ L.length <= 343 /\ (∀ x, x ∈ L ↔ ∃ b ∈ bs, (∀ t, K <= t -> t < K + m -> 0 <= b.bd.R t K) /\ x = pt K b) /\ WV [Qa K ls] = .ok (.list (L.map ptL)) := by
 obtain ⟨bs, a, e⟩ := zex d h3 (by omega)
 have hl : bs.length <= 343 := Nat.le_trans a.len (Nat.le_trans (Nat.pow_le_pow_left h7 K) (Nat.le_trans (Nat.pow_le_pow_right (by decide) h3) (by decide)))
 obtain ⟨L, s2, u, l, mm, e2⟩ := zeq d (g0 := Qa K ls) (goal := List.replicate K 0) (by simp) (fun x hx => by rw [List.eq_of_mem_replicate hx]; simp) bs [] .emp (fun b hb => (a.snd b hb).bo) ⟨.nil, fun p hp => absurd hp List.not_mem_nil, fun p hp => absurd hp List.not_mem_nil⟩ (by simp; omega)
 refine ⟨bs, L, a, u, by simp at l; omega, fun x => ?_, ?_⟩
 ·rw [mm]
  exact ⟨fun h => h.elim (fun h => absurd h List.not_mem_nil) id, .inr⟩
 ·have h2 : Qs = dSeq (dFor (Zi 2) [] (iSeq (Zn ZX (Zd (dVar 0) dNil))) bCo) Vx := rfl
  have z1 : ¬ (3 : Int) < (K : Int) := by omega
  have z2 : ¬ (12 : Int) < ((ls.map limT).length : Int) := by rw [List.length_map, d.len]; omega
  have e2' : forL (Zi 2) bCo (bs.map eB) [.val (Qa K ls), .val (.list []), .emp] = .ok (.nx [.val (Qa K ls), .val (.list (L.map ptL)), s2]) := e2
  simp only [Qa] at e e2' ⊢
  generalize ls.map limT = LL at *
  generalize bs.map eB = O at *
  generalize L.map ptL = PP at *
  simp [WV, zau, Qt, h2, Vx, runQ, runF, at0, at1, z1, z2, e, e2']
end
end K12
namespace K12
open PySem Fx Lw
theorem V9 (i j : Int) : fEq (.int i) (.int j) = .ok (.bool (decide (i = j))) := by simp [fEq]
def okP (q : List Nat) (p : Nat) : Bool := match q.getLast? with
 | none => true
 | some l => decide (l < p)
def ext (m : Nat) (q : List Nat) : List (List Nat) := ((List.range m).filter (okP q)).map fun p => q ++ [p]
def chs (m : Nat) : Nat -> List (List Nat)
 | 0 => [[]]
 | s + 1 => (chs m s).flatMap (ext m)
theorem zds {q : List Nat} (hq : q.Pairwise (· < ·)) {p : Nat} : okP q p = true ↔ ∀ x ∈ q, x < p := by
 unfold okP
 cases e : q.getLast? with
 | none =>
  rw [List.getLast?_eq_none_iff] at e
  subst e
  simp
 | some l =>
  have hl : l ∈ q := List.mem_of_getLast? e
  constructor
  ·intro h x hx
   have hlp := of_decide_eq_true h
   obtain ⟨ys, rfl⟩ := List.getLast?_eq_some_iff.mp e
   rcases List.mem_append.mp hx with hx | hx
   ·have := (List.pairwise_append.mp hq).2.2 x hx l List.mem_cons_self
    omega
   ·rw [List.mem_singleton.mp hx]; exact hlp
  ·intro h
   exact decide_eq_true (h l hl)
theorem Ud (m : Nat) : ∀ (s : Nat) (q : List Nat), q ∈ chs m s ↔ Ch s m q
 | 0, q => by
  constructor
  ·intro h
   rw [List.mem_singleton.mp h]
   exact ⟨rfl, .nil, fun x hx => absurd hx List.not_mem_nil⟩
  ·intro h
   rw [List.length_eq_zero_iff.mp h.len]
   exact List.mem_cons_self
 | s + 1, q => by
  show q ∈ (chs m s).flatMap (ext m) ↔ _
  rw [List.mem_flatMap]
  constructor
  ·rintro ⟨r, hr, hq⟩
   have c := (Ud m s r).mp hr
   obtain ⟨p, hp, rfl⟩ := List.mem_map.mp hq
   obtain ⟨p1, p2⟩ := List.mem_filter.mp hp
   have p3 := (zds c.inc).mp p2
   refine ⟨by simp [c.len], List.pairwise_append.mpr ⟨c.inc, List.pairwise_singleton _ _, fun x hx y hy => by rw [List.mem_singleton.mp hy]; exact p3 x hx⟩, fun x hx => ?_⟩
   rcases List.mem_append.mp hx with hx | hx
   ·exact c.lt x hx
   ·rw [List.mem_singleton.mp hx]; exact List.mem_range.mp p1
  ·intro h
   have hne : q ≠ [] := fun z => by have := h.len; rw [z] at this; simp at this
   have e : q.dropLast ++ [q.getLast hne] = q := List.dropLast_concat_getLast hne
   have hq := h.inc
   rw [<- e] at hq
   obtain ⟨h1, _, h3⟩ := List.pairwise_append.mp hq
   refine ⟨q.dropLast, (Ud m s _).mpr ⟨by simp [h.len], h1, fun x hx => h.lt x ((List.dropLast_sublist q).subset hx)⟩, List.mem_map.mpr ⟨q.getLast hne, List.mem_filter.mpr ⟨List.mem_range.mpr (h.lt _ (List.getLast_mem hne)), (zds h1).mpr fun x hx => h3 x hx _ List.mem_cons_self⟩, e⟩⟩
theorem eH_int (q : List Nat) : eH q = .list ((q.map fun (h : Nat) => (h : Int)).map .int) := by simp [eH, List.map_map, Function.comp_def]
theorem eq_nil (q : List Nat) : fEq (eH q) (.list []) = .ok (.bool q.isEmpty) := by
 rw [eH_int]
 unfold fEq
 split
 ·rename_i e1 e2; cases e1
 ·rw [Vr, V3, zd8]
  simp
def bCi : DS := (dIf (tOr (tV (d2 fEq (dVar 5) (dLst dNil))) (tV (d2 fGt (dVar 6) (d2 fIx (dVar 5) (d1 fNeg (dC (.int 1)))))))
  (dApp 4 [] (d2 fAdd (dVar 5) (dLst (Zd (dVar 6) dNil))))
  ZO)
theorem ci_body {g0 g1 g2 g3 : PyData} {q : List Nat} {p : Nat} {W : List PyData} (hW : W.length < 1000000) (hq : q.length < 1000000) : bCi [.val g0, .val g1, .val g2, .val g3, .own W, .val (eH q), .val (.int p)] = .ok (.nx [.val g0, .val g1, .val g2, .val g3, .own (if okP q p then W ++ [eH (q ++ [p])] else W), .val (eH q), .val (.int p)]) := by
 have e0 := eq_nil q
 have l1 : W.length < 16777216 := by omega
 have l2 : q.length + 1 <= 16777216 := by omega
 have l3 : q.length <= 16777215 := by omega
 have ea : eH (q ++ [p]) = .list ((q.map fun (h : Nat) => .int (h : Int)) ++ [.int p]) := by simp [eH]
 cases e : q.getLast? with
 | none =>
  rw [List.getLast?_eq_none_iff] at e
  subst e
  have e0' : fEq (.list []) (.list []) = .ok (.bool true) := e0
  have ho : okP [] p = true := rfl
  rw [ho]
  show bCi [.val g0, .val g1, .val g2, .val g3, .own W, .val (.list []), .val (.int p)] = .ok (.nx [.val g0, .val g1, .val g2, .val g3, .own (W ++ [.list [.int p]]), .val (.list []), .val (.int p)])
  simp [bCi, e0', l1]
 | some l =>
  obtain ⟨ys, rfl⟩ := List.getLast?_eq_some_iff.mp e
  have hne : (ys ++ [l]).isEmpty = false := by simp
  rw [hne] at e0
  have at_ : atP ((ys ++ [l]).map fun (h : Nat) => PyData.int (h : Int)) (-1) = some (.int l) := by
   have := zez (f := fun (h : Nat) => PyData.int (h : Int)) (xs := ys ++ [l]) (k := ys.length) (0 : Nat) (by simp)
   rw [this]
   simp
  have ho : okP (ys ++ [l]) p = decide (l < p) := by unfold okP; rw [e]
  rw [ho, ea]
  simp only [eH] at e0 at_ ⊢
  have lq : ((ys ++ [l]).map fun (h : Nat) => PyData.int (h : Int)).length = ys.length + 1 := by simp
  have l4 : ys.length + 1 <= 16777215 := by simp at l3; omega
  have l5 : ys.length <= 16777214 := by omega
  generalize ((ys ++ [l]).map fun (h : Nat) => PyData.int (h : Int)) = Q at *
  by_cases h : l < p
  ·have h' : (l : Int) < (p : Int) := by omega
   simp [bCi, e0, at_, h, h', l1, lq, l4, l5]
  ·have h' : ¬ (l : Int) < (p : Int) := by omega
   simp [bCi, e0, at_, h, h']
theorem zer {g0 g1 g2 g3 : PyData} {q : List Nat} (hq : q.length < 1000000) : ∀ (n lo : Nat) (W : List PyData) (s6 : Sl), W.length + n < 1000000 -> ∃ s6', forL (Zi 6) bCi (rngT lo n) [.val g0, .val g1, .val g2, .val g3, .own W, .val (eH q), s6] = .ok (.nx [.val g0, .val g1, .val g2, .val g3, .own (W ++ (((List.range n).map (· + lo)).filter (okP q)).map fun p => eH (q ++ [p])), .val (eH q), s6'])
 | 0, lo, W, s6, _ => ⟨s6, by simp [rngT, forL]⟩
 | n + 1, lo, W, s6, hl => by
  rw [VH]
  have lo1 : ((lo : Int) + 1) = ((lo + 1 : Nat) : Int) := by push_cast; rfl
  rw [lo1]
  have bb := ci_body (g0 := g0) (g1 := g1) (g2 := g2) (g3 := g3) (q := q) (p := lo) (W := W) (by omega) hq
  obtain ⟨s6', e⟩ := zer hq n (lo + 1) (if okP q lo then W ++ [eH (q ++ [lo])] else W) (.val (.int lo)) (by split <;> (try simp) <;> omega)
  refine ⟨s6', ?_⟩
  unfold forL
  simp only [Zi, List.set, Res.bind_ok, bb]
  rw [e]
  have er : ((List.range (n + 1)).map (· + lo)) = lo :: ((List.range n).map (· + (lo + 1))) := by
   rw [List.range_succ_eq_map, List.map_cons, List.map_map]
   simp
   intro a _
   omega
  rw [er, List.filter_cons]
  cases ho : okP q lo <;> simp
def bCr : DS := (dFor (Zi 6) [] (iRng (dVar 0)) bCi)
theorem ext_eq (m : Nat) (q : List Nat) : (ext m q).map eH = (((List.range m).map (· + 0)).filter (okP q)).map fun p => eH (q ++ [p]) := by
 simp [ext, List.map_map, Function.comp_def]
theorem zem {g1 g2 g3 : PyData} {m : Nat} (hm : m <= 100) : ∀ (cs : List (List Nat)) (W : List PyData) (s5 s6 : Sl), (∀ q ∈ cs, q.length <= 100) -> W.length + cs.length * m + m < 1000000 -> ∃ s5' s6', forL (Zi 5) bCr (cs.map eH) [.val (.int m), .val g1, .val g2, .val g3, .own W, s5, s6] = .ok (.nx [.val (.int m), .val g1, .val g2, .val g3, .own (W ++ (cs.flatMap (ext m)).map eH), s5', s6'])
 | [], W, s5, s6, _, _ => ⟨s5, s6, by simp [forL]⟩
 | q :: cs, W, s5, s6, hq, hl => by
  simp only [List.length_cons, Nat.succ_mul] at hl
  obtain ⟨t6, e⟩ := zer (g0 := .int m) (g1 := g1) (g2 := g2) (g3 := g3) (q := q) (by have := hq q List.mem_cons_self; omega) m 0 W s6 (by omega)
  rw [<- ext_eq] at e
  have el : ((ext m q).map eH).length <= m := by
   rw [List.length_map, ext, List.length_map]
   exact Nat.le_trans (List.length_filter_le _ _) (by simp)
  obtain ⟨s5', s6', f⟩ := zem (g1 := g1) (g2 := g2) (g3 := g3) hm cs (W ++ (ext m q).map eH) (.val (eH q)) t6 (fun q hx => hq q (List.mem_cons_of_mem _ hx)) (by rw [List.length_append]; omega)
  refine ⟨s5', s6', ?_⟩
  have hr : X3 (m : Int) = true := ZZ (by omega)
  have bb : bCr [.val (.int m), .val g1, .val g2, .val g3, .own W, .val (eH q), s6] = .ok (.nx [.val (.int m), .val g1, .val g2, .val g3, .own (W ++ (ext m q).map eH), .val (eH q), t6]) := by
   have e' : forL (Zi 6) bCi (rngT 0 m) [.val (.int m), .val g1, .val g2, .val g3, .own W, .val (eH q), s6] = _ := e
   generalize (ext m q).map eH = EE at *
   generalize eH q = QQ at *
   simp [bCr, hr, e']
  rw [List.map_cons]
  unfold forL
  simp only [Zi, List.set, Res.bind_ok, bb]
  rw [f]
  simp
def bCs : DS := (dSeq (WL 4 [] (oLst dNil))
  (dSeq (dFor (Zi 5) [] (iSeq (dVar 2)) bCr)
  (dSet 2 [4] (dVar 4))))
theorem zbm (m : Nat) : ∀ s, (chs m s).length <= m ^ s
 | 0 => by simp [chs]
 | s + 1 => by
  show ((chs m s).flatMap (ext m)).length <= _
  rw [List.length_flatMap, Nat.pow_succ]
  have : ∀ (cs : List (List Nat)), (cs.map fun q => (ext m q).length).sum <= cs.length * m := fun cs => by
   induction cs with
   | nil => simp
   | cons q cs ih =>
    have el : (ext m q).length <= m := by
     rw [ext, List.length_map]
     exact Nat.le_trans (List.length_filter_le _ _) (by simp)
    simp only [List.map_cons, List.sum_cons, List.length_cons, Nat.succ_mul]
    omega
  exact Nat.le_trans (this _) (Nat.mul_le_mul_right _ (zbm m s))
theorem zcK {m K : Nat} (h3 : K <= 3) (h7 : m <= 7) : Yz [.int m, .int K] = .ok (.list ((chs m K).map eH)) := by
 have cl : ∀ s, s <= 3 -> (chs m s).length <= 343 := fun s hs => Nat.le_trans (zbm m s) (Nat.le_trans (Nat.pow_le_pow_left h7 s) (Nat.le_trans (Nat.pow_le_pow_right (by decide) hs) (by decide)))
 obtain ⟨G', e, hG⟩ := V7 (st := Zi 3) (b := bCs) (n := K) (G := [.val (.int m), .val (.int K), .val (.list ((chs m 0).map eH)), .emp, .emp, .emp, .emp]) (fun s G => ∃ s3 s4 s5 s6, G = [.val (.int m), .val (.int K), .val (.list ((chs m s).map eH)), s3, s4, s5, s6]) ⟨.emp, .emp, .emp, .emp, rfl⟩ fun s G hs ⟨s3, s4, s5, s6, hG⟩ => by
  subst hG
  have hc := cl s (by omega)
  have hmul : (chs m s).length * m <= 343 * 7 := Nat.mul_le_mul hc h7
  obtain ⟨s5', s6', f⟩ := zem (g1 := .int K) (g2 := .list ((chs m s).map eH)) (g3 := .int s) (m := m) (by omega) (chs m s) [] s5 s6 (fun q hq => by have := ((Ud m s q).mp hq).len; omega) (by simp; omega)
  refine ⟨_, rfl, [.val (.int m), .val (.int K), .val (.list ((chs m (s + 1)).map eH)), .val (.int s), .val (.list ((chs m (s + 1)).map eH)), s5', s6'], .inl ?_, ⟨_, _, _, _, rfl⟩⟩
  have f' : forL (Zi 5) bCr ((chs m s).map eH) [.val (.int m), .val (.int K), .val (.list ((chs m s).map eH)), .val (.int s), .own [], s5, s6] = .ok (.nx [.val (.int m), .val (.int K), .val (.list ((chs m s).map eH)), .val (.int s), .own ((chs m (s + 1)).map eH), s5', s6']) := by simpa [chs] using f
  generalize (chs m s).map eH = A at *
  generalize (chs m (s + 1)).map eH = A2 at *
  simp [bCs, dSet, f']
 obtain ⟨s3, s4, s5, s6, rfl⟩ := hG
 have hr : X3 (K : Int) = true := ZZ (by omega)
 have h1 : W4 = dSeq (dFor (Zi 3) [] (iRng (dVar 1)) bCs) XY := rfl
 have e' : forL (Zi 3) bCs (rngT 0 K) [.val (.int m), .val (.int K), .val (.list [.list []]), .emp, .emp, .emp, .emp] = .ok (.nx [.val (.int m), .val (.int K), .val (.list ((chs m K).map eH)), s3, s4, s5, s6]) := e
 generalize (chs m K).map eH = A at *
 simp [Yz, VU, h1, XY, runQ, runF, hr, e']
def mx (rows : List (List Int)) : Mx := fun i j => (rows.getD i []).getD j 0
def rowT (r : List Int) : PyData := .list (r.map .int)
structure Rw (K n : Nat) (rows : List (List Int)) : Prop where
 len : rows.length = K
 w : ∀ r ∈ rows, r.length = K + 1
 sz : ∀ r ∈ rows, ∀ x ∈ r, x.natAbs < 2 ^ n
def Ag (K : Nat) (rows : List (List Int)) (Q : Mx) : Prop := ∀ i j, i < K -> j <= K -> mx rows i j = Q i j
section
variable {K n p : Nat} {rows : List (List Int)} {Q : Mx}
theorem Rw.row (r : Rw K n rows) {i : Nat} (hi : i < K) : rows.getD i [] ∈ rows /\ (rows.getD i []).length = K + 1 /\ atP (rows.map rowT) (i : Int) = some (rowT (rows.getD i [])) := by
 have h : i < rows.length := by rw [r.len]; exact hi
 refine ⟨by rw [<- Zt h]; exact List.getElem_mem h, ?_, ?_⟩
 ·rw [<- Zt h]; exact r.w _ (List.getElem_mem h)
 ·rw [Xn h, Zt (d := []) h]
theorem zaF {row : List Int} {j : Nat} (h : j < row.length) : atP (row.map PyData.int) (j : Int) = some (.int (row.getD j 0)) := by
 rw [Xn h, Zt (d := 0) h]
theorem ent_sz {row : List Int} {j : Nat} (h : ∀ x ∈ row, x.natAbs < 2 ^ n) : (row.getD j 0).natAbs < 2 ^ n := by
 rw [List.getD_eq_getElem?_getD]
 cases e : row[j]? with
 | none => simp [Nat.two_pow_pos]
 | some x => simpa using h x (List.mem_of_getElem? e)
theorem Rw.ent (r : Rw K n rows) (i j : Nat) : (mx rows i j).natAbs < 2 ^ n := by
 unfold mx
 by_cases h : i < rows.length
 ·rw [<- Zt h]; exact ent_sz (r.sz _ (List.getElem_mem h))
 ·rw [List.getD_eq_getElem?_getD (l := rows), List.getElem?_eq_none (by omega)]
  simp [Nat.two_pow_pos]
def easR (rows : List (List Int)) (p i : Nat) : List Int := if i ≠ p /\ mx rows i p ≠ 0 then ((rows.getD i []).zip (rows.getD p [])).map fun x => x.1 * mx rows p p - x.2 * mx rows i p else rows.getD i []
theorem easR_len (r : Rw K n rows) (hp : p < K) {i : Nat} (hi : i < K) : (easR rows p i).length = K + 1 := by
 unfold easR
 split
 ·simp only [List.length_map, List.length_zip, (r.row hi).2.1, (r.row hp).2.1, Nat.min_self]
 ·exact (r.row hi).2.1
theorem easR_get (r : Rw K n rows) (hp : p < K) {i j : Nat} (hi : i < K) (hj : j <= K) : (easR rows p i).getD j 0 = eaR (mx rows) p i j := by
 unfold easR eaR
 split
 ·have h1 : j < (rows.getD i []).length := by rw [(r.row hi).2.1]; omega
  have h2 : j < (rows.getD p []).length := by rw [(r.row hp).2.1]; omega
  rw [<- Zt (by simp only [List.length_map, List.length_zip]; omega)]
  simp only [List.getElem_map, List.getElem_zip]
  rw [Zt (d := 0) h1, Zt (d := 0) h2]
  rfl
 ·rfl
theorem easR_sz (r : Rw K n rows) (hp : p < K) {i : Nat} (hi : i < K) : ∀ x ∈ easR rows p i, x.natAbs < 2 ^ (2 * n + 1) := fun x hx => by
 unfold easR at hx
 have pw : (2 : Nat) ^ (2 * n + 1) = 2 * (2 ^ n * 2 ^ n) := by rw [Nat.pow_succ, Nat.two_mul, Nat.pow_add, Nat.mul_comm]
 split at hx
 ·obtain ⟨y, hy, rfl⟩ := List.mem_map.mp hx
  have a1 := r.sz _ (r.row hi).1 _ (List.of_mem_zip hy).1
  have a2 := r.sz _ (r.row hp).1 _ (List.of_mem_zip hy).2
  have a3 := r.ent p p
  have a4 := r.ent i p
  have b1 : (y.1 * mx rows p p).natAbs < 2 ^ n * 2 ^ n := by rw [Int.natAbs_mul]; exact Nat.mul_lt_mul'' a1 a3
  have b2 : (y.2 * mx rows i p).natAbs < 2 ^ n * 2 ^ n := by rw [Int.natAbs_mul]; exact Nat.mul_lt_mul'' a2 a4
  rw [pw]
  omega
 ·exact Nat.lt_of_lt_of_le (r.sz _ (r.row hi).1 x hx) (Nat.pow_le_pow_right (by decide) (by omega))
def eas (K : Nat) (rows : List (List Int)) (p : Nat) : List (List Int) := (List.range K).map (easR rows p)
theorem eas_rw (r : Rw K n rows) (hp : p < K) : Rw K (2 * n + 1) (eas K rows p) := by
 refine ⟨by simp [eas], fun x hx => ?_, fun x hx => ?_⟩
 ·obtain ⟨i, hi, rfl⟩ := List.mem_map.mp hx
  exact easR_len r hp (List.mem_range.mp hi)
 ·obtain ⟨i, hi, rfl⟩ := List.mem_map.mp hx
  exact easR_sz r hp (List.mem_range.mp hi)
theorem eas_ag (r : Rw K n rows) (hp : p < K) (a : Ag K rows Q) : Ag K (eas K rows p) (eaR Q p) := fun i j hi hj => by
 have e : mx (eas K rows p) i j = eaR (mx rows) p i j := by
  unfold mx
  have : (eas K rows p).getD i [] = easR rows p i := by simp [eas, List.getD_eq_getElem?_getD, hi]
  rw [this]
  exact easR_get r hp hi hj
 rw [e]
 unfold eaR
 rw [a i j hi hj, a i p hi (by omega), a p p hp (by omega), a p j hp hj]
def bEs : DS := (dSeq (dSet 5 [] (d2 fIx (dVar 0) (dVar 4)))
  (dSeq (dIf (tAnd (tV (d2 fNe (dVar 4) (dVar 1))) (tV (d2 fNe (d2 fIx (dVar 5) (dVar 2)) (dC (.int 0)))))
  (dSet 5 [] (dL (YD 2 [0, 1, 2, 5] (Xf 0 1) (iZip (iSeq (dVar 5)) (iSeq (d2 fIx (dVar 0) (dVar 1)))) tT (d2 fSub (d2 fMul (dVar 0) (d2 fIx (d2 fIx (dVar 2) (dVar 3)) (dVar 4))) (d2 fMul (dVar 1) (d2 fIx (dVar 5) (dVar 4)))))))
  ZO)
  (dApp 3 [] (dVar 5))))
theorem es_body (r : Rw K n rows) (hK : K <= 1000) (hn : n <= 10000) (hp : p < K) {i : Nat} (hi : i < K) (A : List PyData) (hA : A.length < 100000) (s5 : Sl) : ∃ s5', bEs [.val (.list (rows.map rowT)), .val (.int p), .val (.int p), .own A, .val (.int i), s5] = .ok (.nx [.val (.list (rows.map rowT)), .val (.int p), .val (.int p), .own (A ++ [rowT (easR rows p i)]), .val (.int i), s5']) := by
 obtain ⟨i1, i2, i3⟩ := r.row hi
 obtain ⟨p1, p2, p3⟩ := r.row hp
 have e1 : atP ((rows.getD i []).map PyData.int) (p : Int) = some (.int (mx rows i p)) := zaF (by omega)
 have e2 : atP ((rows.getD p []).map PyData.int) (p : Int) = some (.int (mx rows p p)) := zaF (by omega)
 have nz := zbd (mx rows i p) 0
 have ni := zbd (i : Int) (p : Int)
 have lA : A.length < 16777216 := by omega
 simp only [rowT] at i3 p3
 by_cases c : i ≠ p /\ mx rows i p ≠ 0
 ·have er : easR rows p i = ((rows.getD i []).zip (rows.getD p [])).map fun x => x.1 * mx rows p p - x.2 * mx rows i p := if_pos c
  have cp := Z3 (st := Xf 0 1) (e := (d2 fSub (d2 fMul (dVar 0) (d2 fIx (d2 fIx (dVar 2) (dVar 3)) (dVar 4))) (d2 fMul (dVar 1) (d2 fIx (dVar 5) (dVar 4))))) (C := [.emp, .emp, .val (.list (rows.map rowT)), .val (.int p), .val (.int p), .val (.list ((rows.getD i []).map PyData.int))]) (fun x : Int × Int => PyData.tuple [.int x.1, .int x.2]) (fun x => PyData.int (x.1 * mx rows p p - x.2 * mx rows i p)) ((rows.getD i []).zip (rows.getD p [])) fun x hx => ⟨[.val (.int x.1), .val (.int x.2), .val (.list (rows.map rowT)), .val (.int p), .val (.int p), .val (.list ((rows.getD i []).map PyData.int))], rfl, by
   have m1 : XA x.1 (mx rows p p) = true := YE (r.sz _ i1 _ (List.of_mem_zip hx).1) (r.ent p p) (by omega)
   have m2 : XA x.2 (mx rows i p) = true := YE (r.sz _ p1 _ (List.of_mem_zip hx).2) (r.ent i p) (by omega)
   generalize rows.map rowT = RR at *
   generalize (rows.getD i []).map PyData.int = R1 at *
   generalize (rows.getD p []).map PyData.int = R2 at *
   generalize mx rows p p = y1 at *
   generalize mx rows i p = y2 at *
   simp [p3, e1, e2, m1, m2]⟩
  rw [<- Vz (f := PyData.int) (g := PyData.int)] at cp
  have lz : (zipT ((rows.getD i []).map PyData.int) ((rows.getD p []).map PyData.int)).length <= 16777216 := by rw [Vz]; simp only [List.length_map, List.length_zip]; omega
  have ef : (((rows.getD i []).zip (rows.getD p [])).map fun x => PyData.int (x.1 * mx rows p p - x.2 * mx rows i p)) = (easR rows p i).map .int := by rw [er, List.map_map]; rfl
  rw [ef] at cp
  refine ⟨.val (rowT (easR rows p i)), ?_⟩
  simp only [rowT] at cp ⊢
  rw [show (!decide (mx rows i p = 0)) = true by simp [c.2]] at nz
  rw [show (!decide ((i : Int) = (p : Int))) = true by simp; omega] at ni
  generalize (rows.map fun r => PyData.list (r.map .int)) = RR at *
  generalize (rows.getD i []).map PyData.int = R1 at *
  generalize (rows.getD p []).map PyData.int = R2 at *
  generalize (easR rows p i).map PyData.int = R3 at *
  generalize mx rows i p = y2 at *
  simp [bEs, i3, p3, ni, nz, e1, lz, cp, lA]
 ·have er : easR rows p i = rows.getD i [] := if_neg c
  rw [er]
  refine ⟨.val (rowT (rows.getD i [])), ?_⟩
  by_cases c1 : i = p
  ·rw [show (!decide ((i : Int) = (p : Int))) = false by simp [c1]] at ni
   simp only [rowT]
   generalize (rows.map fun r => PyData.list (r.map .int)) = RR at *
   generalize (rows.getD i []).map PyData.int = R1 at *
   simp [bEs, i3, ni, lA]
  ·have c2 : mx rows i p = 0 := Classical.byContradiction fun q => c ⟨c1, q⟩
   rw [show (!decide ((i : Int) = (p : Int))) = true by simp; omega] at ni
   rw [show (!decide (mx rows i p = 0)) = false by simp [c2]] at nz
   simp only [rowT]
   generalize (rows.map fun r => PyData.list (r.map .int)) = RR at *
   generalize (rows.getD i []).map PyData.int = R1 at *
   generalize mx rows i p = y2 at *
   simp [bEs, i3, ni, nz, e1, lA]
theorem eased_ok (r : Rw K n rows) (hK : K <= 1000) (hn : n <= 10000) (hp : p < K) : YI [.list (rows.map rowT), .int p, .int p] = .ok (.list ((eas K rows p).map rowT)) := by
 obtain ⟨G', e, hG⟩ := V7 (st := Zi 4) (b := bEs) (n := K) (G := [.val (.list (rows.map rowT)), .val (.int p), .val (.int p), .own [], .emp, .emp]) (fun i G => ∃ s4 s5, G = [.val (.list (rows.map rowT)), .val (.int p), .val (.int p), .own (((List.range i).map (easR rows p)).map rowT), s4, s5]) ⟨.emp, .emp, rfl⟩ fun i G hi ⟨s4, s5, hG⟩ => by
  subst hG
  obtain ⟨s5', e⟩ := es_body r hK hn hp hi (((List.range i).map (easR rows p)).map rowT) (by simp; omega) s5
  refine ⟨_, rfl, _, .inl e, ⟨.val (.int i), s5', ?_⟩⟩
  rw [List.range_succ, List.map_append, List.map_append]
  rfl
 obtain ⟨s4, s5, rfl⟩ := hG
 have hr : X3 (K : Int) = true := ZZ (by omega)
 have ll : (rows.map rowT).length = K := by simp [r.len]
 have h1 : VT = dSeq (dFor (Zi 4) [] (iRng (d1 fLen (dVar 0))) bEs) WC := rfl
 have e' : forL (Zi 4) bEs (rngT 0 K) [.val (.list (rows.map rowT)), .val (.int p), .val (.int p), .own [], .emp, .emp] = .ok (.nx [.val (.list (rows.map rowT)), .val (.int p), .val (.int p), .own ((eas K rows p).map rowT), s4, s5]) := e
 generalize rows.map rowT = RR at *
 generalize (eas K rows p).map rowT = EE at *
 simp [YI, Qk, h1, WC, runQ, runF, ll, hr, e']
def cF : DT := (tAnd (tV (d2 fLt (dVar 4) (dVar 1))) (tV (d2 fEq (d2 fIx (dIxN 2 (dVar 4)) (dVar 3)) (dC (.int 0)))))
def bF : DS := (dSet 4 [] (d2 fAdd (dVar 4) (dC (.int 1))))
theorem cF_ok (r : Rw K n rows) (hp : p < K) {g0 : PyData} {a : Nat} (ha : a <= K) (s5 : Sl) : cF (frzA [.val g0, .val (.int K), .own (rows.map rowT), .val (.int p), .val (.int a), s5]) = .ok (decide (a < K) && decide (mx rows a p = 0)) := by
 by_cases h : a < K
 ·obtain ⟨i1, i2, i3⟩ := r.row h
  have e1 : atP ((rows.getD a []).map PyData.int) (p : Int) = some (.int (mx rows a p)) := zaF (by omega)
  have lt : (a : Int) < (K : Int) := by omega
  simp only [rowT] at i3 ⊢
  generalize (rows.map fun r => PyData.list (r.map .int)) = RR at *
  generalize (rows.getD a []).map PyData.int = R1 at *
  generalize mx rows a p = y at *
  simp [cF, lt, h, i3, e1, V9]
 ·have lt : ¬ (a : Int) < (K : Int) := by omega
  simp [cF, lt, h]
theorem zam (r : Rw K n rows) (hp : p < K) {g0 : PyData} {s5 : Sl} : ∀ (f a fuel : Nat), a + f = K -> f < fuel -> Xq cF bF fuel [.val g0, .val (.int K), .own (rows.map rowT), .val (.int p), .val (.int a), s5] = .ok (.nx [.val g0, .val (.int K), .own (rows.map rowT), .val (.int p), .val (.int ((fnd (mx rows) K p f a).getD K)), s5])
 | f, a, 0, _, h => by omega
 | 0, a, fuel + 1, hf, _ => by
  have ea : a = K := by omega
  unfold Xq
  rw [cF_ok r hp (by omega), ea]
  simp [fnd]
 | f + 1, a, fuel + 1, hf, hl => by
  have ha : a < K := by omega
  unfold Xq
  rw [cF_ok r hp (by omega), Res.bind_ok]
  unfold fnd
  rw [if_pos ha]
  by_cases z : mx rows a p = 0
  ·rw [if_pos z]
   have bb : bF [.val g0, .val (.int K), .own (rows.map rowT), .val (.int p), .val (.int a), s5] = .ok (.nx [.val g0, .val (.int K), .own (rows.map rowT), .val (.int p), .val (.int ((a + 1 : Nat) : Int)), s5]) := by
    simp [bF]
   rw [if_pos (by simp [ha, z]), bb, Res.bind_ok]
   exact zam r hp f (a + 1) fuel (by omega) (by omega)
  ·rw [if_neg z, if_neg (by simp [z])]
   rfl
def swl (rows : List (List Int)) (a p : Nat) : List (List Int) := (rows.set a (rows.getD p [])).set p (rows.getD a [])
theorem swl_rw (r : Rw K n rows) (hp : p < K) {a : Nat} (ha : a < K) : Rw K n (swl rows a p) := by
 refine ⟨by simp [swl, r.len], fun x hx => ?_, fun x hx => ?_⟩
 ·rcases List.mem_or_eq_of_mem_set hx with hx | rfl
  ·rcases List.mem_or_eq_of_mem_set hx with hx | rfl
   ·exact r.w x hx
   ·exact (r.row hp).2.1
  ·exact (r.row ha).2.1
 ·rcases List.mem_or_eq_of_mem_set hx with hx | rfl
  ·rcases List.mem_or_eq_of_mem_set hx with hx | rfl
   ·exact r.sz x hx
   ·exact r.sz _ (r.row hp).1
  ·exact r.sz _ (r.row ha).1
theorem swl_ag (r : Rw K n rows) (hp : p < K) {a : Nat} (ha : a < K) (g : Ag K rows Q) : Ag K (swl rows a p) (swR Q a p) := fun i j hi hj => by
 have hl := r.len
 have e : (swl rows a p).getD i [] = if i = p then rows.getD a [] else if i = a then rows.getD p [] else rows.getD i [] := by
  unfold swl
  rw [List.getD_eq_getElem?_getD, List.getElem?_set, List.getElem?_set]
  by_cases h1 : i = p
  ·subst h1
   simp [hl, hi]
  ·rw [if_neg (fun z => h1 z.symm), if_neg h1]
   by_cases h2 : i = a
   ·subst h2
    simp [hl, hi]
   ·rw [if_neg (fun z => h2 z.symm), if_neg h2, List.getD_eq_getElem?_getD]
 have e2 : mx (swl rows a p) i j = if i = p then mx rows a j else if i = a then mx rows p j else mx rows i j := by
  unfold mx
  rw [e]
  split
  ·rfl
  ·split <;> rfl
 rw [e2]
 unfold swR
 by_cases h1 : i = p
 ·subst h1
  rw [if_pos rfl]
  by_cases h2 : i = a
  ·subst h2
   rw [if_pos rfl]; exact g i j hi hj
  ·rw [if_neg h2, if_pos rfl]; exact g a j ha hj
 ·rw [if_neg h1]
  by_cases h2 : i = a
  ·rw [if_pos h2, if_pos h2]; exact g p j hp hj
  ·rw [if_neg h2, if_neg h2, if_neg h1]; exact g i j hi hj
def bMe : DS := (dSeq (dSet 4 [] (dVar 3))
  (dSeq (X2 Yn cF bF)
  (dSeq (dIf (tV (d2 fEq (dVar 4) (dVar 1)))
  (dRet (dC .none))
  ZO)
  (dSeq (dSet 5 [] (dIxN 2 (dVar 4)))
  (dSeq (WJ 2 [] (dVar 4) (dIxN 2 (dVar 3)))
  (dSeq (WJ 2 [] (dVar 3) (dVar 5))
  (WL 2 [2] (za4 YI (Zd (dVar 2) (Zd (dVar 3) (Zd (dVar 3) dNil)))))))))))
theorem zdO {n m : Nat} (h : m < n) : ixP n (m : Int) = some m := by
 unfold ixP
 rw [if_pos (by omega), if_pos (by omega)]
 simp
theorem me_step (r : Rw K n rows) (hK : K <= 900) (hn : n <= 10000) (hp : p < K) (g : Ag K rows Q) {g0 : PyData} (s4 s5 : Sl) :
  (stp K p Q = none /\ bMe [.val g0, .val (.int K), .own (rows.map rowT), .val (.int p), s4, s5] = .ok (.rt .none)) \/
  ∃ Q' rows' s4' s5', stp K p Q = some Q' /\ Rw K (2 * n + 1) rows' /\ Ag K rows' Q' /\ bMe [.val g0, .val (.int K), .own (rows.map rowT), .val (.int p), s4, s5] = .ok (.nx [.val g0, .val (.int K), .own (rows'.map rowT), .val (.int p), s4', s5']) := by
 have fe : fnd (mx rows) K p (K - p) p = fnd Q K p (K - p) p := zd0 (fun i j hi hj => g i j hi (by omega)) hp _ _
 have fl := zam r hp (g0 := g0) (s5 := s5) (K - p) p 1000 (by omega) (by omega)
 have wh : X2 Yn cF bF [.val g0, .val (.int K), .own (rows.map rowT), .val (.int p), .val (.int p), s5] = .ok (.nx [.val g0, .val (.int K), .own (rows.map rowT), .val (.int p), .val (.int ((fnd (mx rows) K p (K - p) p).getD K)), s5]) := fl
 have fuelEq : ∀ f a, a + f ≥ K -> ∀ f', a + f' ≥ K -> fnd Q K p f a = fnd Q K p f' a := fun f => by
  induction f with
  | zero =>
   intro a h f' h'
   cases f' with
   | zero => rfl
   | succ f' => unfold fnd; rw [if_neg (by omega)]
  | succ f ih =>
   intro a h f' h'
   cases f' with
   | zero => unfold fnd; rw [if_neg (by omega)]
   | succ f' =>
    unfold fnd
    split
    ·split
     ·exact ih (a + 1) (by omega) f' (by omega)
     ·rfl
    ·rfl
 have fq : fnd Q K p K p = fnd (mx rows) K p (K - p) p := by rw [fe]; exact fuelEq K p (by omega) (K - p) (by omega)
 cases e : fnd (mx rows) K p (K - p) p with
 | none =>
  left
  refine ⟨by unfold stp; rw [fq, e]; rfl, ?_⟩
  rw [e] at wh
  have wh' : X2 Yn cF bF [.val g0, .val (.int K), .own (rows.map rowT), .val (.int p), .val (.int p), s5] = .ok (.nx [.val g0, .val (.int K), .own (rows.map rowT), .val (.int p), .val (.int K), s5]) := wh
  generalize rows.map rowT = RR at *
  simp [bMe, wh', V9, -X2]
 | some a =>
  right
  obtain ⟨a1, a2, a3⟩ := VN e
  have rs := swl_rw r hp a2
  have es := eased_ok rs (by omega) hn hp
  refine ⟨eaR (swR Q a p) p, eas K (swl rows a p) p, .val (.int a), .val (rowT (rows.getD a [])), by unfold stp; rw [fq, e]; rfl, eas_rw rs hp, eas_ag rs hp (swl_ag r hp a2 g), ?_⟩
  rw [e] at wh
  have wh' : X2 Yn cF bF [.val g0, .val (.int K), .own (rows.map rowT), .val (.int p), .val (.int p), s5] = .ok (.nx [.val g0, .val (.int K), .own (rows.map rowT), .val (.int p), .val (.int a), s5]) := wh
  have ne : ¬ (a : Int) = (K : Int) := by omega
  have at1 := (r.row a2).2.2
  have at2 := (r.row hp).2.2
  have ll : (rows.map rowT).length = K := by simp [r.len]
  have ix1 : ixP K (a : Int) = some a := zdO a2
  have ix2 : ixP K (p : Int) = some p := zdO hp
  have em : ((rows.map rowT).set a (rowT (rows.getD p []))).set p (rowT (rows.getD a [])) = (swl rows a p).map rowT := by
   simp [swl, List.map_set]
  have es' : YI [.list (((rows.map rowT).set a (rowT (rows.getD p []))).set p (rowT (rows.getD a []))), .int p, .int p] = .ok (.list ((eas K (swl rows a p) p).map rowT)) := by rw [em]; exact es
  generalize rows.map rowT = RR at *
  generalize rowT (rows.getD p []) = Rp at *
  generalize rowT (rows.getD a []) = Ra at *
  generalize (eas K (swl rows a p) p).map rowT = EE at *
  simp [bMe, wh', V9, ne, at1, at2, ll, ix1, ix2, es', asL, -X2]
end
end K12
namespace K12
open PySem Fx Lw
section
variable {K n p : Nat} {rows : List (List Int)} {Q : Mx}
def bt : Nat -> Nat
 | 0 => 41
 | p + 1 => 2 * bt p + 1
theorem bt_le {p : Nat} (h : p <= 3) : bt p <= 400 := by
 rcases (show p = 0 \/ p = 1 \/ p = 2 \/ p = 3 by omega) with rfl | rfl | rfl | rfl <;> decide
theorem elm_up {R : Mx} {a : Nat} (h : elm K a R = none) : ∀ {b : Nat}, a <= b -> elm K b R = none
 | 0, hb => by
  have : a = 0 := by omega
  rw [this] at h; exact h
 | b + 1, hb => by
  by_cases z : a = b + 1
  ·rw [<- z]; exact h
  ·unfold elm
   rw [elm_up h (b := b) (by omega)]
   rfl
theorem zcw {R0 : Mx} {cl : List Lim} (h3 : K <= 3) (hl : cl.length = K) (r0 : Rw K 41 (cl.map fun l => l.1 ++ [l.2])) (g0 : Ag K (cl.map fun l => l.1 ++ [l.2]) R0) : Ye [.list (cl.map limL), .int K] = .ok (match elm K K R0 with | none => .none | some Q => ptL (mpt K Q)) := by
 have cp := Z3 (st := Zi 0) (e := (d2 fAdd (d2 fIx (dVar 0) (dC (.int 0))) (dLst (Zd (d2 fIx (dVar 0) (dC (.int 1))) dNil)))) (C := [.emp]) limL (fun l => rowT (l.1 ++ [l.2])) cl fun l hm => ⟨[.val (limL l)], rfl, by
  have hw := r0.w _ (List.mem_map.mpr ⟨l, hm, rfl⟩)
  simp at hw
  have l1 : l.1.length + 1 <= 16777216 := by omega
  have l2 : l.1.length <= 16777215 := by omega
  simp [limL, at0, at1, l1, l2, rowT]⟩
 have em : (cl.map fun l => rowT (l.1 ++ [l.2])) = (cl.map fun l => l.1 ++ [l.2]).map rowT := by rw [List.map_map]; rfl
 rw [em] at cp
 have lc : (cl.map limL).length <= 16777216 := by simp; omega
 have hr : X3 (K : Int) = true := ZZ (by omega)
 have h1 : XV = dSeq (dFor (Zi 3) [] (iRng (dVar 1)) bMe) XU := rfl
 have lp := zbb (st := Zi 3) (b := bMe) (n := K) (G := [.val (.list (cl.map limL)), .val (.int K), .own ((cl.map fun l => l.1 ++ [l.2]).map rowT), .emp, .emp, .emp]) (fun i G => ∃ rows Qi s3 s4 s5, Rw K (bt i) rows /\ elm K i R0 = some Qi /\ Ag K rows Qi /\ G = [.val (.list (cl.map limL)), .val (.int K), .own (rows.map rowT), s3, s4, s5]) (fun t => t = .none /\ elm K K R0 = none) ⟨_, R0, .emp, .emp, .emp, r0, rfl, g0, rfl⟩ fun i G hi ⟨rows, Qi, s3, s4, s5, r, e, g, hG⟩ => by
  subst hG
  refine ⟨_, rfl, ?_⟩
  rcases me_step r (by omega) (by have := bt_le (p := i) (by omega); omega) hi g (g0 := .list (cl.map limL)) s4 s5 with ⟨a1, a2⟩ | ⟨Q', rows', t4, t5, b1, b2, b3, b4⟩
  ·refine .inr ⟨_, a2, rfl, elm_up (a := i + 1) ?_ (by omega)⟩
   unfold elm
   rw [e]
   exact a1
  ·refine .inl ⟨_, .inl b4, rows', Q', .val (.int i), t4, t5, b2, ?_, b3, rfl⟩
   unfold elm
   rw [e]
   exact b1
 have top : ∀ o, XV [.val (.list (cl.map limL)), .val (.int K), .own ((cl.map fun l => l.1 ++ [l.2]).map rowT), .emp, .emp, .emp] = .ok (.rt o) -> Ye [.list (cl.map limL), .int K] = .ok o := fun o ho => by
  generalize (cl.map limL) = CL at *
  generalize ((cl.map fun l => l.1 ++ [l.2]).map rowT) = RR at *
  clear lp h1
  simp [Ye, VS, runQ, runF, lc, cp, ho]
 rcases lp with ⟨G', e, rows, Q, s3, s4, s5, r, eQ, g, rfl⟩ | ⟨t, e, rfl, en⟩
 ·rw [eQ]
  refine top _ ?_
  obtain ⟨dg, _⟩ := U6 eQ (Nat.le_refl _)
  have b400 := bt_le h3
  have cf := Z3 (st := Zi 0) (e := (Zn YU (Zd (d2 fIx (d2 fIx (dVar 1) (dVar 0)) (dVar 2)) (Zd (d2 fIx (d2 fIx (dVar 1) (dVar 0)) (dVar 0)) dNil)))) (C := [.emp, .val (.list (rows.map rowT)), .val (.int K)]) (fun t : Nat => PyData.int (t : Int)) (fun i => fr (Rat.divInt (Q i K) (Q i i))) (List.range K) fun i hi => ⟨[.val (.int i), .val (.list (rows.map rowT)), .val (.int K)], rfl, by
   have hi' := List.mem_range.mp hi
   obtain ⟨i1, i2, i3⟩ := r.row hi'
   have e1 : atP ((rows.getD i []).map PyData.int) (K : Int) = some (.int (mx rows i K)) := zaF (by omega)
   have e2 : atP ((rows.getD i []).map PyData.int) (i : Int) = some (.int (mx rows i i)) := zaF (by omega)
   have sz := r.ent i i
   rw [g i K hi' (Nat.le_refl _)] at e1
   rw [g i i hi' (by omega)] at e2 sz
   have f := zbN (u := Q i K) (l := Q i i) (n := bt K) (dg i hi').1 sz (by omega)
   simp only [rowT] at i3 ⊢
   generalize (rows.map fun r => PyData.list (r.map .int)) = RR at *
   generalize (rows.getD i []).map PyData.int = R1 at *
   generalize Q i K = y1 at *
   generalize Q i i = y2 at *
   simp [i3, e1, e2, f]⟩
  rw [<- VI] at cf
  have ef : ((List.range K).map fun i => fr (Rat.divInt (Q i K) (Q i i))) = (mpt K Q).map fr := by simp [mpt, List.map_map, Function.comp_def]
  rw [ef] at cf
  have lr : (rngT 0 K).length <= 16777216 := by rw [Wx]; omega
  simp only [ptL]
  generalize (mpt K Q).map fr = MM at *
  generalize rows.map rowT = RR at *
  generalize ((cl.map fun l => l.1 ++ [l.2]).map rowT) = RR0 at *
  generalize (cl.map limL) = CL at *
  simp [h1, XU, hr, lr, cf, e]
 ·rw [en]
  refine top _ ?_
  generalize ((cl.map fun l => l.1 ++ [l.2]).map rowT) = RR0 at *
  generalize (cl.map limL) = CL at *
  simp [h1, hr, e]
end
def V6 (ls : List Lim) (ps : List Rat) : Bool := ls.all fun l => decide (dot l.1 ps <= (l.2 : Rat))
def bKp : DS := (dIf (tV (Zn Yo (Zd (dTup (Zd (d2 fIx (dVar 2) (dC (.int 1))) (Zd (dC (.int 1)) dNil))) (Zd (Zn Xi (Zd (d2 fIx (dVar 2) (dC (.int 0))) (Zd (dVar 1) dNil))) dNil))))
  (dRet (dC (.bool false)))
  ZO)
theorem zdK {m n : Nat} {ps : List Rat} {t0 : PyData} (hb : wSz m n ps.length + m + n < 8000) (hl : ps.length < 1000) : ∀ (ls : List Lim) (s : Sl), (∀ l ∈ ls, WP m n l.1 ps) -> (∀ l ∈ ls, l.2.natAbs < 2 ^ m) -> (V6 ls ps = false /\ forL (Zi 2) bKp (ls.map limL) [.val t0, .val (ptL ps), s] = .ok (.rt (.bool false))) \/ (V6 ls ps = true /\ ∃ s', forL (Zi 2) bKp (ls.map limL) [.val t0, .val (ptL ps), s] = .ok (.nx [.val t0, .val (ptL ps), s']))
 | [], s, _, _ => .inr ⟨rfl, s, rfl⟩
 | l :: ls, s, h, hs => by
  have hm := h l List.mem_cons_self
  have w := weigh_ok (.inl rfl) hm hb hl
  have s1 := hm.sz ps.length (Nat.le_refl _)
  have e1 : dot (l.1.take ps.length) (ps.take ps.length) = dot l.1 ps := by rw [List.take_length, <- hm.len, List.take_length]
  rw [e1] at s1
  have b := zah (Sz.ofInt (hs l List.mem_cons_self) hm.m1) s1 (by omega)
  have kb : V6 (l :: ls) ps = (decide (dot l.1 ps <= (l.2 : Rat)) && V6 ls ps) := rfl
  by_cases c : dot l.1 ps <= (l.2 : Rat)
  ·rw [decide_eq_false (Rat.not_lt.mpr c)] at b
   have bb : bKp [.val t0, .val (ptL ps), .val (limL l)] = .ok (.nx [.val t0, .val (ptL ps), .val (limL l)]) := by
    simp only [ptL]
    simp [bKp, limL, at0, at1, w, zdZ, b]
   have st : forL (Zi 2) bKp ((l :: ls).map limL) [.val t0, .val (ptL ps), s] = forL (Zi 2) bKp (ls.map limL) [.val t0, .val (ptL ps), .val (limL l)] := by
    rw [List.map_cons]
    conv => lhs; unfold forL
    simp only [Zi, List.set, Res.bind_ok, bb]
   rw [st, kb, decide_eq_true c, Bool.true_and]
   exact zdK hb hl ls (.val (limL l)) (fun l hl => h l (List.mem_cons_of_mem _ hl)) fun l hl => hs l (List.mem_cons_of_mem _ hl)
  ·left
   rw [decide_eq_true (Rat.not_le.mp c)] at b
   refine ⟨by rw [kb, decide_eq_false c]; rfl, ?_⟩
   have bb : bKp [.val t0, .val (ptL ps), .val (limL l)] = .ok (.rt (.bool false)) := by
    simp only [ptL]
    simp [bKp, limL, at0, at1, w, zdZ, b]
   rw [List.map_cons]
   unfold forL
   simp only [Zi, List.set, Res.bind_ok, bb]
theorem keeps_b {m n : Nat} {ls : List Lim} {ps : List Rat} (h : ∀ l ∈ ls, WP m n l.1 ps) (hs : ∀ l ∈ ls, l.2.natAbs < 2 ^ m) (hb : wSz m n ps.length + m + n < 8000) (hl : ps.length < 1000) : YH [.list (ls.map limL), ptL ps] = .ok (.bool (V6 ls ps)) := by
 have hd : Qj = dSeq (dFor (Zi 2) [] (iSeq (dVar 0)) bKp) WB := rfl
 rcases zdK (t0 := .list (ls.map limL)) hb hl ls .emp h hs with ⟨e1, e2⟩ | ⟨e1, s', e2⟩
 ·rw [e1]
  generalize ptL ps = PP at *
  simp [YH, hd, runQ, runF, e2]
 ·rw [e1]
  generalize ptL ps = PP at *
  simp [YH, hd, WB, runQ, runF, e2]
def bAh : DS := (dIf (tV (d2 fNe (d2 fIx (dVar 0) (dVar 2)) (d2 fIx (dVar 1) (dVar 2))))
  (dRet (Zn Yo (Zd (d2 fIx (dVar 0) (dVar 2)) (Zd (d2 fIx (dVar 1) (dVar 2)) dNil))))
  ZO)
theorem zeE {n0 : Nat} (hn : n0 <= 1000) {P Q : List Rat} (hl : P.length = Q.length) (hp : ∀ x ∈ P, Sz n0 x) (hq : ∀ x ∈ Q, Sz n0 x) : ∀ (n j : Nat) (s : Sl), j + n = P.length -> forL (Zi 2) bAh (rngT j n) [.val (ptL P), .val (ptL Q), s] = .ok (.rt (.bool (lexB (P.drop j) (Q.drop j)))) \/ (lexB (P.drop j) (Q.drop j) = false /\ ∃ s', forL (Zi 2) bAh (rngT j n) [.val (ptL P), .val (ptL Q), s] = .ok (.nx [.val (ptL P), .val (ptL Q), s']))
 | 0, j, s, h => by
  right
  refine ⟨?_, s, by simp [rngT, forL]⟩
  rw [List.drop_eq_nil_of_le (by omega)]
  rfl
 | n + 1, j, s, h => by
  have hj : j < P.length := by omega
  have hj2 : j < Q.length := by omega
  rw [VH]
  have j1 : ((j : Int) + 1) = ((j + 1 : Nat) : Int) := by push_cast; rfl
  rw [j1]
  have a1 : atP (P.map fr) (j : Int) = some (fr P[j]) := Xn hj
  have a2 : atP (Q.map fr) (j : Int) = some (fr Q[j]) := Xn hj2
  have ne := fNe_fr P[j] Q[j]
  have bl := zah (hp _ (List.getElem_mem hj)) (hq _ (List.getElem_mem hj2)) (by omega)
  rw [List.drop_eq_getElem_cons hj, List.drop_eq_getElem_cons hj2]
  by_cases e : P[j] = Q[j]
  ·rw [show (!decide (P[j] = Q[j])) = false by simp [e]] at ne
   have lx : lexB (P[j] :: P.drop (j + 1)) (Q[j] :: Q.drop (j + 1)) = lexB (P.drop (j + 1)) (Q.drop (j + 1)) := by simp [lexB, e]
   have bb : bAh [.val (ptL P), .val (ptL Q), .val (.int j)] = .ok (.nx [.val (ptL P), .val (ptL Q), .val (.int j)]) := by
    simp only [ptL]
    generalize fr P[j] = x1 at *
    generalize fr Q[j] = x2 at *
    generalize P.map fr = PP at *
    generalize Q.map fr = QQ at *
    simp [bAh, a1, a2, ne]
   have st : forL (Zi 2) bAh (.int j :: rngT ((j + 1 : Nat) : Int) n) [.val (ptL P), .val (ptL Q), s] = forL (Zi 2) bAh (rngT ((j + 1 : Nat) : Int) n) [.val (ptL P), .val (ptL Q), .val (.int j)] := by
    conv => lhs; unfold forL
    simp only [Zi, List.set, Res.bind_ok, bb]
   rw [st, lx]
   exact zeE hn hl hp hq n (j + 1) (.val (.int j)) (by omega)
  ·left
   rw [show (!decide (P[j] = Q[j])) = true by simp [e]] at ne
   have lx : lexB (P[j] :: P.drop (j + 1)) (Q[j] :: Q.drop (j + 1)) = decide (P[j] < Q[j]) := by simp [lexB, e]
   have bb : bAh [.val (ptL P), .val (ptL Q), .val (.int j)] = .ok (.rt (.bool (decide (P[j] < Q[j])))) := by
    simp only [ptL]
    generalize fr P[j] = x1 at *
    generalize fr Q[j] = x2 at *
    generalize decide (P[j] < Q[j]) = x3 at *
    generalize P.map fr = PP at *
    generalize Q.map fr = QQ at *
    simp [bAh, a1, a2, ne, bl]
   rw [lx]
   unfold forL
   simp only [Zi, List.set, Res.bind_ok, bb]
theorem ahead_ok {n0 : Nat} (hn : n0 <= 1000) {P Q : List Rat} (hl : P.length = Q.length) (hk : P.length <= 1000) (hp : ∀ x ∈ P, Sz n0 x) (hq : ∀ x ∈ Q, Sz n0 x) : YJ [ptL P, ptL Q] = .ok (.bool (lexB P Q)) := by
 have hd : Qo = dSeq (dFor (Zi 2) [] (iRng (d1 fLen (dVar 0))) bAh) WD := rfl
 have hr : X3 (P.length : Int) = true := ZZ (by omega)
 have ll : (P.map fr).length = P.length := by simp
 rcases zeE hn hl hp hq P.length 0 .emp (by omega) with e | ⟨l, s, e⟩
 ·rw [List.drop_zero, List.drop_zero] at e
  have e' : forL (Zi 2) bAh (rngT 0 P.length) [.val (.list (P.map fr)), .val (.list (Q.map fr)), .emp] = _ := e
  simp only [ptL]
  generalize lexB P Q = x at *
  generalize P.map fr = PP at *
  generalize Q.map fr = QQ at *
  simp [YJ, hd, runQ, runF, ll, hr, e']
 ·rw [List.drop_zero, List.drop_zero] at l
  rw [l]
  have e' : forL (Zi 2) bAh (rngT 0 P.length) [.val (.list (P.map fr)), .val (.list (Q.map fr)), .emp] = _ := e
  simp only [ptL] at e' ⊢
  generalize P.map fr = PP at *
  generalize Q.map fr = QQ at *
  simp [YJ, hd, WD, runQ, runF, ll, hr, e']
end K12
namespace K12
open PySem Fx Lw
theorem zdF {α : Type} [DecidableEq α] : ∀ {l1 l2 : List α}, l1.Nodup -> (∀ x ∈ l1, x ∈ l2) -> l1.length <= l2.length
 | [], l2, _, _ => Nat.zero_le _
 | x :: l1, l2, h, hs => by
  have hx := hs x List.mem_cons_self
  have hn := List.nodup_cons.mp h
  have := zdF (l1 := l1) (l2 := l2.erase x) hn.2 fun y hy => by
   have hne : y ≠ x := fun z => hn.1 (z ▸ hy)
   exact (List.mem_erase_of_ne hne).mpr (hs y (List.mem_cons_of_mem _ hy))
  rw [List.length_erase_of_mem hx] at this
  have : 0 < l2.length := List.length_pos_of_mem hx
  simp only [List.length_cons]
  omega
theorem nin_ok (x : List Rat) (D : List (List Rat)) : fNin (ptL x) (.list (D.map ptL)) = .ok (.bool (!decide (x ∈ D))) := by
 have s1 := (JO x).ok (by decide)
 have s2 : ZY (.list (D.map ptL)) = true := (Q9 (n := 2) fun y _ => JO y : Shp 3 (.list (D.map ptL))).ok (by decide)
 show (if (ZY (ptL x) && ZY (.list (D.map ptL))) = true then Res.ok (PyData.bool (!(D.map ptL).any fun y => y.eqv (ptL x))) else .stuck) = _
 rw [s1, s2]
 have e : ((D.map ptL).any fun y => y.eqv (ptL x)) = decide (x ∈ D) := by
  rw [List.any_map]
  induction D with
  | nil => simp
  | cons y D ih =>
   have s2' : ZY (.list (D.map ptL)) = true := (Q9 (n := 2) fun y _ => JO y : Shp 3 (.list (D.map ptL))).ok (by decide)
   rw [List.any_cons, ih s2']
   show (PyData.eqv (ptL y) (ptL x) || decide (x ∈ D)) = _
   rw [eqv_pt]
   by_cases h1 : y = x
   ·subst h1; simp
   ·have h1' : ¬ x = y := fun z => h1 z.symm
    simp [h1, h1']
 rw [e]
 rfl
section
variable {K m : Nat} {ls : List Lim}
structure Ds (K m : Nat) (ls : List Lim) : Prop where
 k1 : 1 <= K
 k3 : K <= 3
 len : ls.length = m
 m7 : m <= 7
 w : ∀ l ∈ ls, l.1.length = K
 sz : ∀ l ∈ ls, (∀ x ∈ l.1, x.natAbs <= 999999999999) /\ l.2.natAbs <= 999999999999
theorem Ds.dk (d : Ds K m ls) : DK K m 999999999999 210 ls := by
 have k1 := d.k1
 have k3 := d.k3
 have m7 := d.m7
 refine ⟨by omega, by omega, d.len, d.w, by decide, d.sz, ?_, by decide, ?_⟩
 ·rcases (show K = 1 \/ K = 2 \/ K = 3 by omega) with e | e | e <;> rw [e] <;> decide
 ·exact Nat.lt_of_le_of_lt (Nat.le_trans (Nat.pow_le_pow_left (show K + m + 1 <= 11 by omega) K) (Nat.pow_le_pow_right (by decide) k3)) (by decide)
def cho (ls : List Lim) (q : List Nat) : List Lim := q.map fun i => ls.getD i ([], 0)
theorem p40 : (999999999999 : Nat) < 2 ^ 40 := by decide
theorem zes (d : Ds K m ls) {q : List Nat} (c : Ch K m q) : ∀ l ∈ cho ls q, l ∈ ls := fun l hl => by
 obtain ⟨i, hi, rfl⟩ := List.mem_map.mp hl
 have := c.lt i hi
 rw [<- d.len] at this
 rw [<- Zt this]
 exact List.getElem_mem this
theorem cho_rw (d : Ds K m ls) {q : List Nat} (c : Ch K m q) : Rw K 41 ((cho ls q).map fun l => l.1 ++ [l.2]) := by
 refine ⟨by simp [cho, c.len], fun r hr => ?_, fun r hr x hx => ?_⟩
 ·obtain ⟨l, hl, rfl⟩ := List.mem_map.mp hr
  simp [d.w l (zes d c l hl)]
 ·obtain ⟨l, hl, rfl⟩ := List.mem_map.mp hr
  have hm := d.sz l (zes d c l hl)
  have lt : (2 : Nat) ^ 40 < 2 ^ 41 := by decide
  have p := p40
  rcases List.mem_append.mp hx with hx | hx
  ·have := hm.1 x hx; omega
  ·rw [List.mem_singleton.mp hx]; have := hm.2; omega
theorem cho_ag (d : Ds K m ls) {q : List Nat} (c : Ch K m q) : Ag K ((cho ls q).map fun l => l.1 ++ [l.2]) (Rq K ls q) := fun i j hi hj => by
 have hq : i < q.length := by rw [c.len]; exact hi
 have hg : q.getD i 0 = q[i] := (Zt hq).symm
 have e1 : (((cho ls q).map fun l => l.1 ++ [l.2]).getD i []) = (ls.getD (q.getD i 0) ([], 0)).1 ++ [(ls.getD (q.getD i 0) ([], 0)).2] := by
  rw [hg]
  simp [cho, List.getD_eq_getElem?_getD, hq]
 have hm : ls.getD (q.getD i 0) ([], 0) ∈ ls := by
  have := c.lt q[i] (List.getElem_mem hq)
  rw [<- d.len] at this
  rw [hg, <- Zt this]
  exact List.getElem_mem this
 have hw := d.w _ hm
 unfold mx Rq
 rw [e1]
 generalize ls.getD (q.getD i 0) ([], 0) = l at *
 by_cases h : j < K
 ·rw [if_pos h, List.getD_eq_getElem?_getD, List.getElem?_append_left (by omega), <- List.getD_eq_getElem?_getD]
 ·have : j = K := by omega
  subst this
  rw [if_neg h, List.getD_eq_getElem?_getD, List.getElem?_append_right (by omega), hw]
  simp
def Due (K : Nat) (ls : List Lim) (q : List Nat) (x : List Rat) : Prop := ∃ Q, elm K K (Rq K ls q) = some Q /\ x = mpt K Q
def bDu : DS := (dSeq (dSet 7 [] (Zn Ye (Zd (dL (YD 1 [3] (Zi 0) (iSeq (dVar 6)) tT (d2 fIx (dVar 1) (dVar 0)))) (Zd (dVar 2) dNil))))
  (dIf (tAnd (tV (d1 U5 (dVar 7))) (tAnd (tV (Zn YH (Zd (dVar 3) (Zd (dVar 7) dNil)))) (tV (d2 fNin (dVar 7) (dVar 5)))))
  (dApp 5 [] (dVar 7))
  ZO))
theorem za5 (Q : Mx) : (mpt K Q).length = K := by simp [mpt]
theorem du_step (d : Ds K m ls) (hsz : ∀ q x, Ch K m q -> Due K ls q x -> ∀ y ∈ x, Sz 210 y) {q : List Nat} (c : Ch K m q) {g0 g1 g4 : PyData} {D : List (List Rat)} (hD : D.length < 100000) (s7 : Sl) : ∃ s7', bDu [.val g0, .val g1, .val (.int K), .val (.list (ls.map limL)), .val g4, .own (D.map ptL), .val (eH q), s7, .emp] = .ok (.nx [.val g0, .val g1, .val (.int K), .val (.list (ls.map limL)), .val g4, .own ((match elm K K (Rq K ls q) with | none => D | some Q => if V6 ls (mpt K Q) = true /\ mpt K Q ∉ D then D ++ [mpt K Q] else D).map ptL), .val (eH q), s7', .emp]) := by
 have k3 := d.k3
 have m7 := d.m7
 have cp := Z3 (st := Zi 0) (e := d2 fIx (dVar 1) (dVar 0)) (C := [.emp, .val (.list (ls.map limL))]) (fun (i : Nat) => PyData.int (i : Int)) (fun i => limL (ls.getD i ([], 0))) q fun i hi => ⟨[.val (.int i), .val (.list (ls.map limL))], rfl, by
  have hl := c.lt i hi
  rw [<- d.len] at hl
  have a : atP (ls.map limL) (i : Int) = some (limL (ls.getD i ([], 0))) := by rw [Xn hl, Zt (d := ([], 0)) hl]
  generalize limL (ls.getD i ([], 0)) = x at *
  generalize ls.map limL = LL at *
  simp [a]⟩
 have ec : (q.map fun i => limL (ls.getD i ([], 0))) = (cho ls q).map limL := by simp [cho, List.map_map, Function.comp_def]
 rw [ec] at cp
 have mt := zcw k3 (by simp [cho, c.len]) (cho_rw d c) (cho_ag d c)
 have ql : q.length <= 16777216 := by rw [c.len]; omega
 have lD : (D.map ptL).length < 16777216 := by simp; omega
 cases e : elm K K (Rq K ls q) with
 | none =>
  rw [e] at mt
  refine ⟨.val .none, ?_⟩
  simp only at mt ⊢
  simp only [eH] at *
  generalize ls.map limL = LL at *
  generalize (cho ls q).map limL = CC at *
  generalize D.map ptL = DD at *
  simp [bDu, ql, cp, mt]
 | some Q =>
  rw [e] at mt
  simp only at mt ⊢
  have sz := hsz q (mpt K Q) c ⟨Q, e, rfl⟩
  have kp := keeps_b (m := 40) (n := 210) (ls := ls) (ps := mpt K Q) (fun l hl => ⟨fun x hx => Nat.lt_of_le_of_lt ((d.sz l hl).1 x hx) p40, sz, by decide, by rw [d.w l hl, za5]⟩) (fun l hl => Nat.lt_of_le_of_lt (d.sz l hl).2 p40) (by
   rw [za5]
   have : wSz 40 210 K <= wSz 40 210 3 := wSz_le k3
   have z : wSz 40 210 3 = 754 := by decide
   omega) (by rw [za5]; omega)
  have ni := nin_ok (mpt K Q) D
  refine ⟨.val (ptL (mpt K Q)), ?_⟩
  have nn : ∀ x : List Rat, U5 (ptL x) = .ok (.bool true) := fun _ => rfl
  have nn' := nn (mpt K Q)
  by_cases h1 : V6 ls (mpt K Q) = true
  ·rw [h1] at kp
   by_cases h2 : mpt K Q ∈ D
   ·rw [if_neg (fun z => z.2 h2)]
    rw [show (!decide (mpt K Q ∈ D)) = false by simp [h2]] at ni
    simp only [eH] at *
    generalize ls.map limL = LL at *
    generalize (cho ls q).map limL = CC at *
    generalize D.map ptL = DD at *
    generalize ptL (mpt K Q) = PP at *
    simp [bDu, ql, cp, mt, nn', kp, ni, -U5]
   ·rw [if_pos ⟨h1, h2⟩]
    rw [show (!decide (mpt K Q ∈ D)) = true by simp [h2]] at ni
    rw [List.map_append]
    simp only [eH, List.map_cons, List.map_nil] at *
    generalize ls.map limL = LL at *
    generalize (cho ls q).map limL = CC at *
    generalize D.map ptL = DD at *
    generalize ptL (mpt K Q) = PP at *
    simp [bDu, ql, cp, mt, nn', kp, ni, lD, -U5]
  ·rw [if_neg (fun z => h1 z.1)]
   rw [show V6 ls (mpt K Q) = false by simpa using h1] at kp
   simp only [eH] at *
   generalize ls.map limL = LL at *
   generalize (cho ls q).map limL = CC at *
   generalize D.map ptL = DD at *
   generalize ptL (mpt K Q) = PP at *
   simp [bDu, ql, cp, mt, nn', kp, -U5]
theorem zea (d : Ds K m ls) (hsz : ∀ q x, Ch K m q -> Due K ls q x -> ∀ y ∈ x, Sz 210 y) {g0 g1 g4 : PyData} : ∀ (cs : List (List Nat)) (D : List (List Rat)) (s6 s7 : Sl), (∀ q ∈ cs, Ch K m q) -> D.Nodup -> D.length + cs.length < 100000 -> ∃ (D' : List (List Rat)) (s6' s7' : Sl), D'.Nodup /\ D'.length <= D.length + cs.length /\ (∀ x, x ∈ D' ↔ x ∈ D \/ ∃ q ∈ cs, Due K ls q x /\ V6 ls x = true) /\ forL (Zi 6) bDu (cs.map eH) [.val g0, .val g1, .val (.int K), .val (.list (ls.map limL)), .val g4, .own (D.map ptL), s6, s7, .emp] = .ok (.nx [.val g0, .val g1, .val (.int K), .val (.list (ls.map limL)), .val g4, .own (D'.map ptL), s6', s7', .emp])
 | [], D, s6, s7, _, hn, _ => ⟨D, s6, s7, hn, by simp, fun x => ⟨.inl, fun h => h.elim id fun ⟨q, hq, _⟩ => absurd hq List.not_mem_nil⟩, rfl⟩
 | q :: cs, D, s6, s7, hc, hn, hl => by
  simp only [List.length_cons] at hl
  obtain ⟨t7, bb⟩ := du_step d hsz (hc q List.mem_cons_self) (g0 := g0) (g1 := g1) (g4 := g4) (D := D) (by omega) s7
  have key : ∃ D1 : List (List Rat), D1 = (match elm K K (Rq K ls q) with | none => D | some Q => if V6 ls (mpt K Q) = true /\ mpt K Q ∉ D then D ++ [mpt K Q] else D) /\ D1.Nodup /\ D1.length <= D.length + 1 /\ ∀ x, x ∈ D1 ↔ x ∈ D \/ (Due K ls q x /\ V6 ls x = true) := by
   refine ⟨_, rfl, ?_⟩
   cases e : elm K K (Rq K ls q) with
   | none => exact ⟨hn, by simp, fun x => ⟨.inl, fun h => h.elim id fun ⟨⟨Q, h1, _⟩, _⟩ => by rw [e] at h1; cases h1⟩⟩
   | some Q =>
    simp only
    split
    ·rename_i h
     refine ⟨List.nodup_append.mpr ⟨hn, List.pairwise_singleton _ _, fun a ha b hb z => ?_⟩, by simp, fun x => ?_⟩
     ·rw [List.mem_singleton.mp hb] at z
      exact h.2 (z ▸ ha)
     ·rw [List.mem_append, List.mem_singleton]
      constructor
      ·rintro (h1 | h1)
       ·exact .inl h1
       ·exact .inr ⟨⟨Q, e, h1⟩, by rw [h1]; exact h.1⟩
      ·rintro (h1 | ⟨⟨Q', h1, h2⟩, _⟩)
       ·exact .inl h1
       ·rw [e] at h1; cases h1
        exact .inr h2
    ·rename_i h
     refine ⟨hn, by omega, fun x => ⟨.inl, ?_⟩⟩
     rintro (h1 | ⟨⟨Q', h1, h2⟩, h3⟩)
     ·exact h1
     ·rw [e] at h1; cases h1
      exact Classical.byContradiction fun z => h ⟨by rw [<- h2]; exact h3, by rw [<- h2]; exact z⟩
  obtain ⟨D1, e1, n1, l1, m1⟩ := key
  rw [<- e1] at bb
  obtain ⟨D', s6', s7', n2, l2, m2, e2⟩ := zea d hsz (g0 := g0) (g1 := g1) (g4 := g4) cs D1 (.val (eH q)) t7 (fun q hq => hc q (List.mem_cons_of_mem _ hq)) n1 (by omega)
  refine ⟨D', s6', s7', n2, by simp; omega, fun x => ?_, ?_⟩
  ·rw [m2, m1]
   constructor
   ·rintro ((h | h) | ⟨r, h1, h2⟩)
    ·exact .inl h
    ·exact .inr ⟨q, List.mem_cons_self, h⟩
    ·exact .inr ⟨r, List.mem_cons_of_mem _ h1, h2⟩
   ·rintro (h | ⟨r, h1, h2⟩)
    ·exact .inl (.inl h)
    ·rcases List.mem_cons.mp h1 with rfl | h1
     ·exact .inl (.inr h2)
     ·exact .inr ⟨r, h1, h2⟩
  ·rw [List.map_cons]
   unfold forL
   simp only [Zi, List.set, Res.bind_ok, bb]
   exact e2
def bFi : DS := (dSeq (dIf (tOr (tNot (tV (Zn Z6 (Zd (d2 fIx (dVar 4) (dVar 8)) (Zd (dVar 2) dNil))))) (tV (d2 fNin (d2 fIx (dVar 4) (dVar 8)) (dVar 5))))
  (dRet (dC (.bool false)))
  ZO)
  (dIf (tAnd (tV (d2 fGt (dVar 8) (dC (.int 0)))) (tNot (tV (Zn YJ (Zd (d2 fIx (dVar 4) (d2 fSub (dVar 8) (dC (.int 1)))) (Zd (d2 fIx (dVar 4) (dVar 8)) dNil))))))
  (dRet (dC (.bool false)))
  ZO))
theorem fi_step {L D : List (List Rat)} (hK : K <= 3) (u : Up K 210 L) (hs : ∀ x ∈ L, x ∈ D) {i : Nat} (hi : i < L.length) {g0 g1 g3 : PyData} {s6 s7 : Sl} : bFi [.val g0, .val g1, .val (.int K), .val g3, .val (.list (L.map ptL)), .own (D.map ptL), s6, s7, .val (.int i)] = .ok (.nx [.val g0, .val g1, .val (.int K), .val g3, .val (.list (L.map ptL)), .own (D.map ptL), s6, s7, .val (.int i)]) := by
 have hm := List.getElem_mem hi
 have at_ : atP (L.map ptL) (i : Int) = some (ptL L[i]) := Xn hi
 have ip : Z6 [ptL L[i], .int K] = .ok (.bool true) := za8 (u.len _ hm)
 have ni := nin_ok L[i] D
 rw [show (!decide (L[i] ∈ D)) = false by simp [hs _ hm]] at ni
 by_cases h0 : i = 0
 ·have gt : ¬ (0 : Int) < (i : Int) := by omega
  have gt' : ¬ 0 < i := by omega
  generalize ptL L[i] = x at *
  generalize L.map ptL = LL at *
  generalize D.map ptL = DD at *
  simp [bFi, at_, ip, ni, gt, gt']
 ·have gt : (0 : Int) < (i : Int) := by omega
  have gt' : 0 < i := by omega
  have hi1 : i - 1 < L.length := by omega
  have at1 : atP (L.map ptL) ((i : Int) - 1) = some (ptL L[i - 1]) := by
   have : atP (L.map ptL) ((i - 1 : Nat) : Int) = some (ptL L[i - 1]) := Xn hi1
   rw [show (((i - 1 : Nat)) : Int) = (i : Int) - 1 by omega] at this
   exact this
  have m1 := List.getElem_mem hi1
  have ah := ahead_ok (n0 := 210) (by decide) (P := L[i - 1]) (Q := L[i]) (by rw [u.len _ m1, u.len _ hm]) (by rw [u.len _ m1]; omega) (u.sz _ m1) (u.sz _ hm)
  rw [List.pairwise_iff_getElem.mp u.asc (i - 1) i hi1 hi (by omega)] at ah
  generalize ptL L[i - 1] = y at *
  generalize ptL L[i] = x at *
  generalize L.map ptL = LL at *
  generalize D.map ptL = DD at *
  simp [bFi, at_, ip, ni, gt, gt', at1, ah]
theorem zew (d : Ds K m ls) {g0 g1 : PyData} : zbk [.val g0, .val g1, .val (.int K), .val (.list (ls.map limL)), .emp, .emp, .emp, .emp, .emp] = .ok (.rt (.bool true)) := by
 have k1 := d.k1
 have k3 := d.k3
 have m7 := d.m7
 have hl := d.len
 have e1 := zen ls (by omega)
 have e2 := zcG (k := K) (w := 999999999999) (ls := ls) (fun l hm => ⟨d.w l hm, (d.sz l hm).1, (d.sz l hm).2⟩) (by decide) ⟨k1, by omega⟩ (by omega)
 obtain ⟨bs, L, a, u, lL, mL, e3⟩ := zcH d.dk k3 m7
 have hbo : ∀ b ∈ bs, Bo K m (M0 K ls (List.replicate K 0)) b := fun b hb => (a.snd b hb).bo
 have gz : ∀ x ∈ List.replicate K (0 : Int), x.natAbs <= 999999999999 := fun x hx => by rw [List.eq_of_mem_replicate hx]; decide
 have gl : (List.replicate K (0 : Int)).length = K := by simp
 have z := d.dk.mz gl gz
 -- the points of choices are points of boards
 have onb : ∀ q x, Ch K m q -> Due K ls q x -> ∃ b ∈ bs, x = pt K b := fun q x c ⟨Q, h1, h2⟩ => by
  obtain ⟨b, hb, zb, hd⟩ := a.board d.len d.w c h1
  exact ⟨b, hb, by rw [h2]; exact mpt_pt d.len d.w zb.bo hd h1⟩
 have hsz : ∀ q x, Ch K m q -> Due K ls q x -> ∀ y ∈ x, Sz 210 y := fun q x c h => by
  obtain ⟨b, hb, rfl⟩ := onb q x c h
  exact pt_sz (d.dk.szb gl gz (hbo b hb)) ((hbo b hb).sm z)
 have ch := zcK (m := m) k3 m7
 have chl : (chs m K).length <= 343 := Nat.le_trans (zbm m K) (Nat.le_trans (Nat.pow_le_pow_left m7 K) (Nat.le_trans (Nat.pow_le_pow_right (by decide) k3) (by decide)))
 obtain ⟨D, s6, s7, nD, lD, mD, e4⟩ := zea d hsz (g0 := g0) (g1 := g1) (g4 := .list (L.map ptL)) (chs m K) [] .emp .emp (fun q hq => (Ud m K q).mp hq) .nil (by simp; omega)
 have kpb : ∀ b ∈ bs, (V6 ls (pt K b) = true ↔ ∀ t, K <= t -> t < K + m -> 0 <= b.bd.R t K) := fun b hb => by
  rw [keep_iff d.len d.w (hbo b hb) ((hbo b hb).sm z).d0]
  unfold V6
  rw [List.all_eq_true]
  exact ⟨fun h l hl => of_decide_eq_true (h l hl), fun h l hl => decide_eq_true (h l hl)⟩
 have same : ∀ x, x ∈ L ↔ x ∈ D := fun x => by
  rw [mL, mD]
  constructor
  ·rintro ⟨b, hb, h1, rfl⟩
   have zb := a.snd b hb
   obtain ⟨q, c, hd⟩ := zb.choice
   obtain ⟨Q, eQ, _⟩ := zdA d.len d.w zb.bo hd
   exact .inr ⟨q, (Ud m K q).mpr c, ⟨Q, eQ, (mpt_pt d.len d.w zb.bo hd eQ).symm⟩, (kpb b hb).mpr h1⟩
  ·rintro (h | ⟨q, hq, h1, h2⟩)
   ·exact absurd h List.not_mem_nil
   ·obtain ⟨b, hb, rfl⟩ := onb q x ((Ud m K q).mp hq) h1
    exact ⟨b, hb, (kpb b hb).mp h2, rfl⟩
 have nL : L.Nodup := u.asc.imp fun {p q} h => fun e => by rw [e, zdE] at h; cases h
 have len : L.length = D.length := Nat.le_antisymm (zdF nL fun x hx => (same x).mp hx) (zdF nD fun x hx => (same x).mpr hx)
 obtain ⟨G', e5, hG⟩ := V7 (st := Zi 8) (b := bFi) (n := L.length) (G := [.val g0, .val g1, .val (.int K), .val (.list (ls.map limL)), .val (.list (L.map ptL)), .own (D.map ptL), s6, s7, .emp]) (fun i G => ∃ s, G = [.val g0, .val g1, .val (.int K), .val (.list (ls.map limL)), .val (.list (L.map ptL)), .own (D.map ptL), s6, s7, s]) ⟨.emp, rfl⟩ fun i G hi ⟨s, hG⟩ => by
  subst hG
  exact ⟨_, rfl, _, .inl (fi_step k3 u (fun x hx => (same x).mp hx) hi), ⟨_, rfl⟩⟩
 obtain ⟨s8, rfl⟩ := hG
 have h7 : zee = dSeq (dFor (Zi 6) [] (iSeq (Zn Yz (Zd (d1 fLen (dVar 3)) (Zd (dVar 2) dNil)))) bDu) zbj := rfl
 have h8 : zbj = dSeq (dFor (Zi 8) [] (iRng (d1 fLen (dVar 4))) bFi) zbi := rfl
 have hr : X3 (L.length : Int) = true := ZZ (by omega)
 have l1 : (L.map ptL).length = L.length := by simp
 have l2 : (D.map ptL).length = L.length := by simp [len]
 have l3 : (ls.map limL).length = m := by simp [hl]
 have e4' : forL (Zi 6) bDu ((chs m K).map eH) [.val g0, .val g1, .val (.int K), .val (.list (ls.map limL)), .val (.list (L.map ptL)), .own [], .emp, .emp, .emp] = .ok (.nx [.val g0, .val g1, .val (.int K), .val (.list (ls.map limL)), .val (.list (L.map ptL)), .own (D.map ptL), s6, s7, .emp]) := e4
 have eqL := V9 (L.length : Int) (L.length : Int)
 simp only [Qa] at e3
 generalize ls.map limL = LL at *
 generalize ls.map limT = LT at *
 generalize L.map ptL = PL at *
 generalize D.map ptL = PD at *
 generalize (chs m K).map eH = CS at *
 simp [zbk, zeg, zef, h7, h8, zbi, e1, e2, e3, l3, ch, e4', l1, l2, hr, e5, eqL]
theorem zel (xs : List PyData) : cutT xs none (some 7) = xs.take 7 := by
 unfold cutT
 simp only [sIxT]
 rw [if_neg (by decide), List.drop_zero, Nat.sub_zero]
 by_cases h : 7 <= xs.length
 ·rw [show min (7 : Int).toNat xs.length = 7 by simp; omega]
 ·rw [show min (7 : Int).toNat xs.length = xs.length by simp; omega, List.take_of_length_le (Nat.le_refl _), List.take_of_length_le (by omega)]
theorem cut_to' {L : List PyData} {k : Nat} : cutT L none (some (k : Int)) = L.take k := by
 by_cases h : k <= L.length
 ·exact cut_to h
 ·unfold cutT
  simp only [sIxT]
  rw [if_neg (by omega), List.drop_zero, Nat.sub_zero, show min (k : Int).toNat L.length = L.length by simp; omega, List.take_of_length_le (Nat.le_refl _), List.take_of_length_le (by omega)]
theorem law_ok (ns : List Int) (_hl : ns.length <= 63) : zbc [.list (ns.map .int)] = .ok (.bool true) := by
 obtain ⟨k, w, ls0, h, e1⟩ := desk_ok ns
 obtain ⟨c2, e2⟩ := W8 ns 2 (by omega)
 have k1 := h.k1
 have k4 := h.k4
 have hlen := h.len
 have hw := h.wb
 obtain ⟨K, hK1, hK3, hKk, eK⟩ : ∃ K : Nat, 1 <= K /\ K <= 3 /\ K <= k /\ (if (3 : Int) < (k : Int) then (3 : Int) else (k : Int)) = (K : Int) := by
  by_cases z : 3 < k
  ·exact ⟨3, by decide, by decide, by omega, by rw [if_pos (by omega)]; rfl⟩
  ·exact ⟨k, k1, by omega, Nat.le_refl _, by rw [if_neg (by omega)]⟩
 have eM : fMin (.int (k : Int)) (.int 3) = .ok (.int K) := by
  show Res.ok (PyData.int (if (3 : Int) < (k : Int) then (3 : Int) else (k : Int))) = _
  rw [eK]
 let ls1 : List Lim := (ls0.take 7).map fun l => (l.1.take K, l.2)
 have c7 := zel (ls0.map limL)
 have cp := Z3 (st := Zi 0) (e := (dTup (Zd (dL (oCut (d2 fIx (dVar 0) (dC (.int 0))) pNo (pAt (dVar 1)))) (Zd (d2 fIx (dVar 0) (dC (.int 1))) dNil)))) (C := [.emp, .val (.int K)]) limL (fun l => limL (l.1.take K, l.2)) (ls0.take 7) fun l hm => ⟨[.val (limL l), .val (.int K)], rfl, by
  have ct := cut_to' (L := l.1.map PyData.int) (k := K)
  simp only [limL]
  simp [at0, at1, ct, List.map_take]⟩
 rw [List.map_take, ] at cp
 have em : ((ls0.take 7).map fun l => limL (l.1.take K, l.2)) = ls1.map limL := by simp [ls1, List.map_map, Function.comp_def]
 rw [em] at cp
 have m1 : ∀ l ∈ ls1, l.1.length = K /\ (∀ x ∈ l.1, x.natAbs <= 999999999999) /\ l.2.natAbs <= 999999999999 := fun l hl => by
  obtain ⟨l0, h0, rfl⟩ := List.mem_map.mp hl
  obtain ⟨a1, a2, a3⟩ := h.ws l0 (List.mem_of_mem_take h0)
  exact ⟨by simp [a1]; omega, fun x hx => Nat.le_trans (a2 x (List.mem_of_mem_take hx)) hw, Nat.le_trans a3 hw⟩
 have l7 : ls1.length <= 7 := by simp [ls1]; omega
 have lt : ((ls0.map limL).take 7).length <= 16777216 := by simp; omega
 have top : ∀ t, JA [.val (.list (ns.map .int)), .val (.tuple [.int k, .list (ls0.map limL)]), .val (.int K), .val (.list (ls1.map limL)), .emp, .emp, .emp, .emp, .emp] = .ok (.rt t) -> zbc [.list (ns.map .int)] = .ok t := fun t ht => by
  generalize ls0.map limL = L0 at *
  generalize ls1.map limL = L1 at *
  generalize L0.take 7 = L7 at *
  simp [zbc, d_law, zei, zeh, runQ, runF, e1, at0, at1, eM, c7, lt, cp, ht, -fMin]
 refine top _ ?_
 by_cases z : Int.fmod c2 4 = 3
 ·let ls2 : List Lim := ls1.map fun l => (l.1.map fun x => Int.fmod x 7 - 3, Int.fmod l.2 9)
  have ci : ∀ l : Lim, Ym (Zi 0) tT (d2 fSub (d2 fMod (dVar 0) (dC (.int 7))) (dC (.int 3))) [.emp] (l.1.map .int) = .ok ((l.1.map fun x => Int.fmod x 7 - 3).map .int) := fun l => by
   have e := Z3 (st := Zi 0) (e := (d2 fSub (d2 fMod (dVar 0) (dC (.int 7))) (dC (.int 3)))) (C := [.emp]) PyData.int (fun x => PyData.int (Int.fmod x 7 - 3)) l.1 fun x _ => ⟨[.val (.int x)], rfl, by simp⟩
   rw [e, List.map_map]
   rfl
  have cp2 := Z3 (st := Zi 0) (e := (dTup (Zd (dL (YD 1 [] (Zi 0) (iSeq (d2 fIx (dVar 0) (dC (.int 0)))) tT (d2 fSub (d2 fMod (dVar 0) (dC (.int 7))) (dC (.int 3))))) (Zd (d2 fMod (d2 fIx (dVar 0) (dC (.int 1))) (dC (.int 9))) dNil)))) (C := [.emp]) limL (fun l => limL (l.1.map fun x => Int.fmod x 7 - 3, Int.fmod l.2 9)) ls1 fun l hm => ⟨[.val (limL l)], rfl, by
   have c := ci l
   have ll : (l.1.map PyData.int).length <= 16777216 := by rw [List.length_map, (m1 l hm).1]; omega
   simp only [limL]
   generalize l.1.map PyData.int = Q1 at *
   generalize (l.1.map fun x => Int.fmod x 7 - 3).map PyData.int = Q2 at *
   simp [at0, at1, ll, c]⟩
  have em2 : (ls1.map fun l => limL (l.1.map fun x => Int.fmod x 7 - 3, Int.fmod l.2 9)) = ls2.map limL := by simp [ls2, List.map_map, Function.comp_def]
  rw [em2] at cp2
  have d : Ds K ls1.length ls2 := by
   refine ⟨hK1, hK3, by simp [ls2], l7, fun l hl => ?_, fun l hl => ?_⟩
   ·obtain ⟨l0, h0, rfl⟩ := List.mem_map.mp hl
    simp [(m1 l0 h0).1]
   ·obtain ⟨l0, h0, rfl⟩ := List.mem_map.mp hl
    refine ⟨fun x hx => ?_, ?_⟩
    ·obtain ⟨y, hy, rfl⟩ := List.mem_map.mp hx
     obtain ⟨r, hr, hr2⟩ : ∃ r : Nat, Int.fmod y 7 = (r : Int) /\ r < 7 := Um (n := 7) (by decide)
     rw [hr]; omega
    ·obtain ⟨r, hr, hr2⟩ : ∃ r : Nat, Int.fmod l0.2 9 = (r : Int) /\ r < 9 := Um (n := 9) (by decide)
     show (Int.fmod l0.2 9).natAbs <= _
     rw [hr]; omega
  have b := zew d (g0 := .list (ns.map .int)) (g1 := .tuple [.int k, .list (ls0.map limL)])
  have lt2 : (ls1.map limL).length <= 16777216 := by simp; omega
  generalize ls0.map limL = L0 at *
  generalize ls1.map limL = L1 at *
  generalize ls2.map limL = L2 at *
  simp [JA, e2, V9, z, lt2, cp2, b]
 ·have d : Ds K ls1.length ls1 := ⟨hK1, hK3, rfl, l7, fun l hl => (m1 l hl).1, fun l hl => (m1 l hl).2⟩
  have b := zew d (g0 := .list (ns.map .int)) (g1 := .tuple [.int k, .list (ls0.map limL)])
  generalize ls0.map limL = L0 at *
  generalize ls1.map limL = L1 at *
  simp [JA, e2, V9, z, b]
end
end K12
namespace K12
open PySem PySem.Spec PyProof.Rows L2 Fx Lw
variable {P : Program} {w : World} {K : PySem.W.Frag} {mg : Str -> Option Value} {base : Heap} {k : Nat} {fa : Addr} {fd : FuncData}
set_option maxHeartbeats 0
set_option smartUnfolding false
def top (i : Nat) : Stmt := PySem.Challenge.pw_limitdesk_k12_whole_corners.main.body.getD i (.Pass ⟨0, 0, 0, 0⟩)
def inClass (st : Stmt) (i : Nat) : Stmt := match st with | .ClassDef _ _ _ body _ _ _ _ _ _ _ => body.getD i (.Pass ⟨0, 0, 0, 0⟩) | st => st
abbrev YR : Stmt := inClass (top 6) 0
theorem Jb : FnScope ["self", "heads", "divisor", "rows"] ["self", "heads", "divisor", "rows"] (Zc YR) := ⟨rfl, rfl, rfl, by decide +kernel, rfl, by decide +kernel, by decide +kernel⟩
theorem Jl {P : Program} {w : World} {K : PySem.W.Frag} {mg : Str -> Option Value} {base : Heap} {f C : Addr} {fd : FuncData} (F : Fun K "__init__" "Board.__init__" YR f fd) (cl : Cls K C) (n0 : Wb K C "heads") (n1 : Wb K C "divisor") (n2 : Wb K C "rows") : FnOk P w K mg base CX0 1 f fd ["self", "heads", "divisor", "rows"] (Fx.spI C ["heads", "divisor", "rows"]) := by
 refine F.ok Jb (fun vs H Q E h => Fx.spI_len h) fun cdv A outer s H vs Q E hr h => ⟨_, Je (zdh (pv 0) (pv 1) rfl) (Je (zdh (pv 0) (pv 2) rfl) (zdg (zdh (pv 0) (pv 3) rfl))), ?_⟩
 obtain ⟨x, dx, u1, u2, u3, rfl, hp, k⟩ := Fx.spI3 h
 refine ⟨_, rfl, _, rfl, x, C, dx, [], rfl, hp, cl, n0, (by show 0 < 1000; decide), _, rfl, _, rfl, x, C, dx, _, rfl, Zs, cl, n1, (by show 1 < 1000; decide), _, rfl, _, rfl, x, C, dx, _, rfl, Zs, cl, n2, (by show 2 < 1000; decide), ?_⟩
 rw [zcS, zcS, Fx.putF3 (by decide +kernel) (by decide +kernel) (by decide +kernel)]
 exact k
abbrev XI : Stmt := top 1
theorem zaP : FnScope ["value"] ["value"] (Zc XI) := ⟨rfl, rfl, rfl, by decide +kernel, rfl, by decide +kernel, by decide +kernel⟩
theorem za3 (F : Fun K "is_whole" "is_whole" XI fa fd) (hm : mg "is_whole" = some (.ref fa)) (b : ZP K fd ["value"] []) (z_isinstance : mg "isinstance" = none) (z_int : mg "int" = none) (z_bool : mg "bool" = none) :
  Fx.Cle P w K mg base (k + 1) "is_whole" 1 YV := by
 exact ZJ F hm b zaP rfl rfl fun cdv A outer s H E hr =>
  (Zg (Zq (zd7 (YC zdL (show bootBuiltins "int" = some (.type "int") by decide +kernel) rfl z_isinstance rfl z_int (Za 0)) (zd3 (Fx.ev_not (YC zbP (show bootBuiltins "bool" = some (.type "bool") by decide +kernel) rfl z_isinstance rfl z_bool (Za 0)))))))
abbrev Z2 : Stmt := top 2
theorem ZT : FnScope ["a", "b", "rest"] ["a", "b"] (Zc Z2) := ⟨rfl, rfl, rfl, by decide +kernel, rfl, by decide +kernel, by decide +kernel⟩
theorem V5 (F : Fun K "common_divisor" "common_divisor" Z2 fa fd) (hm : mg "common_divisor" = some (.ref fa)) (b : ZP K fd ["a", "b"] []) (z_abs : mg "abs" = none) :
  Fx.Cle P w K mg base (k + 1) "common_divisor" 2 YF := by
 exact ZJ F hm b ZT rfl rfl fun cdv A outer s H E hr =>
  (Ze (Zo (i := 0) ZT.nd rfl (Or.inl rfl) (Ur rfl z_abs (Za 0)))
  (Ze (Zo (i := 1) ZT.nd rfl (Or.inl rfl) (Ur rfl z_abs (Za 1)))
  (Ze (UL PassesOwn.never (ZA (WS hr.units) (Za 1) Zf (Zu _))
  (Ze (Zo (i := 2) ZT.nd rfl (Or.inl rfl) (Zy Y1 (Za 0) (Za 1)))
  (Ze (Zo (i := 0) ZT.nd rfl (Or.inl rfl) (Za 1))
  (Zg (Zo (i := 1) ZT.nd rfl (Or.inl rfl) (Za 2))))))
  (Zg (Zq (Za 0))))))
abbrev QL : Stmt := top 3
theorem zaQ : FnScope ["upper", "lower", "divisor"] ["upper", "lower"] (Zc QL) := ⟨rfl, rfl, rfl, by decide +kernel, rfl, by decide +kernel, by decide +kernel⟩
theorem ok_frac (F : Fun K "frac" "frac" QL fa fd) (hm : mg "frac" = some (.ref fa)) (b : ZP K fd ["upper", "lower"] []) (C_common_divisor : Fx.Cle P w K mg base k "common_divisor" 2 YF) :
  Fx.Cle P w K mg base (k + 1) "frac" 2 Uo := by
 exact ZJ F hm b zaQ rfl rfl fun cdv A outer s H E hr =>
  (Ze (Yl (ZA (WT hr.units) (Za 1) Zf (Zu _))
  (Zg X5)
  ZI)
  (Ze (Zo (i := 2) zaQ.nd rfl (Or.inl rfl) (Zk (Fx.Cle.cal C_common_divisor) hr rfl (Zb (Za 0) (Zb (Za 1) Zh))))
  (Ze (Yl (ZA WE (Za 1) Zf (Zu _))
  (Zg (Zo (i := 2) zaQ.nd rfl (Or.inl rfl) (Uq (Za 2))))
  ZI)
  (Zg (Zq (WF (Zb (Zy UU (Za 0) (Za 2)) (Zb (Zy UU (Za 1) (Za 2)) Zh))))))))
abbrev V4 : Stmt := top 4
theorem sc_below : FnScope ["a", "b"] ["a", "b"] (Zc V4) := ⟨rfl, rfl, rfl, by decide +kernel, rfl, by decide +kernel, by decide +kernel⟩
theorem ok_below (F : Fun K "below" "below" V4 fa fd) (hm : mg "below" = some (.ref fa)) (b : ZP K fd ["a", "b"] []) :
  Fx.Cle P w K mg base (k + 1) "below" 2 V8 := by
 exact ZJ F hm b sc_below rfl rfl fun cdv A outer s H E hr =>
  (Zg (Zq (zan WE (Zy Yj (Zp (Za 0) Zf (fun _ _ => rfl)) (Zp (Za 1) Zf (fun _ _ => rfl))) (Zy Yj (Zp (Za 1) Zf (fun _ _ => rfl)) (Zp (Za 0) Zf (fun _ _ => rfl))) (Zu _))))
abbrev QK : Stmt := top 7
theorem zc4 : FnScope ["length", "place", "numbers"] ["length", "place"] (Zc QK) := ⟨rfl, rfl, rfl, by decide +kernel, rfl, by decide +kernel, by decide +kernel⟩
theorem ok_unit (F : Fun K "unit" "unit" QK fa fd) (hm : mg "unit" = some (.ref fa)) (b : ZP K fd ["length", "place"] []) :
  Fx.Cle P w K mg base (k + 1) "unit" 2 QR := by
 exact ZJ F hm b zc4 rfl rfl fun cdv A outer s H E hr =>
  (Ze (Wc (i := 2) zc4.nd rfl (Or.inl rfl) (Fx.ov_rep (Uk (Zb Zf Zh)) (Za 0)))
  (Ze (VC (i := 2) rfl (Za 1) Zf)
  (Zg (Zq (Za 2)))))
abbrev XD : Stmt := top 8
theorem zaN : FnScope ["limit"] ["limit"] (Zc XD) := ⟨rfl, rfl, rfl, by decide +kernel, rfl, by decide +kernel, by decide +kernel⟩
theorem zaY (F : Fun K "room_row" "room_row" XD fa fd) (hm : mg "room_row" = some (.ref fa)) (b : ZP K fd ["limit"] []) :
  Fx.Cle P w K mg base (k + 1) "room_row" 1 XJ := by
 exact ZJ F hm b zaN rfl rfl fun cdv A outer s H E hr =>
  (Zg (Zq (Zy Ya (YW (Xg (N := ["number"]) (nv := 1) (cap := []) (Y6 rfl) rfl (ZS (by decide)) (YS (Zp (Za 0) Zf (fun _ _ => rfl))) Z1 (fun _ _ _ _ => (Zw (i := 0) (show List.Nodup (["number"] : List Str) from by decide +kernel) rfl (Or.inl rfl))) (fun _ _ _ _ _ => Yp) (fun _ _ _ _ _ => (Uq (Za 0))))) (Wp (Zb (Zp (Za 0) Zf (fun _ _ => rfl)) Zh)))))
abbrev Yv : Stmt := top 9
theorem Xp : FnScope ["desk", "goal", "kinds", "amounts", "rooms"] ["desk", "goal"] (Zc Yv) := ⟨rfl, rfl, rfl, by decide +kernel, rfl, by decide +kernel, by decide +kernel⟩
theorem QF (F : Fun K "first_board" "first_board" Yv fa fd) (hm : mg "first_board" = some (.ref fa)) (b : ZP K fd ["desk", "goal"] []) (z_range : mg "range" = none) (z_list : mg "list" = none) (C_unit : Fx.Cle P w K mg base (k + 2) "unit" 2 QR) (C_room_row : Fx.Cle P w K mg base (k + 2) "room_row" 1 XJ) (M_Board : Fx.Mko P w K mg base (k + 1) "Board" ["heads", "divisor", "rows"]) :
  Fx.Cle P w K mg base (k + 2 + 1) "first_board" 2 Y2 := by
 exact ZJ F hm b Xp rfl rfl fun cdv A outer s H E hr =>
  (Ze (Zo (i := 2) Xp.nd rfl (Or.inr rfl) (Zp (Za 0) Zf (fun _ _ => rfl)))
  (Ze (Q5 (N := ["kind", "kinds"]) (nv := 1) (cap := [2]) (i := 3) (Y6 rfl) rfl (ZS (by decide)) (Yw rfl z_range (Za 2)) Z1 (fun _ _ _ _ => (Zw (i := 0) (show List.Nodup (["kind", "kinds"] : List Str) from by decide +kernel) rfl (Or.inl rfl))) (fun _ _ _ _ _ => Yp) (fun _ _ _ _ _ => (Zk (Fx.Cle.cal C_unit) hr rfl (Zb (Zy Ya (Za 1) Zf) (Zb (Za 0) Zh)))) Xp.nd rfl (Or.inl rfl))
  (Ze (Q5 (N := ["limit"]) (nv := 1) (cap := []) (i := 4) (Y6 rfl) rfl (ZS (by decide)) (YS (Zp (Za 0) Zf (fun _ _ => rfl))) Z1 (fun _ _ _ _ => (Zw (i := 0) (show List.Nodup (["limit"] : List Str) from by decide +kernel) rfl (Or.inl rfl))) (fun _ _ _ _ _ => Yp) (fun _ _ _ _ _ => (Zk (Fx.Cle.cal C_room_row) hr rfl (Zb (Za 0) Zh))) Xp.nd rfl (Or.inl rfl))
  (Zg (Zq (zd5 M_Board hr rfl (Zb (YW (Fx.ov_rng1 rfl z_list rfl z_range (Za 2))) (Zb Zf (Zb (Zy Ya (Zy Ya (Za 3) (Za 4)) (Wp (Zb (Zy Ya (Za 1) (Wp (Zb Zf Zh))) Zh))) Zh)))))))))
abbrev XC : Stmt := top 10
theorem zaM : FnScope ["board"] ["board"] (Zc XC) := ⟨rfl, rfl, rfl, by decide +kernel, rfl, by decide +kernel, by decide +kernel⟩
theorem zaX (F : Fun K "rooms_of" "rooms_of" XC fa fd) (hm : mg "rooms_of" = some (.ref fa)) (b : ZP K fd ["board"] []) (z_list : mg "list" = none) (z_range : mg "range" = none) (z_len : mg "len" = none) :
  Fx.Cle P w K mg base (k + 1) "rooms_of" 1 YT := by
 exact ZJ F hm b zaM rfl rfl fun cdv A outer s H E hr =>
  (Zg (Zq (YW (Fx.ov_rng2 rfl z_list rfl z_range (YB rfl z_len (XS (Za 0))) (Zy WR (YB rfl z_len (XS (Za 0))) Zf)))))
abbrev Yq : Stmt := top 11
theorem Xo : FnScope ["row", "line", "column", "divisor", "pivot", "taken", "told"] ["row", "line", "column", "divisor"] (Zc Yq) := ⟨rfl, rfl, rfl, by decide +kernel, rfl, by decide +kernel, by decide +kernel⟩
theorem QA (F : Fun K "swapped_row" "swapped_row" Yq fa fd) (hm : mg "swapped_row" = some (.ref fa)) (b : ZP K fd ["row", "line", "column", "divisor"] []) (z_abs : mg "abs" = none) (z_zip : mg "zip" = none) :
  Fx.Cle P w K mg base (k + 1) "swapped_row" 4 Yx := by
 exact ZJ F hm b Xo rfl rfl fun cdv A outer s H E hr =>
  (Ze (Zo (i := 4) Xo.nd rfl (Or.inr rfl) (Ur rfl z_abs (Zp (Za 1) (Za 2) (fun _ _ => rfl))))
  (Ze (Zo (i := 5) Xo.nd rfl (Or.inr rfl) (Fx.ev_ifExp (ZA Vk (Zp (Za 1) (Za 2) (fun _ _ => rfl)) Zf (Zu _)) (Zp (Za 0) (Za 2) (fun _ _ => rfl)) (Uq (Zp (Za 0) (Za 2) (fun _ _ => rfl)))))
  (Ze (Fx.ss_setCO (N := ["number", "other", "pivot", "taken", "divisor"]) (nv := 2) (cap := [4, 5, 3]) (i := 6) (Y6 rfl) rfl (zaj (by decide) (by decide)) (zdQ rfl z_zip (Za 0) (Za 1)) Z1 (fun _ _ _ _ => (Js (i := 0) (j := 1) rfl (show List.Nodup (["number", "other", "pivot", "taken", "divisor"] : List Str) from by decide +kernel) rfl (Or.inl rfl) rfl (Or.inl rfl))) (fun _ _ _ _ _ => Yp) (fun _ _ _ _ _ => (Zy UU (Zy WR (Zy Yj (Za 2) (Za 0)) (Zy Yj (Za 3) (Za 1))) (Za 4))) Xo.nd rfl (Or.inl rfl))
  (Ze (VC (i := 6) rfl (Za 2) (Za 5))
  (Zg (Zq (Za 6)))))))
abbrev Wi : Stmt := top 12
theorem Va : FnScope ["board", "thing", "column", "line", "heads", "rows"] ["board", "thing", "column"] (Zc Wi) := ⟨rfl, rfl, rfl, by decide +kernel, rfl, by decide +kernel, by decide +kernel⟩
theorem zcq (F : Fun K "swapped" "swapped" Wi fa fd) (hm : mg "swapped" = some (.ref fa)) (b : ZP K fd ["board", "thing", "column"] []) (z_list : mg "list" = none) (z_abs : mg "abs" = none) (C_swapped_row : Fx.Cle P w K mg base (k + 2) "swapped_row" 4 Yx) (M_Board : Fx.Mko P w K mg base (k + 1) "Board" ["heads", "divisor", "rows"]) :
  Fx.Cle P w K mg base (k + 2 + 1) "swapped" 3 Wn := by
 exact ZJ F hm b Va rfl rfl fun cdv A outer s H E hr =>
  (Ze (Zo (i := 3) Va.nd rfl (Or.inr rfl) (Zp (XS (Za 0)) (Za 1) (fun _ _ => rfl)))
  (Ze (Wc (i := 4) Va.nd rfl (Or.inl rfl) (zdo rfl z_list (XS (Za 0))))
  (Ze (VC (i := 4) rfl (Za 2) (Za 1))
  (Ze (Q5 (N := ["row", "line", "column", "board"]) (nv := 1) (cap := [3, 2, 0]) (i := 5) (Y6 rfl) rfl (ZS (by decide)) (YS (XS (Za 0))) Z1 (fun _ _ _ _ => (Zw (i := 0) (show List.Nodup (["row", "line", "column", "board"] : List Str) from by decide +kernel) rfl (Or.inl rfl))) (fun _ _ _ _ _ => Yp) (fun _ _ _ _ _ => (Zk (Fx.Cle.cal C_swapped_row) hr rfl (Zb (Za 0) (Zb (Za 1) (Zb (Za 2) (Zb (XS (Za 3)) Zh)))))) Va.nd rfl (Or.inl rfl))
  (Zg (Zq (zd5 M_Board hr rfl (Zb (Za 4) (Zb (Ur rfl z_abs (Zp (Za 3) (Za 2) (fun _ _ => rfl))) (Zb (Za 5) Zh))))))))))
abbrev YN : Stmt := top 13
theorem VE : FnScope ["board", "thing"] ["board"] (Zc YN) := ⟨rfl, rfl, rfl, by decide +kernel, rfl, by decide +kernel, by decide +kernel⟩
theorem Jh (F : Fun K "short_room" "short_room" YN fa fd) (hm : mg "short_room" = some (.ref fa)) (b : ZP K fd ["board"] []) (C_rooms_of : Fx.Cle P w K mg base k "rooms_of" 1 YT) :
  Fx.Cle P w K mg base (k + 1) "short_room" 1 Yc := by
 exact ZJ F hm b VE rfl rfl fun cdv A outer s H E hr =>
  (Ze (YX PassesOwn.never rfl (YS (Zk (Fx.Cle.cal C_rooms_of) hr rfl (Zb (Za 0) Zh))) (Zw (i := 1) VE.nd rfl (Or.inl rfl))
  (Zg (Yl (ZA WE (Zp (Zp (XS (Za 0)) (Za 1) (fun _ _ => rfl)) (Uq Zf) (fun _ _ => rfl)) Zf (Zu _))
  (Zg (Zq (Za 1)))
  ZI)))
  (Zg (Zq zd4)))
abbrev XE : Stmt := top 14
theorem zaO : FnScope ["board"] ["board"] (Zc XE) := ⟨rfl, rfl, rfl, by decide +kernel, rfl, by decide +kernel, by decide +kernel⟩
theorem zaZ (F : Fun K "point_of" "point_of" XE fa fd) (hm : mg "point_of" = some (.ref fa)) (b : ZP K fd ["board"] []) (z_range : mg "range" = none) (z_len : mg "len" = none) (C_frac : Fx.Cle P w K mg base k "frac" 2 Uo) :
  Fx.Cle P w K mg base (k + 1) "point_of" 1 XL := by
 exact ZJ F hm b zaO rfl rfl fun cdv A outer s H E hr =>
  (Zg (Zq (YW (Xg (N := ["kind", "board"]) (nv := 1) (cap := [0]) (Y6 rfl) rfl (ZS (by decide)) (Yw rfl z_range (YB rfl z_len (XS (Za 0)))) Z1 (fun _ _ _ _ => (Zw (i := 0) (show List.Nodup (["kind", "board"] : List Str) from by decide +kernel) rfl (Or.inl rfl))) (fun _ _ _ _ _ => Yp) (fun _ _ _ _ _ => (Zk (Fx.Cle.cal C_frac) hr rfl (Zb (Zp (Zp (XS (Za 1)) (Za 0) (fun _ _ => rfl)) (Uq Zf) (fun _ _ => rfl)) (Zb (XS (Za 1)) Zh))))))))
abbrev Z9 : Stmt := top 22
theorem Xx : FnScope ["board", "thing", "kinds", "column", "head"] ["board", "thing"] (Zc Z9) := ⟨rfl, rfl, rfl, by decide +kernel, rfl, by decide +kernel, by decide +kernel⟩
theorem UI (F : Fun K "amount_column" "amount_column" Z9 fa fd) (hm : mg "amount_column" = some (.ref fa)) (b : ZP K fd ["board", "thing"] []) (z_len : mg "len" = none) (z_enumerate : mg "enumerate" = none) :
  Fx.Cle P w K mg base (k + 1) "amount_column" 2 ZN := by
 exact ZJ F hm b Xx rfl rfl fun cdv A outer s H E hr =>
  (Ze (Zo (i := 2) Xx.nd rfl (Or.inl rfl) (YB rfl z_len (XS (Za 0))))
  (Ze (YX PassesOwn.never rfl (Fx.iv_enum rfl z_enumerate (XS (Za 0))) (Js (i := 3) (j := 4) rfl Xx.nd rfl (Or.inl rfl) rfl (Or.inl rfl))
  (Zg (Yl (Fx.tv_w (VB (ZA WE (Za 4) (Za 2) (Zu _)) (WN (ZA (WS hr.units) (Zp (Zp (XS (Za 0)) (Za 1) (fun _ _ => rfl)) (Za 3) (fun _ _ => rfl)) Zf (Zu _)))))
  (Zg (Zq (Za 3)))
  ZI)))
  (Zg (Zq zd4))))
abbrev Z8 : Stmt := top 23
theorem Yf : FnScope ["board", "last", "boards", "thing", "column"] ["board"] (Zc Z8) := ⟨rfl, rfl, rfl, by decide +kernel, rfl, by decide +kernel, by decide +kernel⟩
theorem UH (F : Fun K "with_one_more" "with_one_more" Z8 fa fd) (hm : mg "with_one_more" = some (.ref fa)) (b : ZP K fd ["board"] []) (z_max : mg "max" = none) (z_len : mg "len" = none) (C_rooms_of : Fx.Cle P w K mg base k "rooms_of" 1 YT) (C_amount_column : Fx.Cle P w K mg base k "amount_column" 2 ZN) (C_swapped : Fx.Cle P w K mg base k "swapped" 3 Wn) :
  Fx.Cln P w K mg base (k + 1) "with_one_more" 1 Yb := by
 exact Fx.cln_of F hm b Yf rfl rfl fun cdv A outer s H E hr =>
  (Ze (Zo (i := 1) Yf.nd rfl (Or.inl rfl) (Fx.ev_maxD (n := -1) hr.hd rfl z_max (YW (Xg (N := ["head", "board"]) (nv := 1) (cap := [0]) (Y6 rfl) rfl (ZS (by decide)) (YS (XS (Za 0))) Z1 (fun _ _ _ _ => (Zw (i := 0) (show List.Nodup (["head", "board"] : List Str) from by decide +kernel) rfl (Or.inl rfl))) (fun _ _ _ _ _ => (Fx.ct_one (ZA Fx.op_geF (Za 0) (YB rfl z_len (XS (Za 1))) (Zu _)))) (fun _ _ _ _ _ => (Za 0)))) (Uq Zf)))
  (Ze (Wc (i := 2) Yf.nd rfl (Or.inl rfl) (Uk Zh))
  (Ze (YX PassesOwn.never rfl (YS (Zk (Fx.Cle.cal C_rooms_of) hr rfl (Zb (Za 0) Zh))) (Zw (i := 3) Yf.nd rfl (Or.inl rfl))
  (Ze (Zo (i := 4) Yf.nd rfl (Or.inl rfl) (Zk (Fx.Cle.cal C_amount_column) hr rfl (Zb (Za 0) (Zb (Za 3) Zh))))
  (Zg (Yl (Fx.tv_w (VB (ZA Vk (Za 3) (Za 1) (Zu _)) (WN (zcT (Za 4)))))
  (Zg (JM (i := 2) rfl (Zk (Fx.Cle.cal C_swapped) hr rfl (Zb (Za 0) (Zb (Za 3) (Zb (Za 4) Zh))))))
  ZI))))
  (Zg (zcZ 2)))))
abbrev ZV : Stmt := top 24
theorem ZQ : FnScope ["desk", "boards", "step", "further", "board"] ["desk"] (Zc ZV) := ⟨rfl, rfl, rfl, by decide +kernel, rfl, by decide +kernel, by decide +kernel⟩
theorem VL (F : Fun K "boards_of_rooms" "boards_of_rooms" ZV fa fd) (hm : mg "boards_of_rooms" = some (.ref fa)) (b : ZP K fd ["desk"] []) (z_range : mg "range" = none) (C_first_board : Fx.Cle P w K mg base k "first_board" 2 Y2) (C_with_one_more : Fx.Cln P w K mg base k "with_one_more" 1 Yb) :
  Fx.Cle P w K mg base (k + 1) "boards_of_rooms" 1 ZX := by
 exact ZJ F hm b ZQ rfl rfl fun cdv A outer s H E hr =>
  (Ze (Zo (i := 1) ZQ.nd rfl (Or.inl rfl) (Wp (Zb (Zk (Fx.Cle.cal C_first_board) hr rfl (Zb (Za 0) (Zb (YW (Fx.ov_rep (Uk (Zb Zf Zh)) (Zp (Za 0) Zf (fun _ _ => rfl)))) Zh))) Zh)))
  (Ze (YX PassesOwn.never rfl (Yw rfl z_range (Zp (Za 0) Zf (fun _ _ => rfl))) (Zw (i := 2) ZQ.nd rfl (Or.inl rfl))
  (Ze (Wc (i := 3) ZQ.nd rfl (Or.inl rfl) (Uk Zh))
  (Ze (YX PassesOwn.never rfl (YS (Za 1)) (Zw (i := 4) ZQ.nd rfl (Or.inl rfl))
  (Zg (Fx.ss_ext (i := 3) rfl (zdp (Fx.Cln.cal C_with_one_more) hr rfl (Zb (Za 4) Zh)))))
  (Zg (Zo (i := 1) ZQ.nd rfl (Or.inl rfl) (Za 3))))))
  (Zg (Zq (Za 1)))))
abbrev Yi : Stmt := top 25
theorem WQ : FnScope ["one", "other", "a", "b"] ["one", "other"] (Zc Yi) := ⟨rfl, rfl, rfl, by decide +kernel, rfl, by decide +kernel, by decide +kernel⟩
theorem UW (F : Fun K "comes_before" "comes_before" Yi fa fd) (hm : mg "comes_before" = some (.ref fa)) (b : ZP K fd ["one", "other"] []) (z_zip : mg "zip" = none) (C_below : Fx.Cle P w K mg base k "below" 2 V8) :
  Fx.Cle P w K mg base (k + 1) "comes_before" 2 Z7 := by
 exact ZJ F hm b WQ rfl rfl fun cdv A outer s H E hr =>
  (Ze (YX PassesOwn.never rfl (zdQ rfl z_zip (Za 0) (Za 1)) (Js (i := 2) (j := 3) rfl WQ.nd rfl (Or.inl rfl) rfl (Or.inl rfl))
  (Zg (Yl (ZA (WS hr.units) (Za 2) (Za 3) (Zu _))
  (Zg (Zq (Zk (Fx.Cle.cal C_below) hr rfl (Zb (Za 2) (Zb (Za 3) Zh)))))
  ZI)))
  (Zg (Zq UJ)))
abbrev Vc : Stmt := top 26
theorem US : FnScope ["points", "point", "place"] ["points", "point"] (Zc Vc) := ⟨rfl, rfl, rfl, by decide +kernel, rfl, by decide +kernel, by decide +kernel⟩
theorem zdr (F : Fun K "put_in" "put_in" Vc fa fd) (hm : mg "put_in" = some (.ref fa)) (b : ZP K fd ["points", "point"] []) (z_len : mg "len" = none) (C_comes_before : Fx.Cle P w K mg base k "comes_before" 2 Z7) :
  Fx.Cle P w K mg base (k + 1) "put_in" 2 X9 := by
 exact ZJ F hm b US rfl rfl fun cdv A outer s H E hr =>
  (Ze (Zo (i := 2) US.nd rfl (Or.inl rfl) Zf)
  (Ze (UL PassesOwn.never (Fx.tv_w (VB (ZA WE (Za 2) (YB rfl z_len (Za 0)) (Zu _)) (WN (Xr (Zk (Fx.Cle.cal C_comes_before) hr rfl (Zb (Zp (Za 0) (Za 2) (fun _ _ => rfl)) (Zb (Za 1) Zh))) (fun _ => rfl)))))
  (Zg (Zo (i := 2) US.nd rfl (Or.inl rfl) (Zy Ya (Za 2) Zf))))
  (Ze (Yl (Fx.tv_w (VB (ZA WE (Za 2) (YB rfl z_len (Za 0)) (Zu _)) (WN (ZA (WT hr.units) (Zp (Za 0) (Za 2) (fun _ _ => rfl)) (Za 1) (Zu _)))))
  (Zg (Zq (Za 0)))
  ZI)
  (Zg (Zq (Zy Ya (Zy Ya (YW (zbI (Za 0) Fx.pv_no (Fx.pv_at (Za 2)))) (Wp (Zb (Za 1) Zh))) (YW (zbI (Za 0) (Fx.pv_at (Za 2)) Fx.pv_no))))))))
abbrev Wl : Stmt := top 27
theorem Vb : FnScope ["desk", "points", "board"] ["desk"] (Zc Wl) := ⟨rfl, rfl, rfl, by decide +kernel, rfl, by decide +kernel, by decide +kernel⟩
theorem zct (F : Fun K "corners" "corners" Wl fa fd) (hm : mg "corners" = some (.ref fa)) (b : ZP K fd ["desk"] []) (z_len : mg "len" = none) (g_MOST_KINDS_GONE_THROUGH : ∃ t, mg "MOST_KINDS_GONE_THROUGH" = some (.int 3 t)) (g_MOST_LIMITS_GONE_THROUGH : ∃ t, mg "MOST_LIMITS_GONE_THROUGH" = some (.int 12 t)) (C_boards_of_rooms : Fx.Cle P w K mg base k "boards_of_rooms" 1 ZX) (C_short_room : Fx.Cle P w K mg base k "short_room" 1 Yc) (C_point_of : Fx.Cle P w K mg base k "point_of" 1 XL) (C_put_in : Fx.Cle P w K mg base k "put_in" 2 X9) :
  Fx.Cle P w K mg base (k + 1) "corners" 1 WV := by
 obtain ⟨t_MOST_KINDS_GONE_THROUGH, g_MOST_KINDS_GONE_THROUGH⟩ := g_MOST_KINDS_GONE_THROUGH; obtain ⟨t_MOST_LIMITS_GONE_THROUGH, g_MOST_LIMITS_GONE_THROUGH⟩ := g_MOST_LIMITS_GONE_THROUGH; exact ZJ F hm b Vb rfl rfl fun cdv A outer s H E hr =>
  (Ze (Yl (Fx.tv_w (UG (ZA Vk (Zp (Za 0) Zf (fun _ _ => rfl)) (VO rfl g_MOST_KINDS_GONE_THROUGH) (Zu _)) (Vi (ZA Vk (YB rfl z_len (Zp (Za 0) Zf (fun _ _ => rfl))) (VO rfl g_MOST_LIMITS_GONE_THROUGH) (Zu _)))))
  (Zg X5)
  ZI)
  (Ze (Zo (i := 1) Vb.nd rfl (Or.inl rfl) (Wp Zh))
  (Ze (YX PassesOwn.never rfl (YS (Zk (Fx.Cle.cal C_boards_of_rooms) hr rfl (Zb (Za 0) Zh))) (Zw (i := 2) Vb.nd rfl (Or.inl rfl))
  (Zg (Yl (Fx.tv_isN (Zk (Fx.Cle.cal C_short_room) hr rfl (Zb (Za 2) Zh)))
  (Zg (Zo (i := 1) Vb.nd rfl (Or.inl rfl) (Zk (Fx.Cle.cal C_put_in) hr rfl (Zb (Za 1) (Zb (Zk (Fx.Cle.cal C_point_of) hr rfl (Zb (Za 2) Zh)) Zh)))))
  ZI)))
  (Zg (Zq (Za 1))))))
abbrev Xe : Stmt := top 32
theorem JU : FnScope ["value"] ["value"] (Zc Xe) := ⟨rfl, rfl, rfl, by decide +kernel, rfl, by decide +kernel, by decide +kernel⟩
theorem zac (F : Fun K "is_number" "is_number" Xe fa fd) (hm : mg "is_number" = some (.ref fa)) (b : ZP K fd ["value"] []) (z_abs : mg "abs" = none) (g_GREATEST_NUMBER : ∃ t, mg "GREATEST_NUMBER" = some (.int 999999999999 t)) (C_is_whole : Fx.Cle P w K mg base k "is_whole" 1 YV) :
  Fx.Cle P w K mg base (k + 1) "is_number" 1 YK := by
 obtain ⟨t_GREATEST_NUMBER, g_GREATEST_NUMBER⟩ := g_GREATEST_NUMBER; exact ZJ F hm b JU rfl rfl fun cdv A outer s H E hr =>
  (Zg (Zq (zd7 (Zk (Fx.Cle.cal C_is_whole) hr rfl (Zb (Za 0) Zh)) (zd3 (zan Fx.op_leF (Ur rfl z_abs (Za 0)) (VO rfl g_GREATEST_NUMBER) (Zu _))))))
abbrev XF : Stmt := top 33
theorem Vs : FnScope ["kinds", "limit", "weights", "bound"] ["kinds", "limit"] (Zc XF) := ⟨rfl, rfl, rfl, by decide +kernel, rfl, by decide +kernel, by decide +kernel⟩
theorem za0 (F : Fun K "limit_of" "limit_of" XF fa fd) (hm : mg "limit_of" = some (.ref fa)) (b : ZP K fd ["kinds", "limit"] []) (z_isinstance : mg "isinstance" = none) (z_tuple : mg "tuple" = none) (z_len : mg "len" = none) (z_list : mg "list" = none) (z_all : mg "all" = none) (C_is_number : Fx.Cle P w K mg base k "is_number" 1 YK) :
  Fx.Cle P w K mg base (k + 1) "limit_of" 2 XM := by
 exact ZJ F hm b Vs rfl rfl fun cdv A outer s H E hr =>
  (Ze (Yl (Fx.tv_w (UG (X4 (Xr (YC zai (show bootBuiltins "tuple" = some (.type "tuple") by decide +kernel) rfl z_isinstance rfl z_tuple (Za 1)) (fun _ => rfl))) (Vi (ZA (WS hr.units) (YB rfl z_len (Za 1)) Zf (Zu _)))))
  (Zg X5)
  ZI)
  (Ze (Zo (i := 2) Vs.nd rfl (Or.inl rfl) (Zp (Za 1) Zf (fun _ _ => rfl)))
  (Ze (Zo (i := 3) Vs.nd rfl (Or.inl rfl) (Zp (Za 1) Zf (fun _ _ => rfl)))
  (Ze (Yl (Fx.tv_w (UG (X4 (Xr (YC UM (show bootBuiltins "list" = some (.type "list") by decide +kernel) rfl z_isinstance rfl z_list (Za 2)) (fun _ => rfl))) (Vi (ZA (WS hr.units) (YB rfl z_len (Za 2)) (Za 0) (Zu _)))))
  (Zg X5)
  ZI)
  (Ze (Yl (X4 (Xr (Fx.ev_all rfl z_all (YW (Xg (N := ["number"]) (nv := 1) (cap := []) (Y6 rfl) rfl (ZS (by decide)) (YS (Za 2)) Z1 (fun _ _ _ _ => (Zw (i := 0) (show List.Nodup (["number"] : List Str) from by decide +kernel) rfl (Or.inl rfl))) (fun _ _ _ _ _ => Yp) (fun _ _ _ _ _ => (Zk (Fx.Cle.cal C_is_number) hr rfl (Zb (Za 0) Zh)))))) (fun _ => rfl)))
  (Zg X5)
  ZI)
  (Ze (Yl (X4 (Xr (Zk (Fx.Cle.cal C_is_number) hr rfl (Zb (Za 3) Zh)) (fun _ => rfl)))
  (Zg X5)
  ZI)
  (Zg (Zq (WF (Zb (zb0 rfl z_tuple (Za 2)) (Zb (Za 3) Zh)))))))))))
abbrev Wk : Stmt := top 34
theorem zcp : FnScope ["kinds", "limits"] ["kinds", "limits"] (Zc Wk) := ⟨rfl, rfl, rfl, by decide +kernel, rfl, by decide +kernel, by decide +kernel⟩
theorem zcs (F : Fun K "desk_of" "desk_of" Wk fa fd) (hm : mg "desk_of" = some (.ref fa)) (b : ZP K fd ["kinds", "limits"] []) (z_isinstance : mg "isinstance" = none) (z_list : mg "list" = none) (z_len : mg "len" = none) (z_tuple : mg "tuple" = none) (g_MOST_KINDS : ∃ t, mg "MOST_KINDS" = some (.int 4 t)) (g_MOST_LIMITS : ∃ t, mg "MOST_LIMITS" = some (.int 10 t)) (C_is_whole : Fx.Cle P w K mg base k "is_whole" 1 YV) (C_limit_of : Fx.Cle P w K mg base k "limit_of" 2 XM) :
  Fx.Cle P w K mg base (k + 1) "desk_of" 2 WU := by
 obtain ⟨t_MOST_KINDS, g_MOST_KINDS⟩ := g_MOST_KINDS; obtain ⟨t_MOST_LIMITS, g_MOST_LIMITS⟩ := g_MOST_LIMITS; exact ZJ F hm b zcp rfl rfl fun cdv A outer s H E hr =>
  (Ze (Yl (Fx.tv_w (UG (X4 (Xr (Zk (Fx.Cle.cal C_is_whole) hr rfl (Zb (Za 0) Zh)) (fun _ => rfl))) (UG (ZA WE (Za 0) Zf (Zu _)) (Vi (ZA Vk (Za 0) (VO rfl g_MOST_KINDS) (Zu _))))))
  (Zg X5)
  ZI)
  (Ze (Yl (Fx.tv_w (UG (X4 (Xr (YC UM (show bootBuiltins "list" = some (.type "list") by decide +kernel) rfl z_isinstance rfl z_list (Za 1)) (fun _ => rfl))) (Vi (ZA Vk (YB rfl z_len (Za 1)) (VO rfl g_MOST_LIMITS) (Zu _)))))
  (Zg X5)
  ZI)
  (Zg (Zq (WF (Zb (Za 0) (Zb (zb0 rfl z_tuple (YW (Xg (N := ["limit", "kinds"]) (nv := 1) (cap := [0]) (Y6 rfl) rfl (ZS (by decide)) (YS (Za 1)) Z1 (fun _ _ _ _ => (Zw (i := 0) (show List.Nodup (["limit", "kinds"] : List Str) from by decide +kernel) rfl (Or.inl rfl))) (fun _ _ _ _ _ => Yp) (fun _ _ _ _ _ => (Zk (Fx.Cle.cal C_limit_of) hr rfl (Zb (Za 1) (Zb (Za 0) Zh))))))) Zh)))))))
abbrev Yu : Stmt := top 36
theorem Qz : FnScope ["_law_script", "_law_k"] ["_law_script", "_law_k"] (Zc Yu) := ⟨rfl, rfl, rfl, by decide +kernel, rfl, by decide +kernel, by decide +kernel⟩
theorem QE (F : Fun K "_law_cell_at" "_law_cell_at" Yu fa fd) (hm : mg "_law_cell_at" = some (.ref fa)) (b : ZP K fd ["_law_script", "_law_k"] []) (z_len : mg "len" = none) :
  Fx.Cle P w K mg base (k + 1) "_law_cell_at" 2 Zj := by
 exact ZJ F hm b Qz rfl rfl fun cdv A outer s H E hr =>
  (Ze (Yl (ZA WE (Za 1) (YB rfl z_len (Za 0)) (Zu _))
  (Zg (Zq (Zp (Za 0) (Za 1) (fun _ _ => rfl))))
  ZI)
  (Ze (Yl (ZA (WT hr.units) (Za 0) (Wp Zh) (Zu _))
  (Zg (Zq Zf))
  ZI)
  (Zg (Zq (Zy Ya (Zy Yj (Zp (Za 0) (Zy Y1 (Za 1) (YB rfl z_len (Za 0))) (fun _ _ => rfl)) Zf) (Za 1))))))
abbrev YO : Stmt := top 37
theorem VF : FnScope ["_law_cell", "_law_wide", "_law_number_here"] ["_law_cell", "_law_wide"] (Zc YO) := ⟨rfl, rfl, rfl, by decide +kernel, rfl, by decide +kernel, by decide +kernel⟩
theorem Jj (F : Fun K "_law_number" "_law_number" YO fa fd) (hm : mg "_law_number" = some (.ref fa)) (b : ZP K fd ["_law_cell", "_law_wide"] []) :
  Fx.Cle P w K mg base (k + 1) "_law_number" 2 ZM := by
 exact ZJ F hm b VF rfl rfl fun cdv A outer s H E hr =>
  (Ze (Zo (i := 2) VF.nd rfl (Or.inl rfl) (Zy Y1 (Za 0) (Zy Ya (Zy Yj Zf (Za 1)) Zf)))
  (Ze (Yl (ZA Vk (Za 2) (Za 1) (Zu _))
  (Zg (Zq (Zy WR (Zy WR (Za 2) (Zy Yj Zf (Za 1))) Zf)))
  ZI)
  (Zg (Zq (Za 2)))))
abbrev XH : Stmt := top 38
theorem ZC : FnScope ["_law_script", "_law_kinds", "_law_many", "_law_wide", "_law_limits", "_law_k", "_law_at", "_law_weights", "_law_bound"] ["_law_script"] (Zc XH) := ⟨rfl, rfl, rfl, by decide +kernel, rfl, by decide +kernel, by decide +kernel⟩
theorem za2 (F : Fun K "_law_desk" "_law_desk" XH fa fd) (hm : mg "_law_desk" = some (.ref fa)) (b : ZP K fd ["_law_script"] []) (z_range : mg "range" = none) (z_abs : mg "abs" = none) (C_law_cell_at : Fx.Cle P w K mg base k "_law_cell_at" 2 Zj) (C_law_number : Fx.Cle P w K mg base k "_law_number" 2 ZM) :
  Fx.Cle P w K mg base (k + 1) "_law_desk" 1 XN := by
 exact ZJ F hm b ZC rfl rfl fun cdv A outer s H E hr =>
  (Ze (Zo (i := 1) ZC.nd rfl (Or.inl rfl) (Zy Ya Zf (Zy Y1 (Zk (Fx.Cle.cal C_law_cell_at) hr rfl (Zb (Za 0) (Zb Zf Zh))) Zf)))
  (Ze (Zo (i := 2) ZC.nd rfl (Or.inl rfl) (Zy Y1 (Zk (Fx.Cle.cal C_law_cell_at) hr rfl (Zb (Za 0) (Zb Zf Zh))) Zf))
  (Ze (Zo (i := 3) ZC.nd rfl (Or.inr rfl) (Zp (Wp (Zb Zf (Zb Zf (Zb Zf (Zb (Zy WR (Zy Fx.op_powF Zf Zf) Zf) Zh))))) (Zy Y1 (Zk (Fx.Cle.cal C_law_cell_at) hr rfl (Zb (Za 0) (Zb Zf Zh))) Zf) (fun _ _ => rfl)))
  (Ze (Yl (ZA (WT hr.units) (Zy Y1 (Zk (Fx.Cle.cal C_law_cell_at) hr rfl (Zb (Za 0) (Zb Zf Zh))) Zf) Zf (Zu _))
  (Ze (Zo (i := 1) ZC.nd rfl (Or.inl rfl) Zf)
  (Ze (Zo (i := 2) ZC.nd rfl (Or.inl rfl) Zf)
  (Zg (Zo (i := 3) ZC.nd rfl (Or.inr rfl) Zf))))
  ZI)
  (Ze (Yl (ZA Vk (Za 3) Zf (Zu _))
  (Ze (Zo (i := 1) ZC.nd rfl (Or.inl rfl) (Zy Ya Zf (Zy Y1 (Za 1) Zf)))
  (Zg (Zo (i := 2) ZC.nd rfl (Or.inl rfl) (Zy Y1 (Za 2) Zf))))
  ZI)
  (Ze (Wc (i := 4) ZC.nd rfl (Or.inl rfl) (Uk Zh))
  (Ze (YX PassesOwn.never rfl (Yw rfl z_range (Za 2)) (Zw (i := 5) ZC.nd rfl (Or.inl rfl))
  (Ze (Zo (i := 6) ZC.nd rfl (Or.inr rfl) (Zy Ya Zf (Zy Yj (Za 5) (Zy Ya (Za 1) Zf))))
  (Ze (Q5 (N := ["_law_j", "_law_script", "_law_at", "_law_wide"]) (nv := 1) (cap := [0, 6, 3]) (i := 7) (Y6 rfl) rfl (ZS (by decide)) (Yw rfl z_range (Za 1)) Z1 (fun _ _ _ _ => (Zw (i := 0) (show List.Nodup (["_law_j", "_law_script", "_law_at", "_law_wide"] : List Str) from by decide +kernel) rfl (Or.inl rfl))) (fun _ _ _ _ _ => Yp) (fun _ _ _ _ _ => (Zk (Fx.Cle.cal C_law_number) hr rfl (Zb (Zk (Fx.Cle.cal C_law_cell_at) hr rfl (Zb (Za 1) (Zb (Zy Ya (Za 2) (Za 0)) Zh))) (Zb (Za 3) Zh)))) ZC.nd rfl (Or.inl rfl))
  (Ze (Zo (i := 8) ZC.nd rfl (Or.inl rfl) (Zk (Fx.Cle.cal C_law_number) hr rfl (Zb (Zk (Fx.Cle.cal C_law_cell_at) hr rfl (Zb (Za 0) (Zb (Zy Ya (Za 6) (Za 1)) Zh))) (Zb (Za 3) Zh))))
  (Ze (Yl (ZA (WT hr.units) (Zy Y1 (Zk (Fx.Cle.cal C_law_cell_at) hr rfl (Zb (Za 0) (Zb Zf Zh))) Zf) Zf (Zu _))
  (Zg (Zo (i := 8) ZC.nd rfl (Or.inl rfl) (Ur rfl z_abs (Za 8))))
  ZI)
  (Zg (JM (i := 4) rfl (WF (Zb (Za 7) (Zb (Za 8) Zh))))))))))
  (Zg (Zq (WF (Zb (Za 1) (Zb (Za 4) Zh))))))))))))
abbrev YQ : Stmt := top 39
theorem Ja : FnScope ["_law_limits"] ["_law_limits"] (Zc YQ) := ⟨rfl, rfl, rfl, by decide +kernel, rfl, by decide +kernel, by decide +kernel⟩
theorem Jk (F : Fun K "_law_copied" "_law_copied" YQ fa fd) (hm : mg "_law_copied" = some (.ref fa)) (b : ZP K fd ["_law_limits"] []) (z_list : mg "list" = none) :
  Fx.Cle P w K mg base (k + 1) "_law_copied" 1 Xu := by
 exact ZJ F hm b Ja rfl rfl fun cdv A outer s H E hr =>
  (Zg (Zq (YW (Xg (N := ["_law_limit"]) (nv := 1) (cap := []) (Y6 rfl) rfl (ZS (by decide)) (YS (Za 0)) Z1 (fun _ _ _ _ => (Zw (i := 0) (show List.Nodup (["_law_limit"] : List Str) from by decide +kernel) rfl (Or.inl rfl))) (fun _ _ _ _ _ => Yp) (fun _ _ _ _ _ => (WF (Zb (YW (zdo rfl z_list (Zp (Za 0) Zf (fun _ _ => rfl)))) (Zb (Zp (Za 0) Zf (fun _ _ => rfl)) Zh))))))))
abbrev Y8 : Stmt := top 40
theorem JS : FnScope ["_law_found"] ["_law_found"] (Zc Y8) := ⟨rfl, rfl, rfl, by decide +kernel, rfl, by decide +kernel, by decide +kernel⟩
theorem JZ (F : Fun K "_law_whole" "_law_whole" Y8 fa fd) (hm : mg "_law_whole" = some (.ref fa)) (b : ZP K fd ["_law_found"] []) (z_isinstance : mg "isinstance" = none) (z_int : mg "int" = none) (z_bool : mg "bool" = none) :
  Fx.Cle P w K mg base (k + 1) "_law_whole" 1 Xh := by
 exact ZJ F hm b JS rfl rfl fun cdv A outer s H E hr =>
  (Zg (Zq (zd7 (YC zdL (show bootBuiltins "int" = some (.type "int") by decide +kernel) rfl z_isinstance rfl z_int (Za 0)) (zd3 (Fx.ev_not (YC zbP (show bootBuiltins "bool" = some (.type "bool") by decide +kernel) rfl z_isinstance rfl z_bool (Za 0)))))))
abbrev Ys : Stmt := top 41
theorem Yg : FnScope ["_law_a", "_law_b", "_law_left"] ["_law_a", "_law_b"] (Zc Ys) := ⟨rfl, rfl, rfl, by decide +kernel, rfl, by decide +kernel, by decide +kernel⟩
theorem QC (F : Fun K "_law_divisor" "_law_divisor" Ys fa fd) (hm : mg "_law_divisor" = some (.ref fa)) (b : ZP K fd ["_law_a", "_law_b"] []) (z_abs : mg "abs" = none) :
  Fx.Cle P w K mg base (k + 1) "_law_divisor" 2 Yy := by
 exact ZJ F hm b Yg rfl rfl fun cdv A outer s H E hr =>
  (Ze (Zo (i := 0) Yg.nd rfl (Or.inl rfl) (Ur rfl z_abs (Za 0)))
  (Ze (Zo (i := 1) Yg.nd rfl (Or.inl rfl) (Ur rfl z_abs (Za 1)))
  (Ze (UL PassesOwn.never (ZA (WS hr.units) (Za 1) Zf (Zu _))
  (Ze (Zo (i := 2) Yg.nd rfl (Or.inl rfl) (Zy Y1 (Za 0) (Za 1)))
  (Ze (Zo (i := 0) Yg.nd rfl (Or.inl rfl) (Za 1))
  (Zg (Zo (i := 1) Yg.nd rfl (Or.inl rfl) (Za 2))))))
  (Zg (Zq (Za 0))))))
abbrev ZU : Stmt := top 42
theorem VG : FnScope ["_law_found"] ["_law_found"] (Zc ZU) := ⟨rfl, rfl, rfl, by decide +kernel, rfl, by decide +kernel, by decide +kernel⟩
theorem VJ (F : Fun K "_law_is_fraction" "_law_is_fraction" ZU fa fd) (hm : mg "_law_is_fraction" = some (.ref fa)) (b : ZP K fd ["_law_found"] []) (z_isinstance : mg "isinstance" = none) (z_tuple : mg "tuple" = none) (z_len : mg "len" = none) (C_law_whole : Fx.Cle P w K mg base k "_law_whole" 1 Xh) (C_law_divisor : Fx.Cle P w K mg base k "_law_divisor" 2 Yy) :
  Fx.Cle P w K mg base (k + 1) "_law_is_fraction" 1 ZW := by
 exact ZJ F hm b VG rfl rfl fun cdv A outer s H E hr =>
  (Ze (Yl (Fx.tv_w (UG (X4 (Xr (YC zai (show bootBuiltins "tuple" = some (.type "tuple") by decide +kernel) rfl z_isinstance rfl z_tuple (Za 0)) (fun _ => rfl))) (Vi (ZA (WS hr.units) (YB rfl z_len (Za 0)) Zf (Zu _)))))
  (Zg (Zq UJ))
  ZI)
  (Ze (Yl (Fx.tv_w (UG (X4 (Xr (Zk (Fx.Cle.cal C_law_whole) hr rfl (Zb (Zp (Za 0) Zf (fun _ _ => rfl)) Zh)) (fun _ => rfl))) (UG (X4 (Xr (Zk (Fx.Cle.cal C_law_whole) hr rfl (Zb (Zp (Za 0) Zf (fun _ _ => rfl)) Zh)) (fun _ => rfl))) (Vi (ZA WE (Zp (Za 0) Zf (fun _ _ => rfl)) Zf (Zu _))))))
  (Zg (Zq UJ))
  ZI)
  (Zg (Zq (zan (WT hr.units) (Zk (Fx.Cle.cal C_law_divisor) hr rfl (Zb (Zp (Za 0) Zf (fun _ _ => rfl)) (Zb (Zp (Za 0) Zf (fun _ _ => rfl)) Zh))) Zf (Zu _))))))
abbrev Yh : Stmt := top 43
theorem WO : FnScope ["_law_found", "_law_kinds", "_law_amount"] ["_law_found", "_law_kinds"] (Zc Yh) := ⟨rfl, rfl, rfl, by decide +kernel, rfl, by decide +kernel, by decide +kernel⟩
theorem UV (F : Fun K "_law_is_point" "_law_is_point" Yh fa fd) (hm : mg "_law_is_point" = some (.ref fa)) (b : ZP K fd ["_law_found", "_law_kinds"] []) (z_isinstance : mg "isinstance" = none) (z_list : mg "list" = none) (z_len : mg "len" = none) (C_law_is_fraction : Fx.Cle P w K mg base k "_law_is_fraction" 1 ZW) :
  Fx.Cle P w K mg base (k + 1) "_law_is_point" 2 Z6 := by
 exact ZJ F hm b WO rfl rfl fun cdv A outer s H E hr =>
  (Ze (Yl (Fx.tv_w (UG (X4 (Xr (YC UM (show bootBuiltins "list" = some (.type "list") by decide +kernel) rfl z_isinstance rfl z_list (Za 0)) (fun _ => rfl))) (Vi (ZA (WS hr.units) (YB rfl z_len (Za 0)) (Za 1) (Zu _)))))
  (Zg (Zq UJ))
  ZI)
  (Ze (YX PassesOwn.never rfl (YS (Za 0)) (Zw (i := 2) WO.nd rfl (Or.inl rfl))
  (Zg (Yl (X4 (Xr (Zk (Fx.Cle.cal C_law_is_fraction) hr rfl (Zb (Za 2) Zh)) (fun _ => rfl)))
  (Zg (Zq UJ))
  ZI)))
  (Zg (Zq UJ))))
abbrev XG : Stmt := top 44
theorem Vt : FnScope ["_law_upper", "_law_lower", "_law_same"] ["_law_upper", "_law_lower"] (Zc XG) := ⟨rfl, rfl, rfl, by decide +kernel, rfl, by decide +kernel, by decide +kernel⟩
theorem za1 (F : Fun K "_law_frac" "_law_frac" XG fa fd) (hm : mg "_law_frac" = some (.ref fa)) (b : ZP K fd ["_law_upper", "_law_lower"] []) (C_law_divisor : Fx.Cle P w K mg base k "_law_divisor" 2 Yy) :
  Fx.Cle P w K mg base (k + 1) "_law_frac" 2 YU := by
 exact ZJ F hm b Vt rfl rfl fun cdv A outer s H E hr =>
  (Ze (Zo (i := 2) Vt.nd rfl (Or.inl rfl) (Zk (Fx.Cle.cal C_law_divisor) hr rfl (Zb (Za 0) (Zb (Za 1) Zh))))
  (Ze (Yl (ZA WE (Za 1) Zf (Zu _))
  (Zg (Zo (i := 2) Vt.nd rfl (Or.inl rfl) (Uq (Za 2))))
  ZI)
  (Zg (Zq (WF (Zb (Zy UU (Za 0) (Za 2)) (Zb (Zy UU (Za 1) (Za 2)) Zh)))))))
abbrev Wj : Stmt := top 45
theorem zco : FnScope ["_law_a", "_law_b", "_law_many"] ["_law_a", "_law_b", "_law_many"] (Zc Wj) := ⟨rfl, rfl, rfl, by decide +kernel, rfl, by decide +kernel, by decide +kernel⟩
theorem zcr (F : Fun K "_law_add" "_law_add" Wj fa fd) (hm : mg "_law_add" = some (.ref fa)) (b : ZP K fd ["_law_a", "_law_b", "_law_many"] []) (C_law_frac : Fx.Cle P w K mg base k "_law_frac" 2 YU) :
  Fx.Cle P w K mg base (k + 1) "_law_add" 3 Wo := by
 exact ZJ F hm b zco rfl rfl fun cdv A outer s H E hr =>
  (Zg (Zq (Zk (Fx.Cle.cal C_law_frac) hr rfl (Zb (Zy Ya (Zy Yj (Zy Yj (Zp (Za 0) Zf (fun _ _ => rfl)) (Zp (Za 1) Zf (fun _ _ => rfl))) (Zp (Za 2) Zf (fun _ _ => rfl))) (Zy Yj (Zy Yj (Zp (Za 2) Zf (fun _ _ => rfl)) (Zp (Za 1) Zf (fun _ _ => rfl))) (Zp (Za 0) Zf (fun _ _ => rfl)))) (Zb (Zy Yj (Zy Yj (Zp (Za 0) Zf (fun _ _ => rfl)) (Zp (Za 1) Zf (fun _ _ => rfl))) (Zp (Za 2) Zf (fun _ _ => rfl))) Zh)))))
abbrev Y9 : Stmt := top 46
theorem X6 : FnScope ["_law_weights", "_law_point", "_law_made", "_law_k"] ["_law_weights", "_law_point"] (Zc Y9) := ⟨rfl, rfl, rfl, by decide +kernel, rfl, by decide +kernel, by decide +kernel⟩
theorem J0 (F : Fun K "_law_weigh" "_law_weigh" Y9 fa fd) (hm : mg "_law_weigh" = some (.ref fa)) (b : ZP K fd ["_law_weights", "_law_point"] []) (z_range : mg "range" = none) (z_len : mg "len" = none) (C_law_add : Fx.Cle P w K mg base k "_law_add" 3 Wo) :
  Fx.Cle P w K mg base (k + 1) "_law_weigh" 2 Xi := by
 exact ZJ F hm b X6 rfl rfl fun cdv A outer s H E hr =>
  (Ze (Zo (i := 2) X6.nd rfl (Or.inl rfl) (WF (Zb Zf (Zb Zf Zh))))
  (Ze (YX PassesOwn.never rfl (Yw rfl z_range (YB rfl z_len (Za 1))) (Zw (i := 3) X6.nd rfl (Or.inl rfl))
  (Zg (Zo (i := 2) X6.nd rfl (Or.inl rfl) (Zk (Fx.Cle.cal C_law_add) hr rfl (Zb (Za 2) (Zb (Zp (Za 1) (Za 3) (fun _ _ => rfl)) (Zb (WF (Zb (Zp (Za 0) (Za 3) (fun _ _ => rfl)) (Zb Zf Zh))) Zh)))))))
  (Zg (Zq (Za 2)))))
abbrev Xc : Stmt := top 47
theorem JT : FnScope ["_law_a", "_law_b"] ["_law_a", "_law_b"] (Zc Xc) := ⟨rfl, rfl, rfl, by decide +kernel, rfl, by decide +kernel, by decide +kernel⟩
theorem zaa (F : Fun K "_law_below" "_law_below" Xc fa fd) (hm : mg "_law_below" = some (.ref fa)) (b : ZP K fd ["_law_a", "_law_b"] []) :
  Fx.Cle P w K mg base (k + 1) "_law_below" 2 Yo := by
 exact ZJ F hm b JT rfl rfl fun cdv A outer s H E hr =>
  (Zg (Zq (zan WE (Zy Yj (Zp (Za 0) Zf (fun _ _ => rfl)) (Zp (Za 1) Zf (fun _ _ => rfl))) (Zy Yj (Zp (Za 1) Zf (fun _ _ => rfl)) (Zp (Za 0) Zf (fun _ _ => rfl))) (Zu _))))
abbrev Xa : Stmt := top 48
theorem Uf : FnScope ["_law_limits", "_law_point", "_law_limit"] ["_law_limits", "_law_point"] (Zc Xa) := ⟨rfl, rfl, rfl, by decide +kernel, rfl, by decide +kernel, by decide +kernel⟩
theorem J2 (F : Fun K "_law_keeps" "_law_keeps" Xa fa fd) (hm : mg "_law_keeps" = some (.ref fa)) (b : ZP K fd ["_law_limits", "_law_point"] []) (C_law_weigh : Fx.Cle P w K mg base k "_law_weigh" 2 Xi) (C_law_below : Fx.Cle P w K mg base k "_law_below" 2 Yo) :
  Fx.Cle P w K mg base (k + 1) "_law_keeps" 2 YH := by
 exact ZJ F hm b Uf rfl rfl fun cdv A outer s H E hr =>
  (Ze (YX PassesOwn.never rfl (YS (Za 0)) (Zw (i := 2) Uf.nd rfl (Or.inl rfl))
  (Zg (Yl (Xr (Zk (Fx.Cle.cal C_law_below) hr rfl (Zb (WF (Zb (Zp (Za 2) Zf (fun _ _ => rfl)) (Zb Zf Zh))) (Zb (Zk (Fx.Cle.cal C_law_weigh) hr rfl (Zb (Zp (Za 2) Zf (fun _ _ => rfl)) (Zb (Za 1) Zh))) Zh))) (fun _ => rfl))
  (Zg (Zq UJ))
  ZI)))
  (Zg (Zq UJ)))
abbrev Xb : Stmt := top 49
theorem Xt : FnScope ["_law_rows", "_law_at", "_law_place", "_law_made", "_law_k", "_law_row"] ["_law_rows", "_law_at", "_law_place"] (Zc Xb) := ⟨rfl, rfl, rfl, by decide +kernel, rfl, by decide +kernel, by decide +kernel⟩
theorem J3 (F : Fun K "_law_eased" "_law_eased" Xb fa fd) (hm : mg "_law_eased" = some (.ref fa)) (b : ZP K fd ["_law_rows", "_law_at", "_law_place"] []) (z_range : mg "range" = none) (z_len : mg "len" = none) (z_zip : mg "zip" = none) :
  Fx.Cln P w K mg base (k + 1) "_law_eased" 3 YI := by
 exact Fx.cln_of F hm b Xt rfl rfl fun cdv A outer s H E hr =>
  (Ze (Wc (i := 3) Xt.nd rfl (Or.inl rfl) (Uk Zh))
  (Ze (YX PassesOwn.never rfl (Yw rfl z_range (YB rfl z_len (Za 0))) (Zw (i := 4) Xt.nd rfl (Or.inl rfl))
  (Ze (Zo (i := 5) Xt.nd rfl (Or.inr rfl) (Zp (Za 0) (Za 4) (fun _ _ => rfl)))
  (Ze (Yl (Fx.tv_w (VB (ZA (WS hr.units) (Za 4) (Za 1) (Zu _)) (WN (ZA (WS hr.units) (Zp (Za 5) (Za 2) (fun _ _ => rfl)) Zf (Zu _)))))
  (Zg (Zo (i := 5) Xt.nd rfl (Or.inr rfl) (YW (Xg (N := ["_law_a", "_law_b", "_law_rows", "_law_at", "_law_place", "_law_row"]) (nv := 2) (cap := [0, 1, 2, 5]) (Y6 rfl) rfl (zaj (by decide) (by decide)) (zdQ rfl z_zip (Za 5) (Zp (Za 0) (Za 1) (fun _ _ => rfl))) Z1 (fun _ _ _ _ => (Js (i := 0) (j := 1) rfl (show List.Nodup (["_law_a", "_law_b", "_law_rows", "_law_at", "_law_place", "_law_row"] : List Str) from by decide +kernel) rfl (Or.inl rfl) rfl (Or.inl rfl))) (fun _ _ _ _ _ => Yp) (fun _ _ _ _ _ => (Zy WR (Zy Yj (Za 0) (Zp (Zp (Za 2) (Za 3) (fun _ _ => rfl)) (Za 4) (fun _ _ => rfl))) (Zy Yj (Za 1) (Zp (Za 5) (Za 4) (fun _ _ => rfl)))))))))
  ZI)
  (Zg (JM (i := 3) rfl (Za 5))))))
  (Zg (zcZ 3))))
abbrev Yr : Stmt := top 50
theorem Z4 : FnScope ["_law_limits", "_law_kinds", "_law_rows", "_law_place", "_law_at", "_law_kept"] ["_law_limits", "_law_kinds"] (Zc Yr) := ⟨rfl, rfl, rfl, by decide +kernel, rfl, by decide +kernel, by decide +kernel⟩
theorem QB (F : Fun K "_law_meeting" "_law_meeting" Yr fa fd) (hm : mg "_law_meeting" = some (.ref fa)) (b : ZP K fd ["_law_limits", "_law_kinds"] []) (z_range : mg "range" = none) (C_law_eased : Fx.Cln P w K mg base k "_law_eased" 3 YI) (C_law_frac : Fx.Cle P w K mg base k "_law_frac" 2 YU) :
  Fx.Cle P w K mg base (k + 1) "_law_meeting" 2 Ye := by
 exact ZJ F hm b Z4 rfl rfl fun cdv A outer s H E hr =>
  (Ze (Wc (i := 2) Z4.nd rfl (Or.inr rfl) (Xg (N := ["_law_limit"]) (nv := 1) (cap := []) (Y6 rfl) rfl (ZS (by decide)) (YS (Za 0)) Z1 (fun _ _ _ _ => (Zw (i := 0) (show List.Nodup (["_law_limit"] : List Str) from by decide +kernel) rfl (Or.inl rfl))) (fun _ _ _ _ _ => Yp) (fun _ _ _ _ _ => (Zy Ya (Zp (Za 0) Zf (fun _ _ => rfl)) (Wp (Zb (Zp (Za 0) Zf (fun _ _ => rfl)) Zh))))))
  (Ze (YX PassesOwn.never rfl (Yw rfl z_range (Za 1)) (Zw (i := 3) Z4.nd rfl (Or.inl rfl))
  (Ze (Zo (i := 4) Z4.nd rfl (Or.inl rfl) (Za 3))
  (Ze (UL PassesOwn.never (Fx.tv_w (VB (ZA WE (Za 4) (Za 1) (Zu _)) (WN (ZA (WT hr.units) (Zp (zd6 (i := 2) rfl (Za 4) (fun _ _ => rfl)) (Za 3) (fun _ _ => rfl)) Zf (Zu _)))))
  (Zg (Zo (i := 4) Z4.nd rfl (Or.inl rfl) (Zy Ya (Za 4) Zf))))
  (Ze (Yl (ZA (WT hr.units) (Za 4) (Za 1) (Zu _))
  (Zg (Zq zd4))
  ZI)
  (Ze (Zo (i := 5) Z4.nd rfl (Or.inl rfl) (zd6 (i := 2) rfl (Za 4) (fun _ _ => rfl)))
  (Ze (VC (i := 2) rfl (Za 4) (zd6 (i := 2) rfl (Za 3) (fun _ _ => rfl)))
  (Ze (VC (i := 2) rfl (Za 3) (Za 5))
  (Zg (Wc (i := 2) Z4.nd rfl (Or.inr rfl) (zdp (Fx.Cln.cal C_law_eased) hr rfl (Zb (Za 2) (Zb (Za 3) (Zb (Za 3) Zh)))))))))))))
  (Zg (Zq (YW (Xg (N := ["_law_k", "_law_rows", "_law_kinds"]) (nv := 1) (cap := [2, 1]) (Y6 rfl) rfl (ZS (by decide)) (Yw rfl z_range (Za 1)) Z1 (fun _ _ _ _ => (Zw (i := 0) (show List.Nodup (["_law_k", "_law_rows", "_law_kinds"] : List Str) from by decide +kernel) rfl (Or.inl rfl))) (fun _ _ _ _ _ => Yp) (fun _ _ _ _ _ => (Zk (Fx.Cle.cal C_law_frac) hr rfl (Zb (Zp (Zp (Za 1) (Za 0) (fun _ _ => rfl)) (Za 2) (fun _ _ => rfl)) (Zb (Zp (Zp (Za 1) (Za 0) (fun _ _ => rfl)) (Za 0) (fun _ _ => rfl)) Zh))))))))))
abbrev Yt : Stmt := top 51
theorem Z5 : FnScope ["_law_many", "_law_size", "_law_made", "_law_k", "_law_wider", "_law_row", "_law_place"] ["_law_many", "_law_size"] (Zc Yt) := ⟨rfl, rfl, rfl, by decide +kernel, rfl, by decide +kernel, by decide +kernel⟩
theorem QD (F : Fun K "_law_choices" "_law_choices" Yt fa fd) (hm : mg "_law_choices" = some (.ref fa)) (b : ZP K fd ["_law_many", "_law_size"] []) (z_range : mg "range" = none) :
  Fx.Cle P w K mg base (k + 1) "_law_choices" 2 Yz := by
 exact ZJ F hm b Z5 rfl rfl fun cdv A outer s H E hr =>
  (Ze (Zo (i := 2) Z5.nd rfl (Or.inl rfl) (Wp (Zb (Wp Zh) Zh)))
  (Ze (YX PassesOwn.never rfl (Yw rfl z_range (Za 1)) (Zw (i := 3) Z5.nd rfl (Or.inl rfl))
  (Ze (Wc (i := 4) Z5.nd rfl (Or.inl rfl) (Uk Zh))
  (Ze (YX PassesOwn.never rfl (YS (Za 2)) (Zw (i := 5) Z5.nd rfl (Or.inl rfl))
  (Zg (YX PassesOwn.never rfl (Yw rfl z_range (Za 0)) (Zw (i := 6) Z5.nd rfl (Or.inl rfl))
  (Zg (Yl (Fx.tv_w (UG (ZA (WT hr.units) (Za 5) (Wp Zh) (Zu _)) (Vi (ZA Vk (Za 6) (Zp (Za 5) (Uq Zf) (fun _ _ => rfl)) (Zu _)))))
  (Zg (JM (i := 4) rfl (Zy Ya (Za 5) (Wp (Zb (Za 6) Zh)))))
  ZI)))))
  (Zg (Zo (i := 2) Z5.nd rfl (Or.inl rfl) (Za 4))))))
  (Zg (Zq (Za 2)))))
abbrev Xd : Stmt := top 52
theorem Ug : FnScope ["_law_one", "_law_other", "_law_k"] ["_law_one", "_law_other"] (Zc Xd) := ⟨rfl, rfl, rfl, by decide +kernel, rfl, by decide +kernel, by decide +kernel⟩
theorem zab (F : Fun K "_law_ahead" "_law_ahead" Xd fa fd) (hm : mg "_law_ahead" = some (.ref fa)) (b : ZP K fd ["_law_one", "_law_other"] []) (z_range : mg "range" = none) (z_len : mg "len" = none) (C_law_below : Fx.Cle P w K mg base k "_law_below" 2 Yo) :
  Fx.Cle P w K mg base (k + 1) "_law_ahead" 2 YJ := by
 exact ZJ F hm b Ug rfl rfl fun cdv A outer s H E hr =>
  (Ze (YX PassesOwn.never rfl (Yw rfl z_range (YB rfl z_len (Za 0))) (Zw (i := 2) Ug.nd rfl (Or.inl rfl))
  (Zg (Yl (ZA (WS hr.units) (Zp (Za 0) (Za 2) (fun _ _ => rfl)) (Zp (Za 1) (Za 2) (fun _ _ => rfl)) (Zu _))
  (Zg (Zq (Zk (Fx.Cle.cal C_law_below) hr rfl (Zb (Zp (Za 0) (Za 2) (fun _ _ => rfl)) (Zb (Zp (Za 1) (Za 2) (fun _ _ => rfl)) Zh)))))
  ZI)))
  (Zg (Zq UJ)))
abbrev Jc : Stmt := top 53
theorem Vj : FnScope ["_law_script", "_law_drawn", "_law_kinds", "_law_limits", "_law_found", "_law_due", "_law_row", "_law_point", "_law_k"] ["_law_script"] (Zc Jc) := ⟨rfl, rfl, rfl, by decide +kernel, rfl, by decide +kernel, by decide +kernel⟩
theorem law_fn (F : Fun K "law" "law" Jc fa fd) (z_min : mg "min" = none) (z_isinstance : mg "isinstance" = none) (z_list : mg "list" = none) (z_len : mg "len" = none) (z_range : mg "range" = none) (C_law_desk : Fx.Cle P w K mg base k "_law_desk" 1 XN) (C_law_cell_at : Fx.Cle P w K mg base k "_law_cell_at" 2 Zj) (C_law_copied : Fx.Cle P w K mg base k "_law_copied" 1 Xu) (C_desk_of : Fx.Cle P w K mg base k "desk_of" 2 WU) (C_corners : Fx.Cle P w K mg base k "corners" 1 WV) (C_law_choices : Fx.Cle P w K mg base k "_law_choices" 2 Yz) (C_law_meeting : Fx.Cle P w K mg base k "_law_meeting" 2 Ye) (C_law_keeps : Fx.Cle P w K mg base k "_law_keeps" 2 YH) (C_law_is_point : Fx.Cle P w K mg base k "_law_is_point" 2 Z6) (C_law_ahead : Fx.Cle P w K mg base k "_law_ahead" 2 YJ) :
  FnOk P w K mg base CX0 (k + 1) fa fd ["_law_script"] (Fx.spF K none 1 zbc) := by
 exact Fx.fn_ok F Vj rfl fun cdv A outer s H E hr =>
  (Ze (Zo (i := 1) Vj.nd rfl (Or.inl rfl) (Zk (Fx.Cle.cal C_law_desk) hr rfl (Zb (Za 0) Zh)))
  (Ze (Zo (i := 2) Vj.nd rfl (Or.inr rfl) (Fx.ev_min rfl z_min (Zp (Za 1) Zf (fun _ _ => rfl)) Zf))
  (Ze (Zo (i := 3) Vj.nd rfl (Or.inr rfl) (YW (Xg (N := ["_law_limit", "_law_kinds"]) (nv := 1) (cap := [2]) (Y6 rfl) rfl (ZS (by decide)) (YS (YW (zbI (Zp (Za 1) Zf (fun _ _ => rfl)) Fx.pv_no (Fx.pv_at Zf)))) Z1 (fun _ _ _ _ => (Zw (i := 0) (show List.Nodup (["_law_limit", "_law_kinds"] : List Str) from by decide +kernel) rfl (Or.inl rfl))) (fun _ _ _ _ _ => Yp) (fun _ _ _ _ _ => (WF (Zb (YW (zbI (Zp (Za 0) Zf (fun _ _ => rfl)) Fx.pv_no (Fx.pv_at (Za 1)))) (Zb (Zp (Za 0) Zf (fun _ _ => rfl)) Zh)))))))
  (Ze (Yl (ZA (WT hr.units) (Zy Y1 (Zk (Fx.Cle.cal C_law_cell_at) hr rfl (Zb (Za 0) (Zb Zf Zh))) Zf) Zf (Zu _))
  (Zg (Zo (i := 3) Vj.nd rfl (Or.inr rfl) (YW (Xg (N := ["_law_limit"]) (nv := 1) (cap := []) (Y6 rfl) rfl (ZS (by decide)) (YS (Za 3)) Z1 (fun _ _ _ _ => (Zw (i := 0) (show List.Nodup (["_law_limit"] : List Str) from by decide +kernel) rfl (Or.inl rfl))) (fun _ _ _ _ _ => Yp) (fun _ _ _ _ _ => (WF (Zb (YW (Xg (N := ["_law_k"]) (nv := 1) (cap := []) (Y6 rfl) rfl (ZS (by decide)) (YS (Zp (Za 0) Zf (fun _ _ => rfl))) Z1 (fun _ _ _ _ => (Zw (i := 0) (show List.Nodup (["_law_k"] : List Str) from by decide +kernel) rfl (Or.inl rfl))) (fun _ _ _ _ _ => Yp) (fun _ _ _ _ _ => (Zy WR (Zy Y1 (Za 0) Zf) Zf)))) (Zb (Zy Y1 (Zp (Za 0) Zf (fun _ _ => rfl)) Zf) Zh))))))))
  ZI)
  (Ze (Zo (i := 4) Vj.nd rfl (Or.inl rfl) (Zk (Fx.Cle.cal C_corners) hr rfl (Zb (Zk (Fx.Cle.cal C_desk_of) hr rfl (Zb (Za 2) (Zb (Zk (Fx.Cle.cal C_law_copied) hr rfl (Zb (Za 3) Zh)) Zh))) Zh)))
  (Ze (Yl (X4 (Xr (YC UM (show bootBuiltins "list" = some (.type "list") by decide +kernel) rfl z_isinstance rfl z_list (Za 4)) (fun _ => rfl)))
  (Zg (Zq UJ))
  ZI)
  (Ze (Wc (i := 5) Vj.nd rfl (Or.inl rfl) (Uk Zh))
  (Ze (YX PassesOwn.never rfl (YS (Zk (Fx.Cle.cal C_law_choices) hr rfl (Zb (YB rfl z_len (Za 3)) (Zb (Za 2) Zh)))) (Zw (i := 6) Vj.nd rfl (Or.inl rfl))
  (Ze (Zo (i := 7) Vj.nd rfl (Or.inl rfl) (Zk (Fx.Cle.cal C_law_meeting) hr rfl (Zb (YW (Xg (N := ["_law_place", "_law_limits"]) (nv := 1) (cap := [3]) (Y6 rfl) rfl (ZS (by decide)) (YS (Za 6)) Z1 (fun _ _ _ _ => (Zw (i := 0) (show List.Nodup (["_law_place", "_law_limits"] : List Str) from by decide +kernel) rfl (Or.inl rfl))) (fun _ _ _ _ _ => Yp) (fun _ _ _ _ _ => (Zp (Za 1) (Za 0) (fun _ _ => rfl))))) (Zb (Za 2) Zh))))
  (Zg (Yl (Fx.tv_w (VB (zcT (Za 7)) (VB (Xr (Zk (Fx.Cle.cal C_law_keeps) hr rfl (Zb (Za 3) (Zb (Za 7) Zh))) (fun _ => rfl)) (WN (ZA (zdq hr.units) (Za 7) (Za 5) rfl Fx.fNin_b)))))
  (Zg (JM (i := 5) rfl (Za 7)))
  ZI))))
  (Ze (YX PassesOwn.never rfl (Yw rfl z_range (YB rfl z_len (Za 4))) (Zw (i := 8) Vj.nd rfl (Or.inl rfl))
  (Ze (Yl (Fx.tv_w (UG (X4 (Xr (Zk (Fx.Cle.cal C_law_is_point) hr rfl (Zb (Zp (Za 4) (Za 8) (fun _ _ => rfl)) (Zb (Za 2) Zh))) (fun _ => rfl))) (Vi (ZA (zdq hr.units) (Zp (Za 4) (Za 8) (fun _ _ => rfl)) (Za 5) rfl Fx.fNin_b))))
  (Zg (Zq UJ))
  ZI)
  (Zg (Yl (Fx.tv_w (VB (ZA Vk (Za 8) Zf (Zu _)) (WN (X4 (Xr (Zk (Fx.Cle.cal C_law_ahead) hr rfl (Zb (Zp (Za 4) (Zy WR (Za 8) Zf) (fun _ _ => rfl)) (Zb (Zp (Za 4) (Za 8) (fun _ _ => rfl)) Zh))) (fun _ => rfl))))))
  (Zg (Zq UJ))
  ZI))))
  (Zg (Zq (zan (WT hr.units) (YB rfl z_len (Za 4)) (Fx.ev_lenN (i := 5) rfl z_len rfl) (Zu _)))))))))))))
theorem all_mk {l : PySem.W.OpenLaw} {w : World} {K : PySem.W.Frag} {h : Heap} {mg : Str -> Option Value} {fa : Addr} (X : K.In h) (G : h.Ns mainGlobals mg) (hfa : mg "law" = some (.ref fa))
  {f0 f1 f2 f3 f4 f5 f6 f7 f8 f9 f10 f11 f12 f13 f14 f15 f16 f17 f18 f19 f20 f21 f22 f23 f24 f25 f26 f27 f28 f29 f30 f31 f32 f33 f34 f35 f36 f37 f38 : Addr} {od0 an0 od1 an1 od2 an2 od3 an3 od4 an4 od5 an5 od6 an6 od7 an7 od8 an8 od9 an9 od10 an10 od11 an11 od12 an12 od13 an13 od14 an14 od15 an15 od16 an16 od17 an17 od18 an18 od19 an19 od20 an20 od21 an21 od22 an22 od23 an23 od24 an24 od25 an25 od26 an26 od27 an27 od28 an28 od29 an29 od30 an30 od31 an31 od32 an32 od33 an33 od34 an34 od35 an35 od36 an36 od37 an37 od38 an38 : Option Addr} {sl0 sl1 sl2 sl3 sl4 sl5 sl6 sl7 sl8 sl9 sl10 sl11 sl12 sl13 sl14 sl15 sl16 sl17 sl18 sl19 sl20 sl21 sl22 sl23 sl24 sl25 sl26 sl27 sl28 sl29 sl30 sl31 sl32 sl33 sl34 sl35 sl36 sl37 sl38 : Array (Option Value)} {oc0 kV0 dc0 pm0 cd0 ct0 oc1 kV1 dc1 pm1 cd1 ct1 oc2 kV2 dc2 pm2 cd2 ct2 oc3 kV3 dc3 pm3 cd3 ct3 oc4 kV4 dc4 pm4 cd4 ct4 oc5 kV5 dc5 pm5 cd5 ct5 oc6 kV6 dc6 pm6 cd6 ct6 oc7 kV7 dc7 pm7 cd7 ct7 oc8 kV8 dc8 pm8 cd8 ct8 oc9 kV9 dc9 pm9 cd9 ct9 oc10 kV10 dc10 pm10 cd10 ct10 oc11 kV11 dc11 pm11 cd11 ct11 oc12 kV12 dc12 pm12 cd12 ct12 oc13 kV13 dc13 pm13 cd13 ct13 oc14 kV14 dc14 pm14 cd14 ct14 oc15 kV15 dc15 pm15 cd15 ct15 oc16 kV16 dc16 pm16 cd16 ct16 oc17 kV17 dc17 pm17 cd17 ct17 oc18 kV18 dc18 pm18 cd18 ct18 oc19 kV19 dc19 pm19 cd19 ct19 oc20 kV20 dc20 pm20 cd20 ct20 oc21 kV21 dc21 pm21 cd21 ct21 oc22 kV22 dc22 pm22 cd22 ct22 oc23 kV23 dc23 pm23 cd23 ct23 oc24 kV24 dc24 pm24 cd24 ct24 oc25 kV25 dc25 pm25 cd25 ct25 oc26 kV26 dc26 pm26 cd26 ct26 oc27 kV27 dc27 pm27 cd27 ct27 oc28 kV28 dc28 pm28 cd28 ct28 oc29 kV29 dc29 pm29 cd29 ct29 oc30 kV30 dc30 pm30 cd30 ct30 oc31 kV31 dc31 pm31 cd31 ct31 oc32 kV32 dc32 pm32 cd32 ct32 oc33 kV33 dc33 pm33 cd33 ct33 oc34 kV34 dc34 pm34 cd34 ct34 oc35 kV35 dc35 pm35 cd35 ct35 oc36 kV36 dc36 pm36 cd36 ct36 oc37 kV37 dc37 pm37 cd37 ct37 oc38 kV38 dc38 pm38 cd38 ct38 : Value}
  {tg_MOST_KINDS_GONE_THROUGH : Tok}
  {tg_MOST_LIMITS_GONE_THROUGH : Tok}
  {tg_GREATEST_NUMBER : Tok}
  {tg_MOST_KINDS : Tok}
  {tg_MOST_LIMITS : Tok}
  {C_Board fI_Board : Addr} {odI_Board anI_Board : Option Addr} {slI_Board : Array (Option Value)} {ocI_Board kVI_Board dcI_Board pmI_Board cdI_Board ctI_Board : Value}
  (a0 : PySem.W.nsIn K mainGlobals "is_whole" = some (some (.ref f0))) (l0 : K.lookup f0 = some ⟨oc0, od0, .func (PySem.W.fnOf "is_whole" "is_whole" (Zm XI) (Zl XI) (Zc XI) .none kV0 dc0 pm0 an0 cd0 ct0), sl0⟩) (c0 : PySem.W.codeIn K cd0 "is_whole" = true) (k0 : PySem.W.keepIn K (.ref f0) = true)
  (a1 : PySem.W.nsIn K mainGlobals "common_divisor" = some (some (.ref f1))) (l1 : K.lookup f1 = some ⟨oc1, od1, .func (PySem.W.fnOf "common_divisor" "common_divisor" (Zm Z2) (Zl Z2) (Zc Z2) .none kV1 dc1 pm1 an1 cd1 ct1), sl1⟩) (c1 : PySem.W.codeIn K cd1 "common_divisor" = true) (k1 : PySem.W.keepIn K (.ref f1) = true)
  (a2 : PySem.W.nsIn K mainGlobals "frac" = some (some (.ref f2))) (l2 : K.lookup f2 = some ⟨oc2, od2, .func (PySem.W.fnOf "frac" "frac" (Zm QL) (Zl QL) (Zc QL) .none kV2 dc2 pm2 an2 cd2 ct2), sl2⟩) (c2 : PySem.W.codeIn K cd2 "frac" = true) (k2 : PySem.W.keepIn K (.ref f2) = true)
  (a3 : PySem.W.nsIn K mainGlobals "below" = some (some (.ref f3))) (l3 : K.lookup f3 = some ⟨oc3, od3, .func (PySem.W.fnOf "below" "below" (Zm V4) (Zl V4) (Zc V4) .none kV3 dc3 pm3 an3 cd3 ct3), sl3⟩) (c3 : PySem.W.codeIn K cd3 "below" = true) (k3 : PySem.W.keepIn K (.ref f3) = true)
  (a4 : PySem.W.nsIn K mainGlobals "unit" = some (some (.ref f4))) (l4 : K.lookup f4 = some ⟨oc4, od4, .func (PySem.W.fnOf "unit" "unit" (Zm QK) (Zl QK) (Zc QK) .none kV4 dc4 pm4 an4 cd4 ct4), sl4⟩) (c4 : PySem.W.codeIn K cd4 "unit" = true) (k4 : PySem.W.keepIn K (.ref f4) = true)
  (a5 : PySem.W.nsIn K mainGlobals "room_row" = some (some (.ref f5))) (l5 : K.lookup f5 = some ⟨oc5, od5, .func (PySem.W.fnOf "room_row" "room_row" (Zm XD) (Zl XD) (Zc XD) .none kV5 dc5 pm5 an5 cd5 ct5), sl5⟩) (c5 : PySem.W.codeIn K cd5 "room_row" = true) (k5 : PySem.W.keepIn K (.ref f5) = true)
  (a6 : PySem.W.nsIn K mainGlobals "first_board" = some (some (.ref f6))) (l6 : K.lookup f6 = some ⟨oc6, od6, .func (PySem.W.fnOf "first_board" "first_board" (Zm Yv) (Zl Yv) (Zc Yv) .none kV6 dc6 pm6 an6 cd6 ct6), sl6⟩) (c6 : PySem.W.codeIn K cd6 "first_board" = true) (k6 : PySem.W.keepIn K (.ref f6) = true)
  (a7 : PySem.W.nsIn K mainGlobals "rooms_of" = some (some (.ref f7))) (l7 : K.lookup f7 = some ⟨oc7, od7, .func (PySem.W.fnOf "rooms_of" "rooms_of" (Zm XC) (Zl XC) (Zc XC) .none kV7 dc7 pm7 an7 cd7 ct7), sl7⟩) (c7 : PySem.W.codeIn K cd7 "rooms_of" = true) (k7 : PySem.W.keepIn K (.ref f7) = true)
  (a8 : PySem.W.nsIn K mainGlobals "swapped_row" = some (some (.ref f8))) (l8 : K.lookup f8 = some ⟨oc8, od8, .func (PySem.W.fnOf "swapped_row" "swapped_row" (Zm Yq) (Zl Yq) (Zc Yq) .none kV8 dc8 pm8 an8 cd8 ct8), sl8⟩) (c8 : PySem.W.codeIn K cd8 "swapped_row" = true) (k8 : PySem.W.keepIn K (.ref f8) = true)
  (a9 : PySem.W.nsIn K mainGlobals "swapped" = some (some (.ref f9))) (l9 : K.lookup f9 = some ⟨oc9, od9, .func (PySem.W.fnOf "swapped" "swapped" (Zm Wi) (Zl Wi) (Zc Wi) .none kV9 dc9 pm9 an9 cd9 ct9), sl9⟩) (c9 : PySem.W.codeIn K cd9 "swapped" = true) (k9 : PySem.W.keepIn K (.ref f9) = true)
  (a10 : PySem.W.nsIn K mainGlobals "short_room" = some (some (.ref f10))) (l10 : K.lookup f10 = some ⟨oc10, od10, .func (PySem.W.fnOf "short_room" "short_room" (Zm YN) (Zl YN) (Zc YN) .none kV10 dc10 pm10 an10 cd10 ct10), sl10⟩) (c10 : PySem.W.codeIn K cd10 "short_room" = true) (k10 : PySem.W.keepIn K (.ref f10) = true)
  (a11 : PySem.W.nsIn K mainGlobals "point_of" = some (some (.ref f11))) (l11 : K.lookup f11 = some ⟨oc11, od11, .func (PySem.W.fnOf "point_of" "point_of" (Zm XE) (Zl XE) (Zc XE) .none kV11 dc11 pm11 an11 cd11 ct11), sl11⟩) (c11 : PySem.W.codeIn K cd11 "point_of" = true) (k11 : PySem.W.keepIn K (.ref f11) = true)
  (a12 : PySem.W.nsIn K mainGlobals "amount_column" = some (some (.ref f12))) (l12 : K.lookup f12 = some ⟨oc12, od12, .func (PySem.W.fnOf "amount_column" "amount_column" (Zm Z9) (Zl Z9) (Zc Z9) .none kV12 dc12 pm12 an12 cd12 ct12), sl12⟩) (c12 : PySem.W.codeIn K cd12 "amount_column" = true) (k12 : PySem.W.keepIn K (.ref f12) = true)
  (a13 : PySem.W.nsIn K mainGlobals "with_one_more" = some (some (.ref f13))) (l13 : K.lookup f13 = some ⟨oc13, od13, .func (PySem.W.fnOf "with_one_more" "with_one_more" (Zm Z8) (Zl Z8) (Zc Z8) .none kV13 dc13 pm13 an13 cd13 ct13), sl13⟩) (c13 : PySem.W.codeIn K cd13 "with_one_more" = true) (k13 : PySem.W.keepIn K (.ref f13) = true)
  (a14 : PySem.W.nsIn K mainGlobals "boards_of_rooms" = some (some (.ref f14))) (l14 : K.lookup f14 = some ⟨oc14, od14, .func (PySem.W.fnOf "boards_of_rooms" "boards_of_rooms" (Zm ZV) (Zl ZV) (Zc ZV) .none kV14 dc14 pm14 an14 cd14 ct14), sl14⟩) (c14 : PySem.W.codeIn K cd14 "boards_of_rooms" = true) (k14 : PySem.W.keepIn K (.ref f14) = true)
  (a15 : PySem.W.nsIn K mainGlobals "comes_before" = some (some (.ref f15))) (l15 : K.lookup f15 = some ⟨oc15, od15, .func (PySem.W.fnOf "comes_before" "comes_before" (Zm Yi) (Zl Yi) (Zc Yi) .none kV15 dc15 pm15 an15 cd15 ct15), sl15⟩) (c15 : PySem.W.codeIn K cd15 "comes_before" = true) (k15 : PySem.W.keepIn K (.ref f15) = true)
  (a16 : PySem.W.nsIn K mainGlobals "put_in" = some (some (.ref f16))) (l16 : K.lookup f16 = some ⟨oc16, od16, .func (PySem.W.fnOf "put_in" "put_in" (Zm Vc) (Zl Vc) (Zc Vc) .none kV16 dc16 pm16 an16 cd16 ct16), sl16⟩) (c16 : PySem.W.codeIn K cd16 "put_in" = true) (k16 : PySem.W.keepIn K (.ref f16) = true)
  (a17 : PySem.W.nsIn K mainGlobals "corners" = some (some (.ref f17))) (l17 : K.lookup f17 = some ⟨oc17, od17, .func (PySem.W.fnOf "corners" "corners" (Zm Wl) (Zl Wl) (Zc Wl) .none kV17 dc17 pm17 an17 cd17 ct17), sl17⟩) (c17 : PySem.W.codeIn K cd17 "corners" = true) (k17 : PySem.W.keepIn K (.ref f17) = true)
  (a18 : PySem.W.nsIn K mainGlobals "is_number" = some (some (.ref f18))) (l18 : K.lookup f18 = some ⟨oc18, od18, .func (PySem.W.fnOf "is_number" "is_number" (Zm Xe) (Zl Xe) (Zc Xe) .none kV18 dc18 pm18 an18 cd18 ct18), sl18⟩) (c18 : PySem.W.codeIn K cd18 "is_number" = true) (k18 : PySem.W.keepIn K (.ref f18) = true)
  (a19 : PySem.W.nsIn K mainGlobals "limit_of" = some (some (.ref f19))) (l19 : K.lookup f19 = some ⟨oc19, od19, .func (PySem.W.fnOf "limit_of" "limit_of" (Zm XF) (Zl XF) (Zc XF) .none kV19 dc19 pm19 an19 cd19 ct19), sl19⟩) (c19 : PySem.W.codeIn K cd19 "limit_of" = true) (k19 : PySem.W.keepIn K (.ref f19) = true)
  (a20 : PySem.W.nsIn K mainGlobals "desk_of" = some (some (.ref f20))) (l20 : K.lookup f20 = some ⟨oc20, od20, .func (PySem.W.fnOf "desk_of" "desk_of" (Zm Wk) (Zl Wk) (Zc Wk) .none kV20 dc20 pm20 an20 cd20 ct20), sl20⟩) (c20 : PySem.W.codeIn K cd20 "desk_of" = true) (k20 : PySem.W.keepIn K (.ref f20) = true)
  (a21 : PySem.W.nsIn K mainGlobals "_law_cell_at" = some (some (.ref f21))) (l21 : K.lookup f21 = some ⟨oc21, od21, .func (PySem.W.fnOf "_law_cell_at" "_law_cell_at" (Zm Yu) (Zl Yu) (Zc Yu) .none kV21 dc21 pm21 an21 cd21 ct21), sl21⟩) (c21 : PySem.W.codeIn K cd21 "_law_cell_at" = true) (k21 : PySem.W.keepIn K (.ref f21) = true)
  (a22 : PySem.W.nsIn K mainGlobals "_law_number" = some (some (.ref f22))) (l22 : K.lookup f22 = some ⟨oc22, od22, .func (PySem.W.fnOf "_law_number" "_law_number" (Zm YO) (Zl YO) (Zc YO) .none kV22 dc22 pm22 an22 cd22 ct22), sl22⟩) (c22 : PySem.W.codeIn K cd22 "_law_number" = true) (k22 : PySem.W.keepIn K (.ref f22) = true)
  (a23 : PySem.W.nsIn K mainGlobals "_law_desk" = some (some (.ref f23))) (l23 : K.lookup f23 = some ⟨oc23, od23, .func (PySem.W.fnOf "_law_desk" "_law_desk" (Zm XH) (Zl XH) (Zc XH) .none kV23 dc23 pm23 an23 cd23 ct23), sl23⟩) (c23 : PySem.W.codeIn K cd23 "_law_desk" = true) (k23 : PySem.W.keepIn K (.ref f23) = true)
  (a24 : PySem.W.nsIn K mainGlobals "_law_copied" = some (some (.ref f24))) (l24 : K.lookup f24 = some ⟨oc24, od24, .func (PySem.W.fnOf "_law_copied" "_law_copied" (Zm YQ) (Zl YQ) (Zc YQ) .none kV24 dc24 pm24 an24 cd24 ct24), sl24⟩) (c24 : PySem.W.codeIn K cd24 "_law_copied" = true) (k24 : PySem.W.keepIn K (.ref f24) = true)
  (a25 : PySem.W.nsIn K mainGlobals "_law_whole" = some (some (.ref f25))) (l25 : K.lookup f25 = some ⟨oc25, od25, .func (PySem.W.fnOf "_law_whole" "_law_whole" (Zm Y8) (Zl Y8) (Zc Y8) .none kV25 dc25 pm25 an25 cd25 ct25), sl25⟩) (c25 : PySem.W.codeIn K cd25 "_law_whole" = true) (k25 : PySem.W.keepIn K (.ref f25) = true)
  (a26 : PySem.W.nsIn K mainGlobals "_law_divisor" = some (some (.ref f26))) (l26 : K.lookup f26 = some ⟨oc26, od26, .func (PySem.W.fnOf "_law_divisor" "_law_divisor" (Zm Ys) (Zl Ys) (Zc Ys) .none kV26 dc26 pm26 an26 cd26 ct26), sl26⟩) (c26 : PySem.W.codeIn K cd26 "_law_divisor" = true) (k26 : PySem.W.keepIn K (.ref f26) = true)
  (a27 : PySem.W.nsIn K mainGlobals "_law_is_fraction" = some (some (.ref f27))) (l27 : K.lookup f27 = some ⟨oc27, od27, .func (PySem.W.fnOf "_law_is_fraction" "_law_is_fraction" (Zm ZU) (Zl ZU) (Zc ZU) .none kV27 dc27 pm27 an27 cd27 ct27), sl27⟩) (c27 : PySem.W.codeIn K cd27 "_law_is_fraction" = true) (k27 : PySem.W.keepIn K (.ref f27) = true)
  (a28 : PySem.W.nsIn K mainGlobals "_law_is_point" = some (some (.ref f28))) (l28 : K.lookup f28 = some ⟨oc28, od28, .func (PySem.W.fnOf "_law_is_point" "_law_is_point" (Zm Yh) (Zl Yh) (Zc Yh) .none kV28 dc28 pm28 an28 cd28 ct28), sl28⟩) (c28 : PySem.W.codeIn K cd28 "_law_is_point" = true) (k28 : PySem.W.keepIn K (.ref f28) = true)
  (a29 : PySem.W.nsIn K mainGlobals "_law_frac" = some (some (.ref f29))) (l29 : K.lookup f29 = some ⟨oc29, od29, .func (PySem.W.fnOf "_law_frac" "_law_frac" (Zm XG) (Zl XG) (Zc XG) .none kV29 dc29 pm29 an29 cd29 ct29), sl29⟩) (c29 : PySem.W.codeIn K cd29 "_law_frac" = true) (k29 : PySem.W.keepIn K (.ref f29) = true)
  (a30 : PySem.W.nsIn K mainGlobals "_law_add" = some (some (.ref f30))) (l30 : K.lookup f30 = some ⟨oc30, od30, .func (PySem.W.fnOf "_law_add" "_law_add" (Zm Wj) (Zl Wj) (Zc Wj) .none kV30 dc30 pm30 an30 cd30 ct30), sl30⟩) (c30 : PySem.W.codeIn K cd30 "_law_add" = true) (k30 : PySem.W.keepIn K (.ref f30) = true)
  (a31 : PySem.W.nsIn K mainGlobals "_law_weigh" = some (some (.ref f31))) (l31 : K.lookup f31 = some ⟨oc31, od31, .func (PySem.W.fnOf "_law_weigh" "_law_weigh" (Zm Y9) (Zl Y9) (Zc Y9) .none kV31 dc31 pm31 an31 cd31 ct31), sl31⟩) (c31 : PySem.W.codeIn K cd31 "_law_weigh" = true) (k31 : PySem.W.keepIn K (.ref f31) = true)
  (a32 : PySem.W.nsIn K mainGlobals "_law_below" = some (some (.ref f32))) (l32 : K.lookup f32 = some ⟨oc32, od32, .func (PySem.W.fnOf "_law_below" "_law_below" (Zm Xc) (Zl Xc) (Zc Xc) .none kV32 dc32 pm32 an32 cd32 ct32), sl32⟩) (c32 : PySem.W.codeIn K cd32 "_law_below" = true) (k32 : PySem.W.keepIn K (.ref f32) = true)
  (a33 : PySem.W.nsIn K mainGlobals "_law_keeps" = some (some (.ref f33))) (l33 : K.lookup f33 = some ⟨oc33, od33, .func (PySem.W.fnOf "_law_keeps" "_law_keeps" (Zm Xa) (Zl Xa) (Zc Xa) .none kV33 dc33 pm33 an33 cd33 ct33), sl33⟩) (c33 : PySem.W.codeIn K cd33 "_law_keeps" = true) (k33 : PySem.W.keepIn K (.ref f33) = true)
  (a34 : PySem.W.nsIn K mainGlobals "_law_eased" = some (some (.ref f34))) (l34 : K.lookup f34 = some ⟨oc34, od34, .func (PySem.W.fnOf "_law_eased" "_law_eased" (Zm Xb) (Zl Xb) (Zc Xb) .none kV34 dc34 pm34 an34 cd34 ct34), sl34⟩) (c34 : PySem.W.codeIn K cd34 "_law_eased" = true) (k34 : PySem.W.keepIn K (.ref f34) = true)
  (a35 : PySem.W.nsIn K mainGlobals "_law_meeting" = some (some (.ref f35))) (l35 : K.lookup f35 = some ⟨oc35, od35, .func (PySem.W.fnOf "_law_meeting" "_law_meeting" (Zm Yr) (Zl Yr) (Zc Yr) .none kV35 dc35 pm35 an35 cd35 ct35), sl35⟩) (c35 : PySem.W.codeIn K cd35 "_law_meeting" = true) (k35 : PySem.W.keepIn K (.ref f35) = true)
  (a36 : PySem.W.nsIn K mainGlobals "_law_choices" = some (some (.ref f36))) (l36 : K.lookup f36 = some ⟨oc36, od36, .func (PySem.W.fnOf "_law_choices" "_law_choices" (Zm Yt) (Zl Yt) (Zc Yt) .none kV36 dc36 pm36 an36 cd36 ct36), sl36⟩) (c36 : PySem.W.codeIn K cd36 "_law_choices" = true) (k36 : PySem.W.keepIn K (.ref f36) = true)
  (a37 : PySem.W.nsIn K mainGlobals "_law_ahead" = some (some (.ref f37))) (l37 : K.lookup f37 = some ⟨oc37, od37, .func (PySem.W.fnOf "_law_ahead" "_law_ahead" (Zm Xd) (Zl Xd) (Zc Xd) .none kV37 dc37 pm37 an37 cd37 ct37), sl37⟩) (c37 : PySem.W.codeIn K cd37 "_law_ahead" = true) (k37 : PySem.W.keepIn K (.ref f37) = true)
  (a38 : PySem.W.nsIn K mainGlobals "law" = some (some (.ref f38))) (l38 : K.lookup f38 = some ⟨oc38, od38, .func (PySem.W.fnOf "law" "law" (Zm Jc) (Zl Jc) (Zc Jc) .none kV38 dc38 pm38 an38 cd38 ct38), sl38⟩) (c38 : PySem.W.codeIn K cd38 "law" = true) (k38 : PySem.W.keepIn K (.ref f38) = true)
  (z_isinstance : PySem.W.nsIn K mainGlobals "isinstance" = some none)
  (z_int : PySem.W.nsIn K mainGlobals "int" = some none)
  (z_bool : PySem.W.nsIn K mainGlobals "bool" = some none)
  (z_abs : PySem.W.nsIn K mainGlobals "abs" = some none)
  (z_range : PySem.W.nsIn K mainGlobals "range" = some none)
  (z_list : PySem.W.nsIn K mainGlobals "list" = some none)
  (z_len : PySem.W.nsIn K mainGlobals "len" = some none)
  (z_zip : PySem.W.nsIn K mainGlobals "zip" = some none)
  (z_enumerate : PySem.W.nsIn K mainGlobals "enumerate" = some none)
  (z_max : PySem.W.nsIn K mainGlobals "max" = some none)
  (z_tuple : PySem.W.nsIn K mainGlobals "tuple" = some none)
  (z_all : PySem.W.nsIn K mainGlobals "all" = some none)
  (z_min : PySem.W.nsIn K mainGlobals "min" = some none)
  (g_MOST_KINDS_GONE_THROUGH : PySem.W.nsIn K mainGlobals "MOST_KINDS_GONE_THROUGH" = some (some (.int 3 tg_MOST_KINDS_GONE_THROUGH)))
  (g_MOST_LIMITS_GONE_THROUGH : PySem.W.nsIn K mainGlobals "MOST_LIMITS_GONE_THROUGH" = some (some (.int 12 tg_MOST_LIMITS_GONE_THROUGH)))
  (g_GREATEST_NUMBER : PySem.W.nsIn K mainGlobals "GREATEST_NUMBER" = some (some (.int 999999999999 tg_GREATEST_NUMBER)))
  (g_MOST_KINDS : PySem.W.nsIn K mainGlobals "MOST_KINDS" = some (some (.int 4 tg_MOST_KINDS)))
  (g_MOST_LIMITS : PySem.W.nsIn K mainGlobals "MOST_LIMITS" = some (some (.int 10 tg_MOST_LIMITS)))
  (aC_Board : PySem.W.nsIn K mainGlobals "Board" = some (some (.ref C_Board))) (iI_Board : PySem.W.findIn K (.ref C_Board) "__init__" = some (some (.ref fI_Board))) (jI_Board : PySem.W.isFn K (.ref fI_Board) = true) (lI_Board : K.lookup fI_Board = some ⟨ocI_Board, odI_Board, .func (PySem.W.fnOf "__init__" "Board.__init__" (Zm YR) (Zl YR) (Zc YR) .none kVI_Board dcI_Board pmI_Board anI_Board cdI_Board ctI_Board), slI_Board⟩) (cI_Board : PySem.W.codeIn K cdI_Board "Board.__init__" = true) (kI_Board : PySem.W.keepIn K (.ref fI_Board) = true)
  (pg_Board : PySem.W.plainGet K C_Board Str.empty = true) (hd_Board : PySem.W.hasDictIn K C_Board = true) (po_Board : PySem.W.plainOver K C_Board = true) (sa_Board : PySem.W.findIn K (.ref C_Board) "__setattr__" = some (some (.builtin "object.__setattr__"))) (mk_Board : PySem.W.makesIn K C_Board = true) (kc_Board : PySem.W.keepIn K (.ref C_Board) = true)
  (nA0_Board : PySem.W.findIn K (.ref C_Board) "heads" = some none)
  (nA1_Board : PySem.W.findIn K (.ref C_Board) "divisor" = some none)
  (nA2_Board : PySem.W.findIn K (.ref C_Board) "rows" = some none) :
  ∃ fd : FuncData, (∀ (s : Shared) (v : Value), BindsTo s fd ⟨[v], []⟩ [("_law_script", v)]) /\ ∀ base : Heap, K.In base -> base.Ns mainGlobals mg -> FnOk l.prog w K mg base CX0 7 fa fd ["_law_script"] (Fx.spF K none 1 zbc) := by
 have e := hfa.symm.trans (PySem.W.mg_of X G a38)
 cases e
 have F0 := ZE (st := XI) l0 c0 k0
 have b0 := F0.binds (ps := ["value"]) fun _ _ _ _ _ _ us hl => match us, hl with | [_], _ => rfl
 have F1 := ZE (st := Z2) l1 c1 k1
 have b1 := F1.binds (ps := ["a", "b"]) fun _ _ _ _ _ _ us hl => match us, hl with | [_, _], _ => rfl
 have F2 := ZE (st := QL) l2 c2 k2
 have b2 := F2.binds (ps := ["upper", "lower"]) fun _ _ _ _ _ _ us hl => match us, hl with | [_, _], _ => rfl
 have F3 := ZE (st := V4) l3 c3 k3
 have b3 := F3.binds (ps := ["a", "b"]) fun _ _ _ _ _ _ us hl => match us, hl with | [_, _], _ => rfl
 have F4 := ZE (st := QK) l4 c4 k4
 have b4 := F4.binds (ps := ["length", "place"]) fun _ _ _ _ _ _ us hl => match us, hl with | [_, _], _ => rfl
 have F5 := ZE (st := XD) l5 c5 k5
 have b5 := F5.binds (ps := ["limit"]) fun _ _ _ _ _ _ us hl => match us, hl with | [_], _ => rfl
 have F6 := ZE (st := Yv) l6 c6 k6
 have b6 := F6.binds (ps := ["desk", "goal"]) fun _ _ _ _ _ _ us hl => match us, hl with | [_, _], _ => rfl
 have F7 := ZE (st := XC) l7 c7 k7
 have b7 := F7.binds (ps := ["board"]) fun _ _ _ _ _ _ us hl => match us, hl with | [_], _ => rfl
 have F8 := ZE (st := Yq) l8 c8 k8
 have b8 := F8.binds (ps := ["row", "line", "column", "divisor"]) fun _ _ _ _ _ _ us hl => match us, hl with | [_, _, _, _], _ => rfl
 have F9 := ZE (st := Wi) l9 c9 k9
 have b9 := F9.binds (ps := ["board", "thing", "column"]) fun _ _ _ _ _ _ us hl => match us, hl with | [_, _, _], _ => rfl
 have F10 := ZE (st := YN) l10 c10 k10
 have b10 := F10.binds (ps := ["board"]) fun _ _ _ _ _ _ us hl => match us, hl with | [_], _ => rfl
 have F11 := ZE (st := XE) l11 c11 k11
 have b11 := F11.binds (ps := ["board"]) fun _ _ _ _ _ _ us hl => match us, hl with | [_], _ => rfl
 have F12 := ZE (st := Z9) l12 c12 k12
 have b12 := F12.binds (ps := ["board", "thing"]) fun _ _ _ _ _ _ us hl => match us, hl with | [_, _], _ => rfl
 have F13 := ZE (st := Z8) l13 c13 k13
 have b13 := F13.binds (ps := ["board"]) fun _ _ _ _ _ _ us hl => match us, hl with | [_], _ => rfl
 have F14 := ZE (st := ZV) l14 c14 k14
 have b14 := F14.binds (ps := ["desk"]) fun _ _ _ _ _ _ us hl => match us, hl with | [_], _ => rfl
 have F15 := ZE (st := Yi) l15 c15 k15
 have b15 := F15.binds (ps := ["one", "other"]) fun _ _ _ _ _ _ us hl => match us, hl with | [_, _], _ => rfl
 have F16 := ZE (st := Vc) l16 c16 k16
 have b16 := F16.binds (ps := ["points", "point"]) fun _ _ _ _ _ _ us hl => match us, hl with | [_, _], _ => rfl
 have F17 := ZE (st := Wl) l17 c17 k17
 have b17 := F17.binds (ps := ["desk"]) fun _ _ _ _ _ _ us hl => match us, hl with | [_], _ => rfl
 have F18 := ZE (st := Xe) l18 c18 k18
 have b18 := F18.binds (ps := ["value"]) fun _ _ _ _ _ _ us hl => match us, hl with | [_], _ => rfl
 have F19 := ZE (st := XF) l19 c19 k19
 have b19 := F19.binds (ps := ["kinds", "limit"]) fun _ _ _ _ _ _ us hl => match us, hl with | [_, _], _ => rfl
 have F20 := ZE (st := Wk) l20 c20 k20
 have b20 := F20.binds (ps := ["kinds", "limits"]) fun _ _ _ _ _ _ us hl => match us, hl with | [_, _], _ => rfl
 have F21 := ZE (st := Yu) l21 c21 k21
 have b21 := F21.binds (ps := ["_law_script", "_law_k"]) fun _ _ _ _ _ _ us hl => match us, hl with | [_, _], _ => rfl
 have F22 := ZE (st := YO) l22 c22 k22
 have b22 := F22.binds (ps := ["_law_cell", "_law_wide"]) fun _ _ _ _ _ _ us hl => match us, hl with | [_, _], _ => rfl
 have F23 := ZE (st := XH) l23 c23 k23
 have b23 := F23.binds (ps := ["_law_script"]) fun _ _ _ _ _ _ us hl => match us, hl with | [_], _ => rfl
 have F24 := ZE (st := YQ) l24 c24 k24
 have b24 := F24.binds (ps := ["_law_limits"]) fun _ _ _ _ _ _ us hl => match us, hl with | [_], _ => rfl
 have F25 := ZE (st := Y8) l25 c25 k25
 have b25 := F25.binds (ps := ["_law_found"]) fun _ _ _ _ _ _ us hl => match us, hl with | [_], _ => rfl
 have F26 := ZE (st := Ys) l26 c26 k26
 have b26 := F26.binds (ps := ["_law_a", "_law_b"]) fun _ _ _ _ _ _ us hl => match us, hl with | [_, _], _ => rfl
 have F27 := ZE (st := ZU) l27 c27 k27
 have b27 := F27.binds (ps := ["_law_found"]) fun _ _ _ _ _ _ us hl => match us, hl with | [_], _ => rfl
 have F28 := ZE (st := Yh) l28 c28 k28
 have b28 := F28.binds (ps := ["_law_found", "_law_kinds"]) fun _ _ _ _ _ _ us hl => match us, hl with | [_, _], _ => rfl
 have F29 := ZE (st := XG) l29 c29 k29
 have b29 := F29.binds (ps := ["_law_upper", "_law_lower"]) fun _ _ _ _ _ _ us hl => match us, hl with | [_, _], _ => rfl
 have F30 := ZE (st := Wj) l30 c30 k30
 have b30 := F30.binds (ps := ["_law_a", "_law_b", "_law_many"]) fun _ _ _ _ _ _ us hl => match us, hl with | [_, _, _], _ => rfl
 have F31 := ZE (st := Y9) l31 c31 k31
 have b31 := F31.binds (ps := ["_law_weights", "_law_point"]) fun _ _ _ _ _ _ us hl => match us, hl with | [_, _], _ => rfl
 have F32 := ZE (st := Xc) l32 c32 k32
 have b32 := F32.binds (ps := ["_law_a", "_law_b"]) fun _ _ _ _ _ _ us hl => match us, hl with | [_, _], _ => rfl
 have F33 := ZE (st := Xa) l33 c33 k33
 have b33 := F33.binds (ps := ["_law_limits", "_law_point"]) fun _ _ _ _ _ _ us hl => match us, hl with | [_, _], _ => rfl
 have F34 := ZE (st := Xb) l34 c34 k34
 have b34 := F34.binds (ps := ["_law_rows", "_law_at", "_law_place"]) fun _ _ _ _ _ _ us hl => match us, hl with | [_, _, _], _ => rfl
 have F35 := ZE (st := Yr) l35 c35 k35
 have b35 := F35.binds (ps := ["_law_limits", "_law_kinds"]) fun _ _ _ _ _ _ us hl => match us, hl with | [_, _], _ => rfl
 have F36 := ZE (st := Yt) l36 c36 k36
 have b36 := F36.binds (ps := ["_law_many", "_law_size"]) fun _ _ _ _ _ _ us hl => match us, hl with | [_, _], _ => rfl
 have F37 := ZE (st := Xd) l37 c37 k37
 have b37 := F37.binds (ps := ["_law_one", "_law_other"]) fun _ _ _ _ _ _ us hl => match us, hl with | [_, _], _ => rfl
 have F38 := ZE (st := Jc) l38 c38 k38
 have b38 := F38.binds (ps := ["_law_script"]) fun _ _ _ _ _ _ us hl => match us, hl with | [_], _ => rfl
 have FI_Board := ZE (st := YR) lI_Board cI_Board kI_Board
 have bI_Board := FI_Board.binds (ps := ["self", "heads", "divisor", "rows"]) fun _ _ _ _ _ _ us hl => match us, hl with | [_, _, _, _], _ => rfl
 have m_isinstance := PySem.W.mg_none_of X G z_isinstance
 have m_int := PySem.W.mg_none_of X G z_int
 have m_bool := PySem.W.mg_none_of X G z_bool
 have m_abs := PySem.W.mg_none_of X G z_abs
 have m_range := PySem.W.mg_none_of X G z_range
 have m_list := PySem.W.mg_none_of X G z_list
 have m_len := PySem.W.mg_none_of X G z_len
 have m_zip := PySem.W.mg_none_of X G z_zip
 have m_enumerate := PySem.W.mg_none_of X G z_enumerate
 have m_max := PySem.W.mg_none_of X G z_max
 have m_tuple := PySem.W.mg_none_of X G z_tuple
 have m_all := PySem.W.mg_none_of X G z_all
 have m_min := PySem.W.mg_none_of X G z_min
 have n_MOST_KINDS_GONE_THROUGH := PySem.W.mg_of X G g_MOST_KINDS_GONE_THROUGH
 have n_MOST_LIMITS_GONE_THROUGH := PySem.W.mg_of X G g_MOST_LIMITS_GONE_THROUGH
 have n_GREATEST_NUMBER := PySem.W.mg_of X G g_GREATEST_NUMBER
 have n_MOST_KINDS := PySem.W.mg_of X G g_MOST_KINDS
 have n_MOST_LIMITS := PySem.W.mg_of X G g_MOST_LIMITS
 refine ⟨PySem.W.fnOf "law" "law" (Zm Jc) (Zl Jc) (Zc Jc) .none kV38 dc38 pm38 an38 cd38 ct38, fun s v => .of_eq rfl, fun base _ _ => ?_⟩
 have M_Board : Fx.Mko l.prog w K mg base 1 "Board" ["heads", "divisor", "rows"] := ⟨C_Board, fI_Board, _, _, ⟨mk_Board, iI_Board, jI_Board, kc_Board⟩, Jl FI_Board ⟨pg_Board, hd_Board, po_Board, sa_Board⟩ nA0_Board nA1_Board nA2_Board, PySem.W.mg_of X G aC_Board, bI_Board, ⟨pg_Board, hd_Board, po_Board, sa_Board⟩, fun n hn => by
  rcases List.mem_cons.mp hn with rfl | hn
  ·exact nA0_Board
  ·rcases List.mem_cons.mp hn with rfl | hn
   ·exact nA1_Board
   ·rw [List.mem_singleton.mp hn]; exact nA2_Board⟩
 have R_is_whole := za3 (P := l.prog) (w := w) (base := base) (k := 0) F0 (PySem.W.mg_of X G a0) b0 m_isinstance m_int m_bool
 have R_common_divisor := V5 (P := l.prog) (w := w) (base := base) (k := 0) F1 (PySem.W.mg_of X G a1) b1 m_abs
 have R_frac := ok_frac (P := l.prog) (w := w) (base := base) (k := 1) F2 (PySem.W.mg_of X G a2) b2 (R_common_divisor.mono (by decide))
 have R_below := ok_below (P := l.prog) (w := w) (base := base) (k := 0) F3 (PySem.W.mg_of X G a3) b3 
 have R_unit := ok_unit (P := l.prog) (w := w) (base := base) (k := 0) F4 (PySem.W.mg_of X G a4) b4 
 have R_room_row := zaY (P := l.prog) (w := w) (base := base) (k := 0) F5 (PySem.W.mg_of X G a5) b5 
 have R_first_board := QF (P := l.prog) (w := w) (base := base) (k := 0) F6 (PySem.W.mg_of X G a6) b6 m_range m_list (R_unit.mono (by decide)) (R_room_row.mono (by decide)) (M_Board.mono (by decide))
 have R_rooms_of := zaX (P := l.prog) (w := w) (base := base) (k := 0) F7 (PySem.W.mg_of X G a7) b7 m_list m_range m_len
 have R_swapped_row := QA (P := l.prog) (w := w) (base := base) (k := 0) F8 (PySem.W.mg_of X G a8) b8 m_abs m_zip
 have R_swapped := zcq (P := l.prog) (w := w) (base := base) (k := 0) F9 (PySem.W.mg_of X G a9) b9 m_list m_abs (R_swapped_row.mono (by decide)) (M_Board.mono (by decide))
 have R_short_room := Jh (P := l.prog) (w := w) (base := base) (k := 1) F10 (PySem.W.mg_of X G a10) b10 (R_rooms_of.mono (by decide))
 have R_point_of := zaZ (P := l.prog) (w := w) (base := base) (k := 2) F11 (PySem.W.mg_of X G a11) b11 m_range m_len (R_frac.mono (by decide))
 have R_amount_column := UI (P := l.prog) (w := w) (base := base) (k := 0) F12 (PySem.W.mg_of X G a12) b12 m_len m_enumerate
 have R_with_one_more := UH (P := l.prog) (w := w) (base := base) (k := 3) F13 (PySem.W.mg_of X G a13) b13 m_max m_len (R_rooms_of.mono (by decide)) (R_amount_column.mono (by decide)) (R_swapped.mono (by decide))
 have R_boards_of_rooms := VL (P := l.prog) (w := w) (base := base) (k := 4) F14 (PySem.W.mg_of X G a14) b14 m_range (R_first_board.mono (by decide)) (R_with_one_more.mono (by decide))
 have R_comes_before := UW (P := l.prog) (w := w) (base := base) (k := 1) F15 (PySem.W.mg_of X G a15) b15 m_zip (R_below.mono (by decide))
 have R_put_in := zdr (P := l.prog) (w := w) (base := base) (k := 2) F16 (PySem.W.mg_of X G a16) b16 m_len (R_comes_before.mono (by decide))
 have R_corners := zct (P := l.prog) (w := w) (base := base) (k := 5) F17 (PySem.W.mg_of X G a17) b17 m_len ⟨_, n_MOST_KINDS_GONE_THROUGH⟩ ⟨_, n_MOST_LIMITS_GONE_THROUGH⟩ (R_boards_of_rooms.mono (by decide)) (R_short_room.mono (by decide)) (R_point_of.mono (by decide)) (R_put_in.mono (by decide))
 have R_is_number := zac (P := l.prog) (w := w) (base := base) (k := 1) F18 (PySem.W.mg_of X G a18) b18 m_abs ⟨_, n_GREATEST_NUMBER⟩ (R_is_whole.mono (by decide))
 have R_limit_of := za0 (P := l.prog) (w := w) (base := base) (k := 2) F19 (PySem.W.mg_of X G a19) b19 m_isinstance m_tuple m_len m_list m_all (R_is_number.mono (by decide))
 have R_desk_of := zcs (P := l.prog) (w := w) (base := base) (k := 3) F20 (PySem.W.mg_of X G a20) b20 m_isinstance m_list m_len m_tuple ⟨_, n_MOST_KINDS⟩ ⟨_, n_MOST_LIMITS⟩ (R_is_whole.mono (by decide)) (R_limit_of.mono (by decide))
 have R_law_cell_at := QE (P := l.prog) (w := w) (base := base) (k := 0) F21 (PySem.W.mg_of X G a21) b21 m_len
 have R_law_number := Jj (P := l.prog) (w := w) (base := base) (k := 0) F22 (PySem.W.mg_of X G a22) b22 
 have R_law_desk := za2 (P := l.prog) (w := w) (base := base) (k := 1) F23 (PySem.W.mg_of X G a23) b23 m_range m_abs (R_law_cell_at.mono (by decide)) (R_law_number.mono (by decide))
 have R_law_copied := Jk (P := l.prog) (w := w) (base := base) (k := 0) F24 (PySem.W.mg_of X G a24) b24 m_list
 have R_law_whole := JZ (P := l.prog) (w := w) (base := base) (k := 0) F25 (PySem.W.mg_of X G a25) b25 m_isinstance m_int m_bool
 have R_law_divisor := QC (P := l.prog) (w := w) (base := base) (k := 0) F26 (PySem.W.mg_of X G a26) b26 m_abs
 have R_law_is_fraction := VJ (P := l.prog) (w := w) (base := base) (k := 1) F27 (PySem.W.mg_of X G a27) b27 m_isinstance m_tuple m_len (R_law_whole.mono (by decide)) (R_law_divisor.mono (by decide))
 have R_law_is_point := UV (P := l.prog) (w := w) (base := base) (k := 2) F28 (PySem.W.mg_of X G a28) b28 m_isinstance m_list m_len (R_law_is_fraction.mono (by decide))
 have R_law_frac := za1 (P := l.prog) (w := w) (base := base) (k := 1) F29 (PySem.W.mg_of X G a29) b29 (R_law_divisor.mono (by decide))
 have R_law_add := zcr (P := l.prog) (w := w) (base := base) (k := 2) F30 (PySem.W.mg_of X G a30) b30 (R_law_frac.mono (by decide))
 have R_law_weigh := J0 (P := l.prog) (w := w) (base := base) (k := 3) F31 (PySem.W.mg_of X G a31) b31 m_range m_len (R_law_add.mono (by decide))
 have R_law_below := zaa (P := l.prog) (w := w) (base := base) (k := 0) F32 (PySem.W.mg_of X G a32) b32 
 have R_law_keeps := J2 (P := l.prog) (w := w) (base := base) (k := 4) F33 (PySem.W.mg_of X G a33) b33 (R_law_weigh.mono (by decide)) (R_law_below.mono (by decide))
 have R_law_eased := J3 (P := l.prog) (w := w) (base := base) (k := 0) F34 (PySem.W.mg_of X G a34) b34 m_range m_len m_zip
 have R_law_meeting := QB (P := l.prog) (w := w) (base := base) (k := 2) F35 (PySem.W.mg_of X G a35) b35 m_range (R_law_eased.mono (by decide)) (R_law_frac.mono (by decide))
 have R_law_choices := QD (P := l.prog) (w := w) (base := base) (k := 0) F36 (PySem.W.mg_of X G a36) b36 m_range
 have R_law_ahead := zab (P := l.prog) (w := w) (base := base) (k := 1) F37 (PySem.W.mg_of X G a37) b37 m_range m_len (R_law_below.mono (by decide))
 exact law_fn F38 m_min m_isinstance m_list m_len m_range (R_law_desk.mono (by decide)) (R_law_cell_at.mono (by decide)) (R_law_copied.mono (by decide)) (R_desk_of.mono (by decide)) (R_corners.mono (by decide)) (R_law_choices.mono (by decide)) (R_law_meeting.mono (by decide)) (R_law_keeps.mono (by decide)) (R_law_is_point.mono (by decide)) (R_law_ahead.mono (by decide))
end K12
namespace K12
open PySem PySem.Spec PyProof.Rows L2 Fx Lw
theorem walk {l : PySem.W.OpenLaw} {q : Program} {loose : List Str} {XP : (Str -> Option Value) -> Heap -> Prop} {YP : World -> Heap -> Prop} {d : DefRec} {K : Params -> PySem.W.Frag} (hn : l.most = some 63) (hdf : d.params.defaults = [])
  (hT : ∀ P : Params, PySem.W.tabIn (K P) "raising_column" = none) (hY : ∀ (w : World) (h : Heap), YP w h -> (K w.params).In h)
  (F : ∀ (w : World) (mg : Str -> Option Value) (fa : Addr) (h : Heap), (K w.params).In h -> h.Ns mainGlobals mg -> mg d.name = some (.ref fa) ->
   ∃ fd : FuncData, (∀ (s : Shared) (u : Value), BindsTo s fd ⟨[u], []⟩ [("_law_script", u)]) /\ ∀ base : Heap, (K w.params).In base -> base.Ns mainGlobals mg -> FnOk l.prog w (K w.params) mg base CX0 7 fa fd ["_law_script"] (Fx.spF (K w.params) none 1 zbc)) :
  PySem.W.WalkO q loose XP YP l.row.toRowW d [] (fun f vs => PySem.call f vs) :=
 L2.walk_of (n := 63) (k := 7) (x := "_law_script") (CX := fun _ => CX0) (sp := fun w => Fx.spF (K w.params) none 1 zbc) hn (by decide) hdf ⟨rfl, by decide, by decide⟩ hY F (fun w H a ns hl hO hS => Fx.law_sp (law_ok ns hl) (fun x c T hx ht => by rw [List.mem_singleton.mp hx, hT] at ht; cases ht) hS) fun _ _ _ _ _ z => z
end K12
open PySem PySem.W PyProof.Rows
namespace PySem.W.Fast
def tw13043747502049553089:=0
def tw6595728924476721196:=0
def tw5113819729317778800:=0
def tw12528126148678976083:=0
def tw2810753871083621180:=0
def tw1139798127350776502:=0
def tw13532159342695242018:=0
def tw11929459666720983531:=0
def tw16091374745042982635:=0
def tw12371037237689306612:=0
def tw6602148732477501246:=0
def tw2270853688189749750:=0
def tw6290700246799858663:=0
def tw16779317188872314423:=0
def tw12277154903059019568:=0
def tw4223813781795091529:=0
def tw16897018616756152285:=0
def tw17427487999132172251:=0
def tw2344996691424445575:=0
def tw16101127936711983558:=0
def tw1142158718943796422:=0
def tw9067688377794000721:=0
def tw2106122043173559221:=0
def tw5435207428782778438:=0
def tw4056299855152451197:=0
def tw9095795803400488508:=0
def tw12357379573982004764:=0
def tw13166598929390511019:=0
def tw12781913947475668323:=0
def tw5487299764926493208:=0
def tw17043039356232728475:=0
def tw9280553989406628031:=0
def tw2184906940520150597:=0
def tw528268286278951399:=0
def tw9246938159855854392:=0
def tw5460951834760049229:=0
def tw7702684678424623314:=0
def tw13861606873599838580:=0
def tw9636734338981485034:=0
def tw12700241815016158493:=0
def tw16884342500370860029:=0
def tw10898290868410129382:=0
def tw6450284635176020602:=0
def tw679249740095725607:=0
def tw936386493096773546:=0
def tw17529094752988465924:=0
def tw13599240548264960061:=0
def tw18032903255292531650:=0
def tw15927460906207554472:=0
def tw10205678822782635813:=0
def tw4350286609234678269:=0
def tw3616893694880854776:=0
def tw3606845983223967526:=0
def tw5777084736616449746:=0
def tw13823292475035973729:=0
def tw6237973189790243128:=0
def tw11088920582330680505:=0
def tw13983131603298307605:=0
def tw5349814813988737424:=0
def tw15841202879959257273:=0
def tw4284993044690996435:=0
def tw17472419203345742811:=0
def tw6816548814593237910:=0
def tw11363017879617899238:=0
def tw1324934823982461972:=0
def tw7429997867043397918:=0
def tw7248433285674566272:=0
def tw8884957148391957894:=0
def tw17188321016373392912:=0
def tw17522930094437018964:=0
def tw8000622286954208694:=0
def tw12452870965062737534:=0
def tw16444174880150620055:=0
def tw16411535871892437576:=0
def tw17525852427612764023:=0
def tw1756463792213927032:=0
def tw4490376484863848649:=0
def tw15885285484737881022:=0
def tw10402532747147731261:=0
def tw14432410719967876281:=0
def tw10604889580981584714:=0
def tw1684059019431738482:=0
def tw2784705763091043190:=0
def tw471738905651979115:=0
def tw10902726097062928002:=0
def tw353578571209892028:=0
def tw15755396391561778535:=0
def tw14104260420762815999:=0
def tw13140152195167568388:=0
def tw16358462570153496708:=0
def tw4906344178215756569:=0
def tw138189275244828828:=0
def tw5060177929979547636:=0
def tw8703474206639946356:=0
def tw6651223133263948685:=0
def tw12905140679395724696:=0
def tw14247331355653241496:=0
def tw2039645689511861952:=0
def tw15841390608020452209:=0
def tw5670228344801849083:=0
def tw2330519462700233425:=0
def tw1930719479156067703:=0
def tw11471268825230253293:=0
def tw10812398038708601397:=0
def tw40693026034478807:=0
def tw15461630239909402621:=0
def tw6798660437863954837:=0
def tw1961119721530955316:=0
def tw18088870294665827703:=0
def tw7805246811197301809:=0
def tw17683466855113896460:=0
def tw5956277784577007699:=0
def tw8050677443867938512:=0
def tw5300168885166521751:=0
def tw5929266810643455501:=0
def tw8917133899182631768:=0
def tw3901718517028551758:=0
def tw9781319200355922106:=0
def tw16058355290996193073:=0
def tw2715148263708599169:=0
def tw13045555773207724717:=0
def tw5520464458683066560:=0
def tw5352587358715433948:=0
def tw4160622640639318397:=0
def tw5097630492091683237:=0
def tw11745499367487854913:=0
def tw6671225030875337231:=0
def tw11600357197612285497:=0
def tw636310985938924105:=0
def tw7934898938374226915:=0
def tw8827633201163538475:=0
def tw4443466707764546272:=0
def tw978126246549355772:=0
def tw5124488334909128590:=0
def tw11390489354590179618:=0
def tw15679306516368996236:=0
def tw15457338312248786176:=0
def tw16487049586168139051:=0
def tw998840018909446865:=0
def tw1544353418608405842:=0
def tw14220829525547534718:=0
def tw6586582187375306270:=0
def tw14557476525978279357:=0
def tw6702073981882374262:=0
def tw8482811129792354679:=0
def tw2511522247730528471:=0
def tw2059061442032995714:=0
def tw10554876976929606819:=0
def tw312499451657976342:=0
def tw6660827418097123683:=0
def tw6538386391466939545:=0
def tw3127849852079252169:=0
def tw11134740523097238890:=0
def tw5547439029188819410:=0
def tw16488671604465039079:=0
def tw3024385453301597114:=0
def tw6565225889054964629:=0
def tw5105926918928764980:=0
def tw7646016758359060843:=0
def tw6660832560890012855:=0
def tw10219711160655446847:=0
def tw18444125573952791331:=0
def tw9078445393713610522:=0
def tw6304019122612509946:=0
def tw17408532659228488974:=0
def tw1222128090375407244:=0
def tw13410607852871855973:=0
def tw12459187134595660008:=0
def tw5020774642010825330:=0
def tw13985156422804850178:=0
def tw1108136860054572595:=0
def tw7938349897661728395:=0
def tw1562414748280561610:=0
def tw2968279646005950136:=0
def tw17214777101961877907:=0
def tw11034756312696241858:=0
def tw3836479011723331735:=0
def tw11332998188558006635:=0
def tw5148271679193527435:=0
def tw5441153626250502010:=0
def tw6391278531018948349:=0
def tw16489981655998934337:=0
def tw15883333863994853427:=0
def tw11204729363769479314:=0
def tw13358257243979944277:=0
def tw3455989537837388546:=0
def tw15048396531964729831:=0
def tw13916598518935778512:=0
def tw17588449291979919293:=0
def tw7470743337233940996:=0
def tw15450360499322739947:=0
def tw3508298979193121262:=0
def tw12223141380144940066:=0
def tw9165500563735741530:=0
def tw1004205549652720189:=0
def tw1157453447808015723:=0
def tw7417236813151243616:=0
def tw13038361036435107883:=0
def tw16470577037704410886:=0
def tw9782795173855527853:=0
def tw6823981237865129931:=0
def tw16017710483473180159:=0
def tw4112387099581199874:=0
def tw4059790731673224528:=0
def tw14654925221616853578:=0
def tw17567578771820476713:=0
def tw8527396028544496494:=0
def tw8572886285379089309:=0
def tw4928060514171421409:=0
def tw2099044812661930358:=0
def tw9755658852316795492:=0
def tw16313479117911917176:=0
def tw14269593465191896823:=0
def tw16171073525797616160:=0
def tw7216025556977248202:=0
def tw11813348089943916255:=0
def tw3521931396524950131:=0
def tw12112970814890002557:=0
def tw475124625913401272:=0
def tw14760554616670847641:=0
def tw11090855993668949021:=0
def tw15983230008256101084:=0
def tw1091695594964187589:=0
def tw9486879475585543529:=0
def tw15790648393716445938:=0
def tw13450180845623787541:=0
def tw4518187152709471631:=0
def tw9332607959035397699:=0
def tw1332584935335419529:=0
def tw2763214646155914715:=0
def tw11468481838931057803:=0
def tw14312878439612584052:=0
def tw7280806134747053330:=0
def tw2328563037679733631:=0
def tw7967536986114312098:=0
def tw7431938506702365007:=0
def tw18289736473226778166:=0
def tw2103437105446547621:=0
def tw7302364473962760361:=0
def tw7487993162410138968:=0
def tw2771977504866373097:=0
def tw5599251626765966323:=0
def tw3601575328438701613:=0
def tw11822851277795266096:=0
def tw18372340745671789458:=0
def tw9289199083894173885:=0
def tw1137062191614653085:=0
def tw7144074694019175991:=0
def tw8512349267987466508:=0
def tw3411804292041019790:=0
def tw10700830493191033908:=0
def tw16355076974520406361:=0
def tw2583546096711572467:=0
def tw15379846839914172406:=0
def tw12893183830490399339:=0
def tw9450678505293679010:=0
def tw8772317101845744508:=0
def tw5737174472255783784:=0
def tw4492804549232801421:=0
def tw18230126285983146682:=0
def tw9697315311724902569:=0
def tw4191243680859546722:=0
def tw7629235450409484329:=0
def tw12700705910130708378:=0
def tw3993441725057545027:=0
def tw15699659378052086513:=0
def tw3701124771916529288:=0
def tw17644949435689097766:=0
def tw18302404158806948235:=0
def tw8446703187567727883:=0
def tw17453241295254178798:=0
def tw10796331437035216877:=0
def tw6287659097600933080:=0
def tw14348484024356833774:=0
def tw6376850780164944070:=0
def tw16292339288957934705:=0
def tw584183163285555184:=0
def tw6820036339313769456:=0
def tw15957336736856854297:=0
def tw574152498878338676:=0
def tw9685480859250240017:=0
def tw11384715799586495468:=0
def tw17057129894191686281:=0
def tw2635842865631585808:=0
def tw17587320149207698051:=0
def tw8654926021461796906:=0
def tw17635667011637236139:=0
def tw5914169488155152809:=0
def tw5161728584499204117:=0
def tw5734117563808261302:=0
def tw12143235175495669907:=0
def tw8864687002102258371:=0
end PySem.W.Fast
set_option maxRecDepth 100000 in
set_option maxHeartbeats 0 in
theorem PySem.Challenge.cw_limitdesk_k12_whole_corners_holds : PySem.Challenge.rw_limitdesk_k12_whole_corners.Holds := by
 w_on; o_law; k_head; (case hw => w_witness2)
 k_fill
 refine K12.walk (l := PySem.Challenge.rw_limitdesk_k12_whole_corners) rfl rfl (fun P => by kernel_rfl) (fun w h Y => PySem.W.kIn_of Y) ?F
 case F =>
  intro w mg fa h KX G hmg
  refine' K12.all_mk KX G hmg ?a0 ?l0 ?c0 ?k0 ?a1 ?l1 ?c1 ?k1 ?a2 ?l2 ?c2 ?k2 ?a3 ?l3 ?c3 ?k3 ?a4 ?l4 ?c4 ?k4 ?a5 ?l5 ?c5 ?k5 ?a6 ?l6 ?c6 ?k6 ?a7 ?l7 ?c7 ?k7 ?a8 ?l8 ?c8 ?k8 ?a9 ?l9 ?c9 ?k9 ?a10 ?l10 ?c10 ?k10 ?a11 ?l11 ?c11 ?k11 ?a12 ?l12 ?c12 ?k12 ?a13 ?l13 ?c13 ?k13 ?a14 ?l14 ?c14 ?k14 ?a15 ?l15 ?c15 ?k15 ?a16 ?l16 ?c16 ?k16 ?a17 ?l17 ?c17 ?k17 ?a18 ?l18 ?c18 ?k18 ?a19 ?l19 ?c19 ?k19 ?a20 ?l20 ?c20 ?k20 ?a21 ?l21 ?c21 ?k21 ?a22 ?l22 ?c22 ?k22 ?a23 ?l23 ?c23 ?k23 ?a24 ?l24 ?c24 ?k24 ?a25 ?l25 ?c25 ?k25 ?a26 ?l26 ?c26 ?k26 ?a27 ?l27 ?c27 ?k27 ?a28 ?l28 ?c28 ?k28 ?a29 ?l29 ?c29 ?k29 ?a30 ?l30 ?c30 ?k30 ?a31 ?l31 ?c31 ?k31 ?a32 ?l32 ?c32 ?k32 ?a33 ?l33 ?c33 ?k33 ?a34 ?l34 ?c34 ?k34 ?a35 ?l35 ?c35 ?k35 ?a36 ?l36 ?c36 ?k36 ?a37 ?l37 ?c37 ?k37 ?a38 ?l38 ?c38 ?k38 ?z_isinstance ?z_int ?z_bool ?z_abs ?z_range ?z_list ?z_len ?z_zip ?z_enumerate ?z_max ?z_tuple ?z_all ?z_min ?g_MOST_KINDS_GONE_THROUGH ?g_MOST_LIMITS_GONE_THROUGH ?g_GREATEST_NUMBER ?g_MOST_KINDS ?g_MOST_LIMITS ?aC_Board ?iI_Board ?jI_Board ?lI_Board ?cI_Board ?kI_Board ?pg_Board ?hd_Board ?po_Board ?sa_Board ?mk_Board ?kc_Board ?nA0_Board ?nA1_Board ?nA2_Board
  (case a0 => k_is)
  (case l0 => k_is)
  (case c0 => k_is)
  (case k0 => k_is)
  (case a1 => k_is)
  (case l1 => k_is)
  (case c1 => k_is)
  (case k1 => k_is)
  (case a2 => k_is)
  (case l2 => k_is)
  (case c2 => k_is)
  (case k2 => k_is)
  (case a3 => k_is)
  (case l3 => k_is)
  (case c3 => k_is)
  (case k3 => k_is)
  (case a4 => k_is)
  (case l4 => k_is)
  (case c4 => k_is)
  (case k4 => k_is)
  (case a5 => k_is)
  (case l5 => k_is)
  (case c5 => k_is)
  (case k5 => k_is)
  (case a6 => k_is)
  (case l6 => k_is)
  (case c6 => k_is)
  (case k6 => k_is)
  (case a7 => k_is)
  (case l7 => k_is)
  (case c7 => k_is)
  (case k7 => k_is)
  (case a8 => k_is)
  (case l8 => k_is)
  (case c8 => k_is)
  (case k8 => k_is)
  (case a9 => k_is)
  (case l9 => k_is)
  (case c9 => k_is)
  (case k9 => k_is)
  (case a10 => k_is)
  (case l10 => k_is)
  (case c10 => k_is)
  (case k10 => k_is)
  (case a11 => k_is)
  (case l11 => k_is)
  (case c11 => k_is)
  (case k11 => k_is)
  (case a12 => k_is)
  (case l12 => k_is)
  (case c12 => k_is)
  (case k12 => k_is)
  (case a13 => k_is)
  (case l13 => k_is)
  (case c13 => k_is)
  (case k13 => k_is)
  (case a14 => k_is)
  (case l14 => k_is)
  (case c14 => k_is)
  (case k14 => k_is)
  (case a15 => k_is)
  (case l15 => k_is)
  (case c15 => k_is)
  (case k15 => k_is)
  (case a16 => k_is)
  (case l16 => k_is)
  (case c16 => k_is)
  (case k16 => k_is)
  (case a17 => k_is)
  (case l17 => k_is)
  (case c17 => k_is)
  (case k17 => k_is)
  (case a18 => k_is)
  (case l18 => k_is)
  (case c18 => k_is)
  (case k18 => k_is)
  (case a19 => k_is)
  (case l19 => k_is)
  (case c19 => k_is)
  (case k19 => k_is)
  (case a20 => k_is)
  (case l20 => k_is)
  (case c20 => k_is)
  (case k20 => k_is)
  (case a21 => k_is)
  (case l21 => k_is)
  (case c21 => k_is)
  (case k21 => k_is)
  (case a22 => k_is)
  (case l22 => k_is)
  (case c22 => k_is)
  (case k22 => k_is)
  (case a23 => k_is)
  (case l23 => k_is)
  (case c23 => k_is)
  (case k23 => k_is)
  (case a24 => k_is)
  (case l24 => k_is)
  (case c24 => k_is)
  (case k24 => k_is)
  (case a25 => k_is)
  (case l25 => k_is)
  (case c25 => k_is)
  (case k25 => k_is)
  (case a26 => k_is)
  (case l26 => k_is)
  (case c26 => k_is)
  (case k26 => k_is)
  (case a27 => k_is)
  (case l27 => k_is)
  (case c27 => k_is)
  (case k27 => k_is)
  (case a28 => k_is)
  (case l28 => k_is)
  (case c28 => k_is)
  (case k28 => k_is)
  (case a29 => k_is)
  (case l29 => k_is)
  (case c29 => k_is)
  (case k29 => k_is)
  (case a30 => k_is)
  (case l30 => k_is)
  (case c30 => k_is)
  (case k30 => k_is)
  (case a31 => k_is)
  (case l31 => k_is)
  (case c31 => k_is)
  (case k31 => k_is)
  (case a32 => k_is)
  (case l32 => k_is)
  (case c32 => k_is)
  (case k32 => k_is)
  (case a33 => k_is)
  (case l33 => k_is)
  (case c33 => k_is)
  (case k33 => k_is)
  (case a34 => k_is)
  (case l34 => k_is)
  (case c34 => k_is)
  (case k34 => k_is)
  (case a35 => k_is)
  (case l35 => k_is)
  (case c35 => k_is)
  (case k35 => k_is)
  (case a36 => k_is)
  (case l36 => k_is)
  (case c36 => k_is)
  (case k36 => k_is)
  (case a37 => k_is)
  (case l37 => k_is)
  (case c37 => k_is)
  (case k37 => k_is)
  (case a38 => k_is)
  (case l38 => k_is)
  (case c38 => k_is)
  (case k38 => k_is)
  (case z_isinstance => k_is)
  (case z_int => k_is)
  (case z_bool => k_is)
  (case z_abs => k_is)
  (case z_range => k_is)
  (case z_list => k_is)
  (case z_len => k_is)
  (case z_zip => k_is)
  (case z_enumerate => k_is)
  (case z_max => k_is)
  (case z_tuple => k_is)
  (case z_all => k_is)
  (case z_min => k_is)
  (case g_MOST_KINDS_GONE_THROUGH => k_is)
  (case g_MOST_LIMITS_GONE_THROUGH => k_is)
  (case g_GREATEST_NUMBER => k_is)
  (case g_MOST_KINDS => k_is)
  (case g_MOST_LIMITS => k_is)
  (case aC_Board => k_is)
  (case iI_Board => k_is)
  (case jI_Board => k_is)
  (case lI_Board => k_is)
  (case cI_Board => k_is)
  (case kI_Board => k_is)
  (case pg_Board => k_is)
  (case hd_Board => k_is)
  (case po_Board => k_is)
  (case sa_Board => k_is)
  (case mk_Board => k_is)
  (case kc_Board => k_is)
  (case nA0_Board => k_is)
  (case nA1_Board => k_is)
  (case nA2_Board => k_is)
#print axioms PySem.Challenge.cw_limitdesk_k12_whole_corners_holds
