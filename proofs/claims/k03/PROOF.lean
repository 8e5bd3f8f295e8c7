import PyProof.Rows.All
import Wide.All
import OpenK.AllK
import Wide.FinOn
import Lean
import PyProof.EqAt
import PyProof.EqKinds
import PyProof.EqLayable
import PyProof.TupleCall
import PyProof.P3Statements
import PySem.Challenge.RW_limitdesk_k03_desks_refused
set_option Elab.async false
set_option linter.all false
set_option maxRecDepth 100000
/-! THE HAND LAYER, for ints, bools, texts, own classes, LISTS and tuples (index, slices, in, append, pop ..), calls, loops. Paste it whole ahead of your own text; what your proof does not reach may be deleted. -/
namespace L2
open PySem PySem.Spec PyProof.Rows

/-- a key: an int or a str -/
abbrev Key := Sum Int Str
def keyIs : Key → Value → Bool
  | .inl k, v => Value.isInt k v
  | .inr x, v => Value.isStrOf x v
def keyH (w : World) : Key → Int
  | .inl k => hashInt k
  | .inr x => hashStr w x
theorem keyIs_shape : ∀ {k : Key} {v : Value}, keyIs k v = true → (∃ i t, k = Sum.inl i ∧ v = Value.int i t) ∨ (∃ x t, k = Sum.inr x ∧ v = Value.str x t)
  | .inl i, v, h => by
    obtain ⟨t, e⟩ := Value.isInt_shape (k := i) (v := v) h
    exact .inl ⟨i, t, rfl, e⟩
  | .inr x, v, h => by
    obtain ⟨t, e⟩ := Value.isStrOf_shape (x := x) (v := v) h
    exact .inr ⟨x, t, rfl, e⟩
theorem keyIs_int (i : Int) (t : Tok) : keyIs (.inl i) (.int i t) = true := by simp [keyIs, Value.isInt]
theorem keyIs_str (x : Str) (t : Tok) : keyIs (.inr x) (.str x t) = true := by simp [keyIs, Value.isStrOf]
theorem key_ll (a b : Int) : decide ((Sum.inl a : Key) = Sum.inl b) = (a == b) := by
  by_cases e : a = b
  · subst e; simp
  · have h : ¬ (Sum.inl a : Key) = Sum.inl b := fun q => e (Sum.inl.inj q)
    rw [decide_eq_false h]
    exact (beq_eq_false_iff_ne.mpr e).symm
theorem key_rr (a b : Str) : decide ((Sum.inr a : Key) = Sum.inr b) = decide (a = b) := by
  by_cases e : a = b
  · subst e; simp
  · have h : ¬ (Sum.inr a : Key) = Sum.inr b := fun q => e (Sum.inr.inj q)
    rw [decide_eq_false h, decide_eq_false e]
theorem key_lr (a : Int) (b : Str) : decide ((Sum.inl a : Key) = Sum.inr b) = false := decide_eq_false (fun q => nomatch q)
theorem key_rl (a : Str) (b : Int) : decide ((Sum.inr a : Key) = Sum.inl b) = false := decide_eq_false (fun q => nomatch q)

def mixKind (prog : Program) (w : World) : PySem.KeyKind prog w Key where
  is := keyIs
  hash := keyH w
  inj := fun v a b ha hb => by
    rcases keyIs_shape ha with ⟨i, t, rfl, rfl⟩ | ⟨x, t, rfl, rfl⟩
    · rcases keyIs_shape hb with ⟨j, u, rfl, e⟩ | ⟨y, u, rfl, e⟩
      · injection e with e1 _; rw [e1]
      · exact nomatch e
    · rcases keyIs_shape hb with ⟨j, u, rfl, e⟩ | ⟨y, u, rfl, e⟩
      · exact nomatch e
      · injection e with e1 _; rw [e1]
  byValue := fun k v h => by
    rcases keyIs_shape h with ⟨i, t, rfl, rfl⟩ | ⟨x, t, rfl, rfl⟩ <;> rfl
  pyHash := fun hv h => by
    rcases keyIs_shape hv with ⟨i, t, rfl, rfl⟩ | ⟨x, t, rfl, rfl⟩
    · exact wpAny_pyHash_int h
    · exact wpAny_pyHash_str h
  eqBool := fun hu hv h => by
    rcases keyIs_shape hu with ⟨i, t, rfl, rfl⟩ | ⟨x, t, rfl, rfl⟩
    · rcases keyIs_shape hv with ⟨j, u, rfl, rfl⟩ | ⟨y, u, rfl, rfl⟩
      · rw [key_ll] at h; exact wpAny_eqBool_int h
      · rw [key_lr] at h; exact SeqAt.EqAt.int_str i t y u _ _ _ _ h
    · rcases keyIs_shape hv with ⟨j, u, rfl, rfl⟩ | ⟨y, u, rfl, rfl⟩
      · rw [key_rl] at h; exact SeqAt.EqAt.str_int x t j u _ _ _ _ h
      · rw [key_rr] at h; exact wpAny_eqBool_str h
  «strs» := fun k x t v h => by
    rcases keyIs_shape h with ⟨i, u, rfl, e⟩ | ⟨y, u, rfl, e⟩
    · exact nomatch e
    · injection e with e1 _
      subst e1
      cases v <;> rfl

theorem mixKind_is (prog : Program) (w : World) (k : Key) (v : Value) : (mixKind prog w).is k v = keyIs k v := rfl
theorem mixKind_int (prog : Program) (w : World) (i : Int) (t : Tok) : (mixKind prog w).is (.inl i) (.int i t) = true := keyIs_int i t
theorem mixKind_str (prog : Program) (w : World) (x : Str) (t : Tok) : (mixKind prog w).is (.inr x) (.str x t) = true := keyIs_str x t
end L2

namespace L2
open PySem PySem.Spec PyProof.Rows

/-- a value, without the heap -/
inductive V where
  | non | bl (b : Bool) | int (i : Int) | str (x : Str) | byt (b : Array UInt8) | flt (b : UInt64) | ref (a : Addr) | ty (n : String)
  deriving DecidableEq

def RelV : V → Value → Prop
  | .non, u => u = Value.none
  | .bl b, u => u = Value.bool b
  | .int i, u => ∃ t, u = Value.int i t
  | .str x, u => ∃ t, u = Value.str x t
  | .byt b, u => ∃ t, u = Value.bytes b t
  | .flt b, u => ∃ t, u = Value.float b t
  | .ref a, u => u = Value.ref a
  | .ty n, u => u = Value.type n

abbrev Vals : List V → List Value → Prop := Paired RelV
theorem Vals.length {xs : List V} {us : List Value} (r : Vals xs us) : xs.length = us.length := Paired.length r
theorem Vals.get : ∀ {xs : List V} {us : List Value} {i : Nat} {x : V}, Vals xs us → xs[i]? = some x → ∃ u, us[i]? = some u ∧ RelV x u
  | _, _, _, _, .nil, e => by simp at e
  | _, _, 0, _, .cons r _, e => by simp at e; subst e; exact ⟨_, rfl, r⟩
  | _, _, i + 1, x, .cons _ t, e => by
    obtain ⟨u, h1, h2⟩ := Vals.get (i := i) (x := x) t (by simpa using e)
    exact ⟨u, by simpa using h1, h2⟩
theorem Vals.set {x : V} {u : Value} (r : RelV x u) : ∀ {xs : List V} {us : List Value} (i : Nat), Vals xs us → Vals (xs.set i x) (us.set i u)
  | _, _, _, .nil => .nil
  | _, _, 0, .cons _ t => .cons r t
  | _, _, i + 1, .cons q t => .cons q (Vals.set r i t)
theorem Vals.append : ∀ {xs ys : List V} {us ws : List Value}, Vals xs us → Vals ys ws → Vals (xs ++ ys) (us ++ ws)
  | _, _, _, _, .nil, s => s
  | _, _, _, _, .cons r t, s => .cons r (Vals.append t s)
theorem Vals.take : ∀ {xs : List V} {us : List Value} (n : Nat), Vals xs us → Vals (xs.take n) (us.take n)
  | _, _, 0, _ => .nil
  | _, _, _ + 1, .nil => .nil
  | _, _, n + 1, .cons r t => .cons r (Vals.take n t)
theorem Vals.drop : ∀ {xs : List V} {us : List Value} (n : Nat), Vals xs us → Vals (xs.drop n) (us.drop n)
  | _, _, 0, r => r
  | _, _, _ + 1, .nil => .nil
  | _, _, n + 1, .cons _ t => Vals.drop n t
theorem Vals.none_of : ∀ {xs : List V} {us : List Value} {i : Nat}, Vals xs us → xs[i]? = none → us[i]? = none := fun {xs us i} r e => by
  have h1 := r.length
  have h2 : xs.length ≤ i := List.getElem?_eq_none_iff.mp e
  exact List.getElem?_eq_none_iff.mpr (by omega)

def RelO : Option V → Option Value → Prop
  | some v, some u => RelV v u
  | none, none => True
  | _, _ => False
def KV {κ : Type} : List (κ × V) → List (κ × Value) → Prop := Paired fun (p : κ × V) (q : κ × Value) => p.1 = q.1 ∧ RelV p.2 q.2

/-- a key of a dict (00_mix): an int or a text -/
def kV : Key → V
  | .inl i => .int i
  | .inr x => .str x

/-- what stands at a tracked address -/
inductive HO where
  /-- a list -/
  | lst (xs : List V)
  /-- a tuple (never changes) -/
  | tup (xs : List V)
  /-- a dict whose keys are ints and texts; one whose keys are tuples of ints and texts (the empty one is both) -/
  | dK (kvs : List (Key × V)) | dT (kvs : List (List Key × V))
  /-- a set of ints: its members, its size -/
  | set (S : Int → Bool) (n : Nat)
  /-- an instance of the class at C, its dict at dx, its attributes -/
  | ins (C dx : Addr) (fs : List (Str × V))
  /-- the dict of the instance at x -/
  | own (x : Addr)
  /-- the dict of an exception -/
  | xd (fs : List (Str × V))
  /-- a bound method, f of x -/
  | met (f x : Addr)
  /-- a range object lo, lo + 1, .. below hi -/
  | rng (lo hi : Int)
  /-- a thing that is known to the object (the script; a dict while a loop walks it): read, never written while it is so -/
  | frz (o : Obj) (u : HO)
  /-- a code object's table -/
  | tbl (ps : Array Value)
  /-- any other thing, by what is true of its one object (a def of one's own: SetO a S n := HO.ext fun h => ..) -/
  | ext (φ : Heap → Prop)

abbrev Hp := Addr → Option HO
def upd (H : Hp) (a : Addr) (o : HO) : Hp := fun b => if b = a then some o else H b
theorem upd_same {H : Hp} {a : Addr} {o : HO} : upd H a o a = some o := by unfold upd; rw [if_pos rfl]
theorem upd_ne {H : Hp} {a b : Addr} {o : HO} (h : b ≠ a) : upd H a o b = H b := by unfold upd; rw [if_neg h]
theorem upd_upd {H : Hp} {a : Addr} {o u : HO} : upd (upd H a o) a u = upd H a u := by
  funext b; unfold upd; split <;> rfl
/-- two objects of different content stand apart -/
theorem ne_of {H : Hp} {a b : Addr} {o u : HO} (h : H a = some o) (h' : H b = some u) (d : o ≠ u) : a ≠ b := by
  intro e; subst e; rw [h] at h'; exact d (Option.some.inj h')
theorem ne_of_none {H : Hp} {a b : Addr} {o : HO} (h : H a = some o) (h' : H b = none) : a ≠ b := by
  intro e; subst e; rw [h] at h'; cases h'

section
variable (P : Program) (w : World)
def ObjOk (H : Hp) (h : Heap) (a : Addr) : HO → Prop
  | .lst xs => xs.length ≤ sizeLine ∧ ∃ (its : List Value) (n : Nat), Vals xs its ∧ h.get? a = some { cls := .type "list", data := .seq its.toArray n }
  | .tup xs => xs.length ≤ sizeLine ∧ ∃ its : List Value, Vals xs its ∧ IsTup h a its.toArray
  | .dK kvs => kvs.length ≤ sizeLine ∧ (a == sysModules) = false ∧ ∃ vs, KV kvs vs ∧ h.DictOf (mixKind P w) a vs
  | .dT kvs => kvs.length ≤ sizeLine ∧ (a == sysModules) = false ∧ ∃ xs : List (List Key × Addr × Value),
      Paired (fun (p : List Key × V) (q : List Key × Addr × Value) => p.1 = q.1 ∧ H q.2.1 = some (.tup (p.1.map kV)) ∧ RelV p.2 q.2.2) kvs xs ∧
      ∃ o es ep, h.get? a = some o ∧ o.ExactDict ∧ o.data = .dict es ep ∧ es.toList = xs.map (entryOfKey (tupleKind (mixKind P w))) ∧ (xs.map (·.1)).Nodup
  | .set S n => h.SetOf (intKind P w) a S n
  | .ins C dx fs => H dx = some (.own a) ∧ fs.length ≤ 1000 ∧ dx ≠ a ∧ h.get? a = some (PySem.W.instObj C dx) ∧
      ∃ mA, h.Ns1 dx mA ∧ (∀ f, RelO (fs.lookup f) (mA f)) ∧ PySem.Within mA (fs.map (·.1))
  | .own _ => ∃ o, h.get? a = some o
  | .xd fs => ∃ mA, h.Ns1 a mA ∧ ∀ f, RelO (fs.lookup f) (mA f)
  | .rng lo hi => ∃ t u v, h.get? a = some { cls := .type "range", data := .fields #[.int lo t, .int hi u, .int 1 v] }
  | .frz o u => h.get? a = some o ∧ ObjOk H h a u
  | .tbl ps => h.get? a = some { cls := .none, data := .fields ps }
  | .met f x => h.get? a = some (PySem.W.methodObj (.ref f) (.ref x))
  | .ext φ => φ h ∧ (∃ o, h.get? a = some o) ∧ ∀ h1 h2 : Heap, φ h1 → (∀ o, h1.get? a = some o → h2.get? a = some o) → φ h2
/-- the abstract heap is held -/
def HOk (H : Hp) (h : Heap) : Prop := ∀ a o, H a = some o → ObjOk P w H h a o
end

section
variable {P : Program} {w : World} {H H' : Hp} {h h' : Heap} {a : Addr} {o : HO}
theorem ObjOk.lt (x : ObjOk P w H h a o) : a < h.objs.size := by
  cases o with
  | lst xs => obtain ⟨_, _, _, _, e⟩ := x; exact Heap.lt_size e
  | tup xs => obtain ⟨_, _, _, p⟩ := x; exact p.lt
  | dK kvs => obtain ⟨_, _, _, _, o, _, _, e, _⟩ := x; exact Heap.lt_size e
  | dT kvs => obtain ⟨_, _, _, _, o, _, _, e, _⟩ := x; exact Heap.lt_size e
  | set S n => obtain ⟨o, _, _, _, e, _⟩ := x; exact Heap.lt_size e
  | ins C dx fs => obtain ⟨_, _, _, e, _⟩ := x; exact Heap.lt_size e
  | own y => obtain ⟨_, e⟩ := x; exact Heap.lt_size e
  | xd fs => obtain ⟨_, ⟨_, _, _, e, _⟩, _⟩ := x; exact Heap.lt_size e
  | rng lo hi => obtain ⟨_, _, _, e⟩ := x; exact Heap.lt_size e
  | frz ob u => obtain ⟨e, _⟩ := x; exact Heap.lt_size e
  | tbl ps => exact Heap.lt_size (show h.get? a = some _ from x)
  | met f y => exact Heap.lt_size (show h.get? a = some _ from x)
  | ext φ => obtain ⟨_, ⟨_, e⟩, _⟩ := x; exact Heap.lt_size e
theorem Paired.mapP {α β : Type} {F G : α → β → Prop} : ∀ {l₁ : List α} {l₂ : List β}, Paired F l₁ l₂ → (∀ a b, F a b → G a b) → Paired G l₁ l₂
  | _, _, .nil, _ => .nil
  | _, _, .cons r t, f => .cons (f _ _ r) (Paired.mapP t f)
theorem Paired.imp' {α β : Type} {F G : α → β → Prop} (f : ∀ a b, F a b → G a b) {l₁ : List α} {l₂ : List β} (r : Paired F l₁ l₂) : Paired G l₁ l₂ := Paired.mapP r f
/-- what an object's description leans on: its own object, its own dict, the tuples -/
theorem ObjOk.stay (x : ObjOk P w H h a o) (k : ∀ b u, (b = a ∨ H b = some (.own a)) → h.get? b = some u → h'.get? b = some u)
    (ho : ∀ b, H b = some (.own a) → H' b = some (.own a)) (ht : ∀ b xs, H b = some (.tup xs) → H' b = some (.tup xs)) : ObjOk P w H' h' a o := by
  induction o with
  | lst xs => obtain ⟨z, its, n, r, e⟩ := x; exact ⟨z, its, n, r, k _ _ (.inl rfl) e⟩
  | tup xs => obtain ⟨z, its, r, ob, e, c⟩ := x; exact ⟨z, its, r, ob, k _ _ (.inl rfl) e, c⟩
  | dK kvs => obtain ⟨z, y, vs, r, ob, es, ep, e, c⟩ := x; exact ⟨z, y, vs, r, ob, es, ep, k _ _ (.inl rfl) e, c⟩
  | dT kvs =>
    obtain ⟨z, y, xs, r, ob, es, ep, e, c⟩ := x
    exact ⟨z, y, xs, Paired.mapP r fun p q z => ⟨z.1, ht _ _ z.2.1, z.2.2⟩, ob, es, ep, k _ _ (.inl rfl) e, c⟩
  | set S n => obtain ⟨ob, es, ep, t, e, c⟩ := x; exact ⟨ob, es, ep, t, k _ _ (.inl rfl) e, c⟩
  | ins C dx fs =>
    obtain ⟨d, z, ne, e, mA, ⟨od, es, ep, e2, c⟩, r⟩ := x
    exact ⟨ho _ d, z, ne, k _ _ (.inl rfl) e, mA, ⟨od, es, ep, k _ _ (.inr d) e2, c⟩, r⟩
  | own y => obtain ⟨ob, e⟩ := x; exact ⟨ob, k _ _ (.inl rfl) e⟩
  | xd fs => obtain ⟨mA, ⟨od, es, ep, e, c⟩, r⟩ := x; exact ⟨mA, ⟨od, es, ep, k _ _ (.inl rfl) e, c⟩, r⟩
  | rng lo hi => obtain ⟨t, u, v, e⟩ := x; exact ⟨t, u, v, k _ _ (.inl rfl) e⟩
  | frz ob u ih => obtain ⟨e, q⟩ := x; exact ⟨k _ _ (.inl rfl) e, ih q⟩
  | tbl ps =>
    have e : h.get? a = some { cls := .none, data := .fields ps } := x
    show h'.get? a = some { cls := .none, data := .fields ps }
    exact k a _ (.inl rfl) e
  | met f y =>
    have e : h.get? a = some (PySem.W.methodObj (.ref f) (.ref y)) := x
    show h'.get? a = some (PySem.W.methodObj (.ref f) (.ref y))
    exact k a _ (.inl rfl) e
  | ext φ => obtain ⟨p, ⟨o, e⟩, st⟩ := x; exact ⟨st _ _ p fun o q => k _ _ (.inl rfl) q, ⟨o, k _ _ (.inl rfl) e⟩, st⟩
theorem HOk.lt (x : HOk P w H h) (e : H a = some o) : a < h.objs.size := (x a o e).lt
theorem HOk.fresh (x : HOk P w H h) (e : h.objs.size ≤ a) : H a = none := by
  cases q : H a with
  | none => rfl
  | some u => exact absurd (Nat.lt_of_lt_of_le (x.lt q) e) (Nat.lt_irrefl _)
/-- every object of the heap is kept -/
theorem HOk.kept (x : HOk P w H h) (k : ∀ b u, h.get? b = some u → h'.get? b = some u) : HOk P w H h' := fun a o e =>
  (x a o e).stay (fun b u _ q => k b u q) (fun _ q => q) fun _ _ q => q
/-- a new object is laid and tracked -/
theorem HOk.laid (x : HOk P w H h) (k : ∀ b u, h.get? b = some u → h'.get? b = some u) (hp : h.objs.size ≤ a) (new : ObjOk P w (upd H a o) h' a o) : HOk P w (upd H a o) h' := fun b u e => by
  have hn := x.fresh hp
  by_cases hb : b = a
  · subst hb; rw [upd_same] at e; cases e; exact new
  · rw [upd_ne hb] at e
    exact (x b u e).stay (fun c v _ q => k c v q) (fun c q => by rw [upd_ne (ne_of_none q hn)]; exact q) fun c xs q => by rw [upd_ne (ne_of_none q hn)]; exact q
end

/-- what may be read as u: it is u, or a known u -/
def Rd (H : Hp) (a : Addr) (u : HO) : Prop := H a = some u ∨ ∃ o, H a = some (.frz o u)
theorem Rd.of {H : Hp} {a : Addr} {u : HO} (h : H a = some u) : Rd H a u := .inl h
theorem Rd.ok {P : Program} {w : World} {H : Hp} {h : Heap} {a : Addr} {u : HO} (r : Rd H a u) (x : HOk P w H h) : ObjOk P w H h a u := by
  rcases r with r | ⟨o, r⟩
  · exact x a u r
  · obtain ⟨_, q⟩ := x a _ r
    exact q
/-- what may be written -/
def Mut : Option HO → Prop
  | some (.lst _) => True
  | some (.dK _) => True
  | some (.dT _) => True
  | some (.set _ _) => True
  | some (.ins _ _ _) => True
  | some (.ext _) => True
  | _ => False
section
variable {P : Program} {w : World} {H : Hp} {h h' : Heap} {x e : Addr} {o' : HO}
/-- the object at e is changed: x itself, or the dict of the instance x -/
theorem HOk.write (ok : HOk P w H h) (mu : Mut (H x)) (he : e = x ∨ H e = some (.own x)) (k : ∀ b u, b ≠ e → h.get? b = some u → h'.get? b = some u) (heo : ∃ u, h'.get? e = some u)
    (new : ObjOk P w (upd H x o') h' x o') : HOk P w (upd H x o') h' := fun b u q => by
  have nown : ∀ c y, H c = some (.own y) → c ≠ x := fun c y r z => by subst z; rw [r] at mu; exact mu
  have ntup : ∀ c xs, H c = some (.tup xs) → c ≠ x := fun c xs r z => by subst z; rw [r] at mu; exact mu
  by_cases hb : b = x
  · subst hb; rw [upd_same] at q; cases q; exact new
  · rw [upd_ne hb] at q
    by_cases hbe : b = e
    · have q' : H b = some (.own x) := by
        rcases he with z | z
        · exact absurd (hbe.trans z) hb
        · rw [hbe]; exact z
      rw [q] at q'; cases q'
      obtain ⟨v, hv⟩ := heo
      exact ⟨v, by rw [hbe]; exact hv⟩
    · refine (ok b u q).stay (fun c v hc r => k c v ?_ r) (fun c r => by rw [upd_ne (nown c b r)]; exact r) fun c xs r => by rw [upd_ne (ntup c xs r)]; exact r
      rcases hc with rfl | hc
      · exact hbe
      · rintro rfl
        rcases he with z | z
        · exact nown c b hc z
        · rw [hc] at z; cases z; exact hb rfl
end

/-! ### kept unless tracked; of the frames at fs (the callers') the slots may change (an exception that passes writes there); of the records at ex (iterators) nothing is said -/
structure Un (fs ex : List Addr) (H H' : Hp) (h h' : Heap) : Prop where
  keep : ∀ b o, h.get? b = some o → H b = none → b ∉ fs → b ∉ ex → h'.get? b = some o
  slot : ∀ b o, h.get? b = some o → H b = none → b ∈ fs → b ∉ ex → ∃ sl, h'.get? b = some { o with slots := sl }
  free : ∀ b o, h.get? b = some o → H b = none → b ∉ ex → H' b = none
  there : ∀ b o, h.get? b = some o → b ∉ ex → ∃ o', h'.get? b = some o'
  tups : ∀ b xs, H b = some (.tup xs) → H' b = some (.tup xs)
  frzs : ∀ b o u, H b = some (.frz o u) → H' b = some (.frz o u)
  tbls : ∀ b ps, H b = some (.tbl ps) → ∃ more, H' b = some (.tbl (ps ++ more))
section
variable {fs fs' ex ex' : List Addr} {H H1 H2 : Hp} {h h1 h2 h' : Heap} {a x e : Addr} {o : HO}
theorem Un.any (u : Un fs ex H H1 h h1) {b : Addr} {ob : Obj} (q : h.get? b = some ob) (n : H b = none) (hx : b ∉ ex) : ∃ sl, h1.get? b = some { ob with slots := sl } := by
  by_cases hb : b ∈ fs
  · exact u.slot b ob q n hb hx
  · exact ⟨ob.slots, u.keep b ob q n hb hx⟩
theorem Un.trans (a : Un fs ex H H1 h h1) (b : Un fs ex H1 H2 h1 h2) : Un fs ex H H2 h h2 where
  keep := fun c ob q n hc hx => b.keep c ob (a.keep c ob q n hc hx) (a.free c ob q n hx) hc hx
  slot := fun c ob q n hc hx => by
    obtain ⟨sl, e1⟩ := a.slot c ob q n hc hx
    obtain ⟨sl', e2⟩ := b.slot c _ e1 (a.free c ob q n hx) hc hx
    exact ⟨sl', e2⟩
  free := fun c ob q n hx => by
    obtain ⟨o', e1⟩ := a.there c ob q hx
    exact b.free c o' e1 (a.free c ob q n hx) hx
  there := fun c ob q hx => by
    obtain ⟨o', e1⟩ := a.there c ob q hx
    exact b.there c o' e1 hx
  tups := fun c xs q => b.tups c xs (a.tups c xs q)
  frzs := fun c ob xs q => b.frzs c ob xs (a.frzs c ob xs q)
  tbls := fun c ps q => by
    obtain ⟨m1, e1⟩ := a.tbls c ps q
    obtain ⟨m2, e2⟩ := b.tbls c _ e1
    exact ⟨m1 ++ m2, by rw [e2, Array.append_assoc]⟩
theorem Un.kept (k : ∀ b u, h.get? b = some u → h'.get? b = some u) : Un fs ex H H h h' :=
  ⟨fun b ob q _ _ _ => k b ob q, fun b ob q _ _ _ => ⟨ob.slots, k b ob q⟩, fun _ _ _ n _ => n, fun b ob q _ => ⟨ob, k b ob q⟩, fun _ _ q => q, fun _ _ _ q => q, fun _ ps q => ⟨#[], by rw [q]; simp⟩⟩
theorem Un.refl : Un fs ex H H h h := Un.kept fun _ _ q => q
theorem Un.laid (k : ∀ b u, h.get? b = some u → h'.get? b = some u) (hp : h.objs.size ≤ a) (hn : H a = none) : Un fs ex H (upd H a o) h h' where
  keep := fun b u q _ _ _ => k b u q
  slot := fun b u q _ _ _ => ⟨u.slots, k b u q⟩
  free := fun b u q n _ => by rw [upd_ne (Nat.ne_of_lt (Nat.lt_of_lt_of_le (Heap.lt_size q) hp))]; exact n
  there := fun b u q _ => ⟨u, k b u q⟩
  tups := fun b xs q => by rw [upd_ne (ne_of_none q hn)]; exact q
  frzs := fun b u xs q => by rw [upd_ne (ne_of_none q hn)]; exact q
  tbls := fun b ps q => ⟨#[], by rw [upd_ne (ne_of_none q hn), q]; simp⟩
theorem Un.write (mu : Mut (H x)) (he : e = x ∨ H e = some (.own x)) (k : ∀ b u, b ≠ e → h.get? b = some u → h'.get? b = some u) (heo : ∃ u, h'.get? e = some u) : Un fs ex H (upd H x o) h h' := by
  have hx : ∀ b, H b = none → b ≠ x := fun b n z => by subst z; rw [n] at mu; exact mu
  have hb : ∀ b, H b = none → b ≠ e := fun b n z => by
    subst z
    rcases he with r | r
    · exact hx b n r
    · rw [n] at r; cases r
  have hm : ∀ b u, H b = some u → ¬ Mut (some u) → b ≠ x := fun b u q nm z => by subst z; rw [q] at mu; exact nm mu
  refine ⟨fun b u q n _ _ => k b u (hb b n) q, fun b u q n _ _ => ⟨u.slots, k b u (hb b n) q⟩, fun b u q n _ => by rw [upd_ne (hx b n)]; exact n, fun b u q _ => ?_,
    fun b xs q => by rw [upd_ne (hm b _ q fun z => z)]; exact q, fun b u xs q => by rw [upd_ne (hm b _ q fun z => z)]; exact q, fun b ps q => ⟨#[], by rw [upd_ne (hm b _ q fun z => z), q]; simp⟩⟩
  by_cases hbe : b = e
  · subst hbe; exact heo
  · exact ⟨u, k b u hbe q⟩
theorem Un.mono (u : Un fs ex H H1 h h1) (hs : ∀ b ∈ fs, b ∈ fs') (hx : ∀ b ∈ ex, b ∈ ex') : Un fs' ex' H H1 h h1 :=
  ⟨fun b ob q n hb he => u.keep b ob q n (fun z => hb (hs b z)) fun z => he (hx b z), fun _ _ q n _ he => u.any q n fun z => he (hx _ z), fun b ob q n he => u.free b ob q n fun z => he (hx b z), fun b ob q he => u.there b ob q fun z => he (hx b z), u.tups, u.frzs, u.tbls⟩
end

/-! ### the heap without what is tracked -/
def trk (h : Heap) (H : Hp) : List Addr := (List.range h.objs.size).filter fun a => (H a).isSome
def hidT (h : Heap) (H : Hp) : Heap := PySem.W.hideAll h (trk h H)
theorem hidT_size (h : Heap) (H : Hp) : (hidT h H).objs.size = h.objs.size := PySem.W.hideAll_size _ _
theorem hidT_get {h : Heap} {H : Hp} {b : Addr} {o : Obj} (e : h.get? b = some o) (n : H b = none) : (hidT h H).get? b = some o :=
  PySem.W.hideAll_get _ e fun hm => by
    have q : (H b).isSome = true := (List.mem_filter.mp hm).2
    rw [n] at q; simp at q
theorem of_hidT {h : Heap} {H : Hp} {b : Addr} {o : Obj} (e : (hidT h H).get? b = some o) : h.get? b = some o ∧ H b = none := by
  have e' : h.get? b = some o := PySem.W.of_hideAll (trk h H) e
  refine ⟨e', ?_⟩
  cases q : H b with
  | none => rfl
  | some x =>
    have hm : b ∈ trk h H := List.mem_filter.mpr ⟨List.mem_range.mpr (Heap.lt_size e'), by simp [q]⟩
    have z : (hidT h H).get? b = none := PySem.W.hideAll_none (trk h H) hm
    rw [z] at e; cases e

/-! ### OpenK's ledger, filled with every new object but one -/
def allNews (g h : Heap) (L : Addr) : List (Addr × Obj) := (List.range h.objs.size).filterMap fun a => if a = L ∨ (g.get? a).isSome = true then none else (h.get? a).map fun o => (a, o)
theorem mem_allNews {g h : Heap} {L a : Addr} {o : Obj} (h1 : a ≠ L) (h2 : g.get? a = none) (h3 : h.get? a = some o) : (a, o) ∈ allNews g h L :=
  List.mem_filterMap.mpr ⟨a, List.mem_range.mpr (Heap.lt_size h3), by simp [h1, h2, h3]⟩
theorem of_mem_allNews {g h : Heap} {L : Addr} {p : Addr × Obj} (hp : p ∈ allNews g h L) : p.1 ≠ L ∧ g.get? p.1 = none ∧ h.get? p.1 = some p.2 := by
  obtain ⟨b, _, e⟩ := List.mem_filterMap.mp hp
  split at e
  · cases e
  · rename_i hn
    cases q : h.get? b with
    | none => rw [q] at e; simp at e
    | some u =>
      rw [q] at e
      simp only [Option.map_some, Option.some.injEq] at e
      subst e
      refine ⟨fun z => hn (.inl z), ?_, q⟩
      show g.get? b = none
      cases r : g.get? b with
      | none => rfl
      | some v => exact (hn (.inr (by simp [r]))).elim
def rest (g h : Heap) (L d : Addr) : List (Addr × Obj) := (allNews g h L).filter fun p => decide (p.1 ≠ d)
theorem rest_ne {g h : Heap} {L d : Addr} : ∀ p ∈ rest g h L d, p.1 ≠ d := fun p hp => of_decide_eq_true (List.mem_filter.mp hp).2
theorem mem_rest {g h : Heap} {L d a : Addr} {o : Obj} (h1 : a ≠ L) (h2 : g.get? a = none) (h3 : h.get? a = some o) (h4 : a ≠ d) : (a, o) ∈ rest g h L d :=
  List.mem_filter.mpr ⟨mem_allNews h1 h2 h3, decide_eq_true h4⟩
theorem news_all {g h : Heap} {L : Addr} : News g L h (allNews g h L) := fun p hp => let ⟨a, b, c⟩ := of_mem_allNews hp; ⟨c, a, b⟩
theorem news_at {g h : Heap} {L d : Addr} {o : Obj} (h1 : d ≠ L) (h2 : g.get? d = none) (h3 : h.get? d = some o) : News g L h ((d, o) :: rest g h L d) := fun p hp => by
  rcases List.mem_cons.mp hp with rfl | hp
  · exact ⟨h3, h1, h2⟩
  · exact news_all p (List.mem_filter.mp hp).1
/-- behind a rule that changed d alone: all else but the frame is kept -/
theorem kept_of_news {g h h' : Heap} {L d : Addr} {m : Str → Option Value} (k : ∀ b o, g.get? b = some o → h.get? b = some o) (F : Fr g L h' m) (N : News g L h' (rest g h L d)) :
    ∀ b o, b ≠ L → b ≠ d → h.get? b = some o → h'.get? b = some o := fun b o h1 h2 e => by
  cases q : g.get? b with
  | some u =>
    have := k b u q
    rw [e] at this; cases this
    exact F.keep b _ q
  | none => exact (N (b, o) (mem_rest h1 q e h2)).1
end L2

namespace L2
open PySem PySem.Spec PyProof.Rows

/-- the module's facts, over the base: the heap at the law's entry without what is tracked there -/
structure Mod (K : PySem.W.Frag) (mg : Str → Option Value) (base : Heap) : Prop where
  kin : K.In base
  glob : base.Ns mainGlobals mg
  blt : ∃ mb, base.Ns builtinsNs mb ∧ ∀ x : Str, x ≠ "__name__" → mb x = bootBuiltins x
  nolimit : base.NoLimit

/-- the context: a def's body (or a comprehension's block) running. base: fixed through the whole law; s₀, H₀: the entry; outer: the frames whose slots others may change (a def's callers); stack: all frames that run;
   ex: iterators that were made ahead of the entry and are walked here (a comprehension's); fn: the names whose cells were made at the entry (a def: all; a comprehension's block: its own); calm: not within an except suite; pn: pins that every state bears; xe: what is wanted of an exception that leaves the code -/
structure Cx where
  prog : Program
  w : World
  K : PySem.W.Frag
  mg : Str → Option Value
  base : Heap
  A : Around
  N : List Str
  s₀ : Shared
  H₀ : Hp
  env : Env
  outer : List Env
  stack : List Env
  ex : List Addr
  fn : Str → Bool
  calm : Bool
  pn : List (Addr × Obj)
  xe : Value → Shared → Prop
/-- the callers' frames -/
def frs (l : List Env) : List Addr := l.filterMap (·.frame)
abbrev Cx.fs (X : Cx) : List Addr := frs X.outer

def Vis (sc : Scope) (x : Str) : Prop := sc.names.lookup x = some .local ∨ sc.names.lookup x = some .cell ∨ sc.names.lookup x = some .free
def Loc (sc : Scope) (x : Str) : Prop := sc.names.lookup x = some .local ∨ sc.names.lookup x = some .cell
def Look (env : Env) (h : Heap) (m : Str → Option Value) (x : Str) (u : Value) : Prop :=
  (env.kindOf x = some .local ∧ m x = some u) ∨ ((env.kindOf x = some .cell ∨ env.kindOf x = some .free) ∧ ∃ c, env.cells.lookup x = some c ∧ h.IsCell c (some u))

structure Cx.Ok (X : Cx) : Prop where
  mod : Mod X.K X.mg X.base
  kind : X.env.scope.kind = .function
  glob : X.env.globals = mainGlobals
  blt : X.env.builtins = builtinsNs
  above : X.s₀.heap.objs.size ≤ X.env.locals
  inj : ∀ x y c, X.env.cells.lookup x = some c → X.env.cells.lookup y = some c → x = y
  has : ∀ x, (X.env.kindOf x = some .cell ∨ X.env.kindOf x = some .free) → ∃ c, X.env.cells.lookup x = some c
  cab : ∀ x c, X.fn x = true → X.env.cells.lookup x = some c → X.s₀.heap.objs.size ≤ c
  hd : X.calm = true → X.A.handled = none
  frames : X.A.frames = some X.stack
  stk : X.stack = X.outer ∨ (X.stack = X.env :: X.outer ∧ X.env.frame = some X.env.locals)
  exf : ∀ b ∈ X.ex, b ≠ X.env.locals ∧ ∀ x c, X.env.cells.lookup x = some c → c ≠ b
  bs : ∀ b o, X.base.get? b = some o → X.s₀.heap.get? b = some o ∧ X.H₀ b = none
  bsz : X.base.objs.size ≤ X.s₀.heap.objs.size
  noex : ∀ b o, X.base.get? b = some o → b ∉ X.ex
  exfs : ∀ b ∈ X.ex, b ∉ X.fs
  funs : X.s₀.heap.FunFrames X.base X.outer
  frf : ∀ b ∈ X.fs, X.H₀ b = none

structure Inv (X : Cx) (pins : List (Addr × Obj)) (σ : List (Option V)) (H : Hp) (s : Shared) : Prop where
  ok : X.Ok
  os : s.os = X.s₀.os
  bare : AllBare s.gens
  base : Un X.fs X.ex X.H₀ H X.s₀.heap s.heap
  loc : ∃ m, s.heap.Ns X.env.locals m ∧ ∀ (i : Nat) (x : Str) (v : V), X.N[i]? = some x → σ[i]? = some (some v) → Vis X.env.scope x → ∃ u, RelV v u ∧ Look X.env s.heap m x u
  cell : ∀ x c, X.env.cells.lookup x = some c → ∃ v, s.heap.IsCell c v
  free : H X.env.locals = none
  freeC : ∀ x c, X.env.cells.lookup x = some c → H c = none
  pin : ∀ p ∈ X.pn ++ pins, s.heap.get? p.1 = some p.2 ∧ H p.1 = none ∧ p.1 ≠ X.env.locals ∧ p.1 ∉ X.fs ∧ ∀ v, p.2.data ≠ .cell v
  hok : HOk X.prog X.w H s.heap
  len : σ.length = X.N.length

section
variable {X : Cx} {pins : List (Addr × Obj)} {σ : List (Option V)} {H H' : Hp} {s : Shared} {h' : Heap}

theorem Cx.Ok.nofr (ok : X.Ok) {b : Addr} {o : Obj} (e : X.base.get? b = some o) : b ∉ X.fs := fun hb => by
  have := (ok.funs.mem hb).1
  rw [e] at this; cases this
theorem Inv.bs (I : Inv X pins σ H s) : ∀ b o, X.base.get? b = some o → s.heap.get? b = some o ∧ H b = none := fun b o e =>
  ⟨I.base.keep b o (I.ok.bs b o e).1 (I.ok.bs b o e).2 (I.ok.nofr e) (I.ok.noex b o e), I.base.free b o (I.ok.bs b o e).1 (I.ok.bs b o e).2 (I.ok.noex b o e)⟩
theorem Inv.bk (I : Inv X pins σ H s) : ∀ b o, X.base.get? b = some o → s.heap.get? b = some o := fun b o e => (I.bs b o e).1
theorem Inv.mod (I : Inv X pins σ H s) : Mod X.K X.mg X.base := I.ok.mod
theorem Inv.kIn (I : Inv X pins σ H s) : X.K.In s.heap := I.ok.mod.kin.keeps I.bk
theorem Inv.nolimit (I : Inv X pins σ H s) : s.heap.NoLimit := I.ok.mod.nolimit.keeps I.bk
/-- the frame over the base: for OpenK's rules (K.In X.base is I.mod.kin) -/
theorem Inv.fr (I : Inv X pins σ H s) : ∃ m, Fr X.base X.env.locals s.heap m :=
  let ⟨m, hn, _⟩ := I.loc
  ⟨m, hn, I.bk, Nat.le_trans I.ok.bsz I.ok.above⟩
theorem Inv.lt (I : Inv X pins σ H s) : X.env.locals < s.heap.objs.size := let ⟨_, hn, _⟩ := I.loc; hn.lt
theorem Inv.sz (I : Inv X pins σ H s) : X.s₀.heap.objs.size ≤ s.heap.objs.size := Nat.le_trans I.ok.above (Nat.le_of_lt I.lt)
theorem Inv.nofs (I : Inv X pins σ H s) {a : Addr} (h : s.heap.objs.size ≤ a) : a ∉ X.fs := fun hb => by
  obtain ⟨_, o, ho, _⟩ := I.ok.funs.mem hb
  exact absurd (Nat.lt_of_lt_of_le (Heap.lt_size ho) (Nat.le_trans I.sz h)) (Nat.lt_irrefl _)
theorem Inv.cne (I : Inv X pins σ H s) : ∀ x c, X.env.cells.lookup x = some c → c ≠ X.env.locals := fun x c e z => by
  obtain ⟨v, o, ho, hd⟩ := I.cell x c e
  obtain ⟨m, ⟨o', es, ep, ho', hd', _⟩, _⟩ := I.loc
  rw [z, ho'] at ho; cases ho; rw [hd'] at hd; cases hd
theorem Inv.funs (I : Inv X pins σ H s) : s.heap.FunFrames X.base X.outer := by
  have all : ∀ (l : List Env), (∀ b ∈ frs l, b ∈ X.fs) → X.s₀.heap.FunFrames X.base l → s.heap.FunFrames X.base l := by
    intro l
    induction l with
    | nil => intro _ _; trivial
    | cons env r ih =>
      intro hs hl
      obtain ⟨hk, ⟨L, o, hf, hn, ho, hd⟩, hr⟩ := hl
      have hL : L ∈ X.fs := hs L (by unfold frs; rw [List.filterMap_cons, hf]; exact List.mem_cons_self)
      obtain ⟨sl, e⟩ := I.base.slot L o ho (I.ok.frf L hL) hL fun z => I.ok.exfs L z hL
      exact ⟨hk, ⟨L, _, hf, hn, e, hd⟩, ih (fun b hb => hs b (by unfold frs; rw [List.filterMap_cons, hf]; exact List.mem_cons_of_mem _ hb)) hr⟩
  exact all X.outer (fun _ hb => hb) I.ok.funs

/-- the frames that run, for a call -/
theorem Inv.stack (I : Inv X pins σ H s) : s.heap.FunFrames X.base X.stack := by
  rcases I.ok.stk with e | ⟨e, hf⟩
  · rw [e]; exact I.funs
  · rw [e]
    obtain ⟨m, hn, _⟩ := I.loc
    refine .cons (by rw [I.ok.kind]; decide) hf hn ?_ I.funs
    exact Heap.get?_none_of_le (Nat.le_trans I.ok.bsz I.ok.above)
theorem Inv.stkSub (I : Inv X pins σ H s) : ∀ b ∈ frs X.stack, b ∈ X.env.locals :: X.fs := fun b hb => by
  rcases I.ok.stk with e | ⟨e, hf⟩
  · rw [e] at hb; exact List.mem_cons_of_mem _ hb
  · rw [e] at hb
    unfold frs at hb
    rw [List.filterMap_cons, hf] at hb
    exact hb
theorem Inv.stkFree (I : Inv X pins σ H s) : ∀ b ∈ frs X.stack, H b = none := fun b hb => by
  rcases List.mem_cons.mp (I.stkSub b hb) with e | hb
  · rw [e]; exact I.free
  · obtain ⟨_, o, ho, _⟩ := I.ok.funs.mem hb
    exact I.base.free b o ho (I.ok.frf b hb) fun z => I.ok.exfs b z hb

/-- THE STEP: the untracked objects but the frame and the records at ch are kept (the callers' frames up to slots), the frame's map is kept, the new abstract heap is held -/
theorem Inv.step {g' : Array GenState} {t' : Nat} {d' : Drawn} {ch : List Addr} (I : Inv X pins σ H s)
    (hch : ∀ b ∈ ch, (b ∈ X.ex ∨ X.s₀.heap.objs.size ≤ b) ∧ b ≠ X.env.locals ∧ (∀ x c, X.env.cells.lookup x = some c → c ≠ b) ∧ ∀ p ∈ X.pn ++ pins, p.1 ≠ b)
    (keep : ∀ b o, b ≠ X.env.locals → b ∉ X.fs → b ∉ ch → s.heap.get? b = some o → H b = none → h'.get? b = some o)
    (slot : ∀ b o, b ≠ X.env.locals → b ∈ X.fs → b ∉ ch → s.heap.get? b = some o → H b = none → ∃ sl, h'.get? b = some { o with slots := sl }) (free : ∀ b o, b ∉ ch → s.heap.get? b = some o → H b = none → H' b = none)
    (there : ∀ b o, b ∉ ch → s.heap.get? b = some o → ∃ o', h'.get? b = some o')
    (tups : ∀ b xs, H b = some (.tup xs) → H' b = some (.tup xs)) (frzs : ∀ b o u, H b = some (.frz o u) → H' b = some (.frz o u)) (tbls : ∀ b ps, H b = some (.tbl ps) → ∃ more, H' b = some (.tbl (ps ++ more)))
    (ns : ∀ m, s.heap.Ns X.env.locals m → h'.Ns X.env.locals m) (hok : HOk X.prog X.w H' h') (hg : AllBare g') :
    Inv X pins σ H' { s with heap := h', gens := g', drawn := d', toks := t' } := by
  have neL : ∀ b o, X.s₀.heap.get? b = some o → b ≠ X.env.locals := fun b o e => Nat.ne_of_lt (Nat.lt_of_lt_of_le (Heap.lt_size e) I.ok.above)
  have neC : ∀ b o, X.s₀.heap.get? b = some o → b ∉ X.ex → b ∉ ch := fun b o e hx hb => by
    rcases (hch b hb).1 with z | z
    · exact hx z
    · exact absurd (Nat.lt_of_lt_of_le (Heap.lt_size e) z) (Nat.lt_irrefl _)
  have cellK : ∀ x c, X.env.cells.lookup x = some c → ∀ v, s.heap.IsCell c v → h'.IsCell c v := fun x c e v ⟨o, ho, hd⟩ => by
    have nch : c ∉ ch := fun z => (hch c z).2.2.1 x c e rfl
    by_cases hc : c ∈ X.fs
    · obtain ⟨sl, q⟩ := slot c o (I.cne x c e) hc nch ho (I.freeC x c e)
      exact ⟨_, q, hd⟩
    · exact ⟨o, keep c o (I.cne x c e) hc nch ho (I.freeC x c e), hd⟩
  refine ⟨I.ok, I.os, hg, ⟨fun b o e n hb hx => ?_, fun b o e n hb hx => ?_, fun b o e n hx => ?_, fun b o e hx => ?_, fun b xs e => tups b xs (I.base.tups b xs e), fun b o xs e => frzs b o xs (I.base.frzs b o xs e), fun b ps e => ?_⟩, ?_, fun x c e => ?_, ?_, fun x c e => ?_, fun p hp => ?_, hok, I.len⟩
  · exact keep b o (neL b o e) hb (neC b o e hx) (I.base.keep b o e n hb hx) (I.base.free b o e n hx)
  · obtain ⟨sl, e1⟩ := I.base.slot b o e n hb hx
    obtain ⟨sl', e2⟩ := slot b _ (neL b o e) hb (neC b o e hx) e1 (I.base.free b o e n hx)
    exact ⟨sl', e2⟩
  · obtain ⟨o', e1⟩ := I.base.there b o e hx
    exact free b o' (neC b o e hx) e1 (I.base.free b o e n hx)
  · obtain ⟨o', e1⟩ := I.base.there b o e hx
    exact there b o' (neC b o e hx) e1
  · obtain ⟨m1, e1⟩ := I.base.tbls b ps e
    obtain ⟨m2, e2⟩ := tbls b _ e1
    exact ⟨m1 ++ m2, by rw [e2, Array.append_assoc]⟩
  · obtain ⟨m, hn, hl⟩ := I.loc
    refine ⟨m, ns m hn, fun i x v e1 e2 e3 => ?_⟩
    obtain ⟨u, r, l⟩ := hl i x v e1 e2 e3
    refine ⟨u, r, ?_⟩
    rcases l with l | ⟨k, c, e, z⟩
    · exact .inl l
    · exact .inr ⟨k, c, e, cellK x c e _ z⟩
  · obtain ⟨v, z⟩ := I.cell x c e
    exact ⟨v, cellK x c e v z⟩
  · obtain ⟨m, ⟨o, _, _, ho, _⟩, _⟩ := I.loc
    exact free _ o (fun z => (hch _ z).2.1 rfl) ho I.free
  · obtain ⟨v, o, ho, hd⟩ := I.cell x c e
    exact free c o (fun z => (hch c z).2.2.1 x c e rfl) ho (I.freeC x c e)
  · obtain ⟨e, n, ne, nf, d⟩ := I.pin p hp
    have nch : p.1 ∉ ch := fun z => (hch p.1 z).2.2.2 p hp rfl
    exact ⟨keep p.1 p.2 ne nf nch e n, free p.1 p.2 nch e n, ne, nf, d⟩
/-- .. where the frame's own object is kept too -/
theorem Inv.un {t' : Nat} (I : Inv X pins σ H s) (u : Un X.fs [] H H' s.heap h') (hok : HOk X.prog X.w H' h') : Inv X pins σ H' { s with heap := h', toks := t' } := by
  obtain ⟨m, ⟨o, es, ep, ho, r⟩, _⟩ := id I.loc
  obtain ⟨sl, hL⟩ := u.any ho I.free (by simp)
  exact I.step (g' := s.gens) (d' := s.drawn) (ch := []) (fun _ z => nomatch z) (fun b o _ hb _ e n => u.keep b o e n hb (by simp)) (fun b o _ hb _ e n => u.slot b o e n hb (by simp)) (fun b o _ e n => u.free b o e n (by simp)) (fun b o _ e => u.there b o e (by simp)) u.tups u.frzs u.tbls (fun m' hm => by
    obtain ⟨o', es', ep', ho', r'⟩ := hm
    rw [ho] at ho'; cases ho'
    exact ⟨_, es', ep', hL, r'⟩) hok I.bare
/-- behind a call (or a comprehension's block): the slots of this frame may have changed too, the records at ch may have turned -/
theorem Inv.call {g' : Array GenState} {t' : Nat} {d' : Drawn} {ch : List Addr} (I : Inv X pins σ H s) (u : Un (frs X.stack) ch H H' s.heap h') (hok : HOk X.prog X.w H' h') (hg : AllBare g')
    (hch : ∀ b ∈ ch, (b ∈ X.ex ∨ X.s₀.heap.objs.size ≤ b) ∧ b ≠ X.env.locals ∧ (∀ x c, X.env.cells.lookup x = some c → c ≠ b) ∧ ∀ p ∈ X.pn ++ pins, p.1 ≠ b) :
    Inv X pins σ H' { s with heap := h', gens := g', drawn := d', toks := t' } := by
  obtain ⟨m, ⟨o, es, ep, ho, r⟩, _⟩ := id I.loc
  obtain ⟨sl, hL⟩ := u.any ho I.free fun z => (hch _ z).2.1 rfl
  exact I.step (ch := ch) hch (fun b o hL hb hc e n => u.keep b o e n (fun z => (List.mem_cons.mp (I.stkSub b z)).elim hL hb) hc) (fun b o _ _ hc e n => u.any e n hc) (fun b o hc e n => u.free b o e n hc) (fun b o hc e => u.there b o e hc) u.tups u.frzs u.tbls (fun m' hm => by
    obtain ⟨o', es', ep', ho', r'⟩ := hm
    rw [ho] at ho'; cases ho'
    exact ⟨_, es', ep', hL, r'⟩) hok hg
/-- an untracked record of ours (an iterator) has turned -/
theorem Inv.turned {t' : Nat} {it : Addr} (I : Inv X pins σ H s) (k : ∀ b o, b ≠ it → s.heap.get? b = some o → h'.get? b = some o) (hn : H it = none) (hL : it ≠ X.env.locals)
    (h1 : it ∈ X.ex ∨ X.s₀.heap.objs.size ≤ it) (h2 : ∀ x c, X.env.cells.lookup x = some c → c ≠ it) (h3 : ∀ p ∈ X.pn ++ pins, p.1 ≠ it) : Inv X pins σ H { s with heap := h', toks := t' } := by
  have nit : ∀ b u, H b = some u → b ≠ it := fun b u e z => by rw [z, hn] at e; cases e
  refine I.step (g' := s.gens) (d' := s.drawn) (ch := [it]) (fun b hb => ?_) (fun b o _ _ hc e _ => k b o (fun z => hc (by simp [z])) e) (fun b o _ _ hc e _ => ⟨o.slots, k b o (fun z => hc (by simp [z])) e⟩) (fun _ _ _ _ n => n)
    (fun b o hc e => ⟨o, k b o (fun z => hc (by simp [z])) e⟩) (fun _ _ e => e) (fun _ _ _ e => e) (fun b ps e => ⟨#[], by rw [e]; simp⟩) (fun m hm => ?_) (fun b u e => ?_) I.bare
  · have e : b = it := by simpa using hb
    subst e
    exact ⟨h1, hL, h2, h3⟩
  · obtain ⟨o, es, ep, ho, r⟩ := hm
    exact ⟨o, es, ep, k _ o (Ne.symm hL) ho, r⟩
  · refine (I.hok b u e).stay (fun c v hc q => k c v ?_ q) (fun _ q => q) fun _ _ q => q
    rcases hc with z | z
    · rw [z]; exact nit b u e
    · exact nit c _ z
theorem Inv.tok (I : Inv X pins σ H s) (t : Nat) : Inv X pins σ H { s with toks := t } := I.un (h' := s.heap) (t' := t) Un.refl I.hok
/-- all objects kept -/
theorem Inv.kept {t' : Nat} (I : Inv X pins σ H s) (k : ∀ b u, s.heap.get? b = some u → h'.get? b = some u) : Inv X pins σ H { s with heap := h', toks := t' } := I.un (Un.kept k) (I.hok.kept k)
/-- a new object laid and tracked -/
theorem Inv.laid {a : Addr} {o : HO} {t' : Nat} (I : Inv X pins σ H s) (k : ∀ b u, s.heap.get? b = some u → h'.get? b = some u) (hp : s.heap.objs.size ≤ a) (new : ObjOk X.prog X.w (upd H a o) h' a o) :
    Inv X pins σ (upd H a o) { s with heap := h', toks := t' } := I.un (Un.laid k hp (I.hok.fresh hp)) (I.hok.laid k hp new)
/-- an object written -/
theorem Inv.write {x e : Addr} {o : HO} {t' : Nat} (I : Inv X pins σ H s) (mu : Mut (H x)) (he : e = x ∨ H e = some (.own x)) (k : ∀ b u, b ≠ e → s.heap.get? b = some u → h'.get? b = some u) (heo : ∃ u, h'.get? e = some u)
    (new : ObjOk X.prog X.w (upd H x o) h' x o) : Inv X pins σ (upd H x o) { s with heap := h', toks := t' } := I.un (Un.write mu he k heo) (I.hok.write mu he k heo new)
/-- forgetting slots, pins -/
theorem Inv.weak {σ' : List (Option V)} (I : Inv X pins σ H s) (hl : σ'.length = σ.length) (w : ∀ (i : Nat) v, σ'[i]? = some (some v) → σ[i]? = some (some v)) : Inv X pins σ' H s :=
  ⟨I.ok, I.os, I.bare, I.base, let ⟨m, hn, hl'⟩ := I.loc; ⟨m, hn, fun i x v e1 e2 e3 => hl' i x v e1 (w i v e2) e3⟩, I.cell, I.free, I.freeC, I.pin, I.hok, hl.trans I.len⟩
theorem Inv.pins_of {pins' : List (Addr × Obj)} (I : Inv X pins σ H s) (h : ∀ p ∈ pins', s.heap.get? p.1 = some p.2 ∧ H p.1 = none ∧ p.1 ≠ X.env.locals ∧ p.1 ∉ X.fs ∧ ∀ v, p.2.data ≠ .cell v) : Inv X pins' σ H s :=
  ⟨I.ok, I.os, I.bare, I.base, I.loc, I.cell, I.free, I.freeC, fun p hp => (List.mem_append.mp hp).elim (fun z => I.pin p (List.mem_append_left _ z)) (h p), I.hok, I.len⟩

theorem nodup_ix {N : List Str} (hN : N.Nodup) {i j : Nat} {x : Str} (a : N[i]? = some x) (b : N[j]? = some x) : i = j := by
  obtain ⟨h1, e1⟩ := List.getElem?_eq_some_iff.mp a
  obtain ⟨h2, e2⟩ := List.getElem?_eq_some_iff.mp b
  exact (List.getElem_inj hN).mp (e1.trans e2.symm)

/-- a name is stored; what changed -/
theorem store_ok2 {M : Model} {A : Around} {E : Value → Shared → Prop} {i : Nat} {x : Str} {v : V} {u : Value} {Q : Unit → Shared → Prop} (I : Inv X pins σ H s) (hN : X.N.Nodup) (hi : X.N[i]? = some x) (hx : Loc X.env.scope x) (r : RelV v u)
    (h : ∀ s', Inv X pins (σ.set i (some v)) H s' → (∃ a, Heap.SameBut a s.heap s'.heap ∧ (a = X.env.locals ∨ X.env.cells.lookup x = some a)) → Q () s') (hf : X.fn x = true ∨ X.env.scope.names.lookup x = some .local := by first | exact .inl rfl | exact .inr rfl | assumption) : wpAny M A (storeName X.env x u) Q E s := by
  obtain ⟨m, hn, hl⟩ := id I.loc
  have hcls : (X.env.scope.kind == .class || (X.env.scope.kind == .module && X.env.locals != X.env.globals)) = false := by rw [I.ok.kind]; rfl
  have hiσ : i < σ.length := by rw [I.len]; exact (List.getElem?_eq_some_iff.mp hi).1
  have cne := I.cne
  have tracked : ∀ {a : Addr} {h' : Heap}, (∃ o, s.heap.get? a = some o ∧ H a = none) → Heap.SameBut a s.heap h' → HOk X.prog X.w H h' := fun {a h'} ha hs b ob e => by
    obtain ⟨_, _, hfree⟩ := ha
    refine (I.hok b ob e).stay (fun c w' hc q => (hs.2 c ?_).trans q) (fun _ q => q) fun _ _ q => q
    rintro rfl
    rcases hc with rfl | hc
    · rw [hfree] at e; cases e
    · rw [hfree] at hc; cases hc
  rcases hx with hk | hk
  · refine wpAny_storeName_local hk hn (fun h' hn' hs => ?_) hcls
    obtain ⟨oL, _, _, hoL, _⟩ := id hn
    refine h _ ⟨I.ok, I.os, I.bare, ⟨fun b o e n hb hx => ?_, fun b o e n hb hx => ?_, I.base.free, fun b o e hx => ?_, I.base.tups, I.base.frzs, I.base.tbls⟩, ⟨_, hn', fun j y v' e1 e2 e3 => ?_⟩, fun y c e => ?_, I.free, I.freeC, fun p hp => ?_, tracked ⟨oL, hoL, I.free⟩ hs, by simpa using I.len⟩ ⟨_, hs, .inl rfl⟩
    · exact (hs.2 b (Nat.ne_of_lt (Nat.lt_of_lt_of_le (Heap.lt_size e) I.ok.above))).trans (I.base.keep b o e n hb hx)
    · obtain ⟨sl, e1⟩ := I.base.slot b o e n hb hx
      exact ⟨sl, (hs.2 b (Nat.ne_of_lt (Nat.lt_of_lt_of_le (Heap.lt_size e) I.ok.above))).trans e1⟩
    · obtain ⟨o', e1⟩ := I.base.there b o e hx
      exact ⟨o', (hs.2 b (Nat.ne_of_lt (Nat.lt_of_lt_of_le (Heap.lt_size e) I.ok.above))).trans e1⟩
    · by_cases hj : j = i
      · subst hj
        rw [hi] at e1; cases e1
        rw [List.getElem?_set_self hiσ] at e2
        cases e2
        exact ⟨u, r, .inl ⟨hk, by simp⟩⟩
      · rw [List.getElem?_set_ne (Ne.symm hj)] at e2
        obtain ⟨u', r', q⟩ := hl j y v' e1 e2 e3
        refine ⟨u', r', ?_⟩
        rcases q with ⟨k, e⟩ | ⟨k, c, e, z⟩
        · refine .inl ⟨k, ?_⟩
          have : y ≠ x := fun e => hj (nodup_ix hN e1 (e ▸ hi))
          simp [this, e]
        · exact .inr ⟨k, c, e, z.sameBut hs (cne y c e)⟩
    · obtain ⟨w', z⟩ := I.cell y c e
      exact ⟨w', z.sameBut hs (cne y c e)⟩
    · obtain ⟨e, n, ne, nf, d⟩ := I.pin p hp
      exact ⟨(hs.2 p.1 ne).trans e, n, ne, nf, d⟩
  · have hfn : X.fn x = true := by
      rcases hf with z | z
      · exact z
      · rw [z] at hk; cases hk
    obtain ⟨c, hc⟩ := I.ok.has x (.inl hk)
    obtain ⟨w', z⟩ := I.cell x c hc
    refine wpAny_storeName_cell I.ok.kind hk hc z (fun h' hc' hs => ?_)
    obtain ⟨oc, hoc, hocd⟩ := id z
    refine h { s with heap := h' } ⟨I.ok, I.os, I.bare, ⟨fun b o e n hb hx => ?_, fun b o e n hb hx => ?_, I.base.free, fun b o e hx => ?_, I.base.tups, I.base.frzs, I.base.tbls⟩, ⟨m, hn.sameBut hs (Ne.symm (cne x c hc)), fun j y v' e1 e2 e3 => ?_⟩, fun y c' e => ?_, I.free, I.freeC, fun p hp => ?_, tracked ⟨oc, hoc, I.freeC x c hc⟩ hs, by simpa using I.len⟩ ⟨c, hs, .inr hc⟩
    · exact (hs.2 b (Nat.ne_of_lt (Nat.lt_of_lt_of_le (Heap.lt_size e) (I.ok.cab x c hfn hc)))).trans (I.base.keep b o e n hb hx)
    · obtain ⟨sl, e1⟩ := I.base.slot b o e n hb hx
      exact ⟨sl, (hs.2 b (Nat.ne_of_lt (Nat.lt_of_lt_of_le (Heap.lt_size e) (I.ok.cab x c hfn hc)))).trans e1⟩
    · obtain ⟨o', e1⟩ := I.base.there b o e hx
      exact ⟨o', (hs.2 b (Nat.ne_of_lt (Nat.lt_of_lt_of_le (Heap.lt_size e) (I.ok.cab x c hfn hc)))).trans e1⟩
    · by_cases hj : j = i
      · subst hj
        rw [hi] at e1; cases e1
        rw [List.getElem?_set_self hiσ] at e2
        cases e2
        exact ⟨u, r, .inr ⟨.inl hk, c, hc, hc'⟩⟩
      · rw [List.getElem?_set_ne (Ne.symm hj)] at e2
        obtain ⟨u', r', q⟩ := hl j y v' e1 e2 e3
        refine ⟨u', r', ?_⟩
        rcases q with q | ⟨k, c', e, z'⟩
        · exact .inl q
        · refine .inr ⟨k, c', e, z'.sameBut hs ?_⟩
          rintro rfl
          exact hj (nodup_ix hN e1 (I.ok.inj _ _ _ e hc ▸ hi))
    · by_cases hcc : c' = c
      · subst hcc; exact ⟨_, hc'⟩
      · obtain ⟨w2, z2⟩ := I.cell y c' e
        exact ⟨w2, z2.sameBut hs hcc⟩
    · obtain ⟨e, n, ne, nf, d⟩ := I.pin p hp
      refine ⟨(hs.2 p.1 ?_).trans e, n, ne, nf, d⟩
      intro q
      rw [q, hoc] at e
      have q' : oc = p.2 := Option.some.inj e
      exact d w' (by rw [← q']; exact hocd)
theorem store_ok {M : Model} {A : Around} {E : Value → Shared → Prop} {i : Nat} {x : Str} {v : V} {u : Value} {Q : Unit → Shared → Prop} (I : Inv X pins σ H s) (hN : X.N.Nodup) (hi : X.N[i]? = some x) (hx : Loc X.env.scope x) (r : RelV v u)
    (h : ∀ s', Inv X pins (σ.set i (some v)) H s' → Q () s') (hf : X.fn x = true ∨ X.env.scope.names.lookup x = some .local := by first | exact .inl rfl | exact .inr rfl | assumption) : wpAny M A (storeName X.env x u) Q E s :=
  store_ok2 I hN hi hx r (fun s' I' _ => h s' I') hf
/-- behind a call or a block, the state as it is -/
theorem Inv.call' {s' : Shared} {ch : List Addr} (I : Inv X pins σ H s) (ho : s'.os = s.os) (u : Un (frs X.stack) ch H H' s.heap s'.heap) (hok : HOk X.prog X.w H' s'.heap) (hg : AllBare s'.gens)
    (hch : ∀ b ∈ ch, (b ∈ X.ex ∨ X.s₀.heap.objs.size ≤ b) ∧ b ≠ X.env.locals ∧ (∀ x c, X.env.cells.lookup x = some c → c ≠ b) ∧ ∀ p ∈ X.pn ++ pins, p.1 ≠ b) : Inv X pins σ H' s' := by
  obtain ⟨h', g', d', t', o'⟩ := s'
  have e : o' = s.os := ho
  subst e
  exact I.call (g' := g') (t' := t') (d' := d') u hok hg hch
end

/-! ### the judgements -/
/-- an exception: its class, its own dict's address (where it has one), the abstract heap behind it -/
abbrev XK := Value → Option Addr → Hp → Prop
abbrev St := List (Option V)
abbrev VK := V → Hp → Prop
/-- an expression's reading; a test's; an argument list's -/
abbrev TE := St → Hp → VK → Prop
abbrev TT := St → Hp → (Bool → Hp → Prop) → Prop
abbrev TA := St → Hp → (List V → Hp → Prop) → Prop
/-- what is wanted behind a statement -/
structure Ends where
  nx : St → Hp → Prop
  rt : VK
  bk : St → Hp → Prop := fun _ _ => False
  ct : St → Hp → Prop := fun _ _ => False
abbrev TS := Ends → St → Hp → Prop

def EP (X : Cx) (pins : List (Addr × Obj)) (σ : St) (Q : VK) (u : Value) (s' : Shared) : Prop := ∃ v H', Inv X pins σ H' s' ∧ RelV v u ∧ Q v H'
def TP (X : Cx) (pins : List (Addr × Obj)) (σ : St) (Q : Bool → Hp → Prop) (b : Bool) (s' : Shared) : Prop := ∃ H', Inv X pins σ H' s' ∧ Q b H'
def AP (X : Cx) (pins : List (Addr × Obj)) (σ : St) (Q : List V → Hp → Prop) (us : List Value) (s' : Shared) : Prop := ∃ vs H', Inv X pins σ H' s' ∧ Vals vs us ∧ Q vs H'
def SP (X : Cx) (pins : List (Addr × Obj)) (D : Ends) (f : Flow) (s' : Shared) : Prop :=
  match f with
  | .next => ∃ σ' H', Inv X pins σ' H' s' ∧ D.nx σ' H'
  | .brk => ∃ σ' H', Inv X pins σ' H' s' ∧ D.bk σ' H'
  | .cont => ∃ σ' H', Inv X pins σ' H' s' ∧ D.ct σ' H'
  | .ret u => ∃ v σ' H', Inv X pins σ' H' s' ∧ RelV v u ∧ D.rt v H'

def PE (X : Cx) (e : Expr) (t : TE) : Prop :=
  ∀ (pins : List (Addr × Obj)) (s : Shared) (σ : St) (H : Hp) (Q : VK), Inv X pins σ H s → t σ H Q → wpAny (model X.prog X.w) X.A (eval e X.env) (EP X pins σ Q) X.xe s
def PT (X : Cx) (e : Expr) (t : TT) : Prop :=
  ∀ (pins : List (Addr × Obj)) (s : Shared) (σ : St) (H : Hp) (Q : Bool → Hp → Prop), Inv X pins σ H s → t σ H Q → wpAny (model X.prog X.w) X.A (isTrue e X.env (eval e X.env)) (TP X pins σ Q) X.xe s
/-- a test whatever its 'whole' is (and, or) -/
def PW (X : Cx) (e : Expr) (t : TT) : Prop :=
  ∀ (whole : Sem Value) (pins : List (Addr × Obj)) (s : Shared) (σ : St) (H : Hp) (Q : Bool → Hp → Prop), Inv X pins σ H s → t σ H Q → wpAny (model X.prog X.w) X.A (isTrue e X.env whole) (TP X pins σ Q) X.xe s
theorem PW.pt {X : Cx} {e : Expr} {t : TT} (h : PW X e t) : PT X e t := h _
/-- an argument list (no star), from the left -/
def PA (X : Cx) (es : List Expr) (t : TA) : Prop :=
  ∀ (pos : Pos) (pins : List (Addr × Obj)) (s : Shared) (σ : St) (H : Hp) (Q : List V → Hp → Prop), Inv X pins σ H s → t σ H Q → wpAny (model X.prog X.w) X.A (spliced (backTo pos (starEach es X.env))) (AP X pins σ Q) X.xe s
def PS (X : Cx) (st : Stmt) (t : TS) : Prop :=
  ∀ (pins : List (Addr × Obj)) (s : Shared) (σ : St) (H : Hp) (D : Ends), Inv X pins σ H s → t D σ H → wpAny (model X.prog X.w) X.A (exec st X.env) (SP X pins D) X.xe s
def PSs (X : Cx) (st : List Stmt) (t : TS) : Prop :=
  ∀ (pins : List (Addr × Obj)) (s : Shared) (σ : St) (H : Hp) (D : Ends), Inv X pins σ H s → t D σ H → wpAny (model X.prog X.w) X.A (execs st X.env) (SP X pins D) X.xe s
/-- weaken the end -/
theorem thn {α : Type} {t : Sem α} {Q Q' : α → Shared → Prop} {M : Model} {A : Around} {E : Value → Shared → Prop} {s : Shared} (h : wpAny M A t Q E s) (hQ : ∀ a s, Q a s → Q' a s) : wpAny M A t Q' E s := wpAny_mono h hQ fun _ _ x => x
end L2

namespace L2
open PySem PySem.Spec PyProof.Rows
section
variable {X : Cx}

/-- two expressions in a row -/
theorem bin {a b : Expr} {ta tb : TE} (ha : PE X a ta) (hb : PE X b tb) {pins : List (Addr × Obj)} {s : Shared} {σ : St} {H : Hp} {R : V → V → Hp → Prop} (I : Inv X pins σ H s) (h : ta σ H fun x H1 => tb σ H1 fun y H2 => R x y H2)
    {α : Type} {Q : α → Shared → Prop} {f : Value → Value → Sem α}
    (hf : ∀ v u s2 x y H2, Inv X pins σ H2 s2 → RelV x v → RelV y u → R x y H2 → wpAny (model X.prog X.w) X.A (f v u) Q X.xe s2) :
    wpAny (model X.prog X.w) X.A (eval a X.env) (fun v s₁ => wpAny (model X.prog X.w) X.A (eval b X.env) (fun u s₂ => wpAny (model X.prog X.w) X.A (f v u) Q X.xe s₂) X.xe s₁) X.xe s := by
  refine thn (ha pins s σ H _ I h) fun v s1 ⟨x, H1, I1, r1, q1⟩ => ?_
  refine thn (hb pins s1 σ H1 _ I1 q1) fun u s2 ⟨y, H2, I2, r2, q2⟩ => ?_
  exact hf v u s2 x y H2 I2 r1 r2 q2

/-! ### names and constants -/
def tVar (i : Nat) : TE := fun σ H Q => ∃ v, σ[i]? = some (some v) ∧ Q v H
def tC (v : V) : TE := fun _ H Q => Q v H
theorem pe_var {i : Nat} {x : Str} {pos : Pos} (hN : X.N[i]? = some x) (hv : Vis X.env.scope x) (hd : (x == ("__debug__" : Str)) = false := by decide) (hcd : (x == ("__classdict__" : Str)) = false := by decide) : PE X (.Name x pos) (tVar i) := by
  intro pins s σ H Q I h
  obtain ⟨v, e, h⟩ := h
  obtain ⟨m, hn, hl⟩ := I.loc
  obtain ⟨u, r, l⟩ := hl i x v hN e hv
  have fin : EP X pins σ Q u s := ⟨v, H, I, r, h⟩
  rcases l with ⟨hk, hm⟩ | ⟨hk, c, hc, hcell⟩
  · exact wpAny_Name (wpAny_loadName_local I.ok.kind hk hn hm fin) hd
  · rcases hk with hk | hk
    · exact wpAny_Name (wpAny_loadName_cell I.ok.kind hk hc hcell fin) hd
    · exact wpAny_Name (wpAny_loadName_free I.ok.kind hk hc hcell fin hcd) hd
theorem pe_int {i j pos} : PE X (.Constant (.int i) j pos) (tC (.int i)) := fun _ _ _ H _ I h => wpAny_Constant_int ⟨.int i, H, I.tok _, ⟨_, rfl⟩, h⟩
theorem pe_bl {b j pos} : PE X (.Constant (.bool b) j pos) (tC (.bl b)) := fun _ _ _ H _ I h => Constant_bool ⟨.bl b, H, I, rfl, h⟩
theorem pe_non {j pos} : PE X (.Constant .none j pos) (tC .non) := fun _ _ _ H _ I h => Constant_none ⟨.non, H, I, rfl, h⟩
theorem pe_str {x j pos} : PE X (.Constant (.str x) j pos) (tC (.str x)) := fun _ _ _ H _ I h => Calls.Constant_str ⟨.str x, H, I.tok _, ⟨_, rfl⟩, h⟩

/-- a global name of the def -/
def Gl (X : Cx) (x : Str) : Prop := X.env.kindOf x = some .globalImplicit
theorem ld_glob {E : Value → Shared → Prop} {pins : List (Addr × Obj)} {s : Shared} {σ : St} {H : Hp} {x : Str} {u : Value} {pos : Pos} {Q : Value → Shared → Prop} (I : Inv X pins σ H s) (hg : Gl X x) (hm : X.mg x = some u) (h : Q u s)
    (hd : (x == ("__debug__" : Str)) = false := by decide) : wpAny (model X.prog X.w) X.A (eval (.Name x pos) X.env) Q E s :=
  Calls.Name_function_global I.ok.kind hg (Calls.loadGlobal_global (by rw [I.ok.glob]; exact I.mod.glob.keeps I.bk) hm h) hd
theorem ld_blt {E : Value → Shared → Prop} {pins : List (Addr × Obj)} {s : Shared} {σ : St} {H : Hp} {x : Str} {u : Value} {pos : Pos} {Q : Value → Shared → Prop} (I : Inv X pins σ H s) (hg : Gl X x) (hm : X.mg x = none) (hv : bootBuiltins x = some u) (h : Q u s)
    (hn : x ≠ "__name__" := by decide) (hd : (x == ("__debug__" : Str)) = false := by decide) : wpAny (model X.prog X.w) X.A (eval (.Name x pos) X.env) Q E s := by
  obtain ⟨mb, h1, h2⟩ := I.mod.blt
  exact Calls.Name_function_global I.ok.kind hg (Calls.loadGlobal_builtin (by rw [I.ok.glob]; exact I.mod.glob.keeps I.bk) hm (by rw [I.ok.blt]; exact h1.keeps I.bk) ((h2 x hn).trans hv) h) hd
/-- a module's constant, a class, a function, as a value -/
theorem pe_glob {x : Str} {v : V} {u : Value} {pos : Pos} (hg : Gl X x) (hm : X.mg x = some u) (r : RelV v u) (hd : (x == ("__debug__" : Str)) = false := by decide) : PE X (.Name x pos) (tC v) :=
  fun _ _ _ H _ I h => ld_glob I hg hm ⟨v, H, I, r, h⟩ hd
theorem pe_bltn {x : Str} {v : V} {u : Value} {pos : Pos} (hg : Gl X x) (hm : X.mg x = none) (hv : bootBuiltins x = some u) (r : RelV v u) (hn : x ≠ "__name__" := by decide) (hd : (x == ("__debug__" : Str)) = false := by decide) : PE X (.Name x pos) (tC v) :=
  fun _ _ _ H _ I h => ld_blt I hg hm hv ⟨v, H, I, r, h⟩ hn hd

/-! ### arithmetic -/
/-- two ints -/
def t2I (ta tb : TE) (k : Int → Int → Hp → Prop) : St → Hp → Prop := fun σ H => ta σ H fun x H1 => tb σ H1 fun y H2 => ∃ i j, x = .int i ∧ y = .int j ∧ k i j H2
def tAdd (ta tb : TE) : TE := fun σ H Q => t2I ta tb (fun i j H2 => Q (.int (i + j)) H2) σ H
def tSub (ta tb : TE) : TE := fun σ H Q => t2I ta tb (fun i j H2 => Q (.int (i - j)) H2) σ H
/-- the left factor below 2^64 -/
def tMul (ta tb : TE) : TE := fun σ H Q => t2I ta tb (fun i j H2 => (-(2 ^ 64) < i ∧ i < 2 ^ 64) ∧ Q (.int (i * j)) H2) σ H
variable {a b : Expr} {ta tb : TE} {pos : Pos}
theorem pe_add (ha : PE X a ta) (hb : PE X b tb) : PE X (.BinOp a .Add b pos) (tAdd ta tb) := by
  intro pins s σ H Q I h
  refine wpAny_BinOp (bin ha hb I h fun v u s2 x y H2 I2 rx ry q => ?_)
  obtain ⟨i, j, rfl, rfl, q⟩ := q
  obtain ⟨t, rfl⟩ := rx
  obtain ⟨t', rfl⟩ := ry
  exact add_int ⟨.int _, H2, I2.tok _, ⟨_, rfl⟩, q⟩
theorem pe_sub (ha : PE X a ta) (hb : PE X b tb) : PE X (.BinOp a .Sub b pos) (tSub ta tb) := by
  intro pins s σ H Q I h
  refine wpAny_BinOp (bin ha hb I h fun v u s2 x y H2 I2 rx ry q => ?_)
  obtain ⟨i, j, rfl, rfl, q⟩ := q
  obtain ⟨t, rfl⟩ := rx
  obtain ⟨t', rfl⟩ := ry
  exact sub_int ⟨.int _, H2, I2.tok _, ⟨_, rfl⟩, q⟩
theorem pe_mul (ha : PE X a ta) (hb : PE X b tb) : PE X (.BinOp a .Mult b pos) (tMul ta tb) := by
  intro pins s σ H Q I h
  refine wpAny_BinOp (bin ha hb I h fun v u s2 x y H2 I2 rx ry q => ?_)
  obtain ⟨i, j, rfl, rfl, ⟨q1, q2⟩, q⟩ := q
  obtain ⟨t, rfl⟩ := rx
  obtain ⟨t', rfl⟩ := ry
  exact mul_int ⟨.int _, H2, I2.tok _, ⟨_, rfl⟩, q⟩ (.of_left (intBits_le_64 q1 q2))

/-! ### comparisons -/
def PC (X : Cx) (op : CmpOp) (a b : Expr) (t : TE) : Prop :=
  ∀ (pins : List (Addr × Obj)) (s : Shared) (σ : St) (H : Hp) (Q : VK), Inv X pins σ H s → t σ H Q →
    wpAny (model X.prog X.w) X.A (eval a X.env) (fun v s₁ => wpAny (model X.prog X.w) X.A (eval b X.env) (fun u s₂ => wpAny (model X.prog X.w) X.A (compareOp op v u) (EP X pins σ Q) X.xe s₂) X.xe s₁) X.xe s
theorem nobehind (b : Expr) {op : CmpOp} (h : op ≠ .In) (h2 : op ≠ .NotIn) : behindInMarks op b = false := by
  have e1 : (op == CmpOp.In) = false := by cases op <;> first | rfl | exact absurd rfl h
  have e2 : (op == CmpOp.NotIn) = false := by cases op <;> first | rfl | exact absurd rfl h2
  cases b <;> simp [behindInMarks, e1, e2]
def tCmp (p : Int → Int → Bool) (ta tb : TE) : TE := fun σ H Q => t2I ta tb (fun i j H2 => Q (.bl (p i j)) H2) σ H
abbrev tLt : TE → TE → TE := tCmp fun i j => decide (i < j)
abbrev tLe : TE → TE → TE := tCmp fun i j => decide (i ≤ j)
abbrev tGt : TE → TE → TE := tCmp fun i j => decide (j < i)
abbrev tGe : TE → TE → TE := tCmp fun i j => decide (j ≤ i)
abbrev tEqI : TE → TE → TE := tCmp fun i j => decide (i = j)
abbrev tNeI : TE → TE → TE := tCmp fun i j => !decide (i = j)
/-- a comparison of two ints, by its rule -/
theorem pc_int {op : CmpOp} {p : Int → Int → Bool} (ha : PE X a ta) (hb : PE X b tb)
    (rule : ∀ (i j : Int) (t u : Tok) (Q : Value → Shared → Prop) (s : Shared), Q (.bool (p i j)) s → wpAny (model X.prog X.w) X.A (compareOp op (.int i t) (.int j u)) Q X.xe s) : PC X op a b (tCmp p ta tb) := by
  intro pins s σ H Q I h
  refine bin ha hb I h fun v u s2 x y H2 I2 rx ry q => ?_
  obtain ⟨i, j, rfl, rfl, q⟩ := q
  obtain ⟨t, rfl⟩ := rx
  obtain ⟨t', rfl⟩ := ry
  exact rule i j t t' _ s2 ⟨.bl _, H2, I2, rfl, q⟩
theorem pc_lt (ha : PE X a ta) (hb : PE X b tb) : PC X .Lt a b (tLt ta tb) := pc_int ha hb fun _ _ _ _ _ _ h => lt_int h
theorem pc_le (ha : PE X a ta) (hb : PE X b tb) : PC X .LtE a b (tLe ta tb) := pc_int ha hb fun _ _ _ _ _ _ h => le_int h
theorem pc_gt (ha : PE X a ta) (hb : PE X b tb) : PC X .Gt a b (tGt ta tb) := pc_int ha hb fun _ _ _ _ _ _ h => gt_int h
theorem pc_ge (ha : PE X a ta) (hb : PE X b tb) : PC X .GtE a b (tGe ta tb) := pc_int ha hb fun _ _ _ _ _ _ h => ge_int h
theorem pc_eqI (ha : PE X a ta) (hb : PE X b tb) : PC X .Eq a b (tEqI ta tb) := pc_int ha hb fun _ _ _ _ _ _ h => eq_int (by rw [Bool.beq_eq_decide_eq]; exact h)
theorem pc_neI (ha : PE X a ta) (hb : PE X b tb) : PC X .NotEq a b (tNeI ta tb) := pc_int ha hb fun _ _ _ _ _ _ h => ne_int (by rw [bne, Bool.beq_eq_decide_eq]; exact h)
/-- is None -/
def tIsN (ta : TE) : TE := fun σ H Q => ta σ H fun x H1 => Q (.bl (decide (x = .non))) H1
def tNotN (ta : TE) : TE := fun σ H Q => ta σ H fun x H1 => Q (.bl (!decide (x = .non))) H1
theorem RelV.none_iff {x : V} {v : Value} (r : RelV x v) : (v == Value.none) = decide (x = .non) := by
  cases x with
  | non => cases r; rfl
  | bl _ => cases r; rfl
  | int _ => obtain ⟨t, rfl⟩ := r; rfl
  | str _ => obtain ⟨t, rfl⟩ := r; rfl
  | byt _ => obtain ⟨t, rfl⟩ := r; rfl
  | flt _ => obtain ⟨t, rfl⟩ := r; rfl
  | ref _ => cases r; rfl
  | ty _ => cases r; rfl
theorem pc_isN {j pos'} (ha : PE X a ta) : PC X .Is a (.Constant .none j pos') (tIsN ta) := by
  intro pins s σ H Q I h
  refine thn (ha pins s σ H _ I h) fun v s1 ⟨x, H1, I1, r1, q1⟩ => ?_
  exact Constant_none (is_none_gen ⟨.bl _, H1, I1, by rw [r1.none_iff]; rfl, q1⟩)
theorem pc_notN {j pos'} (ha : PE X a ta) : PC X .IsNot a (.Constant .none j pos') (tNotN ta) := by
  intro pins s σ H Q I h
  refine thn (ha pins s σ H _ I h) fun v s1 ⟨x, H1, I1, r1, q1⟩ => ?_
  exact Constant_none (isnot_none_gen ⟨.bl _, H1, I1, by rw [r1.none_iff]; rfl, q1⟩)
/-- a comparison as a value, as a test -/
def tB (t : TE) : TT := fun σ H Q => t σ H fun x H1 => ∃ c, x = .bl c ∧ Q c H1
theorem pe_cmp {op : CmpOp} {t : TE} (h : PC X op a b t) (h1 : behindInMarks op b = false := by first | exact nobehind _ (by decide) (by decide) | rfl) : PE X (.Compare a [op] [b] pos) t := fun pins s σ H Q I hw => wpAny_Compare1 (h pins s σ H Q I hw) h1
theorem pt_cmp {op : CmpOp} {t : TE} (h : PC X op a b t) (h1 : behindInMarks op b = false := by first | exact nobehind _ (by decide) (by decide) | rfl) : PT X (.Compare a [op] [b] pos) (tB t) := by
  intro pins s σ H Q I hw
  refine wpAny_isTrue_Compare1 (thn (h pins s σ H _ I hw) fun v s1 h1 => thn h1 fun u s2 h2 => thn h2 fun c s3 ⟨x, H1, I1, r1, q1⟩ => ?_) h1
  obtain ⟨d, rfl, q⟩ := q1
  cases r1
  exact wpAny_truthy_bool ⟨H1, I1, q⟩
/-- an expression whose value is a bool, as a test -/
theorem pt_val {e : Expr} {t : TE} (h : PE X e t) (he : ∀ whole, isTrue e X.env whole = (do let v ← whole; standAt e.pos; holding [v] (truthy v)) := by intro _; rfl) : PT X e (tB t) := by
  intro pins s σ H Q I hw
  refine isTrue_plain (thn (h pins s σ H _ I hw) fun v s1 ⟨x, H1, I1, r1, q1⟩ => ?_) (he _)
  obtain ⟨d, rfl, q⟩ := q1
  cases r1
  exact wpAny_truthy_bool ⟨H1, I1, q⟩

/-! ### and, or, not -/
variable {tA tB' : TT} {rest : List Expr}
def tAnd (t u : TT) : TT := fun σ H Q => t σ H fun c H1 => if c = true then u σ H1 Q else Q false H1
def tOr (t u : TT) : TT := fun σ H Q => t σ H fun c H1 => if c = true then Q true H1 else u σ H1 Q
def tNot (t : TT) : TT := fun σ H Q => t σ H fun c H1 => Q (!c) H1
theorem pw_and1 (ha : PT X a tA) : PW X (.BoolOp .And [a] pos) tA := by
  intro wh pins s σ H Q I h
  refine isTrue_and (thn (ha pins s σ H Q I h) fun c s1 e => ?_)
  cases c with
  | true => exact isTrue_and_nil e
  | false => exact e
theorem pw_or1 (ha : PT X a tA) : PW X (.BoolOp .Or [a] pos) tA := by
  intro wh pins s σ H Q I h
  refine isTrue_or (thn (ha pins s σ H Q I h) fun c s1 e => ?_)
  cases c with
  | false => exact isTrue_or_nil e
  | true => exact e
theorem pw_and (ha : PT X a tA) (hb : PW X (.BoolOp .And (b :: rest) pos) tB') : PW X (.BoolOp .And (a :: b :: rest) pos) (tAnd tA tB') := by
  intro wh pins s σ H Q I h
  refine isTrue_and (thn (ha pins s σ H _ I h) fun c s1 ⟨H1, I1, q1⟩ => ?_)
  cases c with
  | true => exact hb wh pins s1 σ H1 Q I1 q1
  | false => exact ⟨H1, I1, q1⟩
theorem pw_or (ha : PT X a tA) (hb : PW X (.BoolOp .Or (b :: rest) pos) tB') : PW X (.BoolOp .Or (a :: b :: rest) pos) (tOr tA tB') := by
  intro wh pins s σ H Q I h
  refine isTrue_or (thn (ha pins s σ H _ I h) fun c s1 ⟨H1, I1, q1⟩ => ?_)
  cases c with
  | true => exact ⟨H1, I1, q1⟩
  | false => exact hb wh pins s1 σ H1 Q I1 q1
theorem pt_not (ha : PT X a tA) : PT X (.UnaryOp .Not a pos) (tNot tA) := by
  intro pins s σ H Q I h
  exact isTrue_not (ha pins s σ H (fun c H1 => Q (!c) H1) I h)
/-- .. as values (bools) -/
def tAndV (ta tb : TE) : TE := fun σ H Q => ta σ H fun x H1 => ∃ c, x = .bl c ∧ if c = true then tb σ H1 Q else Q (.bl false) H1
def tOrV (ta tb : TE) : TE := fun σ H Q => ta σ H fun x H1 => ∃ c, x = .bl c ∧ if c = true then Q (.bl true) H1 else tb σ H1 Q
def tNotV (ta : TE) : TE := fun σ H Q => ta σ H fun x H1 => ∃ c, x = .bl c ∧ Q (.bl (!c)) H1
theorem pe_one {op} {t : TE} (h : PE X a t) : PE X (.BoolOp op [a] pos) t := fun pins s σ H Q I hw => BoolOp_one (h pins s σ H Q I hw)
theorem pe_and (ha : PE X a ta) (hb : PE X (.BoolOp .And (b :: rest) pos) tb) : PE X (.BoolOp .And (a :: b :: rest) pos) (tAndV ta tb) := by
  intro pins s σ H Q I h
  refine BoolOp_and (thn (ha pins s σ H _ I h) fun v s1 ⟨x, H1, I1, r1, q1⟩ => ?_)
  obtain ⟨c, rfl, q1⟩ := q1
  cases r1
  refine wpAny_truthy_bool ?_
  cases c with
  | true => exact hb pins s1 σ H1 Q I1 q1
  | false => exact ⟨.bl false, H1, I1, rfl, q1⟩
theorem pe_or (ha : PE X a ta) (hb : PE X (.BoolOp .Or (b :: rest) pos) tb) : PE X (.BoolOp .Or (a :: b :: rest) pos) (tOrV ta tb) := by
  intro pins s σ H Q I h
  refine BoolOp_or (thn (ha pins s σ H _ I h) fun v s1 ⟨x, H1, I1, r1, q1⟩ => ?_)
  obtain ⟨c, rfl, q1⟩ := q1
  cases r1
  refine wpAny_truthy_bool ?_
  cases c with
  | false => exact hb pins s1 σ H1 Q I1 q1
  | true => exact ⟨.bl true, H1, I1, rfl, q1⟩
theorem pe_not (ha : PE X a ta) : PE X (.UnaryOp .Not a pos) (tNotV ta) := by
  intro pins s σ H Q I h
  refine UnaryOp_ (thn (ha pins s σ H _ I h) fun v s1 ⟨x, H1, I1, r1, q1⟩ => ?_)
  obtain ⟨c, rfl, q1⟩ := q1
  cases r1
  exact not_of (wpAny_truthy_bool ⟨.bl (!c), H1, I1, rfl, q1⟩)
/-- a if t else b -/
def tIf (t : TT) (ta tb : TE) : TE := fun σ H Q => t σ H fun c H1 => if c = true then ta σ H1 Q else tb σ H1 Q
theorem pe_ifExp {c : Expr} (hc : PT X c tA) (ha : PE X a ta) (hb : PE X b tb) : PE X (.IfExp c a b pos) (tIf tA ta tb) := by
  intro pins s σ H Q I h
  refine wpAny_IfExp (thn (hc pins s σ H _ I h) fun d s1 ⟨H1, I1, q1⟩ => ?_)
  cases d with
  | true => exact ha pins s1 σ H1 Q I1 q1
  | false => exact hb pins s1 σ H1 Q I1 q1
end
end L2

namespace L2
open PySem PySem.Spec PyProof.Rows

/-! ### a list, a tuple that is read: tracked, frozen, or an object of the module -/
def SqL (K : PySem.W.Frag) (H : Hp) (a : Addr) (xs : List V) : Prop :=
  Rd H a (.lst xs) ∨
    ∃ (o : Obj) (its : Array Value) (n : Nat), K.lookup a = some o ∧ o.cls = .type "list" ∧ o.dict = none ∧ o.data = .seq its n ∧ its.size ≤ sizeLine ∧ Vals xs its.toList
def SqT (K : PySem.W.Frag) (H : Hp) (a : Addr) (xs : List V) : Prop :=
  Rd H a (.tup xs) ∨
    ∃ (o : Obj) (its : Array Value) (n : Nat), K.lookup a = some o ∧ o.cls = .type "tuple" ∧ o.data = .seq its n ∧ its.size ≤ sizeLine ∧ Vals xs its.toList
def absV : Value → Option V
  | .none => some .non
  | .bool b => some (.bl b)
  | .int i _ => some (.int i)
  | .str x _ => some (.str x)
  | .bytes b _ => some (.byt b)
  | .float b _ => some (.flt b)
  | .ref a => some (.ref a)
  | .type n => some (.ty n)
  | _ => none
theorem RelV.abs {x : V} {u : Value} (r : RelV x u) : absV u = some x := by
  cases x with
  | non => cases r; rfl
  | bl _ => cases r; rfl
  | int _ => obtain ⟨t, rfl⟩ := r; rfl
  | str _ => obtain ⟨t, rfl⟩ := r; rfl
  | byt _ => obtain ⟨t, rfl⟩ := r; rfl
  | flt _ => obtain ⟨t, rfl⟩ := r; rfl
  | ref _ => cases r; rfl
  | ty _ => cases r; rfl
theorem RelV.inj {x y : V} {u : Value} (r : RelV x u) (q : RelV y u) : x = y := Option.some.inj (r.abs.symm.trans q.abs)
theorem Vals.inj : ∀ {xs ys : List V} {us : List Value}, Vals xs us → Vals ys us → xs = ys
  | _, _, _, .nil, .nil => rfl
  | _, _, _, .cons r t, .cons r' t' => by rw [r.inj r', Vals.inj t t']
section
variable {X : Cx} {pins : List (Addr × Obj)} {σ : St} {H : Hp} {s : Shared} {a : Addr} {xs ys : List V}
theorem SqL.of {K : PySem.W.Frag} (h : H a = some (.lst xs)) : SqL K H a xs := .inl (.inl h)
theorem SqT.of {K : PySem.W.Frag} (h : H a = some (.tup xs)) : SqT K H a xs := .inl (.inl h)
theorem Inv.list (I : Inv X pins σ H s) (h : SqL X.K H a xs) : ∃ its : List Value, Vals xs its ∧ PlainL s.heap a its.toArray ∧ xs.length ≤ sizeLine := by
  rcases h with h | ⟨o, its, n, hk, hc, hd, hs, hz, r⟩
  · obtain ⟨z, its, n, r, e⟩ := h.ok I.hok
    exact ⟨its, r, ⟨_, n, e, rfl, rfl, rfl⟩, z⟩
  · refine ⟨its.toList, r, ⟨o, n, I.kIn a o hk, hc, hd, by simpa using hs⟩, ?_⟩
    have e := r.length
    simp only [Array.length_toList] at e
    omega
theorem Inv.tuple (I : Inv X pins σ H s) (h : SqT X.K H a xs) : ∃ its : List Value, Vals xs its ∧ IsTup s.heap a its.toArray ∧ xs.length ≤ sizeLine := by
  rcases h with h | ⟨o, its, n, hk, hc, hs, hz, r⟩
  · obtain ⟨z, its, r, p⟩ := h.ok I.hok
    exact ⟨its, r, p, z⟩
  · refine ⟨its.toList, r, ⟨o, I.kIn a o hk, hc, n, by simpa using hs⟩, ?_⟩
    have e := r.length
    simp only [Array.length_toList] at e
    omega
theorem Inv.list_inj (I : Inv X pins σ H s) (h : SqL X.K H a xs) (h' : SqL X.K H a ys) : xs = ys := by
  obtain ⟨its, r, ⟨o, n, e, _, _, d⟩, _⟩ := I.list h
  obtain ⟨its', r', ⟨o', n', e', _, _, d'⟩, _⟩ := I.list h'
  rw [e] at e'; cases e'
  rw [d] at d'
  injection d' with d1 _
  have : its = its' := by simpa using congrArg Array.toList d1
  subst this
  exact r.inj r'
theorem Inv.tuple_inj (I : Inv X pins σ H s) (h : SqT X.K H a xs) (h' : SqT X.K H a ys) : xs = ys := by
  obtain ⟨its, r, ⟨o, e, _, n, d⟩, _⟩ := I.tuple h
  obtain ⟨its', r', ⟨o', e', _, n', d'⟩, _⟩ := I.tuple h'
  rw [e] at e'; cases e'
  rw [d] at d'
  injection d' with d1 _
  have : its = its' := by simpa using congrArg Array.toList d1
  subst this
  exact r.inj r'
end

/-! ### another wish about exceptions -/
abbrev Cx.wish (X : Cx) (E : Value → Shared → Prop) : Cx := { X with xe := E }
/-- no exception leaves -/
abbrev Cx.nox (X : Cx) : Cx := X.wish fun _ _ => False
theorem Cx.Ok.wish {X : Cx} (ok : X.Ok) (E : Value → Shared → Prop) : (X.wish E).Ok :=
  ⟨ok.mod, ok.kind, ok.glob, ok.blt, ok.above, ok.inj, ok.has, ok.cab, ok.hd, ok.frames, ok.stk, ok.exf, ok.bs, ok.bsz, ok.noex, ok.exfs, ok.funs, ok.frf⟩
theorem Cx.Ok.unwish {X : Cx} {E : Value → Shared → Prop} (ok : (X.wish E).Ok) : X.Ok :=
  ⟨ok.mod, ok.kind, ok.glob, ok.blt, ok.above, ok.inj, ok.has, ok.cab, ok.hd, ok.frames, ok.stk, ok.exf, ok.bs, ok.bsz, ok.noex, ok.exfs, ok.funs, ok.frf⟩
section
variable {X : Cx} {pins : List (Addr × Obj)} {σ : St} {H : Hp} {s : Shared} {E : Value → Shared → Prop}
theorem Inv.wish (I : Inv X pins σ H s) (E : Value → Shared → Prop) : Inv (X.wish E) pins σ H s := ⟨I.ok.wish E, I.os, I.bare, I.base, I.loc, I.cell, I.free, I.freeC, I.pin, I.hok, I.len⟩
theorem Inv.unwish (I : Inv (X.wish E) pins σ H s) : Inv X pins σ H s := ⟨I.ok.unwish, I.os, I.bare, I.base, I.loc, I.cell, I.free, I.freeC, I.pin, I.hok, I.len⟩
theorem SP.unwish {D : Ends} {f : Flow} {s' : Shared} (h : SP (X.wish E) pins D f s') : SP X pins D f s' := by
  cases f with
  | next => obtain ⟨σ', H', I, q⟩ := h; exact ⟨σ', H', I.unwish, q⟩
  | brk => obtain ⟨σ', H', I, q⟩ := h; exact ⟨σ', H', I.unwish, q⟩
  | cont => obtain ⟨σ', H', I, q⟩ := h; exact ⟨σ', H', I.unwish, q⟩
  | ret u => obtain ⟨v, σ', H', I, r, q⟩ := h; exact ⟨v, σ', H', I.unwish, r, q⟩
theorem PE.nox {e : Expr} {t : TE} (h : PE X.nox e t) : PE X e t := fun pins s σ H Q I hw =>
  wpAny_mono (h pins s σ H Q (I.wish _) hw) (fun _ _ ⟨v, H', I', r, q⟩ => ⟨v, H', I'.unwish, r, q⟩) fun _ _ z => False.elim z
theorem PT.nox {e : Expr} {t : TT} (h : PT X.nox e t) : PT X e t := fun pins s σ H Q I hw =>
  wpAny_mono (h pins s σ H Q (I.wish _) hw) (fun _ _ ⟨H', I', q⟩ => ⟨H', I'.unwish, q⟩) fun _ _ z => False.elim z
theorem PSs.nox {st : List Stmt} {t : TS} (h : PSs X.nox st t) : PSs X st t := fun pins s σ H D I hw =>
  wpAny_mono (h pins s σ H D (I.wish _) hw) (fun _ _ q => q.unwish) fun _ _ z => False.elim z
end

/-! ### blocks and small statements -/
section
variable {X : Cx} {st : Stmt} {rest : List Stmt} {t u : TS} {e : Expr} {te : TE} {pos : Pos}
def tNext : TS := fun D σ H => D.nx σ H
def tSeq (t u : TS) : TS := fun D σ H => t { D with nx := u D } σ H
theorem pss_nil : PSs X [] tNext := fun _ _ σ H _ I h => wpAny_execs_nil ⟨σ, H, I, h⟩
theorem pss_cons (h1 : PS X st t) (h2 : PSs X rest u) : PSs X (st :: rest) (tSeq t u) := by
  intro pins s σ H D I h
  refine wpAny_execs_cons (thn (h1 pins s σ H { D with nx := u D } I h) fun f s1 q => ?_)
  cases f with
  | next =>
    obtain ⟨σ', H', I', q⟩ := q
    exact h2 pins s1 σ' H' D I' q
  | ret v => exact q
  | brk => exact q
  | cont => exact q
theorem pss_one (h1 : PS X st t) : PSs X [st] t := by
  intro pins s σ H D I h
  refine wpAny_execs_cons (thn (h1 pins s σ H D I h) fun f s1 q => ?_)
  cases f with
  | next => exact wpAny_execs_nil q
  | ret v => exact q
  | brk => exact q
  | cont => exact q
def tBreak : TS := fun D σ H => D.bk σ H
def tCont : TS := fun D σ H => D.ct σ H
theorem ps_pass : PS X (.Pass pos) tNext := fun _ _ σ H _ I h => wpAny_Pass ⟨σ, H, I, h⟩
theorem ps_break : PS X (.Break pos) tBreak := fun _ _ σ H _ I h => wpAny_Break ⟨σ, H, I, h⟩
theorem ps_continue : PS X (.Continue pos) tCont := fun _ _ σ H _ I h => wpAny_Continue ⟨σ, H, I, h⟩
/-- in a def's body nothing is shown -/
theorem Inv.quiet {pins : List (Addr × Obj)} {σ : St} {H : Hp} {s : Shared} (I : Inv X pins σ H s) : interactive X.env = false := by simp [interactive, I.ok.kind]
/-- a docstring -/
theorem ps_doc {x j pos pos'} : PS X (.Expr (.Constant (.str x) j pos) pos') tNext := fun _ s σ H _ I h => wpAny_Expr (Calls.Constant_str (show SP X _ _ .next { s with toks := s.toks + 1 } from ⟨σ, H, I.tok _, h⟩)) I.quiet
/-- an expression whose value is dropped -/
def tDrop (te : TE) : TS := fun D σ H => te σ H fun _ H1 => D.nx σ H1
theorem ps_expr (he : PE X e te) (hs : swapsWith e none pos.line X.env = pure false := by rfl) : PS X (.Expr e pos) (tDrop te) := by
  intro pins s σ H D I h
  exact wpAny_Expr_any (thn (he pins s σ H _ I h) fun v s1 ⟨x, H1, I1, r1, q1⟩ => ⟨σ, H1, I1, q1⟩) I.quiet hs
def tRet (te : TE) : TS := fun D σ H => te σ H D.rt
theorem ps_ret (he : PE X e te) : PS X (.Return (some e) pos) (tRet te) := by
  intro pins s σ H D I h
  exact wpAny_Return_some (thn (he pins s σ H _ I h) fun v s1 ⟨x, H1, I1, r1, q1⟩ => ⟨x, σ, H1, I1, r1, q1⟩)
def tRetN : TS := fun D _ H => D.rt .non H
theorem ps_retN : PS X (.Return none pos) tRetN := fun _ _ σ H _ I h => wpAny_Return_none ⟨.non, σ, H, I, rfl, h⟩
def tIfS (c : TT) (t u : TS) : TS := fun D σ H => c σ H fun b H1 => if b = true then t D σ H1 else u D σ H1
theorem ps_if {c : Expr} {a b : List Stmt} {tc : TT} (hc : PT X c tc) (ha : PSs X a t) (hb : PSs X b u) : PS X (.If c a b pos) (tIfS tc t u) := by
  intro pins s σ H D I h
  refine wpAny_If (thn (hc pins s σ H _ I h) fun d s1 ⟨H1, I1, q1⟩ => ?_)
  cases d with
  | true => exact ha pins s1 σ H1 D I1 q1
  | false => exact hb pins s1 σ H1 D I1 q1
/-- code that the proof never comes to -/
def tNever : TS := fun _ _ _ => False
theorem ps_never : PS X st tNever := fun _ _ _ _ _ _ h => h.elim
theorem pss_never {sts : List Stmt} : PSs X sts tNever := fun _ _ _ _ _ _ h => h.elim
end

/-! ### targets -/
abbrev TG := V → St → Hp → (St → Hp → Prop) → Prop
abbrev TGs := List V → St → Hp → (St → Hp → Prop) → Prop
def PG (X : Cx) (target : Expr) (t : TG) : Prop :=
  ∀ (pins : List (Addr × Obj)) (s : Shared) (σ : St) (H : Hp) (v : V) (u : Value) (Q : St → Hp → Prop), Inv X pins σ H s → RelV v u → t v σ H Q →
    wpAny (model X.prog X.w) X.A (assign target X.env u) (fun _ s' => ∃ σ' H', Inv X pins σ' H' s' ∧ Q σ' H') X.xe s
/-- several targets, one after another -/
def PGs (X : Cx) (ts : List Expr) (t : TGs) : Prop :=
  ∀ (pins : List (Addr × Obj)) (s : Shared) (σ : St) (H : Hp) (vs : List V) (us : List Value) (Q : St → Hp → Prop), Inv X pins σ H s → Vals vs us → t vs σ H Q →
    wpAny (model X.prog X.w) X.A (assignInOrder ((assignEach ts X.env).map (·.2)) us) (fun _ s' => ∃ σ' H', Inv X pins σ' H' s' ∧ Q σ' H') X.xe s
/-- o[i] = v, by values -/
abbrev TSet := V → V → V → Hp → (Hp → Prop) → Prop
def PSet (X : Cx) (t : TSet) : Prop :=
  ∀ (pins : List (Addr × Obj)) (s : Shared) (σ : St) (H : Hp) (o i v : V) (ov iv u : Value) (Q : Hp → Prop), Inv X pins σ H s → RelV o ov → RelV i iv → RelV v u → t o i v H Q →
    wpAny (model X.prog X.w) X.A (setItem ov iv u) (fun _ s' => ∃ H', Inv X pins σ H' s' ∧ Q H') X.xe s
/-- a op= b, by values -/
abbrev TIp := V → V → Hp → VK → Prop
def PIp (X : Cx) (op : Operator) (t : TIp) : Prop :=
  ∀ (pins : List (Addr × Obj)) (s : Shared) (σ : St) (H : Hp) (x y : V) (v u : Value) (Q : VK), Inv X pins σ H s → RelV x v → RelV y u → t x y H Q →
    wpAny (model X.prog X.w) X.A (inplaceOp op v u) (EP X pins σ Q) X.xe s
section
variable {X : Cx} {pos : Pos}
def gName (i : Nat) : TG := fun v σ H Q => Q (σ.set i (some v)) H
theorem pg_name {i : Nat} {x : Str} (hN : X.N.Nodup) (hi : X.N[i]? = some x) (hx : Loc X.env.scope x) (hf : X.fn x = true ∨ X.env.scope.names.lookup x = some .local := by first | exact .inl rfl | exact .inr rfl | assumption) : PG X (.Name x pos) (gName i) := by
  intro pins s σ H v u Q I r h
  exact wpAny_assign_Name (store_ok I hN hi hx r (fun s' I' => ⟨_, H, I', h⟩) hf)
def gNil : TGs := fun vs σ H Q => vs = [] ∧ Q σ H
def gCons (t : TG) (u : TGs) : TGs := fun vs σ H Q => ∃ v r, vs = v :: r ∧ t v σ H fun σ' H' => u r σ' H' Q
theorem pgs_nil : PGs X [] gNil := by
  intro pins s σ H vs us Q I r h
  obtain ⟨e, h⟩ := h
  subst e
  cases r
  exact assignInOrder_nil ⟨σ, H, I, h⟩
theorem pgs_cons {e : Expr} {es : List Expr} {t : TG} {u : TGs} (h1 : PG X e t) (h2 : PGs X es u)
    (hs : (assignEach (e :: es) X.env).map (·.2) = assign e X.env :: (assignEach es X.env).map (·.2) := by rfl) : PGs X (e :: es) (gCons t u) := by
  intro pins s σ H vs us Q I r h
  obtain ⟨v, vr, e1, h⟩ := h
  subst e1
  cases r with
  | cons r rr =>
    rw [hs]
    refine assignInOrder_cons (thn (h1 pins s σ H _ _ _ I r h) fun _ s1 ⟨σ1, H1, I1, q1⟩ => ?_)
    exact h2 pins s1 σ1 H1 _ _ Q I1 rr q1
/-- (a, b, ..) = a tuple of that length -/
def gTup (K : PySem.W.Frag) (n : Nat) (t : TGs) : TG := fun v σ H Q => ∃ a xs, v = .ref a ∧ SqT K H a xs ∧ xs.length = n ∧ t xs σ H Q
theorem pg_tup {es : List Expr} {k : Nat} {t : TGs} {n : Nat} (hc : X.calm = true) (h : PGs X es t)
    (hn : (assignEach es X.env).length = n := by rfl) (hst : (assignEach es X.env).findIdx? (·.1) = none := by rfl) : PG X (.Tuple es k pos) (gTup X.K n t) := by
  intro pins s σ H v u Q I r hw
  obtain ⟨a, xs, e1, hq, hl, hw⟩ := hw
  subst e1
  cases r
  obtain ⟨its, rv, ht, hz⟩ := I.tuple hq
  refine assign_Tuple_tuple (I.ok.hd hc) ht (by simp [hn, ← hl, rv.length]) hst fun h' hx => ?_
  have I1 : Inv X pins σ H { s with heap := h' } := I.kept (t' := s.toks) fun b o e => hx b o (Nat.ne_of_lt (Heap.lt_size e)) e
  exact h pins _ σ H xs _ Q I1 (by simpa using rv) hw
/-- o[i] = .. -/
def gSub (to ti : TE) (t : TSet) : TG := fun v σ H Q => to σ H fun o H1 => ti σ H1 fun i H2 => t o i v H2 fun H3 => Q σ H3
theorem pg_sub {o i : Expr} {to ti : TE} {t : TSet} (ho : PE X o to) (hi : PE X i ti) (hs : PSet X t)
    (ha : ∀ v, assign (.Subscript o i pos) X.env v = (do
      let ov ← holding [v] (eval o X.env)
      let iv ← holding [v, ov] (eval i X.env)
      standAt pos
      holding [v, ov, iv] (setItem ov iv v)
      release [v, ov, iv] []) := by intro _; rfl) : PG X (.Subscript o i pos) (gSub to ti t) := by
  intro pins s σ H v u Q I r h
  rw [ha]
  refine wpAny_bind (wpAny_holding (thn (ho pins s σ H _ I h) fun ov s1 ⟨x, H1, I1, r1, q1⟩ => ?_))
  refine wpAny_bind (wpAny_holding (thn (hi pins s1 σ H1 _ I1 q1) fun iv s2 ⟨y, H2, I2, r2, q2⟩ => ?_))
  refine wpAny_bind (wpAny_standAt (wpAny_bind (wpAny_holding (thn (hs pins s2 σ H2 x y v ov iv u _ I2 r1 r2 r q2) fun _ s3 ⟨H3, I3, q3⟩ => ?_))))
  exact wpAny_release ⟨σ, H3, I3, q3⟩
/-- target = value -/
def tAsg (te : TE) (g : TG) : TS := fun D σ H => te σ H fun x H1 => g x σ H1 D.nx
theorem ps_asg {tg e : Expr} {te : TE} {g : TG} (he : PE X e te) (hg : PG X tg g) (hs : swapsWithSole [tg] e pos.line X.env = pure false := by rfl) (hw : swappedStores [tg] e X.env = pure none := by rfl)
    (h1 : (assignEach [tg] X.env).map (·.2) = [assign tg X.env] := by rfl) : PS X (.Assign [tg] e pos) (tAsg te g) := by
  intro pins s σ H D I h
  refine wpAny_Assign_stores (thn (he pins s σ H _ I h) fun v s1 ⟨x, H1, I1, r1, q1⟩ => ?_) hs hw
  rw [h1]
  exact thn (hg pins s1 σ H1 x v _ I1 r1 q1) fun _ s2 q => q
/-- name = value -/
theorem ps_set {i : Nat} {x : Str} {e : Expr} {te : TE} {pos' : Pos} (hN : X.N.Nodup) (hi : X.N[i]? = some x) (hx : Loc X.env.scope x) (he : PE X e te) (hs : swapsWith e (some (.Name x pos')) pos.line X.env = pure false := by rfl) (hf : X.fn x = true ∨ X.env.scope.names.lookup x = some .local := by first | exact .inl rfl | exact .inr rfl | assumption) :
    PS X (.Assign [.Name x pos'] e pos) (tAsg te (gName i)) := by
  intro pins s σ H D I h
  refine wpAny_Assign_Name (thn (he pins s σ H _ I h) fun v s1 ⟨y, H1, I1, r1, q1⟩ => ?_) hs
  exact store_ok I1 hN hi hx r1 (fun s2 I2 => ⟨_, H1, I2, q1⟩) hf
/-- a, b = x, y with plain local names: stored from the right; the pair itself is not tracked (the opening rows as in PyProof/Rows/TupAssign.lean:23) -/
def tPar (i j : Nat) (ta : TA) : TS := fun D σ H => ta σ H fun vs H1 => ∃ v w, vs = [v, w] ∧ D.nx ((σ.set i (some v)).set j (some w)) H1
theorem ps_par {i j : Nat} {x y : Str} {a b : Expr} {ta : TA} {px py pt : Pos} {kt k2 pt2} (hc : X.calm = true) (hN : X.N.Nodup) (hi : X.N[i]? = some x) (hj : X.N[j]? = some y) (hij : i ≠ j)
    (hx : X.env.scope.names.lookup x = some .local) (hy : X.env.scope.names.lookup y = some .local) (ha : PA X [a, b] ta)
    (hw : swappedStores [.Tuple [.Name x px, .Name y py] kt pt] (.Tuple [a, b] k2 pt2) X.env = pure (some [x, y]))
    (hs : swapsWithSole [.Tuple [.Name x px, .Name y py] kt pt] (.Tuple [a, b] k2 pt2) pos.line X.env = pure false := by rfl) :
    PS X (.Assign [.Tuple [.Name x px, .Name y py] kt pt] (.Tuple [a, b] k2 pt2) pos) (tPar i j ta) := by
  intro pins s σ H D I h
  rw [exec_Assign_arm]
  refine wpAny_bind (wpAny_standAt ?_)
  rw [hs]
  refine wpAny_bind (wpAny_pure ?_)
  rw [if_neg (by decide)]
  refine wpAny_bind (Tuple_ (thn (ha _ pins s σ H _ I h) fun us s1 ⟨vs, H1, I1, r1, q1⟩ => ?_))
  obtain ⟨v, w, e1, q1⟩ := q1
  subst e1
  obtain ⟨u1, u2, rfl, rv, rw'⟩ : ∃ u1 u2, us = [u1, u2] ∧ RelV v u1 ∧ RelV w u2 := by
    cases r1 with
    | cons p q =>
      cases q with
      | cons p' q' =>
        cases q'
        exact ⟨_, _, rfl, p, p'⟩
  refine wpAny_newObj_type ?_ (by show 2 ≤ sizeLine; decide)
  have I2 : Inv X pins σ H1 { s1 with heap := s1.heap.push { cls := .type "tuple", data := .seq [u1, u2].toArray } } := I1.kept (t' := s1.toks) fun b o e => Heap.get?_push_of_some _ e
  rw [hw]
  refine wpAny_bind (wpAny_pure ?_)
  show wpAny (model X.prog X.w) X.A (do rule "assign.swapped-stores"; let items ← unpackItems (.ref s1.heap.objs.size) 2 none; assignInOrder [fun v => bindName X.env y v, fun v => bindName X.env x v] items.reverse; pure Flow.next) _ _ _
  refine wpAny_bind (wpAny_rule (wpAny_bind (unpackItems_tuple (items := #[u1, u2]) (I.ok.hd hc) (IsTup.new s1.heap _) fun h' hx' => ?_)))
  have I3 := I2.kept (h' := h') (t' := s1.toks) fun b o e => hx' b o (Nat.ne_of_lt (Heap.lt_size e)) e
  show wpAny _ _ (assignInOrder [fun v => bindName X.env y v, fun v => bindName X.env x v] [u2, u1] >>= fun _ => pure Flow.next) _ _ _
  refine wpAny_bind (assignInOrder_cons (wpAny_bindName (store_ok I3 hN hj (.inl hy) rw' (fun s2 I4 => ?_) (.inr hy))))
  refine assignInOrder_cons (wpAny_bindName (store_ok I4 hN hi (.inl hx) rv (fun s3 I5 => assignInOrder_nil (wpAny_pure ?_)) (.inr hx)))
  rw [List.set_comm _ _ (Ne.symm hij)] at I5
  exact ⟨_, H1, I5, q1⟩
/-- name op= e -/
def tAug (i : Nat) (te : TE) (ti : TIp) : TS := fun D σ H => ∃ x, σ[i]? = some (some x) ∧ te σ H fun y H1 => ti x y H1 fun z H2 => D.nx (σ.set i (some z)) H2
theorem ps_aug {i : Nat} {x : Str} {e : Expr} {te : TE} {op : Operator} {ti : TIp} {pos' : Pos} (hN : X.N.Nodup) (hi : X.N[i]? = some x) (hx : Loc X.env.scope x) (he : PE X e te) (ho : PIp X op ti) (hf : X.fn x = true ∨ X.env.scope.names.lookup x = some .local := by first | exact .inl rfl | exact .inr rfl | assumption) :
    PS X (.AugAssign (.Name x pos') op e pos) (tAug i te ti) := by
  intro pins s σ H D I h
  obtain ⟨v, e1, h⟩ := h
  obtain ⟨m, hn, hl⟩ := I.loc
  have vis : Vis X.env.scope x := by rcases hx with k | k; exact .inl k; exact .inr (.inl k)
  obtain ⟨u, r, l⟩ := hl i x v hi e1 vis
  refine wpAny_AugAssign_Name ?_
  have go : wpAny (model X.prog X.w) X.A (eval e X.env) (fun w s₂ => wpAny (model X.prog X.w) X.A (inplaceOp op u w) (fun r s₃ => wpAny (model X.prog X.w) X.A (storeName X.env x r) (fun _ => SP X pins D .next) X.xe s₃) X.xe s₂) X.xe s := by
    refine thn (he pins s σ H _ I h) fun w s1 ⟨y, H1, I1, r1, q1⟩ => ?_
    refine thn (ho pins s1 σ H1 v y u w _ I1 r r1 q1) fun z s2 ⟨zv, H2, I2, r2, q2⟩ => ?_
    exact store_ok I2 hN hi hx r2 (fun s3 I3 => ⟨_, H2, I3, q2⟩) hf
  rcases l with ⟨hk, hm⟩ | ⟨hk, c, hc, hcell⟩
  · exact wpAny_loadName_local I.ok.kind hk hn hm go
  · rcases hk with hk | hk
    · exact wpAny_loadName_cell I.ok.kind hk hc hcell go
    · rcases hx with k | k
      · have : X.env.scope.names.lookup x = some .free := hk
        rw [k] at this; cases this
      · have : X.env.scope.names.lookup x = some .free := hk
        rw [k] at this; cases this
/-- o[i] op= e -/
def tAugS (to ti te : TE) (tget : V → V → Hp → VK → Prop) (tip : TIp) (tset : TSet) : TS := fun D σ H => to σ H fun o H1 => ti σ H1 fun i H2 => tget o i H2 fun x H3 => te σ H3 fun y H4 => tip x y H4 fun z H5 => tset o i z H5 fun H6 => D.nx σ H6
/-- o[i], by values -/
def PGet (X : Cx) (t : V → V → Hp → VK → Prop) : Prop :=
  ∀ (pins : List (Addr × Obj)) (s : Shared) (σ : St) (H : Hp) (o i : V) (ov iv : Value) (Q : VK), Inv X pins σ H s → RelV o ov → RelV i iv → t o i H Q →
    wpAny (model X.prog X.w) X.A (getItem ov iv) (EP X pins σ Q) X.xe s
theorem ps_augS {o i e : Expr} {to ti te : TE} {tget : V → V → Hp → VK → Prop} {tip : TIp} {tset : TSet} {op : Operator} {tpos : Pos} (ho : PE X o to) (hi : PE X i ti) (hg : PGet X tget) (he : PE X e te) (hp : PIp X op tip) (hs : PSet X tset)
    (ha : ∀ ov iv new, augStore i ov iv new = (do holding [new, ov, iv] (setItem ov iv new); release [new, ov, iv] []; pure .next) := by intros; rfl) : PS X (.AugAssign (.Subscript o i tpos) op e pos) (tAugS to ti te tget tip tset) := by
  intro pins s σ H D I h
  refine wpAny_AugAssign_SubscriptAny (thn (ho pins s σ H _ I h) fun ov s1 ⟨x1, H1, I1, r1, q1⟩ => ?_) ha
  refine thn (hi pins s1 σ H1 _ I1 q1) fun iv s2 ⟨x2, H2, I2, r2, q2⟩ => ?_
  refine thn (hg pins s2 σ H2 x1 x2 ov iv _ I2 r1 r2 q2) fun old s3 ⟨x3, H3, I3, r3, q3⟩ => ?_
  refine thn (he pins s3 σ H3 _ I3 q3) fun v s4 ⟨x4, H4, I4, r4, q4⟩ => ?_
  refine thn (hp pins s4 σ H4 x3 x4 old v _ I4 r3 r4 q4) fun new s5 ⟨x5, H5, I5, r5, q5⟩ => ?_
  exact thn (hs pins s5 σ H5 x1 x2 x5 ov iv new _ I5 r1 r2 r5 q5) fun _ s6 ⟨H6, I6, q6⟩ => ⟨σ, H6, I6, q6⟩
/-- ints -/
def ipI (f : Int → Int → Int) : TIp := fun x y H Q => ∃ i j, x = .int i ∧ y = .int j ∧ Q (.int (f i j)) H
theorem ip_add : PIp X .Add (ipI fun i j => i + j) := by
  intro pins s σ H x y v u Q I r1 r2 h
  obtain ⟨i, j, e1, e2, q⟩ := h
  subst e1; subst e2
  obtain ⟨t, rfl⟩ := r1
  obtain ⟨t', rfl⟩ := r2
  exact iadd_int ⟨.int _, H, I.tok _, ⟨_, rfl⟩, q⟩
theorem ip_sub : PIp X .Sub (ipI fun i j => i - j) := by
  intro pins s σ H x y v u Q I r1 r2 h
  obtain ⟨i, j, e1, e2, q⟩ := h
  subst e1; subst e2
  obtain ⟨t, rfl⟩ := r1
  obtain ⟨t', rfl⟩ := r2
  exact isub_int ⟨.int _, H, I.tok _, ⟨_, rfl⟩, q⟩
end

/-! ### while -/
section
variable {X : Cx} {pos : Pos}
/-- the invariant W with its measure -/
def tWhile (c : TT) (tb : TS) : TS := fun D σ H => ∃ W : Nat → St → Hp → Prop, (∃ m, W m σ H) ∧ ∀ m σ H, W m σ H →
  c σ H fun b H1 => if b = true then ∃ N : St → Hp → Prop, (∀ σ' H', N σ' H' → ∃ m', m' < m ∧ W m' σ' H') ∧ tb { D with nx := N, ct := N, bk := D.nx } σ H1 else D.nx σ H1
theorem ps_while {c : Expr} {body : List Stmt} {tc : TT} {tb : TS} (hp : PassesOwn (model X.prog X.w) X.A X.env X.xe) (hc : PT X c tc) (hb : PSs X body tb) : PS X (.While c body [] pos) (tWhile tc tb) := by
  intro pins s σ H D I h
  obtain ⟨W, ⟨m0, w0⟩, turn⟩ := h
  refine wpAny_While (codeAny_whileLoop (fun n s' => ∃ σ' H', Inv X pins σ' H' s' ∧ W n σ' H') ?_ m0 ⟨σ, H, I, w0⟩)
  rintro n s1 ⟨σ1, H1, I1, w1⟩
  refine wpAny_passesOwn hp (thn (hc pins s1 σ1 H1 _ I1 (turn n σ1 H1 w1)) fun b s2 ⟨H2, I2, q2⟩ => ?_)
  cases b with
  | true =>
    obtain ⟨N, hN, q2⟩ := q2
    rw [if_pos rfl]
    refine wpAny_passesOwn hp (thn (hb pins s2 σ1 H2 _ I2 q2) fun f s3 q3 => ?_)
    cases f with
    | next =>
      obtain ⟨σ3, H3, I3, n3⟩ := q3
      obtain ⟨m', hm, w3⟩ := hN σ3 H3 n3
      exact ⟨m', hm, σ3, H3, I3, w3⟩
    | cont =>
      obtain ⟨σ3, H3, I3, n3⟩ := q3
      obtain ⟨m', hm, w3⟩ := hN σ3 H3 n3
      exact ⟨m', hm, σ3, H3, I3, w3⟩
    | brk => exact q3
    | ret v => exact q3
  | false =>
    rw [if_neg Bool.false_ne_true]
    exact wpAny_execs_nil ⟨σ1, H2, I2, q2⟩
end

/-! ### what a loop or a comprehension walks -/
/-- at turn i: it yields x (the heap may grow), or it stops -/
structure It where
  go : Nat → Hp → Prop
  yld : Nat → Hp → V → Hp → Prop
  stop : Nat → Hp → Prop
/-- the iterator's own objects may turn: they are not the frame's, not pinned, younger than the entry (or a comprehension's own) -/
def FpOk (X : Cx) (pins : List (Addr × Obj)) (H : Hp) (b : Addr) : Prop :=
  H b = none ∧ b ≠ X.env.locals ∧ b ∉ X.fs ∧ (b ∈ X.ex ∨ X.s₀.heap.objs.size ≤ b) ∧ (∀ x c, X.env.cells.lookup x = some c → c ≠ b) ∧ ∀ p ∈ X.pn ++ pins, p.1 ≠ b
theorem Inv.fpOk {X : Cx} {pins : List (Addr × Obj)} {σ : St} {H H' : Hp} {s : Shared} {b : Addr} (I : Inv X pins σ H s) (hb : s.heap.objs.size ≤ b) (hn : H' b = none) : FpOk X pins H' b := by
  refine ⟨hn, Nat.ne_of_gt (Nat.lt_of_lt_of_le I.lt hb), I.nofs hb, .inr (Nat.le_trans I.sz hb), fun x c e z => ?_, fun p hp z => ?_⟩
  · obtain ⟨v, q⟩ := I.cell x c e
    exact absurd (Nat.lt_of_lt_of_le q.lt (by rw [z]; exact hb)) (Nat.lt_irrefl _)
  · exact absurd (Nat.lt_of_lt_of_le (Heap.lt_size (I.pin p hp).1) (by rw [z]; exact hb)) (Nat.lt_irrefl _)
structure Turn (P : Program) (w : World) (K : PySem.W.Frag) (tg : Expr) (J : It) (fp : List Addr) (it : Addr) (tn : Nat → Heap → Prop) : Prop where
  mem : it ∈ fp
  obj : ∀ i h, tn i h → ∀ b ∈ fp, ∃ o, h.get? b = some o ∧ ∀ v, o.data ≠ .cell v
  keep : ∀ i h h', tn i h → (∀ b ∈ fp, ∀ o, h.get? b = some o → h'.get? b = some o) → tn i h'
  item : ∀ (X : Cx), X.prog = P → X.w = w → X.K = K → X.calm = true → ∀ (i : Nat) (pins : List (Addr × Obj)) (s : Shared) (σ : St) (H : Hp) (E : Value → Shared → Prop), Inv X pins σ H s → (∀ b ∈ fp, FpOk X pins H b) → tn i s.heap → J.go i H →
    wpAny (model P w) X.A (pyNext (.ref it)) (fun r s1 => ∃ u, r = some u ∧
      wpAny (model P w) X.A (letOwnedTupleGo tg (.ref it) u) (fun _ s2 => ∃ x H', Inv X pins σ H' s2 ∧ RelV x u ∧ J.yld i H x H' ∧ tn (i + 1) s2.heap ∧ ∀ b ∈ fp, H' b = none) E s1) E s
  done : ∀ (X : Cx), X.prog = P → X.w = w → X.K = K → X.calm = true → ∀ (i : Nat) (pins : List (Addr × Obj)) (s : Shared) (σ : St) (H : Hp) (E : Value → Shared → Prop), Inv X pins σ H s → (∀ b ∈ fp, FpOk X pins H b) → tn i s.heap → J.stop i H →
    wpAny (model P w) X.A (pyNext (.ref it)) (fun r s1 => r = none ∧ Inv X pins σ H s1) E s
  self : ∀ (A : Around) (i : Nat) (s : Shared) (Q : Value → Shared → Prop) (E : Value → Shared → Prop), tn i s.heap → Q (.ref it) s → wpAny (model P w) A (pyIter (.ref it)) Q E s
abbrev TI := St → Hp → (It → Hp → Prop) → Prop
/-- an iterator has come -/
def PIE (X : Cx) (pins : List (Addr × Obj)) (σ : St) (tg : Expr) (R : It → Hp → Prop) (itv : Value) (s2 : Shared) : Prop :=
  ∃ (it : Addr) (fp : List Addr) (tn : Nat → Heap → Prop) (J : It) (H' : Hp), itv = .ref it ∧ Inv X pins σ H' s2 ∧ Turn X.prog X.w X.K tg J fp it tn ∧ tn 0 s2.heap ∧ (∀ b ∈ fp, FpOk X pins H' b) ∧ R J H'
def PI (X : Cx) (tg iter : Expr) (wi : TI) : Prop :=
  ∀ (pins : List (Addr × Obj)) (s : Shared) (σ : St) (H : Hp) (R : It → Hp → Prop), Inv X pins σ H s → wi σ H R →
    wpAny (model X.prog X.w) X.A (eval iter X.env) (fun v s1 => wpAny (model X.prog X.w) X.A (pyIter v) (PIE X pins σ tg R) X.xe s1) X.xe s

/-- the step ahead of the store is nothing for an iterator that keeps no tuple -/
theorem go_of {M : Model} {A : Around} {E : Value → Shared → Prop} {s : Shared} {tg : Expr} {it : Addr} {u : Value} {o : Obj} {n : String} {vs : Array Value} {Q : Unit → Shared → Prop} (ho : s.heap.get? it = some o) (hc : o.cls = .type n) (hd : o.data = .fields vs)
    (hn : ["enumerate", "zip", "dict_itemiterator", "dict_reverseitemiterator", "odict_iterator", "itertools.zip_longest", "itertools.pairwise"].contains n = false) (hQ : Q () s) : wpAny M A (letOwnedTupleGo tg (.ref it) u) Q E s := by
  unfold letOwnedTupleGo
  cases tg <;> first
    | exact wpAny_pure hQ
    | (cases u <;> first
        | exact wpAny_pure hQ
        | (refine wpAny_bind (wpAny_load ho ?_)
           rw [hc, hd]
           show wpAny M A (if (["enumerate", "zip", "dict_itemiterator", "dict_reverseitemiterator", "odict_iterator", "itertools.zip_longest", "itertools.pairwise"].contains n && vs[0]? == some (rawInt _)) = true then _ else _) Q E s
           rw [if_neg (by intro h; rw [hn, Bool.false_and] at h; cases h)]
           exact wpAny_pure hQ))

/-- the list at a, as it stands at each turn (a loop may append to it) -/
def Itl (K : PySem.W.Frag) (a : Addr) : It :=
  ⟨fun i H => ∃ xs x, SqL K H a xs ∧ xs[i]? = some x, fun i H x H' => H' = H ∧ ∀ xs, SqL K H a xs → xs[i]? = some x, fun i H => ∃ xs, SqL K H a xs ∧ xs.length ≤ i⟩
def Itt (K : PySem.W.Frag) (a : Addr) : It :=
  ⟨fun i H => ∃ xs x, SqT K H a xs ∧ xs[i]? = some x, fun i H x H' => H' = H ∧ ∀ xs, SqT K H a xs → xs[i]? = some x, fun i H => ∃ xs, SqT K H a xs ∧ xs.length ≤ i⟩
/-- lo, lo + 1, .. (n of them) -/
def Itr (lo : Int) (n : Nat) : It := ⟨fun i _ => i < n, fun i H x H' => H' = H ∧ x = .int (lo + i), fun i _ => n ≤ i⟩
theorem turn_list {P : Program} {w : World} {K : PySem.W.Frag} {tg : Expr} (a it : Addr) : Turn P w K tg (Itl K a) [it] it (fun i h => h.IsListIter it a i) where
  mem := by simp
  obj := fun i h st b hb => by
    have e : b = it := by simpa using hb
    subst e
    obtain ⟨o, e, c, d⟩ := st
    exact ⟨o, e, fun v z => by rw [d] at z; cases z⟩
  keep := fun i h h' st k => st.at fun o e => k it (by simp) o e
  item := by
    intro X hP hw hK hc i pins s σ H E I hf st hg
    subst hP hw hK
    obtain ⟨xs, x, hq, hx⟩ := hg
    obtain ⟨its, rv, p, hz⟩ := I.list hq
    obtain ⟨u, hu, ru⟩ := rv.get hx
    obtain ⟨f0, f1, f2, f3, f4, f5⟩ := hf it (by simp)
    refine wpAny_pyNext_list_item st p.isList (x := u) (by simpa using hu) fun h' st' sb => ?_
    have I1 : Inv X pins σ H { s with heap := h' } := I.turned (t' := s.toks) (fun b o hb e => (sb.2 b hb).trans e) f0 f1 f3 f4 f5
    obtain ⟨o, e, c, d⟩ := id st'
    exact ⟨u, rfl, go_of (s := { s with heap := h' }) e c d (by decide) ⟨x, H, I1, ru, ⟨rfl, fun ys hy => by rw [I.list_inj hy hq]; exact hx⟩, st', fun b hb => (hf b hb).1⟩⟩
  done := by
    intro X hP hw hK hc i pins s σ H E I hf st hg
    subst hP hw hK
    obtain ⟨xs, hq, hx⟩ := hg
    obtain ⟨its, rv, p, hz⟩ := I.list hq
    obtain ⟨f0, f1, f2, f3, f4, f5⟩ := hf it (by simp)
    have hl := rv.length
    exact wpAny_pyNext_list_end (I.ok.hd hc) st p.isList (by simp; omega) fun h' eb => ⟨rfl, I.turned (t' := s.toks) (fun b o hb e => eb b o hb e) f0 f1 f3 f4 f5⟩
  self := fun _ _ _ _ _ st h => wpAny_pyIter_listiter st h
theorem turn_tuple {P : Program} {w : World} {K : PySem.W.Frag} {tg : Expr} (a it : Addr) : Turn P w K tg (Itt K a) [it] it (fun i h => h.IsTupleIter it a i) where
  mem := by simp
  obj := fun i h st b hb => by
    have e : b = it := by simpa using hb
    subst e
    obtain ⟨o, e, c, d⟩ := st
    exact ⟨o, e, fun v z => by rw [d] at z; cases z⟩
  keep := fun i h h' st k => st.at fun o e => k it (by simp) o e
  item := by
    intro X hP hw hK hc i pins s σ H E I hf st hg
    subst hP hw hK
    obtain ⟨xs, x, hq, hx⟩ := hg
    obtain ⟨its, rv, p, hz⟩ := I.tuple hq
    obtain ⟨u, hu, ru⟩ := rv.get hx
    obtain ⟨f0, f1, f2, f3, f4, f5⟩ := hf it (by simp)
    refine wpAny_pyNext_tuple_item st (show s.heap.IsTuple a its.toArray from p) (x := u) (by simpa using hu) fun h' st' sb => ?_
    have I1 : Inv X pins σ H { s with heap := h' } := I.turned (t' := s.toks) (fun b o hb e => (sb.2 b hb).trans e) f0 f1 f3 f4 f5
    obtain ⟨o, e, c, d⟩ := id st'
    exact ⟨u, rfl, go_of (s := { s with heap := h' }) e c d (by decide) ⟨x, H, I1, ru, ⟨rfl, fun ys hy => by rw [I.tuple_inj hy hq]; exact hx⟩, st', fun b hb => (hf b hb).1⟩⟩
  done := by
    intro X hP hw hK hc i pins s σ H E I hf st hg
    subst hP hw hK
    obtain ⟨xs, hq, hx⟩ := hg
    obtain ⟨its, rv, p, hz⟩ := I.tuple hq
    obtain ⟨f0, f1, f2, f3, f4, f5⟩ := hf it (by simp)
    have hl := rv.length
    exact wpAny_pyNext_tuple_end (I.ok.hd hc) st (show s.heap.IsTuple a its.toArray from p) (by simp; omega) fun h' eb => ⟨rfl, I.turned (t' := s.toks) (fun b o hb e => eb b o hb e) f0 f1 f3 f4 f5⟩
  self := fun _ _ _ _ _ st h => wpAny_pyIter_tupleiter st h
theorem turn_range {P : Program} {w : World} {K : PySem.W.Frag} {tg : Expr} (it : Addr) (lo : Int) (n : Nat) : Turn P w K tg (Itr lo n) [it] it (fun i h => IsRangeIter h it (lo + (i : Nat) * 1) ((n : Int) - (i : Nat)) 1) where
  mem := by simp
  obj := fun i h st b hb => by
    have e : b = it := by simpa using hb
    subst e
    exact ⟨_, st, fun v z => by
      have z' : Data.fields _ = Data.cell v := z
      cases z'⟩
  keep := fun i h h' st k => k it (by simp) _ st
  item := by
    intro X hP hw hK hc i pins s σ H E I hf st hg
    subst hP hw hK
    obtain ⟨f0, f1, f2, f3, f4, f5⟩ := hf it (by simp)
    have W := Walks.range (prog := X.prog) (w := X.w) (I.ok.hd hc) it lo 1 n
    refine W.item i s _ _ hg st fun v h' tk hv st' kk => ?_
    obtain ⟨t, rfl⟩ := hv
    have I1 : Inv X pins σ H { s with heap := h', toks := tk } := I.turned (fun b o hb e => kk b o (by simpa using hb) e) f0 f1 f3 f4 f5
    refine ⟨_, rfl, go_of (s := { s with heap := h', toks := tk }) (n := "range_iterator") st' rfl rfl (by decide) ⟨.int (lo + i), H, I1, ⟨t, ?_⟩, ⟨rfl, rfl⟩, st', fun b hb => (hf b hb).1⟩⟩
    rw [Int.mul_one]
  done := by
    intro X hP hw hK hc i pins s σ H E I hf st hg
    subst hP hw hK
    obtain ⟨f0, f1, f2, f3, f4, f5⟩ := hf it (by simp)
    exact wpAny_pyNext_range_end (I.ok.hd hc) st (by have : n ≤ i := hg; omega) fun h' eb => ⟨rfl, I.turned (t' := s.toks) (fun b o hb e => eb b o hb e) f0 f1 f3 f4 f5⟩
  self := fun _ _ _ _ _ st h => wpAny_pyIter_rangeiter st h
end L2

namespace L2
open PySem PySem.Spec PyProof.Rows
section
variable {X : Cx} {tg : Expr}
def iList (K : PySem.W.Frag) (tl : TE) : TI := fun σ H R => tl σ H fun x H1 => ∃ a, x = .ref a ∧ (∃ xs, SqL K H1 a xs) ∧ R (Itl K a) H1
def iTup (K : PySem.W.Frag) (tl : TE) : TI := fun σ H R => tl σ H fun x H1 => ∃ a, x = .ref a ∧ (∃ xs, SqT K H1 a xs) ∧ R (Itt K a) H1
theorem pi_list {l : Expr} {tl : TE} (hl : PE X l tl) : PI X tg l (iList X.K tl) := by
  intro pins s σ H R I h
  refine thn (hl pins s σ H _ I h) fun v s1 ⟨x, H1, I1, r1, q1⟩ => ?_
  obtain ⟨a, e, ⟨xs, hq⟩, q⟩ := q1
  subst e
  cases r1
  obtain ⟨its, rv, p, hz⟩ := I1.list hq
  refine wpAny_pyIter_list p.isList ?_
  refine ⟨s1.heap.objs.size, [s1.heap.objs.size], _, _, H1, rfl, I1.kept (t' := s1.toks) fun b o e => Heap.get?_push_of_some _ e, turn_list a _, ⟨_, Heap.get?_push_size _ rfl, rfl, rfl⟩, fun b hb => ?_, q⟩
  have e : b = s1.heap.objs.size := by simpa using hb
  subst e
  exact I1.fpOk (Nat.le_refl _) (I1.hok.fresh (Nat.le_refl _))
theorem pi_tup {l : Expr} {tl : TE} (hl : PE X l tl) : PI X tg l (iTup X.K tl) := by
  intro pins s σ H R I h
  refine thn (hl pins s σ H _ I h) fun v s1 ⟨x, H1, I1, r1, q1⟩ => ?_
  obtain ⟨a, e, ⟨xs, hq⟩, q⟩ := q1
  subst e
  cases r1
  obtain ⟨its, rv, p, hz⟩ := I1.tuple hq
  refine wpAny_pyIter_tuple (show s1.heap.IsTuple a its.toArray from p) ?_
  refine ⟨s1.heap.objs.size, [s1.heap.objs.size], _, _, H1, rfl, I1.kept (t' := s1.toks) fun b o e => Heap.get?_push_of_some _ e, turn_tuple a _, ⟨_, Heap.get?_push_size _ rfl, rfl, rfl⟩, fun b hb => ?_, q⟩
  have e : b = s1.heap.objs.size := by simpa using hb
  subst e
  exact I1.fpOk (Nat.le_refl _) (I1.hok.fresh (Nat.le_refl _))
/-- a range object just made, walked -/
theorem range_it {pins : List (Addr × Obj)} {σ : St} {H : Hp} {s : Shared} {R : It → Hp → Prop} {E : Value → Shared → Prop} {lo hi : Int} {t u v : Tok} {tk : Nat} (I : Inv X pins σ H s) (h1 : -(2 ^ 62) ≤ lo) (h2 : lo < 2 ^ 62) (h3 : -(2 ^ 62) ≤ hi) (h4 : hi < 2 ^ 62)
    (q : R (Itr lo (hi - lo).toNat) H) : wpAny (model X.prog X.w) X.A (pyIter (.ref s.heap.objs.size)) (PIE X pins σ tg R) E { s with heap := s.heap.push { cls := .type "range", data := .fields #[.int lo t, .int hi u, .int 1 v] }, toks := tk } := by
  refine wpAny_pyIter_range (IsRange.new ..) (small_one h1 h2 h3 h4) ?_
  have I1 : Inv X pins σ H { s with heap := s.heap.push { cls := .type "range", data := .fields #[.int lo t, .int hi u, .int 1 v] }, toks := tk } := I.kept fun b o e => Heap.get?_push_of_some _ e
  refine ⟨(s.heap.push { cls := .type "range", data := .fields #[.int lo t, .int hi u, .int 1 v] }).objs.size, [(s.heap.push { cls := .type "range", data := .fields #[.int lo t, .int hi u, .int 1 v] }).objs.size], _, _, H, rfl,
    I1.kept (t' := tk) fun b o e => Heap.get?_push_of_some _ e, turn_range _ lo (hi - lo).toNat, ?_, fun b hb => ?_, q⟩
  · have e1 : lo + ((0 : Nat) : Int) * 1 = lo := by simp
    have e2 : (((hi - lo).toNat : Nat) : Int) - ((0 : Nat) : Int) = Builtin.Range.rangeSize lo hi 1 := by rw [rangeSize_one]; split <;> omega
    show IsRangeIter _ _ (lo + ((0 : Nat) : Int) * 1) ((((hi - lo).toNat : Nat) : Int) - ((0 : Nat) : Int)) 1
    rw [e1, e2]
    exact Heap.get?_push_size _ rfl
  · have e : b = (s.heap.push { cls := .type "range", data := .fields #[.int lo t, .int hi u, .int 1 v] }).objs.size := by simpa using hb
    subst e
    exact I1.fpOk (Nat.le_refl _) (I1.hok.fresh (Nat.le_refl _))
def iRng1 (ta : TA) : TI := fun σ H R => ta σ H fun vs H1 => ∃ j : Int, vs = [.int j] ∧ -(2 ^ 62) ≤ j ∧ j < 2 ^ 62 ∧ R (Itr 0 j.toNat) H1
def iRng2 (ta : TA) : TI := fun σ H R => ta σ H fun vs H1 => ∃ i j : Int, vs = [.int i, .int j] ∧ (-(2 ^ 62) ≤ i ∧ i < 2 ^ 62 ∧ -(2 ^ 62) ≤ j ∧ j < 2 ^ 62) ∧ R (Itr i (j - i).toNat) H1
theorem pi_range1 {a : Expr} {ta : TA} {p pos : Pos} (hg : Gl X "range") (hm : X.mg "range" = none) (ha : PA X [a] ta) (hs : starEach [a] X.env = [(false, eval a X.env)] := by rfl) : PI X tg (.Call (.Name "range" p) [a] [] pos) (iRng1 ta) := by
  intro pins s σ H R I h
  refine Call_ (ld_blt I hg hm boot_range (PyProof.Rows.callWith_type1 (thn (ha pos pins s σ H _ I h) fun us s1 ⟨vs, H1, I1, r1, q1⟩ => ?_) hs rfl))
  obtain ⟨j, e, q1, q2, q⟩ := q1
  subst e
  cases r1 with
  | cons r rr =>
    cases rr
    obtain ⟨t, rfl⟩ := r
    exact call_range_1 (range_it I1 (by omega) (by omega) q1 q2 (by simpa using q))
theorem pi_range2 {a b : Expr} {ta : TA} {p pos : Pos} (hg : Gl X "range") (hm : X.mg "range" = none) (ha : PA X [a, b] ta) (hs : starEach [a, b] X.env = [(false, eval a X.env), (false, eval b X.env)] := by rfl) (hs2 : starEach [b] X.env = [(false, eval b X.env)] := by rfl) :
    PI X tg (.Call (.Name "range" p) [a, b] [] pos) (iRng2 ta) := by
  intro pins s σ H R I h
  refine Call_ (ld_blt I hg hm boot_range (PyProof.Rows.callWith_type1 (thn (ha pos pins s σ H _ I h) fun us s1 ⟨vs, H1, I1, r1, q1⟩ => ?_) (by rw [hs, hs2]) (by rw [hs2]; rfl)))
  obtain ⟨i, j, e, ⟨q1, q2, q3, q4⟩, q⟩ := q1
  subst e
  cases r1 with
  | cons r rr =>
    cases rr with
    | cons r' rr =>
      cases rr
      obtain ⟨t, rfl⟩ := r
      obtain ⟨t', rfl⟩ := r'
      exact call_range_2 (range_it I1 q1 q2 q3 q4 q)

/-! ### for -/
/-- W: the invariant by the turn and a measure; N: what the body is to reach -/
def tFor (wi : TI) (g : TG) (tb : TS) : TS := fun D σ H => wi σ H fun J H1 => ∃ W : Nat → Nat → St → Hp → Prop, (∃ m, W 0 m σ H1) ∧ ∀ i m σ H, W i m σ H →
  (J.stop i H ∧ D.nx σ H) ∨ (J.go i H ∧ ∃ N : St → Hp → Prop, (∀ σ' H', N σ' H' → ∃ m', m' < m ∧ W (i + 1) m' σ' H') ∧ ∀ x H', J.yld i H x H' → g x σ H' fun σ2 H2 => tb { D with nx := N, ct := N, bk := D.nx } σ2 H2)
/-- the records at fp as they stand -/
def pinsAt (fp : List Addr) (h : Heap) : List (Addr × Obj) := fp.filterMap fun b => (h.get? b).map fun o => (b, o)
theorem mem_pinsAt {fp : List Addr} {h : Heap} {b : Addr} {o : Obj} (hb : b ∈ fp) (e : h.get? b = some o) : (b, o) ∈ pinsAt fp h := List.mem_filterMap.mpr ⟨b, hb, by rw [e]; rfl⟩
theorem of_pinsAt {fp : List Addr} {h : Heap} {p : Addr × Obj} (hp : p ∈ pinsAt fp h) : p.1 ∈ fp ∧ h.get? p.1 = some p.2 := by
  obtain ⟨b, hb, e⟩ := List.mem_filterMap.mp hp
  cases q : h.get? b with
  | none => rw [q] at e; cases e
  | some o =>
    rw [q] at e
    have e' : (b, o) = p := Option.some.inj e
    subst e'
    exact ⟨hb, q⟩
theorem Inv.pinned {pins : List (Addr × Obj)} {σ : St} {H : Hp} {s : Shared} {fp : List Addr} (I : Inv X pins σ H s) (hf : ∀ b ∈ fp, FpOk X pins H b) (ho : ∀ b ∈ fp, ∃ o, s.heap.get? b = some o ∧ ∀ v, o.data ≠ .cell v) : Inv X (pins ++ pinsAt fp s.heap) σ H s :=
  I.pins_of fun p hp => (List.mem_append.mp hp).elim (fun z => I.pin p (List.mem_append_right _ z)) fun z => by
    obtain ⟨hb, e⟩ := of_pinsAt z
    obtain ⟨f0, f1, f2, _⟩ := hf p.1 hb
    obtain ⟨o, e', d⟩ := ho p.1 hb
    rw [e] at e'; cases e'
    exact ⟨e, f0, f1, f2, d⟩
theorem Inv.unpinned {pins pl : List (Addr × Obj)} {σ : St} {H : Hp} {s : Shared} (I : Inv X (pins ++ pl) σ H s) : Inv X pins σ H s := I.pins_of fun p hp => I.pin p (List.mem_append_right _ (List.mem_append_left _ hp))
theorem ps_for {iter : Expr} {body : List Stmt} {wi : TI} {g : TG} {tb : TS} {pos : Pos} (hp : PassesOwn (model X.prog X.w) X.A X.env X.xe) (hc : X.calm = true) (hi : PI X tg iter wi) (hg : PG X tg g) (hb : PSs X body tb)
    (hs : ∀ x, foldedSetIterable iter X.env x = pure x := by intro _; rfl) : PS X (.For tg iter body [] pos) (tFor wi g tb) := by
  intro pins s σ H D I h
  refine wpAny_For (thn (hi pins s σ H _ I h) fun v s1 h1 => thn h1 fun itv s2 h2 => ?_) hs
  obtain ⟨it, fp, tn, J, H2, e, I2, T, st2, f2, W, ⟨m0, w0⟩, turn⟩ := h2
  subst e
  -- what stays true of the iterator's objects through the loop
  have stat : ∀ {H' : Hp}, (∀ b ∈ fp, H' b = none) → ∀ b ∈ fp, FpOk X pins H' b := fun hn b hb => ⟨hn b hb, (f2 b hb).2⟩
  refine codeAny_forLoop_any (fun n s' => ∃ i σ' H', Inv X pins σ' H' s' ∧ tn i s'.heap ∧ (∀ b ∈ fp, H' b = none) ∧ W i n σ' H') ?_ m0 ⟨0, σ, H2, I2, st2, fun b hb => (f2 b hb).1, w0⟩
  rintro n s3 ⟨i, σ3, H3, I3, st3, fr3, w3⟩
  rcases turn i n σ3 H3 w3 with ⟨stop, qn⟩ | ⟨go, N, hN, step⟩
  · refine wpAny_passesOwn hp (thn (T.done X rfl rfl rfl hc i pins s3 σ3 H3 X.xe I3 (stat fr3) st3 stop) fun r s4 ⟨hr, I4⟩ => ?_)
    subst hr
    exact wpAny_execs_nil ⟨σ3, H3, I4, qn⟩
  · refine wpAny_passesOwn hp (thn (T.item X rfl rfl rfl hc i pins s3 σ3 H3 X.xe I3 (stat fr3) st3 go) fun r s4 ⟨u, hr, h4⟩ => ?_)
    subst hr
    refine wpAny_passesOwn hp (thn h4 fun _ s5 ⟨x, H5, I5, r5, y5, st5, fr5⟩ => ?_)
    have I5' := I5.pinned (stat fr5) (T.obj _ _ st5)
    refine wpAny_passesOwn hp (thn (hg _ s5 σ3 H5 x u _ I5' r5 (step x H5 y5)) fun _ s6 ⟨σ6, H6, I6, q6⟩ => ?_)
    refine wpAny_passesOwn hp (thn (hb _ s6 σ6 H6 _ I6 q6) fun f s7 q7 => ?_)
    have again : ∀ {σ7 : St} {H7 : Hp}, Inv X (pins ++ pinsAt fp s5.heap) σ7 H7 s7 → N σ7 H7 → ∃ m, m < n ∧ ∃ i σ' H', Inv X pins σ' H' s7 ∧ tn i s7.heap ∧ (∀ b ∈ fp, H' b = none) ∧ W i m σ' H' := fun {σ7 H7} I7 n7 => by
      obtain ⟨m', hm, w7⟩ := hN σ7 H7 n7
      refine ⟨m', hm, i + 1, σ7, H7, I7.unpinned, T.keep _ _ _ st5 fun b hb o e => (I7.pin (b, o) (List.mem_append_right _ (List.mem_append_right _ (mem_pinsAt hb e)))).1, fun b hb => ?_, w7⟩
      obtain ⟨o, e, d⟩ := T.obj _ _ st5 b hb
      exact (I7.pin (b, o) (List.mem_append_right _ (List.mem_append_right _ (mem_pinsAt hb e)))).2.1
    cases f with
    | next => obtain ⟨σ7, H7, I7, n7⟩ := q7; exact again I7 n7
    | cont => obtain ⟨σ7, H7, I7, n7⟩ := q7; exact again I7 n7
    | brk => obtain ⟨σ7, H7, I7, q7⟩ := q7; exact ⟨σ7, H7, I7.unpinned, q7⟩
    | ret v => obtain ⟨x7, σ7, H7, I7, r7, q7⟩ := q7; exact ⟨x7, σ7, H7, I7.unpinned, r7, q7⟩
end

/-! ### the forms one uses -/
/-- over a list that the body leaves as it is -/
theorem for_list {K : PySem.W.Frag} {a : Addr} {xs : List V} {g : TG} {tb : TS} {D : Ends} {σ : St} {H : Hp} (Pv : Nat → St → Hp → Prop) (h0 : Pv 0 σ H) (hl : ∀ i σ H, i ≤ xs.length → Pv i σ H → SqL K H a xs)
    (hs : ∀ i x σ H, xs[i]? = some x → Pv i σ H → g x σ H fun σ2 H2 => tb { D with nx := Pv (i + 1), ct := Pv (i + 1), bk := D.nx } σ2 H2) (hd : ∀ σ H, Pv xs.length σ H → D.nx σ H) :
    ∃ W : Nat → Nat → St → Hp → Prop, (∃ m, W 0 m σ H) ∧ ∀ i m σ H, W i m σ H →
      ((Itl K a).stop i H ∧ D.nx σ H) ∨ ((Itl K a).go i H ∧ ∃ N : St → Hp → Prop, (∀ σ' H', N σ' H' → ∃ m', m' < m ∧ W (i + 1) m' σ' H') ∧ ∀ x H', (Itl K a).yld i H x H' → g x σ H' fun σ2 H2 => tb { D with nx := N, ct := N, bk := D.nx } σ2 H2) := by
  refine ⟨fun i m σ H => m = xs.length - i ∧ i ≤ xs.length ∧ Pv i σ H, ⟨xs.length, by simp, Nat.zero_le _, h0⟩, ?_⟩
  rintro i m σ H ⟨rfl, hi, p⟩
  have q := hl i σ H hi p
  by_cases hlt : i < xs.length
  · refine .inr ⟨⟨xs, xs[i], q, by simp [hlt]⟩, Pv (i + 1), fun σ' H' p' => ⟨xs.length - (i + 1), by omega, rfl, hlt, p'⟩, fun x H' y => ?_⟩
    obtain ⟨e, y⟩ := y
    subst e
    exact hs i x σ _ (y xs q) p
  · have e : i = xs.length := by omega
    subst e
    exact .inl ⟨⟨xs, q, Nat.le_refl _⟩, hd σ H p⟩
theorem for_tup {K : PySem.W.Frag} {a : Addr} {xs : List V} {g : TG} {tb : TS} {D : Ends} {σ : St} {H : Hp} (Pv : Nat → St → Hp → Prop) (h0 : Pv 0 σ H) (hl : ∀ i σ H, i ≤ xs.length → Pv i σ H → SqT K H a xs)
    (hs : ∀ i x σ H, xs[i]? = some x → Pv i σ H → g x σ H fun σ2 H2 => tb { D with nx := Pv (i + 1), ct := Pv (i + 1), bk := D.nx } σ2 H2) (hd : ∀ σ H, Pv xs.length σ H → D.nx σ H) :
    ∃ W : Nat → Nat → St → Hp → Prop, (∃ m, W 0 m σ H) ∧ ∀ i m σ H, W i m σ H →
      ((Itt K a).stop i H ∧ D.nx σ H) ∨ ((Itt K a).go i H ∧ ∃ N : St → Hp → Prop, (∀ σ' H', N σ' H' → ∃ m', m' < m ∧ W (i + 1) m' σ' H') ∧ ∀ x H', (Itt K a).yld i H x H' → g x σ H' fun σ2 H2 => tb { D with nx := N, ct := N, bk := D.nx } σ2 H2) := by
  refine ⟨fun i m σ H => m = xs.length - i ∧ i ≤ xs.length ∧ Pv i σ H, ⟨xs.length, by simp, Nat.zero_le _, h0⟩, ?_⟩
  rintro i m σ H ⟨rfl, hi, p⟩
  have q := hl i σ H hi p
  by_cases hlt : i < xs.length
  · refine .inr ⟨⟨xs, xs[i], q, by simp [hlt]⟩, Pv (i + 1), fun σ' H' p' => ⟨xs.length - (i + 1), by omega, rfl, hlt, p'⟩, fun x H' y => ?_⟩
    obtain ⟨e, y⟩ := y
    subst e
    exact hs i x σ _ (y xs q) p
  · have e : i = xs.length := by omega
    subst e
    exact .inl ⟨⟨xs, q, Nat.le_refl _⟩, hd σ H p⟩
theorem for_range {lo : Int} {n : Nat} {g : TG} {tb : TS} {D : Ends} {σ : St} {H : Hp} (Pv : Nat → St → Hp → Prop) (h0 : Pv 0 σ H)
    (hs : ∀ i σ H, i < n → Pv i σ H → g (.int (lo + i)) σ H fun σ2 H2 => tb { D with nx := Pv (i + 1), ct := Pv (i + 1), bk := D.nx } σ2 H2) (hd : ∀ σ H, Pv n σ H → D.nx σ H) :
    ∃ W : Nat → Nat → St → Hp → Prop, (∃ m, W 0 m σ H) ∧ ∀ i m σ H, W i m σ H →
      ((Itr lo n).stop i H ∧ D.nx σ H) ∨ ((Itr lo n).go i H ∧ ∃ N : St → Hp → Prop, (∀ σ' H', N σ' H' → ∃ m', m' < m ∧ W (i + 1) m' σ' H') ∧ ∀ x H', (Itr lo n).yld i H x H' → g x σ H' fun σ2 H2 => tb { D with nx := N, ct := N, bk := D.nx } σ2 H2) := by
  refine ⟨fun i m σ H => m = n - i ∧ i ≤ n ∧ Pv i σ H, ⟨n, by simp, Nat.zero_le _, h0⟩, ?_⟩
  rintro i m σ H ⟨rfl, hi, p⟩
  by_cases hlt : i < n
  · refine .inr ⟨hlt, Pv (i + 1), fun σ' H' p' => ⟨n - (i + 1), by omega, rfl, hlt, p'⟩, fun x H' y => ?_⟩
    obtain ⟨e, y⟩ := y
    subst e y
    exact hs i σ _ hlt p
  · have e : i = n := by omega
    subst e
    exact .inl ⟨Nat.le_refl _, hd σ H p⟩
/-- while, by a word and a measure of the state -/
theorem while_by {c : TT} {tb : TS} {D : Ends} {σ : St} {H : Hp} (Pv : St → Hp → Prop) (μ : St → Hp → Nat) (h0 : Pv σ H)
    (hs : ∀ σ H, Pv σ H → c σ H fun b H1 => if b = true then tb { D with nx := fun σ' H' => Pv σ' H' ∧ μ σ' H' < μ σ H, ct := fun σ' H' => Pv σ' H' ∧ μ σ' H' < μ σ H, bk := D.nx } σ H1 else D.nx σ H1)
    (mono : ∀ σ H Q Q', (∀ b H1, Q b H1 → Q' b H1) → c σ H Q → c σ H Q') : tWhile c tb D σ H := by
  refine ⟨fun m σ H => m = μ σ H ∧ Pv σ H, ⟨_, rfl, h0⟩, ?_⟩
  rintro m σ H ⟨rfl, p⟩
  refine mono σ H _ _ (fun b H1 q => ?_) (hs σ H p)
  cases b with
  | true => exact ⟨_, fun σ' H' ⟨p', l⟩ => ⟨_, l, rfl, p'⟩, q⟩
  | false => exact q
end L2

namespace L2
open PySem PySem.Spec PyProof.Rows

abbrev R2 := V → V → Hp → VK → Prop
/-- a two-place operation on values: f is binaryOp op, inplaceOp op or compareOp op -/
def OpR (X : Cx) (f : Value → Value → Sem Value) (r : R2) : Prop :=
  ∀ (pins : List (Addr × Obj)) (s : Shared) (σ : St) (H : Hp) (x y : V) (v u : Value) (Q : VK), Inv X pins σ H s → RelV x v → RelV y u → r x y H Q →
    wpAny (model X.prog X.w) X.A (f v u) (EP X pins σ Q) X.xe s
/-- a one-place operation -/
def UnR (X : Cx) (f : Value → Sem Value) (r : V → Hp → VK → Prop) : Prop :=
  ∀ (pins : List (Addr × Obj)) (s : Shared) (σ : St) (H : Hp) (x : V) (v : Value) (Q : VK), Inv X pins σ H s → RelV x v → r x H Q →
    wpAny (model X.prog X.w) X.A (f v) (EP X pins σ Q) X.xe s
/-- a call of a value that is known (a builtin, a type) with values -/
def CallR (X : Cx) (f : Value) (r : List V → Hp → VK → Prop) : Prop :=
  ∀ (pins : List (Addr × Obj)) (s : Shared) (σ : St) (H : Hp) (xs : List V) (us : List Value) (Q : VK), Inv X pins σ H s → Vals xs us → r xs H Q →
    wpAny (model X.prog X.w) X.A (call f us) (EP X pins σ Q) X.xe s
/-- a value's truth -/
def TruR (X : Cx) (r : V → Hp → (Bool → Hp → Prop) → Prop) : Prop :=
  ∀ (pins : List (Addr × Obj)) (s : Shared) (σ : St) (H : Hp) (x : V) (v : Value) (Q : Bool → Hp → Prop), Inv X pins σ H s → RelV x v → r x H Q →
    wpAny (model X.prog X.w) X.A (truthy v) (TP X pins σ Q) X.xe s

def tOp (r : R2) (ta tb : TE) : TE := fun σ H Q => ta σ H fun x H1 => tb σ H1 fun y H2 => r x y H2 Q
def tUn (r : V → Hp → VK → Prop) (ta : TE) : TE := fun σ H Q => ta σ H fun x H1 => r x H1 Q
/-- ints in, under C, and a value out -/
def rI (C : Int → Int → Prop) (g : Int → Int → V) : R2 := fun x y H Q => ∃ i j, x = .int i ∧ y = .int j ∧ C i j ∧ Q (g i j) H
def rI0 (g : Int → Int → V) : R2 := fun x y H Q => ∃ i j, x = .int i ∧ y = .int j ∧ Q (g i j) H
def rU (g : Int → V) : V → Hp → VK → Prop := fun x H Q => ∃ i, x = .int i ∧ Q (g i) H

section
variable {X : Cx} {a b c : Expr} {ta tb tc : TE} {pos : Pos}

theorem binT (ha : PE X a ta) (hb : PE X b tb) {pins : List (Addr × Obj)} {s : Shared} {σ : St} {H : Hp} {R : V → V → Hp → Prop} (I : Inv X pins σ H s)
    (h : ta σ H fun x H1 => tb σ H1 fun y H2 => R x y H2) {Q : Value → Shared → Prop} {f : Value → Value → Sem Value}
    (hf : ∀ v u s2 x y H2, Inv X pins σ H2 s2 → RelV x v → RelV y u → R x y H2 → wpAny (model X.prog X.w) X.A (f v u) Q X.xe s2) :
    wpAny (model X.prog X.w) X.A (eval a X.env) (fun v s₁ => wpAny (model X.prog X.w) X.A (eval b X.env) (fun u s₂ => wpAny (model X.prog X.w) X.A (f v u) Q X.xe s₂) X.xe s₁) X.xe s := by
  refine thn (ha pins s σ H _ I h) fun v s1 ⟨x, H1, I1, r1, q1⟩ => ?_
  refine thn (hb pins s1 σ H1 _ I1 q1) fun u s2 ⟨y, H2, I2, r2, q2⟩ => ?_
  exact hf v u s2 x y H2 I2 r1 r2 q2

theorem pe_op {op : Operator} {r : R2} (ho : OpR X (binaryOp op) r) (ha : PE X a ta) (hb : PE X b tb) : PE X (.BinOp a op b pos) (tOp r ta tb) := by
  intro pins s σ H Q I h
  exact wpAny_BinOp (binT ha hb I h fun v u s2 x y H2 I2 rx ry q => ho pins s2 σ H2 x y v u Q I2 rx ry q)
theorem pe_un {op : UnaryOp} {r : V → Hp → VK → Prop} (ho : UnR X (unaryOp op) r) (ha : PE X a ta) : PE X (.UnaryOp op a pos) (tUn r ta) := by
  intro pins s σ H Q I h
  exact UnaryOp_ (thn (ha pins s σ H _ I h) fun v s1 ⟨x, H1, I1, r1, q1⟩ => ho pins s1 σ H1 x v Q I1 r1 q1)
/-- a op= e at a name: the name's slot i -/
theorem augR {op : Operator} {r : R2} (ho : OpR X (inplaceOp op) r) {pins : List (Addr × Obj)} {s : Shared} {σ : St} {H : Hp} {x y : V} {v u : Value} {Q : VK} (I : Inv X pins σ H s)
    (rx : RelV x v) (ry : RelV y u) (q : r x y H Q) : wpAny (model X.prog X.w) X.A (inplaceOp op v u) (EP X pins σ Q) X.xe s := ho pins s σ H x y v u Q I rx ry q

/-! ### ints -/
theorem opI {f : Value → Value → Sem Value} {C : Int → Int → Prop} {g : Int → Int → Int}
    (rule : ∀ (i j : Int) (t u : Tok) (s : Shared) (Q : Value → Shared → Prop) (E : Value → Shared → Prop), C i j → Q (.int (g i j) s.toks) { s with toks := s.toks + 1 } → wpAny (model X.prog X.w) X.A (f (.int i t) (.int j u)) Q E s) :
    OpR X f (rI C fun i j => .int (g i j)) := by
  intro pins s σ H x y v u Q I rx ry h
  obtain ⟨i, j, rfl, rfl, hc, q⟩ := h
  obtain ⟨t, rfl⟩ := rx
  obtain ⟨t', rfl⟩ := ry
  exact rule i j t t' s _ _ hc ⟨.int (g i j), H, I.tok _, ⟨_, rfl⟩, q⟩
theorem opI0 {f : Value → Value → Sem Value} {g : Int → Int → Int}
    (rule : ∀ (i j : Int) (t u : Tok) (s : Shared) (Q : Value → Shared → Prop) (E : Value → Shared → Prop), Q (.int (g i j) s.toks) { s with toks := s.toks + 1 } → wpAny (model X.prog X.w) X.A (f (.int i t) (.int j u)) Q E s) :
    OpR X f (rI0 fun i j => .int (g i j)) := by
  intro pins s σ H x y v u Q I rx ry h
  obtain ⟨i, j, rfl, rfl, q⟩ := h
  obtain ⟨t, rfl⟩ := rx
  obtain ⟨t', rfl⟩ := ry
  exact rule i j t t' s _ _ ⟨.int (g i j), H, I.tok _, ⟨_, rfl⟩, q⟩
theorem opB0 {f : Value → Value → Sem Value} {g : Int → Int → Bool}
    (rule : ∀ (i j : Int) (t u : Tok) (s : Shared) (Q : Value → Shared → Prop) (E : Value → Shared → Prop), Q (.bool (g i j)) s → wpAny (model X.prog X.w) X.A (f (.int i t) (.int j u)) Q E s) :
    OpR X f (rI0 fun i j => .bl (g i j)) := by
  intro pins s σ H x y v u Q I rx ry h
  obtain ⟨i, j, rfl, rfl, q⟩ := h
  obtain ⟨t, rfl⟩ := rx
  obtain ⟨t', rfl⟩ := ry
  exact rule i j t t' s _ _ ⟨.bl (g i j), H, I, rfl, q⟩

def CDiv (i j : Int) : Prop := 0 < j ∧ j < 1073741824
def CDivN (i j : Int) : Prop := j ≠ 0 ∧ j.natAbs < 1073741824
def CPow (i j : Int) : Prop := 0 ≤ j ∧ j ≤ 1000000 ∧ i.natAbs < 2 ^ 64
def CMul (i j : Int) : Prop := (-(2 ^ 64) < i ∧ i < 2 ^ 64) ∨ (-(2 ^ 64) < j ∧ j < 2 ^ 64)
theorem CMul.ok {i j : Int} (h : CMul i j) : IntMulOk i j := by
  rcases h with ⟨h1, h2⟩ | ⟨h1, h2⟩
  · exact .of_left (intBits_le_64 h1 h2)
  · exact .of_right (intBits_le_64 h1 h2)
theorem two_pow_nn (k : Nat) : (0 : Int) ≤ 2 ^ k := by
  rw [two_pow_cast]
  exact Int.natCast_nonneg _

theorem op_add : OpR X (binaryOp .Add) (rI0 fun i j => .int (i + j)) := opI0 fun _ _ _ _ _ _ _ q => add_int q
theorem op_sub : OpR X (binaryOp .Sub) (rI0 fun i j => .int (i - j)) := opI0 fun _ _ _ _ _ _ _ q => sub_int q
theorem op_mul : OpR X (binaryOp .Mult) (rI CMul fun i j => .int (i * j)) := opI fun _ _ _ _ _ _ _ hc q => mul_int q hc.ok
/-- // by a positive divisor -/
theorem op_fdiv : OpR X (binaryOp .FloorDiv) (rI CDiv fun i j => .int (i / j)) := opI fun i j _ _ _ _ _ hc q => by
  have h1 : (0 : Int) < j := hc.1
  have h2 : j < 1073741824 := hc.2
  exact floordiv_int (by omega) (by rw [Int.fdiv_eq_ediv_of_nonneg i (by omega)]; exact q) (.inl (PyProof.noPylong_small (by omega)))
theorem op_fdivN : OpR X (binaryOp .FloorDiv) (rI CDivN fun i j => .int (i.fdiv j)) := opI fun _ _ _ _ _ _ _ hc q => floordiv_int hc.1 q (.inl (PyProof.noPylong_small hc.2))
/-- % by a positive divisor of any size -/
theorem op_mod : OpR X (binaryOp .Mod) (rI (fun _ j => 0 < j) fun i j => .int (i % j)) := opI fun i j _ _ _ _ _ hc q => by
  have h1 : (0 : Int) < j := hc
  exact mod_int' (by omega) (by rw [Int.fmod_eq_emod_of_nonneg i (by omega)]; exact q)
theorem op_modN : OpR X (binaryOp .Mod) (rI (fun _ j => j ≠ 0) fun i j => .int (i.fmod j)) := opI fun _ _ _ _ _ _ _ hc q => mod_int' hc q
theorem op_pow : OpR X (binaryOp .Pow) (rI CPow fun i j => .int (i ^ j.toNat)) := opI fun _ _ _ _ _ _ _ hc q => pow_int_small hc.1 hc.2.1 hc.2.2 q
theorem op_shl : OpR X (binaryOp .LShift) (rI CPow fun i j => .int (i * 2 ^ j.toNat)) := opI fun _ _ _ _ _ _ _ hc q => lshift_int_small hc.1 hc.2.1 hc.2.2 q
theorem op_shr : OpR X (binaryOp .RShift) (rI (fun _ j => 0 ≤ j) fun i j => .int (i / 2 ^ j.toNat)) := opI fun i j _ _ _ _ _ hc q =>
  rshift_int hc (by rw [Int.fdiv_eq_ediv_of_nonneg i (two_pow_nn _)]; exact q)
theorem op_and : OpR X (binaryOp .BitAnd) (rI0 fun i j => .int (Builtin.bitAnd i j)) := opI0 fun _ _ _ _ _ _ _ q => and_int q
theorem op_or : OpR X (binaryOp .BitOr) (rI0 fun i j => .int (Builtin.bitOr i j)) := opI0 fun _ _ _ _ _ _ _ q => or_int q
theorem op_xor : OpR X (binaryOp .BitXor) (rI0 fun i j => .int (Builtin.bitXor i j)) := opI0 fun _ _ _ _ _ _ _ q => xor_int q

theorem iop_add : OpR X (inplaceOp .Add) (rI0 fun i j => .int (i + j)) := opI0 fun _ _ _ _ _ _ _ q => iadd_int q
theorem iop_sub : OpR X (inplaceOp .Sub) (rI0 fun i j => .int (i - j)) := opI0 fun _ _ _ _ _ _ _ q => isub_int q
theorem iop_mul : OpR X (inplaceOp .Mult) (rI CMul fun i j => .int (i * j)) := opI fun _ _ _ _ _ _ _ hc q => imul_int q hc.ok
theorem iop_fdiv : OpR X (inplaceOp .FloorDiv) (rI CDiv fun i j => .int (i / j)) := opI fun i j _ _ _ _ _ hc q => by
  have h1 : (0 : Int) < j := hc.1
  have h2 : j < 1073741824 := hc.2
  exact ifloordiv_int (by omega) (by rw [Int.fdiv_eq_ediv_of_nonneg i (by omega)]; exact q) (.inl (PyProof.noPylong_small (by omega)))
theorem iop_mod : OpR X (inplaceOp .Mod) (rI (fun _ j => 0 < j) fun i j => .int (i % j)) := opI fun i j _ _ _ _ _ hc q => by
  have h1 : (0 : Int) < j := hc
  exact imod_int (by omega) (by rw [Int.fmod_eq_emod_of_nonneg i (by omega)]; exact q)
theorem iop_shl : OpR X (inplaceOp .LShift) (rI CPow fun i j => .int (i * 2 ^ j.toNat)) := opI fun _ _ _ _ _ _ _ hc q => ilshift_int_small hc.1 hc.2.1 hc.2.2 q
theorem iop_shr : OpR X (inplaceOp .RShift) (rI (fun _ j => 0 ≤ j) fun i j => .int (i / 2 ^ j.toNat)) := opI fun i j _ _ _ _ _ hc q =>
  irshift_int hc (by rw [Int.fdiv_eq_ediv_of_nonneg i (two_pow_nn _)]; exact q)
theorem iop_and : OpR X (inplaceOp .BitAnd) (rI0 fun i j => .int (Builtin.bitAnd i j)) := opI0 fun _ _ _ _ _ _ _ q => iand_int q
theorem iop_or : OpR X (inplaceOp .BitOr) (rI0 fun i j => .int (Builtin.bitOr i j)) := opI0 fun _ _ _ _ _ _ _ q => ior_int q
theorem iop_xor : OpR X (inplaceOp .BitXor) (rI0 fun i j => .int (Builtin.bitXor i j)) := opI0 fun _ _ _ _ _ _ _ q => ixor_int q

theorem unI {f : Value → Sem Value} {g : Int → Int}
    (rule : ∀ (i : Int) (t : Tok) (s : Shared) (Q : Value → Shared → Prop) (E : Value → Shared → Prop), Q (.int (g i) s.toks) { s with toks := s.toks + 1 } → wpAny (model X.prog X.w) X.A (f (.int i t)) Q E s) :
    UnR X f (rU fun i => .int (g i)) := by
  intro pins s σ H x v Q I rx h
  obtain ⟨i, rfl, q⟩ := h
  obtain ⟨t, rfl⟩ := rx
  exact rule i t s _ _ ⟨.int (g i), H, I.tok _, ⟨_, rfl⟩, q⟩
theorem un_neg : UnR X (unaryOp .USub) (rU fun i => .int (-i)) := unI fun _ _ _ _ _ q => neg_int q
theorem un_inv : UnR X (unaryOp .Invert) (rU fun i => .int (Builtin.bitNot i)) := unI fun _ _ _ _ _ q => invert_int q

/-! ### bools among ints: n += (a < b) -/
theorem op_add_ib : OpR X (binaryOp .Add) (fun x y H Q => ∃ i k, x = .int i ∧ y = .bl k ∧ Q (.int (i + b2i k)) H) := by
  intro pins s σ H x y v u Q I rx ry h
  obtain ⟨i, k, rfl, rfl, q⟩ := h
  obtain ⟨t, rfl⟩ := rx
  cases ry
  exact add_int_bool ⟨.int (i + b2i k), H, I.tok _, ⟨_, rfl⟩, q⟩
end

/-! ### comparisons -/
/-- the scalars that == tells apart as data does -/
def scal : V → V → Bool
  | .non, .non => true | .non, .int _ => true | .int _, .non => true | .non, .bl _ => true | .bl _, .non => true | .non, .str _ => true | .str _, .non => true
  | .int _, .int _ => true | .bl _, .bl _ => true | .str _, .str _ => true | .byt _, .byt _ => true
  | .int _, .str _ => true | .str _, .int _ => true | .bl _, .str _ => true | .str _, .bl _ => true
  | _, _ => false
def rEq : R2 := fun x y H Q => scal x y = true ∧ Q (.bl (decide (x = y))) H
def rNe : R2 := fun x y H Q => scal x y = true ∧ Q (.bl (!decide (x = y))) H

theorem dec_int {i j : Int} : decide (V.int i = V.int j) = (i == j) := by
  rw [Bool.eq_iff_iff]
  simp
theorem dec_bl {i j : Bool} : decide (V.bl i = V.bl j) = (i == j) := by
  rw [Bool.eq_iff_iff]
  simp
theorem dec_str {i j : Str} : decide (V.str i = V.str j) = (i == j) := by
  rw [Bool.eq_iff_iff]
  simp
theorem dec_byt {i j : Array UInt8} : decide (V.byt i = V.byt j) = (i.toList == j.toList) := by
  rw [Bool.eq_iff_iff]
  cases i
  cases j
  simp

section
variable {X : Cx} {a b c : Expr} {ta tb tc : TE} {pos : Pos}
theorem fin_bl {pins : List (Addr × Obj)} {σ : St} {H : Hp} {s : Shared} {Q : VK} {k k' : Bool} (I : Inv X pins σ H s) (q : Q (.bl k) H) (e : k = k') : EP X pins σ Q (.bool k') s := by
  subst e
  exact ⟨.bl k, H, I, rfl, q⟩
theorem op_eq : OpR X (compareOp .Eq) rEq := by
  intro pins s σ H x y v u Q I rx ry h
  obtain ⟨hs, q⟩ := h
  cases x with
  | non =>
    cases rx
    cases y with
    | non => cases ry; exact PySem.EqNone.eq_none_none (fin_bl I q (by simp))
    | bl j => cases ry; exact PySem.EqNone.eq_none_bool (fin_bl I q (by simp))
    | int j => obtain ⟨t', rfl⟩ := ry; exact PySem.EqNone.eq_none_int (fin_bl I q (by simp))
    | str j => obtain ⟨t', rfl⟩ := ry; exact PySem.EqNone.eq_none_str (fin_bl I q (by simp))
    | _ => exact absurd (show false = true from hs) Bool.false_ne_true
  | bl i =>
    cases rx
    cases y with
    | non => cases ry; exact PySem.EqNone.eq_bool_none (fin_bl I q (by simp))
    | bl j => cases ry; exact eq_bool (fin_bl I q dec_bl)
    | str j => obtain ⟨t', rfl⟩ := ry; exact PySem.EqMixed.eq_bool_str (fin_bl I q (by simp))
    | _ => exact absurd (show false = true from hs) Bool.false_ne_true
  | int i =>
    obtain ⟨t, rfl⟩ := rx
    cases y with
    | non => cases ry; exact PySem.EqNone.eq_int_none (fin_bl I q (by simp))
    | int j => obtain ⟨t', rfl⟩ := ry; exact eq_int (fin_bl I q dec_int)
    | str j => obtain ⟨t', rfl⟩ := ry; exact PySem.EqMixed.eq_int_str (fin_bl I q (by simp))
    | _ => exact absurd (show false = true from hs) Bool.false_ne_true
  | str i =>
    obtain ⟨t, rfl⟩ := rx
    cases y with
    | non => cases ry; exact PySem.EqNone.eq_str_none (fin_bl I q (by simp))
    | bl j => cases ry; exact PySem.EqMixed.eq_str_bool (fin_bl I q (by simp))
    | int j => obtain ⟨t', rfl⟩ := ry; exact PySem.EqMixed.eq_str_int (fin_bl I q (by simp))
    | str j => obtain ⟨t', rfl⟩ := ry; exact eq_str (fin_bl I q dec_str)
    | _ => exact absurd (show false = true from hs) Bool.false_ne_true
  | byt i =>
    obtain ⟨t, rfl⟩ := rx
    cases y with
    | byt j => obtain ⟨t', rfl⟩ := ry; exact PySem.W.eq_bytes (fin_bl I q dec_byt)
    | _ => exact absurd (show false = true from hs) Bool.false_ne_true
  | _ => cases y <;> exact absurd (show false = true from hs) Bool.false_ne_true
theorem op_ne : OpR X (compareOp .NotEq) rNe := by
  intro pins s σ H x y v u Q I rx ry h
  obtain ⟨hs, q⟩ := h
  cases x with
  | non =>
    cases rx
    cases y with
    | non => cases ry; exact PySem.EqNone.ne_none_none (fin_bl I q (by simp))
    | bl j => cases ry; exact PySem.EqNone.ne_none_bool (fin_bl I q (by simp))
    | int j => obtain ⟨t', rfl⟩ := ry; exact PySem.EqNone.ne_none_int (fin_bl I q (by simp))
    | str j => obtain ⟨t', rfl⟩ := ry; exact PySem.EqNone.ne_none_str (fin_bl I q (by simp))
    | _ => exact absurd (show false = true from hs) Bool.false_ne_true
  | bl i =>
    cases rx
    cases y with
    | non => cases ry; exact PySem.EqNone.ne_bool_none (fin_bl I q (by simp))
    | bl j => cases ry; exact ne_bool (fin_bl I q (congrArg not dec_bl))
    | str j => obtain ⟨t', rfl⟩ := ry; exact PySem.EqMixed.ne_bool_str (fin_bl I q (by simp))
    | _ => exact absurd (show false = true from hs) Bool.false_ne_true
  | int i =>
    obtain ⟨t, rfl⟩ := rx
    cases y with
    | non => cases ry; exact PySem.EqNone.ne_int_none (fin_bl I q (by simp))
    | int j => obtain ⟨t', rfl⟩ := ry; exact ne_int (fin_bl I q (congrArg not dec_int))
    | str j => obtain ⟨t', rfl⟩ := ry; exact PySem.EqMixed.ne_int_str (fin_bl I q (by simp))
    | _ => exact absurd (show false = true from hs) Bool.false_ne_true
  | str i =>
    obtain ⟨t, rfl⟩ := rx
    cases y with
    | non => cases ry; exact PySem.EqNone.ne_str_none (fin_bl I q (by simp))
    | bl j => cases ry; exact PySem.EqMixed.ne_str_bool (fin_bl I q (by simp))
    | int j => obtain ⟨t', rfl⟩ := ry; exact PySem.EqMixed.ne_str_int (fin_bl I q (by simp))
    | str j => obtain ⟨t', rfl⟩ := ry; exact ne_str (fin_bl I q (congrArg not dec_str))
    | _ => exact absurd (show false = true from hs) Bool.false_ne_true
  | byt i =>
    obtain ⟨t, rfl⟩ := rx
    cases y with
    | byt j => obtain ⟨t', rfl⟩ := ry; exact PySem.W.ne_bytes (fin_bl I q (congrArg not dec_byt))
    | _ => exact absurd (show false = true from hs) Bool.false_ne_true
  | _ => cases y <;> exact absurd (show false = true from hs) Bool.false_ne_true

theorem op_lt : OpR X (compareOp .Lt) (rI0 fun i j => .bl (decide (i < j))) := opB0 fun _ _ _ _ _ _ _ q => lt_int q
theorem op_le : OpR X (compareOp .LtE) (rI0 fun i j => .bl (decide (i ≤ j))) := opB0 fun _ _ _ _ _ _ _ q => le_int q
theorem op_gt : OpR X (compareOp .Gt) (rI0 fun i j => .bl (decide (j < i))) := opB0 fun _ _ _ _ _ _ _ q => gt_int q
theorem op_ge : OpR X (compareOp .GtE) (rI0 fun i j => .bl (decide (j ≤ i))) := opB0 fun _ _ _ _ _ _ _ q => ge_int q
theorem op_lt_str : OpR X (compareOp .Lt) (fun x y H Q => ∃ i j, x = .str i ∧ y = .str j ∧ Q (.bl (decide (i.cps.toList < j.cps.toList))) H) := by
  intro pins s σ H x y v u Q I rx ry h
  obtain ⟨i, j, rfl, rfl, q⟩ := h
  obtain ⟨t, rfl⟩ := rx
  obtain ⟨t', rfl⟩ := ry
  exact lt_str (fin_bl I q rfl)
/-- the one string within the other -/
theorem op_in_str : OpR X (compareOp .In) (fun x y H Q => ∃ i j, x = .str i ∧ y = .str j ∧ Q (.bl (!(Builtin.Str.occurrences j i 0 j.length 1).isEmpty)) H) := by
  intro pins s σ H x y v u Q I rx ry h
  obtain ⟨i, j, rfl, rfl, q⟩ := h
  obtain ⟨t, rfl⟩ := rx
  obtain ⟨t', rfl⟩ := ry
  exact in_str (fin_bl I q rfl)

/-- is None, is not None: the right side a value none -/
theorem op_isN : OpR X (compareOp .Is) (fun x y H Q => y = .non ∧ Q (.bl (decide (x = .non))) H) := by
  intro pins s σ H x y v u Q I rx ry h
  obtain ⟨rfl, q⟩ := h
  cases ry
  refine is_none_gen (fin_bl I q ?_)
  cases x <;> first
    | (cases rx; rfl)
    | (obtain ⟨t, rfl⟩ := rx; rfl)
theorem op_notN : OpR X (compareOp .IsNot) (fun x y H Q => y = .non ∧ Q (.bl (!decide (x = .non))) H) := by
  intro pins s σ H x y v u Q I rx ry h
  obtain ⟨rfl, q⟩ := h
  cases ry
  refine isnot_none_gen (fin_bl I q ?_)
  cases x <;> first
    | (cases rx; rfl)
    | (obtain ⟨t, rfl⟩ := rx; rfl)

theorem op_notin_str : OpR X (compareOp .NotIn) (fun x y H Q => ∃ i j, x = .str i ∧ y = .str j ∧ Q (.bl (!(!(Builtin.Str.occurrences j i 0 j.length 1).isEmpty))) H) := by
  intro pins s σ H x y v u Q I rx ry h
  obtain ⟨i, j, rfl, rfl, q⟩ := h
  obtain ⟨t, rfl⟩ := rx
  obtain ⟨t', rfl⟩ := ry
  exact notIn_str (fin_bl I q rfl)
/-- is, is not of two objects that are tracked lists or instances -/
def isObj : HO → Bool
  | .lst _ => true
  | .ins _ _ _ => true
  | _ => false
theorem obj_there {pins : List (Addr × Obj)} {s : Shared} {σ : St} {H : Hp} {a : Addr} {o : HO} (I : Inv X pins σ H s) (h : H a = some o) (p : isObj o = true) : ∃ ob, s.heap.get? a = some ob ∧ ob.cls ≠ .type "tuple" := by
  cases o with
  | lst xs =>
    obtain ⟨_, its, n, _, e⟩ : xs.length ≤ sizeLine ∧ ∃ (its : List Value) (n : Nat), Vals xs its ∧ s.heap.get? a = some { cls := .type "list", data := .seq its.toArray n } := I.hok a _ h
    exact ⟨_, e, (by show Value.type "list" ≠ .type "tuple"; decide +kernel)⟩
  | ins C dx fs =>
    have x := I.hok a _ h
    obtain ⟨_, _, _, e, _⟩ := x
    exact ⟨_, e, (by show Value.ref C ≠ .type "tuple"; exact fun z => by cases z)⟩
  | _ => exact absurd (show false = true from p) Bool.false_ne_true
theorem op_is_ref : OpR X (compareOp .Is) (fun x y H Q => ∃ a b oa ob, x = .ref a ∧ y = .ref b ∧ H a = some oa ∧ isObj oa = true ∧ H b = some ob ∧ isObj ob = true ∧ Q (.bl (decide (a = b))) H) := by
  intro pins s σ H x y v u Q I rx ry h
  obtain ⟨a, b, oa, ob, rfl, rfl, ha, pa, hb, pb, q⟩ := h
  cases rx
  cases ry
  obtain ⟨o1, e1, n1⟩ := obj_there I ha pa
  obtain ⟨o2, e2, _⟩ := obj_there I hb pb
  by_cases z : a = b
  · subst z
    exact wpAny_is_ref_self (fin_bl I q (by simp))
  · exact wpAny_is_ref_other z e1 e2 n1 (fin_bl I q (by simp [z]))
theorem op_isnot_ref : OpR X (compareOp .IsNot) (fun x y H Q => ∃ a b oa ob, x = .ref a ∧ y = .ref b ∧ H a = some oa ∧ isObj oa = true ∧ H b = some ob ∧ isObj ob = true ∧ Q (.bl (!decide (a = b))) H) := by
  intro pins s σ H x y v u Q I rx ry h
  obtain ⟨a, b, oa, ob, rfl, rfl, ha, pa, hb, pb, q⟩ := h
  cases rx
  cases ry
  obtain ⟨o1, e1, n1⟩ := obj_there I ha pa
  obtain ⟨o2, e2, _⟩ := obj_there I hb pb
  by_cases z : a = b
  · subst z
    exact wpAny_isNot_ref_self (fin_bl I q (by simp))
  · exact wpAny_isNot_ref_other z e1 e2 n1 (fin_bl I q (by simp [z]))

/-- two rules for one operation: by cases -/
theorem OpR.or {f : Value → Value → Sem Value} {r r' : R2} (h : OpR X f r) (h' : OpR X f r') : OpR X f (fun x y H Q => r x y H Q ∨ r' x y H Q) := by
  intro pins s σ H x y v u Q I rx ry q
  rcases q with q | q
  · exact h pins s σ H x y v u Q I rx ry q
  · exact h' pins s σ H x y v u Q I rx ry q

theorem nomark (b : Expr) {op : CmpOp} (h : op ≠ .In := by decide) (h2 : op ≠ .NotIn := by decide) : behindInMarks op b = false := by
  have e1 : (op == CmpOp.In) = false := by cases op <;> first | rfl | exact absurd rfl h
  have e2 : (op == CmpOp.NotIn) = false := by cases op <;> first | rfl | exact absurd rfl h2
  cases b <;> simp [behindInMarks, e1, e2]
/-- a comparison as a value; hm: nomark b, or (for in, not in) by with_unfolding_all rfl -/
theorem pe_cmpR {op : CmpOp} {r : R2} (ho : OpR X (compareOp op) r) (ha : PE X a ta) (hb : PE X b tb) (hm : behindInMarks op b = false) : PE X (.Compare a [op] [b] pos) (tOp r ta tb) := by
  intro pins s σ H Q I h
  exact wpAny_Compare1 (binT ha hb I h fun v u s2 x y H2 I2 rx ry q => ho pins s2 σ H2 x y v u Q I2 rx ry q) hm
/-- a reading of a value as a test -/
def tTest (t : TE) : TT := fun σ H Q => t σ H fun x H' => ∃ k, x = .bl k ∧ Q k H'
theorem pt_cmpR {op : CmpOp} {r : R2} (ho : OpR X (compareOp op) r) (ha : PE X a ta) (hb : PE X b tb) (hm : behindInMarks op b = false) : PT X (.Compare a [op] [b] pos) (tTest (tOp r ta tb)) := by
  intro pins s σ H Q I h
  refine wpAny_isTrue_Compare1 (thn (ha pins s σ H _ I h) fun v s1 ⟨x, H1, I1, r1, q1⟩ => thn (hb pins s1 σ H1 _ I1 q1) fun u s2 ⟨y, H2, I2, r2, q2⟩ =>
    thn (ho pins s2 σ H2 x y v u _ I2 r1 r2 q2) fun c s3 ⟨z, H3, I3, r3, k, e, q3⟩ => ?_) hm
  subst e
  cases r3
  exact wpAny_truthy_bool ⟨H3, I3, q3⟩
/-- a op1 b op2 c -/
def tChain (r r' : R2) (ta tb tc : TE) : TE := fun σ H Q => ta σ H fun x H1 => tb σ H1 fun y H2 => r x y H2 fun z H3 => ∃ k, z = .bl k ∧
  (if k = true then tc σ H3 fun w' H4 => r' y w' H4 Q else Q (.bl false) H3)
theorem pe_chain {op op' : CmpOp} {r r' : R2} (ho : OpR X (compareOp op) r) (ho' : OpR X (compareOp op') r') (ha : PE X a ta) (hb : PE X b tb) (hc : PE X c tc)
    (hm : lastMarks [op, op'] [b, c] = false := by with_unfolding_all rfl) : PE X (.Compare a [op, op'] [b, c] pos) (tChain r r' ta tb tc) := by
  intro pins s σ H Q I h
  refine Compare_chain (thn (ha pins s σ H _ I h) fun v s1 ⟨x, H1, I1, r1, q1⟩ => chain_link (thn (hb pins s1 σ H1 _ I1 q1) fun u s2 ⟨y, H2, I2, r2, q2⟩ =>
    thn (ho pins s2 σ H2 x y v u _ I2 r1 r2 q2) fun d s3 ⟨z, H3, I3, r3, k, e, q3⟩ => ?_)) hm
  subst e
  cases r3
  refine wpAny_truthy_bool ?_
  cases k with
  | false => exact ite_ff ⟨.bl false, H3, I3, rfl, q3⟩
  | true => exact ite_tt (chain_last (thn (hc pins s3 σ H3 _ I3 q3) fun w' s4 ⟨z', H4, I4, r4, q4⟩ => ho' pins s4 σ H4 y z' u w' Q I4 r2 r4 q4))
theorem pt_chain {op op' : CmpOp} {r r' : R2} (ho : OpR X (compareOp op) r) (ho' : OpR X (compareOp op') r') (ha : PE X a ta) (hb : PE X b tb) (hc : PE X c tc)
    (hm : lastMarks [op, op'] [b, c] = false := by with_unfolding_all rfl) : PT X (.Compare a [op, op'] [b, c] pos) (tTest (tChain r r' ta tb tc)) := by
  intro pins s σ H Q I h
  refine isTrue_chain (thn (ha pins s σ H _ I h) fun v s1 ⟨x, H1, I1, r1, q1⟩ => test_link (thn (hb pins s1 σ H1 _ I1 q1) fun u s2 ⟨y, H2, I2, r2, q2⟩ =>
    thn (ho pins s2 σ H2 x y v u _ I2 r1 r2 q2) fun d s3 ⟨z, H3, I3, r3, k, e, q3⟩ => ?_)) hm
  subst e
  cases r3
  refine wpAny_truthy_bool ?_
  cases k with
  | false =>
    obtain ⟨k', e', q'⟩ := q3
    cases e'
    exact ite_ff ⟨H3, I3, q'⟩
  | true =>
    refine ite_tt (test_last (thn (hc pins s3 σ H3 _ I3 q3) fun w' s4 ⟨z', H4, I4, r4, q4⟩ => thn (ho' pins s4 σ H4 y z' u w' _ I4 r2 r4 q4) fun d' s5 ⟨z2, H5, I5, r5, k2, e2, q5⟩ => ?_))
    subst e2
    cases r5
    exact wpAny_truthy_bool ⟨H5, I5, q5⟩

/-! ### truth -/
/-- a value's truth by the abstract heap -/
def TruV (K : PySem.W.Frag) (x : V) (H : Hp) (k : Bool) : Prop :=
  match x with
  | .non => k = false
  | .bl b => k = b
  | .int i => k = (i != 0)
  | .str y => y.length ≤ sizeLine ∧ k = ((y.length : Int) != 0)
  | .byt y => y.size ≤ sizeLine ∧ k = ((y.size : Int) != 0)
  | .ref p => (∃ xs, SqL K H p xs ∧ k = !xs.isEmpty) ∨ (∃ xs, SqT K H p xs ∧ k = !xs.isEmpty) ∨ ∃ kvs, H p = some (.dK kvs) ∧ k = !kvs.isEmpty
  | _ => False
theorem isEmpty_kv {κ : Type} {kvs : List (κ × V)} {vs : List (κ × Value)} (r : KV kvs vs) : (!vs.isEmpty) = !kvs.isEmpty := by
  cases r <;> rfl
theorem isEmpty_of {xs : List V} {its : List Value} (r : Vals xs its) : (!its.toArray.isEmpty) = !xs.isEmpty := by
  cases r <;> simp
theorem line63 : (sizeLine : Nat) < 2 ^ 63 := by rw [sizeLine_eq]; decide
theorem tru_ok : TruR X (fun x H Q => ∃ k, TruV X.K x H k ∧ Q k H) := by
  intro pins s σ H x v Q I rx h
  obtain ⟨k, e, q⟩ := h
  have hl := line63
  have hs : sizeLine = 16777216 := sizeLine_eq
  cases x with
  | non =>
    cases rx
    have e' : k = false := e
    subst e'
    exact truthy_none ⟨H, I, q⟩
  | bl b =>
    cases rx
    have e' : k = b := e
    subst e'
    exact wpAny_truthy_bool ⟨H, I, q⟩
  | int i =>
    obtain ⟨t, rfl⟩ := rx
    have e' : k = (i != 0) := e
    subst e'
    exact PySem.P.truthy_int ⟨H, I, q⟩
  | str y =>
    obtain ⟨t, rfl⟩ := rx
    obtain ⟨hy, e'⟩ : y.length ≤ sizeLine ∧ k = ((y.length : Int) != 0) := e
    subst e'
    exact PySem.P.truthy_str (by omega) ⟨H, I.tok _, q⟩
  | byt y =>
    obtain ⟨t, rfl⟩ := rx
    obtain ⟨hy, e'⟩ : y.size ≤ sizeLine ∧ k = ((y.size : Int) != 0) := e
    subst e'
    exact PySem.W.truthy_bytes (by omega) ⟨H, I.tok _, q⟩
  | ref p =>
    cases rx
    have e' : (∃ xs, SqL X.K H p xs ∧ k = !xs.isEmpty) ∨ (∃ xs, SqT X.K H p xs ∧ k = !xs.isEmpty) ∨ ∃ kvs, H p = some (.dK kvs) ∧ k = !kvs.isEmpty := e
    rcases e' with ⟨xs, hx, e'⟩ | ⟨xs, hx, e'⟩ | ⟨kvs, hx, e'⟩
    · subst e'
      obtain ⟨its, r, pl, hz⟩ := I.list hx
      have hlen := r.length
      exact wpAny_truthy_list pl.isList (by simp only [List.size_toArray]; omega) ⟨H, I.tok _, by rw [isEmpty_of r]; exact q⟩
    · subst e'
      obtain ⟨its, r, pl, hz⟩ := I.tuple hx
      have hlen := r.length
      exact truthy_tuple pl (by simp only [List.size_toArray]; omega) ⟨H, I.tok _, by rw [isEmpty_of r]; exact q⟩
    · subst e'
      obtain ⟨hz, hS, vs, r, m⟩ : kvs.length ≤ sizeLine ∧ (p == sysModules) = false ∧ ∃ vs, KV kvs vs ∧ s.heap.DictOf (mixKind X.prog X.w) p vs := I.hok p _ hx
      have hlen : kvs.length = vs.length := Paired.length r
      exact wpAny_truthy_dict hS m (by omega) ⟨H, I.tok _, by rw [isEmpty_kv r]; exact q⟩
  | _ => exact (show False from e).elim
/-- any expression whose test is its value's truth (a name, a call, a subscript, a field ..: he by fun _ => rfl) -/
theorem pt_truth (ha : PE X a ta) (he : ∀ whole, isTrue a X.env whole = (do let v ← whole; standAt a.pos; holding [v] (truthy v))) :
    PT X a (fun σ H Q => ta σ H fun x H' => ∃ k, TruV X.K x H' k ∧ Q k H') := by
  intro pins s σ H Q I h
  exact isTrue_plain (thn (ha pins s σ H _ I h) fun v s1 ⟨x, H1, I1, r1, q1⟩ => tru_ok pins s1 σ H1 x v Q I1 r1 q1) (he _)

/-! ### strs and bytes -/
theorem pe_byt {x : List UInt8} {k : Nat} : PE X (.Constant (.bytes x) k pos) (fun _ H Q => Q (.byt x.toArray) H) := fun _ _ _ H _ I h => PySem.W.Constant_bytes ⟨.byt x.toArray, H, I.tok _, ⟨_, rfl⟩, h⟩
theorem op_add_str : OpR X (binaryOp .Add) (fun x y H Q => ∃ i j, x = .str i ∧ y = .str j ∧ i.length + j.length ≤ sizeLine ∧ Q (.str (i ++ j)) H) := by
  intro pins s σ H x y v u Q I rx ry h
  obtain ⟨i, j, rfl, rfl, hz, q⟩ := h
  obtain ⟨t, rfl⟩ := rx
  obtain ⟨t', rfl⟩ := ry
  exact add_str (fun t' tk => ⟨.str (i ++ j), H, I.tok _, ⟨_, rfl⟩, q⟩) hz
theorem iop_add_str : OpR X (inplaceOp .Add) (fun x y H Q => ∃ i j, x = .str i ∧ y = .str j ∧ i.length + j.length ≤ sizeLine ∧ Q (.str (i ++ j)) H) := by
  intro pins s σ H x y v u Q I rx ry h
  obtain ⟨i, j, rfl, rfl, hz, q⟩ := h
  obtain ⟨t, rfl⟩ := rx
  obtain ⟨t', rfl⟩ := ry
  exact iadd_str (fun t' tk => ⟨.str (i ++ j), H, I.tok _, ⟨_, rfl⟩, q⟩) hz
theorem op_add_byt : OpR X (binaryOp .Add) (fun x y H Q => ∃ i j, x = .byt i ∧ y = .byt j ∧ i.size + j.size ≤ 16777216 ∧ Q (.byt (i ++ j)) H) := by
  intro pins s σ H x y v u Q I rx ry h
  obtain ⟨i, j, rfl, rfl, hz, q⟩ := h
  obtain ⟨t, rfl⟩ := rx
  obtain ⟨t', rfl⟩ := ry
  exact PySem.W.KBy.add_bytes hz (fun t' tk => ⟨.byt (i ++ j), H, I.tok _, ⟨_, rfl⟩, q⟩)

def PlainIxT (b : Expr) : Prop := ∀ o i, subscripted b false o i = operate [o, i] (getItem o i)
/-- s[i], 0 ≤ i < len -/
theorem pe_item_str (ha : PE X a ta) (hb : PE X b tb) (hs : PlainIxT b) :
    PE X (.Subscript a b pos) (tOp (fun x y H Q => ∃ z i c, x = .str z ∧ y = .int i ∧ 0 ≤ i ∧ i < 2 ^ 63 ∧ i < z.length ∧ z.cps[i.toNat]? = some c ∧ Q (.str ⟨#[c]⟩) H) ta tb) := by
  intro pins s σ H Q I h
  refine Subscript_ (binT ha hb I h fun v u s2 x y H2 I2 rx ry q => ?_)
  obtain ⟨z, i, c, rfl, rfl, h0, h63, h1, hc, q⟩ := q
  obtain ⟨t, rfl⟩ := rx
  obtain ⟨t', rfl⟩ := ry
  have e : seqIndex? i z.length = some i.toNat := PySem.StrLaws.seqIndex_nonneg h0 h1
  exact tail_any (typeIs_str s2 z t) slot_str_getitem.lookup (getItem_str (c := c) (by
    have e1 : decide (i < -(2 ^ 63 : Int)) = false := decide_eq_false (by omega)
    have e2 : decide (i ≥ 2 ^ 63) = false := decide_eq_false (by omega)
    rw [e1, e2] <;> rfl) (by rw [e]; exact hc) ⟨.str ⟨#[c]⟩, H2, I2.tok _, ⟨_, rfl⟩, q⟩) (hs _ _)
/-- b[i], 0 ≤ i < len -/
theorem pe_item_byt (ha : PE X a ta) (hb : PE X b tb) (hs : PlainIxT b) :
    PE X (.Subscript a b pos) (tOp (fun x y H Q => ∃ (z : List UInt8) (i : Int), x = .byt z.toArray ∧ y = .int i ∧ z.length ≤ sizeLine ∧ 0 ≤ i ∧ i < z.length ∧ Q (.int ((z.getD i.toNat 0).toNat : Nat)) H) ta tb) := by
  intro pins s σ H Q I h
  refine Subscript_ (binT ha hb I h fun v u s2 x y H2 I2 rx ry q => ?_)
  obtain ⟨z, i, rfl, rfl, hz, h0, h1, q⟩ := q
  obtain ⟨t, rfl⟩ := rx
  obtain ⟨t', rfl⟩ := ry
  have hl : sizeLine = 16777216 := sizeLine_eq
  exact tail_any (PySem.W.typeIs_bytes s2 z.toArray t) PySem.W.FB.slot_bytes_getitem.lookup (PySem.W.getItem_bytes (by omega) h0 h1 ⟨.int ((z.getD i.toNat 0).toNat : Nat), H2, I2.tok _, ⟨_, rfl⟩, q⟩) (hs _ _)

/-! ### scalar builtins, by CallR -/
theorem vals1 {x : V} {us : List Value} (r : Vals [x] us) : ∃ u, us = [u] ∧ RelV x u := by
  cases r with
  | cons r1 r2 => cases r2; exact ⟨_, rfl, r1⟩
theorem vals2 {x y : V} {us : List Value} (r : Vals [x, y] us) : ∃ u w', us = [u, w'] ∧ RelV x u ∧ RelV y w' := by
  cases r with
  | cons r1 r2 =>
    cases r2 with
    | cons r3 r4 => cases r4; exact ⟨_, _, rfl, r1, r3⟩
theorem call_abs : CallR X (.builtin "abs") (fun xs H Q => ∃ i, xs = [.int i] ∧ Q (.int (if i < 0 then -i else i)) H) := by
  intro pins s σ H xs us Q I r h
  obtain ⟨i, rfl, q⟩ := h
  obtain ⟨u, rfl, t, rfl⟩ := vals1 r
  exact call_abs_int fun u tk => ⟨.int (if i < 0 then -i else i), H, I.tok _, ⟨_, rfl⟩, q⟩
theorem call_max2 (hc : X.calm = true) : CallR X (.builtin "max") (fun xs H Q => ∃ i j, xs = [.int i, .int j] ∧ Q (.int (if j > i then j else i)) H) := by
  intro pins s σ H xs us Q I r h
  obtain ⟨i, j, rfl, q⟩ := h
  obtain ⟨u, w', rfl, ⟨t, rfl⟩, ⟨t', rfl⟩⟩ := vals2 r
  refine max_two_ints (I.ok.hd hc) fun h' tk k => ⟨_, H, I.kept k, ?_, q⟩
  by_cases hj : j > i
  · rw [if_pos hj, if_pos hj]; exact ⟨_, rfl⟩
  · rw [if_neg hj, if_neg hj]; exact ⟨_, rfl⟩
theorem call_min2 (hc : X.calm = true) : CallR X (.builtin "min") (fun xs H Q => ∃ i j, xs = [.int i, .int j] ∧ Q (.int (if j < i then j else i)) H) := by
  intro pins s σ H xs us Q I r h
  obtain ⟨i, j, rfl, q⟩ := h
  obtain ⟨u, w', rfl, ⟨t, rfl⟩, ⟨t', rfl⟩⟩ := vals2 r
  refine min_two_ints (I.ok.hd hc) fun h' tk k => ⟨_, H, I.kept k, ?_, q⟩
  by_cases hj : j < i
  · rw [if_pos hj, if_pos hj]; exact ⟨_, rfl⟩
  · rw [if_neg hj, if_neg hj]; exact ⟨_, rfl⟩
theorem call_int1 : CallR X (.type "int") (fun xs H Q => (∃ i, xs = [.int i] ∧ Q (.int i) H) ∨ ∃ k, xs = [.bl k] ∧ Q (.int (if k then 1 else 0)) H) := by
  intro pins s σ H xs us Q I r h
  rcases h with ⟨i, rfl, q⟩ | ⟨k, rfl, q⟩
  · obtain ⟨u, rfl, t, rfl⟩ := vals1 r
    exact call_int_int ⟨.int i, H, I, ⟨_, rfl⟩, q⟩
  · obtain ⟨u, rfl, r1⟩ := vals1 r
    cases r1
    exact call_int_bool ⟨.int (if k then 1 else 0), H, I.tok _, ⟨_, rfl⟩, q⟩
theorem call_bool1 : CallR X (.type "bool") (fun xs H Q => (∃ i, xs = [.int i] ∧ Q (.bl (i != 0)) H) ∨ ∃ k, xs = [.bl k] ∧ Q (.bl k) H) := by
  intro pins s σ H xs us Q I r h
  rcases h with ⟨i, rfl, q⟩ | ⟨k, rfl, q⟩
  · obtain ⟨u, rfl, t, rfl⟩ := vals1 r
    exact call_bool_int ⟨.bl (i != 0), H, I, rfl, q⟩
  · obtain ⟨u, rfl, r1⟩ := vals1 r
    cases r1
    exact call_bool_bool ⟨.bl k, H, I, rfl, q⟩
theorem call_str_int : CallR X (.type "str") (fun xs H Q => ∃ i, xs = [.int i] ∧ i.natAbs.log2 < 1920 ∧ Q (.str (toString i)) H) := by
  intro pins s σ H xs us Q I r h
  obtain ⟨i, rfl, hz, q⟩ := h
  obtain ⟨u, rfl, t, rfl⟩ := vals1 r
  exact PySem.P.str_of_int hz ⟨.str _, H, I.tok _, ⟨_, rfl⟩, q⟩
theorem call_ord : CallR X (.builtin "ord") (fun xs H Q => ∃ x, xs = [.str x] ∧ x.length = 1 ∧ Q (.int (x.cps.getD 0 0 : Nat)) H) := by
  intro pins s σ H xs us Q I r h
  obtain ⟨x, rfl, hz, q⟩ := h
  obtain ⟨u, rfl, t, rfl⟩ := vals1 r
  exact ord_of_one hz ⟨.int _, H, I.tok _, ⟨_, rfl⟩, q⟩
theorem call_chr : CallR X (.builtin "chr") (fun xs H Q => ∃ i, xs = [.int i] ∧ 0 ≤ i ∧ i ≤ 1114111 ∧ Q (.str ⟨#[i.toNat]⟩) H) := by
  intro pins s σ H xs us Q I r h
  obtain ⟨i, rfl, h0, h1, q⟩ := h
  obtain ⟨u, rfl, t, rfl⟩ := vals1 r
  exact chr_of_range h0 h1 ⟨.str _, H, I.tok _, ⟨_, rfl⟩, q⟩
/-- len of a str, a bytes, a list, a tuple -/
def LenV (K : PySem.W.Frag) (x : V) (H : Hp) (n : Nat) : Prop :=
  match x with
  | .str y => y.length ≤ sizeLine ∧ n = y.length
  | .byt y => y.size ≤ sizeLine ∧ n = y.size
  | .ref p => (∃ xs, SqL K H p xs ∧ n = xs.length) ∨ ∃ xs, SqT K H p xs ∧ n = xs.length
  | _ => False
theorem call_len : CallR X (.builtin "len") (fun xs H Q => ∃ x n, xs = [x] ∧ LenV X.K x H n ∧ Q (.int n) H) := by
  intro pins s σ H xs us Q I r h
  obtain ⟨x, n, rfl, e, q⟩ := h
  obtain ⟨u, rfl, rx⟩ := vals1 r
  have hl := line63
  have hs : sizeLine = 16777216 := sizeLine_eq
  cases x with
  | str y =>
    obtain ⟨t, rfl⟩ := rx
    obtain ⟨hy, e'⟩ : y.length ≤ sizeLine ∧ n = y.length := e
    subst e'
    exact len_str (by omega) ⟨.int _, H, I.tok _, ⟨_, rfl⟩, q⟩
  | byt y =>
    obtain ⟨t, rfl⟩ := rx
    obtain ⟨hy, e'⟩ : y.size ≤ sizeLine ∧ n = y.size := e
    subst e'
    exact PySem.W.len_bytes (by omega) ⟨.int _, H, I.tok _, ⟨_, rfl⟩, q⟩
  | ref p =>
    cases rx
    have e' : (∃ xs, SqL X.K H p xs ∧ n = xs.length) ∨ ∃ xs, SqT X.K H p xs ∧ n = xs.length := e
    rcases e' with ⟨xs, hx, e'⟩ | ⟨xs, hx, e'⟩
    · subst e'
      obtain ⟨its, r', pl, hz⟩ := I.list hx
      have hlen := r'.length
      exact Calls.call_len_list pl.isList (by simp only [List.size_toArray]; omega) ⟨.int xs.length, H, I.tok _, ⟨_, by simp only [List.size_toArray]; rw [hlen]⟩, q⟩
    · subst e'
      obtain ⟨its, r', pl, hz⟩ := I.tuple hx
      have hlen := r'.length
      exact len_tuple pl (by simp only [List.size_toArray]; omega) ⟨.int xs.length, H, I.tok _, ⟨_, by simp only [List.size_toArray]; rw [hlen]⟩, q⟩
  | _ => exact (show False from e).elim
/-- divmod: a new tuple -/
theorem call_divmod : CallR X (.builtin "divmod") (fun xs H Q => ∃ i j, xs = [.int i, .int j] ∧ CDiv i j ∧ ∀ p, H p = none → Q (.ref p) (upd H p (.tup [.int (i / j), .int (i % j)]))) := by
  intro pins s σ H xs us Q I r h
  obtain ⟨i, j, rfl, ⟨h1, h2⟩, q⟩ := h
  obtain ⟨u, w', rfl, ⟨t, rfl⟩, ⟨t', rfl⟩⟩ := vals2 r
  refine divmod_int (by omega) ?_ (.inl (PyProof.noPylong_small (by omega)))
  rw [Int.fdiv_eq_ediv_of_nonneg i (by omega), Int.fmod_eq_emod_of_nonneg i (by omega)]
  have hn : H s.heap.objs.size = none := I.hok.fresh (Nat.le_refl _)
  refine ⟨.ref s.heap.objs.size, _, ?_, rfl, q _ hn⟩
  refine I.laid (fun b o e => Heap.get?_push_of_some _ e) (Nat.le_refl _) ⟨by simp only [List.length_cons, List.length_nil]; rw [sizeLine_eq]; decide, [.int (i / j) s.toks, .int (i % j) (s.toks + 1)], .cons ⟨_, rfl⟩ (.cons ⟨_, rfl⟩ .nil), ?_⟩
  exact ⟨_, Heap.get?_push_size s.heap rfl, rfl, 0, rfl⟩
end
end L2

namespace L2
open PySem PySem.Spec PyProof.Rows

/-! ### an instance, its attributes a map -/
structure ObjM (h : Heap) (x dx C : Addr) (mA : Str → Option Value) : Prop where
  obj : h.get? x = some (PySem.W.instObj C dx)
  ns : h.Ns1 dx mA
  ne : dx ≠ x

theorem lookIn_ns {h : Heap} {dx : Addr} {mA : Str → Option Value} (n : h.Ns1 dx mA) : ∃ od, h.get? dx = some od ∧ ∀ name, PySem.W.lookIn name od = some (mA name) := by
  obtain ⟨o, es, ep, ho, hd, hk, _, hm⟩ := n
  refine ⟨o, ho, fun name => ?_⟩
  have e := hm name
  unfold nsFind findBy at e
  rw [← Array.find?_toList] at e
  unfold PySem.W.lookIn
  rw [hd]
  dsimp only
  split
  · rename_i y q
    rw [q] at e
    exact congrArg some e
  · rename_i q
    rw [q] at e
    have a : es.toList.any (·.refKey) = false := by
      rw [List.any_eq_false]
      intro y hy
      obtain ⟨z, t, hkey⟩ := hk y (Array.mem_toList_iff.mp hy)
      simp [DictEntry.refKey, hkey]
    have a' : ¬ es.toList.any (·.refKey) = true := by rw [a]; exact Bool.false_ne_true
    rw [if_neg a']
    exact congrArg some e

theorem ObjM.look {h : Heap} {x dx C : Addr} {mA : Str → Option Value} (I : ObjM h x dx C mA) : ∃ od, PySem.W.InstAt h x (PySem.W.instObj C dx) C (some od) ∧ ∀ name, PySem.W.lookIn name od = some (mA name) :=
  let ⟨od, ho, hl⟩ := lookIn_ns I.ns
  ⟨od, ⟨I.obj, rfl, rfl, ho⟩, hl⟩

section
variable {prog : Program} {w : World} {A : Around} {E : Value → Shared → Prop} {s : Shared} {K : PySem.W.Frag} {x dx C f : Addr} {mA : Str → Option Value} {name : Str} {v : Value}

theorem get_map {expr : Bool} {Q : Value → Shared → Prop} (X : K.In s.heap) (I : ObjM s.heap x dx C mA) (hg : PySem.W.plainGet K C name = true) (hh : PySem.W.hasDictIn K C = true)
    (ha : PySem.W.findIn K (.ref C) name = some none) (hv : mA name = some v) (hv' : PySem.W.handedIn v = true) (h : Q v { s with toks := s.toks + 1 }) :
    wpAny (model prog w) A (getAttr (.ref x) name expr) Q E s := by
  obtain ⟨od, J, hl⟩ := I.look
  exact PySem.W.get_value X J (PySem.W.plainGet_of hg).1 (PySem.W.findObj_own hh ha rfl (by rw [hl, hv])) hv' h

theorem get_const {expr : Bool} {a : Value} {Q : Value → Shared → Prop} (X : K.In s.heap) (I : ObjM s.heap x dx C mA) (hg : PySem.W.plainGet K C name = true) (hh : PySem.W.hasDictIn K C = true)
    (ha : PySem.W.findIn K (.ref C) name = some (some a)) (hn : PySem.W.specialIn K a "__get__" = some none) (hc : PySem.W.copiedNames.contains name = false) (hv : mA name = none) (hv' : PySem.W.handedIn a = true)
    (h : Q a { s with toks := s.toks + 1 }) : wpAny (model prog w) A (getAttr (.ref x) name expr) Q E s := by
  obtain ⟨od, J, hl⟩ := I.look
  exact PySem.W.get_value X J (PySem.W.plainGet_of hg).1 (PySem.W.findObj_cls hh ha hn hv' hc (by rw [hl, hv])) hv' h

theorem get_meth {pl : Sem Bool} {Q : Value × List Value → Shared → Prop} (X : K.In s.heap) (I : ObjM s.heap x dx C mA) (hg : PySem.W.plainGet K C name = true)
    (hf : PySem.W.findIn K (.ref C) name = some (some (.ref f))) (ht : PySem.W.isFn K (.ref f) = true) (hv : mA name = none) (h : Q (.ref f, [.ref x]) s) :
    wpAny (model prog w) A (getMethod (.ref x) name pl) Q E s := by
  obtain ⟨od, J, hl⟩ := I.look
  exact PySem.W.method_fn X J (PySem.W.plainGet_of hg).1 (PySem.W.plainGet_of hg).2 hf (beq_iff_eq.mp ht) (by show (PySem.W.lookIn name od).map (·.isSome) = some false; rw [hl, hv]; rfl) h

theorem set_map {ns : List Str} {Q : Unit → Shared → Prop} (X : K.In s.heap) (I : ObjM s.heap x dx C mA)
    (hs : PySem.W.findIn K (.ref C) "__setattr__" = some (some (.builtin "object.__setattr__"))) (hp : PySem.W.plainOver K C = true) (ht : PySem.W.takerIn K C name = some none) (hh : PySem.W.hasDictIn K C = true)
    (hw : PySem.Within mA ns) (hsz : ns.length ≤ sizeLine)
    (h : ∀ h', ObjM h' x dx C (fun y => if y = name then some v else mA y) → Heap.SameBut dx s.heap h' → Q () { s with heap := h', toks := s.toks + 2 }) :
    wpAny (model prog w) A (setAttr (.ref x) name v) Q E s := by
  obtain ⟨od, J, hl⟩ := I.look
  refine PySem.W.set_plain X J hs (PySem.W.osa_open (s := { s with toks := s.toks + 1 }) (r := none) X J hp ht fun b => ?_)
  obtain ⟨cd, hc, hd'⟩ := PySem.W.any_some hh
  have hx : s.heap.get? x = some ⟨.ref C, some dx, .plain, #[]⟩ := I.obj
  refine wpAny_bind (wpAny_pure (wpAny_bind (wpAny_bind (wpAny_loadPart hx (wpAny_bind (PySem.W.Looks.here (s := { s with toks := s.toks + 1 }) (PySem.W.looks_clsIn X hc) ?_))))))
  rw [hd']
  refine wpAny_pure (a := some dx) (wpAny_bind (wpAny_pure (wpAny_bind ?_)))
  refine wpAny_nsSet1 (s := { s with toks := s.toks + 1 }) I.ns fun h' hn2 hs2 => ?_
  obtain ⟨oD, esD, epD, hoD, hdD, hcD⟩ := hn2.count (PySem.Within.cons name v hw)
  refine wpAny_bind (wpAny_lookBehind hoD (by rw [hdD]; exact pastItsLine_dict (Nat.le_trans hcD (by rw [List.length_cons]; omega))) ?_)
  exact wpAny_pure (h _ ⟨(hs2.2 _ (Ne.symm I.ne)).trans I.obj, hn2, I.ne⟩ hs2)

/-- C(..): the dict at the heap's end, the instance behind it; then its __init__ -/
theorem make_map {R : Result → Shared → Prop} {vs : List Value} {kw : List (Str × Value)} (X : K.In s.heap) (hm : PySem.W.makesIn K C = true)
    (hi : PySem.W.findIn K (.ref C) "__init__" = some (some (.ref f))) (hf : PySem.W.typeIn K (.ref f) = some (.type "function"))
    (h : codeAny (model prog w) (A.under (.builtin "type.__call__" ⟨.ref C :: vs, kw⟩)) (.call (.ref f) ⟨.ref (s.heap.objs.size + 1) :: vs, kw⟩) (PySem.W.InitBack (s.heap.objs.size + 1) R)
      { s with heap := (s.heap.push PySem.W.emptyDict).push (PySem.W.instObj C s.heap.objs.size) }) :
    codeAny (model prog w) A (.call (.ref C) ⟨vs, kw⟩) R s := by
  obtain ⟨hh, g, d, t, os⟩ := s
  exact PySem.W.make_core (PySem.W.makes_of X hm) (PySem.W.looks_findIn X hi) (fun self => PySem.W.bind_fn X self hf) (.inl rfl) h
/-- C() where there is no __init__ but object's -/
theorem make_map0 {R : Result → Shared → Prop} (X : K.In s.heap) (hm : PySem.W.makesIn K C = true)
    (hi : PySem.W.findIn K (.ref C) "__init__" = some (some (.builtin "object.__init__")))
    (hb : ∀ self, PySem.W.Looks (model prog w) s.heap (bindSpecial (.builtin "object.__init__") self) (.builtin "object.__init__", [self]))
    (h : codeAny (model prog w) (A.under (.builtin "type.__call__" ⟨[.ref C], []⟩)) (.call (.builtin "object.__init__") ⟨[.ref (s.heap.objs.size + 1)], []⟩) (PySem.W.InitBack (s.heap.objs.size + 1) R)
      { s with heap := (s.heap.push PySem.W.emptyDict).push (PySem.W.instObj C s.heap.objs.size) }) :
    codeAny (model prog w) A (.call (.ref C) ⟨[], []⟩) R s := by
  obtain ⟨hh, g, d, t, os⟩ := s
  exact PySem.W.make_core (PySem.W.makes_of X hm) (PySem.W.looks_findIn X hi) hb (.inr ⟨rfl, rfl⟩) h
end

/-! ### the attributes as a list of pairs -/
def putF (f : Str) (v : V) : List (Str × V) → List (Str × V)
  | [] => [(f, v)]
  | (g, x) :: r => if g = f then (g, v) :: r else (g, x) :: putF f v r
theorem lookup_putF (f g : Str) (v : V) : ∀ fs : List (Str × V), (putF f v fs).lookup g = if g = f then some v else fs.lookup g
  | [] => by
    show List.lookup g [(f, v)] = _
    by_cases h : g = f
    · have hb : (g == f) = true := beq_iff_eq.mpr h
      simp only [List.lookup, hb, if_pos h]
    · have hb : (g == f) = false := beq_eq_false_iff_ne.mpr h
      simp only [List.lookup, hb, if_neg h]
  | (k, x) :: r => by
    have ih := lookup_putF f g v r
    rw [show putF f v ((k, x) :: r) = (if k = f then (k, v) :: r else (k, x) :: putF f v r) from rfl]
    by_cases hk : k = f
    · rw [if_pos hk]
      by_cases h : g = k
      · have hb : (g == k) = true := beq_iff_eq.mpr h
        simp only [List.lookup, hb, if_pos (h.trans hk)]
      · have hb : (g == k) = false := beq_eq_false_iff_ne.mpr h
        simp only [List.lookup, hb, if_neg (fun e : g = f => h (e.trans hk.symm))]
    · rw [if_neg hk]
      by_cases h : g = k
      · have hb : (g == k) = true := beq_iff_eq.mpr h
        simp only [List.lookup, hb, if_neg (fun e : g = f => hk (h.symm.trans e))]
      · have hb : (g == k) = false := beq_eq_false_iff_ne.mpr h
        simp only [List.lookup, hb]
        exact ih
theorem keys_putF (f : Str) (v : V) : ∀ fs : List (Str × V), f ∈ (putF f v fs).map (·.1) ∧ ∀ g, g ∈ fs.map (·.1) → g ∈ (putF f v fs).map (·.1)
  | [] => ⟨by simp [putF], fun g h => by simp at h⟩
  | (k, x) :: r => by
    obtain ⟨i1, i2⟩ := keys_putF f v r
    rw [show putF f v ((k, x) :: r) = (if k = f then (k, v) :: r else (k, x) :: putF f v r) from rfl]
    by_cases hk : k = f
    · rw [if_pos hk]
      subst hk
      exact ⟨by simp, fun g h => by simpa using h⟩
    · rw [if_neg hk]
      refine ⟨?_, fun g h => ?_⟩
      · rw [List.map_cons]
        exact List.mem_cons_of_mem _ i1
      · rw [List.map_cons] at h ⊢
        rcases List.mem_cons.mp h with e | e
        · exact List.mem_cons.mpr (.inl e)
        · exact List.mem_cons_of_mem _ (i2 g e)
theorem length_putF (f : Str) (v : V) : ∀ fs : List (Str × V), (putF f v fs).length ≤ fs.length + 1
  | [] => by simp [putF]
  | (k, x) :: r => by
    have ih := length_putF f v r
    rw [show putF f v ((k, x) :: r) = (if k = f then (k, v) :: r else (k, x) :: putF f v r) from rfl]
    by_cases hk : k = f
    · rw [if_pos hk, List.length_cons, List.length_cons]; omega
    · rw [if_neg hk, List.length_cons, List.length_cons]; omega

theorem RelO.some_of {v : V} {o : Option Value} (r : RelO (some v) o) : ∃ u, o = some u ∧ RelV v u := by
  cases o with
  | none => exact (show False from r).elim
  | some u => exact ⟨u, rfl, r⟩
theorem RelO.none_of {o : Option Value} (r : RelO none o) : o = none := by
  cases o with
  | none => rfl
  | some u => exact (show False from r).elim
theorem handed_of {v : V} {u : Value} (r : RelV v u) : PySem.W.handedIn u = true := by
  cases v with
  | non => cases (show u = Value.none from r); rfl
  | bl b => cases (show u = Value.bool b from r); rfl
  | int i => obtain ⟨t, e⟩ := (show ∃ t, u = Value.int i t from r); cases e; rfl
  | str x => obtain ⟨t, e⟩ := (show ∃ t, u = Value.str x t from r); cases e; rfl
  | byt b => obtain ⟨t, e⟩ := (show ∃ t, u = Value.bytes b t from r); cases e; rfl
  | flt b => obtain ⟨t, e⟩ := (show ∃ t, u = Value.float b t from r); cases e; rfl
  | ref a => cases (show u = Value.ref a from r); rfl
  | ty n => cases (show u = Value.type n from r); rfl

section
variable {P : Program} {w : World} {H H' : Hp} {h h' : Heap} {a C dx : Addr} {fs fs' : List (Str × V)}
theorem ins_get (hok : HOk P w H h) (e : H a = some (.ins C dx fs)) : ∃ mA, ObjM h a dx C mA ∧ (∀ f, RelO (fs.lookup f) (mA f)) ∧ PySem.Within mA (fs.map (·.1)) ∧ fs.length ≤ 1000 ∧ H dx = some (.own a) := by
  obtain ⟨d, z, ne, ob, mA, n, r, q⟩ := (show ObjOk P w H h a (.ins C dx fs) from hok a _ e)
  exact ⟨mA, ⟨ob, n, ne⟩, r, q, z, d⟩
end

/-! ### what of the text a class must have -/
structure Cls (K : PySem.W.Frag) (C : Addr) : Prop where
  pg : PySem.W.plainGet K C Str.empty = true
  hd : PySem.W.hasDictIn K C = true
  po : PySem.W.plainOver K C = true
  sa : PySem.W.findIn K (.ref C) "__setattr__" = some (some (.builtin "object.__setattr__"))
theorem Cls.get {K : PySem.W.Frag} {C : Addr} (c : Cls K C) (f : Str) : PySem.W.plainGet K C f = true := c.pg
/-- no class of it has the name -/
def NoAttr (K : PySem.W.Frag) (C : Addr) (f : Str) : Prop := PySem.W.findIn K (.ref C) f = some none
theorem NoAttr.taker {K : PySem.W.Frag} {C : Addr} {f : Str} (n : NoAttr K C f) : PySem.W.takerIn K C f = some none := by
  unfold PySem.W.takerIn
  rw [show PySem.W.findIn K (.ref C) f = some none from n]
  rfl
/-- a constant of the class -/
structure Con (K : PySem.W.Frag) (C : Addr) (f : Str) (v : V) (u : Value) : Prop where
  at_ : PySem.W.findIn K (.ref C) f = some (some u)
  rel : RelV v u
  get : PySem.W.specialIn K u "__get__" = some none
  cp : PySem.W.copiedNames.contains f = false
/-- a method: a plain def of the class or of one above it -/
structure Meth (K : PySem.W.Frag) (C : Addr) (m : Str) (f : Addr) : Prop where
  at_ : PySem.W.findIn K (.ref C) m = some (some (.ref f))
  fn : PySem.W.isFn K (.ref f) = true
  kp : PySem.W.keepIn K (.ref f) = true

section
variable {X : Cx} {pins : List (Addr × Obj)} {σ : St} {H : Hp} {s : Shared} {a C dx : Addr} {fs : List (Str × V)} {f : Str} {v : V} {A : Around} {E : Value → Shared → Prop}

theorem getattr_ok {b : Bool} {Q : Value → Shared → Prop} (I : Inv X pins σ H s) (e : H a = some (.ins C dx fs)) (c : Cls X.K C) (n : NoAttr X.K C f) (l : fs.lookup f = some v)
    (h : ∀ u s', Inv X pins σ H s' → RelV v u → Q u s') : wpAny (model X.prog X.w) A (getAttr (.ref a) f b) Q E s := by
  obtain ⟨mA, O, r, _, _, _⟩ := ins_get I.hok e
  obtain ⟨u, hu, ru⟩ := RelO.some_of (v := v) (o := mA f) (by rw [← l]; exact r f)
  exact get_map I.kIn O (c.get f) c.hd n hu (handed_of ru) (h u _ (I.tok _) ru)

theorem getcon_ok {b : Bool} {u : Value} {Q : Value → Shared → Prop} (I : Inv X pins σ H s) (e : H a = some (.ins C dx fs)) (c : Cls X.K C) (k : Con X.K C f v u) (l : fs.lookup f = none)
    (h : ∀ s', Inv X pins σ H s' → Q u s') : wpAny (model X.prog X.w) A (getAttr (.ref a) f b) Q E s := by
  obtain ⟨mA, O, r, _, _, _⟩ := ins_get I.hok e
  have hn : mA f = none := RelO.none_of (by rw [← l]; exact r f)
  exact get_const I.kIn O (c.get f) c.hd k.at_ k.get k.cp hn (handed_of k.rel) (h _ (I.tok _))

theorem getmeth_ok {m : Str} {g : Addr} {pl : Sem Bool} {Q : Value × List Value → Shared → Prop} (I : Inv X pins σ H s) (e : H a = some (.ins C dx fs)) (c : Cls X.K C) (k : Meth X.K C m g) (l : fs.lookup m = none)
    (h : Q (.ref g, [.ref a]) s) : wpAny (model X.prog X.w) A (getMethod (.ref a) m pl) Q E s := by
  obtain ⟨mA, O, r, _, _, _⟩ := ins_get I.hok e
  have hn : mA m = none := RelO.none_of (by rw [← l]; exact r m)
  exact get_meth I.kIn O (c.get m) k.at_ k.fn hn h

theorem setattr_ok {y : V} {u : Value} {Q : Unit → Shared → Prop} (I : Inv X pins σ H s) (e : H a = some (.ins C dx fs)) (c : Cls X.K C) (n : NoAttr X.K C f) (hl : fs.length < 1000) (ry : RelV y u)
    (h : ∀ s', Inv X pins σ (upd H a (.ins C dx (putF f y fs))) s' → Q () s') : wpAny (model X.prog X.w) A (setAttr (.ref a) f u) Q E s := by
  obtain ⟨mA, O, r, wi, _, ho⟩ := ins_get I.hok e
  have hz : (fs.map (·.1)).length ≤ sizeLine := by rw [List.length_map, sizeLine_eq]; omega
  refine set_map I.kIn O c.sa c.po n.taker c.hd wi hz fun h' O' sb => h _ ?_
  have hd : ∃ o, h'.get? dx = some o := let ⟨o, _, _, e', _⟩ := O'.ns; ⟨o, e'⟩
  refine I.write (x := a) (e := dx) (by rw [e]; exact True.intro) (.inr ho) (fun b q hb z => (sb.2 b hb).trans z) hd ?_
  refine ⟨by rw [upd_ne O.ne]; exact ho, ?_, O.ne, O'.obj, _, O'.ns, fun g => ?_, fun g hg => ?_⟩
  · have := length_putF f y fs; omega
  · show RelO ((putF f y fs).lookup g) (if g = f then some u else mA g)
    rw [lookup_putF]
    by_cases q : g = f
    · rw [if_pos q, if_pos q]; exact ry
    · rw [if_neg q, if_neg q]; exact r g
  · by_cases q : g = f
    · rw [q]; exact (keys_putF f y fs).1
    · refine (keys_putF f y fs).2 g (wi g fun z => hg ?_)
      show (if g = f then some u else mA g) = none
      rw [if_neg q]; exact z

/-- a new instance, tracked, without attributes -/
theorem Inv.made (I : Inv X pins σ H s) : Inv X pins σ (upd (upd H s.heap.objs.size (.own (s.heap.objs.size + 1))) (s.heap.objs.size + 1) (.ins C s.heap.objs.size []))
    { s with heap := (s.heap.push PySem.W.emptyDict).push (PySem.W.instObj C s.heap.objs.size) } := by
  have e1 : (s.heap.push PySem.W.emptyDict).get? s.heap.objs.size = some PySem.W.emptyDict := Heap.get?_push_size s.heap rfl
  have e2 : ((s.heap.push PySem.W.emptyDict).push (PySem.W.instObj C s.heap.objs.size)).get? (s.heap.objs.size + 1) = some (PySem.W.instObj C s.heap.objs.size) := by
    have := Heap.get?_push_size (s.heap.push PySem.W.emptyDict) (o := PySem.W.instObj C s.heap.objs.size) rfl
    rwa [Heap.size_push] at this
  have e3 : (s.heap.push PySem.W.emptyDict).Ns s.heap.objs.size (fun _ => none) := ⟨PySem.W.emptyDict, #[], _, e1, rfl, (fun e he => absurd he (by simp)), fun _ => rfl⟩
  have I1 := I.laid (a := s.heap.objs.size) (o := .own (s.heap.objs.size + 1)) (h' := s.heap.push PySem.W.emptyDict) (t' := s.toks) (fun b u q => Heap.get?_push_of_some _ q) (Nat.le_refl _) ⟨_, e1⟩
  refine I1.laid (a := s.heap.objs.size + 1) (o := .ins C s.heap.objs.size []) (t' := s.toks) (fun b u q => Heap.get?_push_of_some _ q) (Nat.le_of_eq (Heap.size_push _ _)) ?_
  have ne : s.heap.objs.size ≠ s.heap.objs.size + 1 := Nat.ne_of_lt (Nat.lt_succ_self _)
  refine ⟨by rw [upd_ne ne, upd_same], Nat.zero_le _, ne, e2, fun _ => none, (Heap.Ns1.of_empty e3).at fun o q => Heap.get?_push_of_some _ q, fun _ => True.intro, fun y hy => absurd rfl hy⟩

/-- e.f where nothing but the object is asked: through attributeBase (super) and the last hold -/
theorem attr_of {prog : Program} {w : World} {env : Env} {e : Expr} {f : Str} {pos : Pos} {s : Shared} {Q : Value → Shared → Prop} (hb : attributeBase e f env (eval e env) = eval e env)
    (h : wpAny (model prog w) A (eval e env) (fun o s₁ => wpAny (model prog w) A (getAttr o f true) Q E s₁) E s) : wpAny (model prog w) A (eval (.Attribute e f pos) env) Q E s :=
  Attribute_any_ h (by rw [arm_eval_Attribute, hb])
end

/-! ### readings and rules -/
/-- e.f, an attribute of the instance -/
def tFld (K : PySem.W.Frag) (ta : TE) (f : Str) : TE := fun σ H Q => ta σ H fun x H1 => ∃ a C dx fs v, x = .ref a ∧ H1 a = some (.ins C dx fs) ∧ Cls K C ∧ NoAttr K C f ∧ fs.lookup f = some v ∧ Q v H1
/-- e.f, a constant of the class -/
def tCon (K : PySem.W.Frag) (ta : TE) (f : Str) : TE := fun σ H Q => ta σ H fun x H1 => ∃ a C dx fs v u, x = .ref a ∧ H1 a = some (.ins C dx fs) ∧ Cls K C ∧ Con K C f v u ∧ fs.lookup f = none ∧ Q v H1
/-- e.f = value -/
def sFld (K : PySem.W.Frag) (ta tv : TE) (f : Str) : TS := fun D σ H => tv σ H fun y H1 => ta σ H1 fun x H2 => ∃ a C dx fs, x = .ref a ∧ H2 a = some (.ins C dx fs) ∧ Cls K C ∧ NoAttr K C f ∧ fs.length < 1000 ∧
  D.nx σ (upd H2 a (.ins C dx (putF f y fs)))
/-- an augmented operator on two values -/
def InOp (X : Cx) (op : Operator) (rd : V → V → Hp → VK → Prop) : Prop :=
  ∀ (pins : List (Addr × Obj)) (s : Shared) (σ : St) (H : Hp) (x y : V) (u v : Value) (Q : VK), Inv X pins σ H s → RelV x u → RelV y v → rd x y H Q → wpAny (model X.prog X.w) X.A (inplaceOp op u v) (EP X pins σ Q) X.xe s
/-- e.f op= value -/
def sFldAug (K : PySem.W.Frag) (ta tv : TE) (rd : V → V → Hp → VK → Prop) (f : Str) : TS := fun D σ H => ta σ H fun x H1 => ∃ a C dx fs v, x = .ref a ∧ H1 a = some (.ins C dx fs) ∧ Cls K C ∧ NoAttr K C f ∧ fs.lookup f = some v ∧
  tv σ H1 fun y H2 => rd v y H2 fun z H3 => ∃ dx' fs', H3 a = some (.ins C dx' fs') ∧ fs'.length < 1000 ∧ D.nx σ (upd H3 a (.ins C dx' (putF f z fs')))

section
variable {X : Cx} {o e value : Expr} {f : Str} {pos pos' tpos : Pos} {ta tv : TE}
theorem pe_fld (he : PE X e ta) (hb : attributeBase e f X.env (eval e X.env) = eval e X.env) : PE X (.Attribute e f pos) (tFld X.K ta f) := by
  intro pins s σ H Q I h
  refine attr_of hb (thn (he pins s σ H _ I h) fun u s1 ⟨x, H1, I1, rx, a, C, dx, fs, v, ex, ea, c, n, l, q⟩ => ?_)
  subst ex
  obtain rfl : u = Value.ref a := rx
  exact getattr_ok I1 ea c n l fun u' s2 I2 ru => ⟨v, H1, I2, ru, q⟩
theorem pe_con (he : PE X e ta) (hb : attributeBase e f X.env (eval e X.env) = eval e X.env) : PE X (.Attribute e f pos) (tCon X.K ta f) := by
  intro pins s σ H Q I h
  refine attr_of hb (thn (he pins s σ H _ I h) fun u s1 ⟨x, H1, I1, rx, a, C, dx, fs, v, u0, ex, ea, c, k, l, q⟩ => ?_)
  subst ex
  obtain rfl : u = Value.ref a := rx
  exact getcon_ok I1 ea c k l fun s2 I2 => ⟨v, H1, I2, k.rel, q⟩
theorem ps_fld (ha : PE X o ta) (hv : PE X value tv) (hs : swapsWith value (some (.Attribute o f pos')) pos.line X.env = pure false) : PS X (.Assign [.Attribute o f pos'] value pos) (sFld X.K ta tv f) := by
  intro pins s σ H D I h
  refine plainObj_wpAny_Assign_Attribute (thn (hv pins s σ H _ I h) fun u s1 ⟨y, H1, I1, ry, q⟩ => thn (ha pins s1 σ H1 _ I1 q) fun ov s2 ⟨x, H2, I2, rx, a, C, dx, fs, ex, ea, c, n, l, q2⟩ => ?_) hs
  subst ex
  obtain rfl : ov = Value.ref a := rx
  exact setattr_ok I2 ea c n l ry fun s3 I3 => ⟨σ, _, I3, q2⟩
theorem ps_fldaug {op : Operator} {rd : V → V → Hp → VK → Prop} (ha : PE X o ta) (hv : PE X value tv) (hop : InOp X op rd) : PS X (.AugAssign (.Attribute o f tpos) op value pos) (sFldAug X.K ta tv rd f) := by
  intro pins s σ H D I h
  refine wpAny_AugAssign_AttributeAny (thn (ha pins s σ H _ I h) fun ov s1 ⟨x, H1, I1, rx, a, C, dx, fs, v, ex, ea, c, n, l, q⟩ => ?_)
  subst ex
  obtain rfl : ov = Value.ref a := rx
  refine getattr_ok I1 ea c n l fun u s2 I2 ru => thn (hv pins s2 σ H1 _ I2 q) fun w3 s3 ⟨y, H2, I3, ry, q3⟩ => thn (hop pins s3 σ H2 v y u w3 _ I3 ru ry q3) fun w4 s4 ⟨z, H3, I4, rz, dx', fs', ea', l', q4⟩ => ?_
  exact setattr_ok I4 ea' c n l' rz fun s5 I5 => ⟨σ, _, I5, q4⟩
def rAdd : V → V → Hp → VK → Prop := fun x y H Q => ∃ i j, x = .int i ∧ y = .int j ∧ Q (.int (i + j)) H
def rSub : V → V → Hp → VK → Prop := fun x y H Q => ∃ i j, x = .int i ∧ y = .int j ∧ Q (.int (i - j)) H
theorem in_add : InOp X .Add rAdd := by
  rintro pins s σ H x y u v Q I rx ry ⟨i, j, rfl, rfl, q⟩
  obtain ⟨t, rfl⟩ := (show ∃ t, u = Value.int i t from rx)
  obtain ⟨t', rfl⟩ := (show ∃ t', v = Value.int j t' from ry)
  exact PyProof.Rows.iadd_int ⟨.int (i + j), H, I.tok _, ⟨_, rfl⟩, q⟩
theorem in_sub : InOp X .Sub rSub := by
  rintro pins s σ H x y u v Q I rx ry ⟨i, j, rfl, rfl, q⟩
  obtain ⟨t, rfl⟩ := (show ∃ t, u = Value.int i t from rx)
  obtain ⟨t', rfl⟩ := (show ∃ t', v = Value.int j t' from ry)
  exact PyProof.Rows.isub_int ⟨.int (i - j), H, I.tok _, ⟨_, rfl⟩, q⟩

/-- what is between an instance and its method: the tree of a method call -/
theorem methcall_of {pl : Sem Bool} {m : Str} {apos : Pos} {args : List Expr} {pins : List (Addr × Obj)} {s : Shared} {σ : St} {H : Hp} {Q : Value → Shared → Prop} {te : TE} (he : PE X e te) (I : Inv X pins σ H s)
    (h : te σ H fun x H1 => ∃ a C dx fs g, x = .ref a ∧ H1 a = some (.ins C dx fs) ∧ Cls X.K C ∧ Meth X.K C m g ∧ fs.lookup m = none ∧
      ∀ s1, Inv X pins σ H1 s1 → wpAny (model X.prog X.w) X.A (callWith pos (.ref g) [.ref a] (backTo pos (starEach args X.env)) (backToKw pos (keywordEach [] X.env))) Q X.xe s1)
    (ht : eval (.Call (.Attribute e m apos) args [] pos) X.env = (do
      let ov ← eval e X.env
      standAt apos.atName
      let (f, first) ← holding [ov] (getMethod ov m pl)
      callWith pos f first (backTo pos (starEach args X.env)) (backToKw pos (keywordEach [] X.env)))) :
    wpAny (model X.prog X.w) X.A (eval (.Call (.Attribute e m apos) args [] pos) X.env) Q X.xe s := by
  refine PySem.W.methodCall_KW (pl := pl) (thn (he pins s σ H _ I h) fun u s1 ⟨x, H1, I1, rx, a, C, dx, fs, g, ex, ea, c, k, l, q⟩ => ?_) ht
  subst ex
  obtain rfl : u = Value.ref a := rx
  exact getmeth_ok I1 ea c k l (q s1 I1)
end

/-! ### isinstance -/
section
variable {X : Cx} {pins : List (Addr × Obj)} {σ : St} {H : Hp} {s : Shared} {A : Around} {E : Value → Shared → Prop} {Q : Value → Shared → Prop} {c : Value} {b : Bool}
/-- the type of a value, as the fragment's deciders take it; for an instance its class -/
inductive TyOf (K : PySem.W.Frag) (H : Hp) : V → Value → Prop where
  | non : TyOf K H .non (.type "NoneType")
  | bl (x : Bool) : TyOf K H (.bl x) (.type "bool")
  | int (i : Int) : TyOf K H (.int i) (.type "int")
  | str (x : Str) : TyOf K H (.str x) (.type "str")
  | flt (x : UInt64) : TyOf K H (.flt x) (.type "float")
  | lst {a : Addr} {xs : List V} (e : H a = some (.lst xs)) : TyOf K H (.ref a) (.type "list")
  | frz {a : Addr} {o : Obj} {xs : List V} (e : H a = some (.frz o (.lst xs))) : TyOf K H (.ref a) (.type "list")
  | tup {a : Addr} {xs : List V} (e : H a = some (.tup xs)) : TyOf K H (.ref a) (.type "tuple")
  | dK {a : Addr} {kvs : List (Key × V)} (e : H a = some (.dK kvs)) : TyOf K H (.ref a) (.type "dict")
  | dT {a : Addr} {kvs : List (List Key × V)} (e : H a = some (.dT kvs)) : TyOf K H (.ref a) (.type "dict")
  | ins {a C dx : Addr} {fs : List (Str × V)} (e : H a = some (.ins C dx fs)) (cl : Cls K C) (ha : PySem.W.findIn K (.ref C) "__class__" = some (some (.builtin "object.__class__")))
      (hn : PySem.W.specialIn K (.builtin "object.__class__") "__get__" = some (some (.builtin "getset_descriptor.__get__"))) (htk : PySem.W.takesIn K (.builtin "object.__class__") = some true)
      (hm : PySem.W.mroIn K C (.type "object") = some true) : TyOf K H (.ref a) (.ref C)
/-- isinstance(x, c) for one class c, a built-in or an own one: kitOne's answer -/
theorem isinst_ok {x : V} {u t : Value} (I : Inv X pins σ H s) (rx : RelV x u) (ty : TyOf X.K H x t) (e : PySem.W.kitOne X.K t c = some b) (h : ∀ tk, Q (.bool b) { s with toks := tk }) :
    wpAny (model X.prog X.w) A (call (.builtin "isinstance") [u, c]) Q E s := by
  cases ty with
  | non => cases (show u = Value.none from rx); exact PySem.W.kia_one PySem.W.kitx_none I.kIn True.intro e (fun z => nomatch z) h
  | bl y => cases (show u = Value.bool y from rx); exact PySem.W.kia_one PySem.W.kitx_bool I.kIn True.intro e (fun z => nomatch z) h
  | int i => obtain ⟨t, q⟩ := (show ∃ t, u = Value.int i t from rx); cases q; exact PySem.W.kia_one PySem.W.kitx_int I.kIn True.intro e (fun z => nomatch z) h
  | str y => obtain ⟨t, q⟩ := (show ∃ t, u = Value.str y t from rx); cases q; exact PySem.W.kia_one PySem.W.kitx_str I.kIn True.intro e (fun z => nomatch z) h
  | flt y => obtain ⟨t, q⟩ := (show ∃ t, u = Value.float y t from rx); cases q; exact PySem.W.kia_one PySem.W.kitx_float I.kIn True.intro e (fun z => nomatch z) h
  | @lst a xs ea =>
    cases (show u = Value.ref a from rx)
    obtain ⟨_, _, n, _, h1⟩ := (show ObjOk X.prog X.w H s.heap a (.lst xs) from I.hok a _ ea)
    exact PySem.W.kia_one PySem.W.kitx_list I.kIn ⟨_, h1, rfl⟩ e (fun z => nomatch z) h
  | @frz a ob xs ea =>
    cases (show u = Value.ref a from rx)
    obtain ⟨_, _, _, n, _, h1⟩ := (show ObjOk X.prog X.w H s.heap a (.frz ob (.lst xs)) from I.hok a _ ea)
    exact PySem.W.kia_one PySem.W.kitx_list I.kIn ⟨_, h1, rfl⟩ e (fun z => nomatch z) h
  | @tup a xs ea =>
    cases (show u = Value.ref a from rx)
    obtain ⟨_, _, _, p⟩ := (show ObjOk X.prog X.w H s.heap a (.tup xs) from I.hok a _ ea)
    obtain ⟨o, h1, h2, _⟩ := p
    exact PySem.W.kia_one PySem.W.kitx_tuple I.kIn ⟨o, h1, h2⟩ e (fun z => nomatch z) h
  | @dK a kvs ea =>
    cases (show u = Value.ref a from rx)
    obtain ⟨_, _, vs, _, p⟩ := (show ObjOk X.prog X.w H s.heap a (.dK kvs) from I.hok a _ ea)
    obtain ⟨o, es, ep, h1, h2, _⟩ := p
    exact PySem.W.kia_one PySem.W.kitx_dict I.kIn ⟨o, h1, h2.1⟩ e (fun z => nomatch z) h
  | @dT a kvs ea =>
    cases (show u = Value.ref a from rx)
    obtain ⟨_, _, xs, _, o, es, ep, h1, h2, _⟩ := (show ObjOk X.prog X.w H s.heap a (.dT kvs) from I.hok a _ ea)
    exact PySem.W.kia_one PySem.W.kitx_dict I.kIn ⟨o, h1, h2.1⟩ e (fun z => nomatch z) h
  | @ins a C dx fs ea cl ha hn htk hm =>
    cases (show u = Value.ref a from rx)
    obtain ⟨mA, O, _⟩ := ins_get I.hok ea
    obtain ⟨od, J, _⟩ := O.look
    exact PySem.W.kia_one (PySem.W.kitx_own (cl.get _) cl.hd ha hn htk hm) I.kIn J e (fun z => nomatch z) h
end
end L2

namespace L2
open PySem PySem.Spec PyProof.Rows

/-! ### room -/
structure Room (k : Nat) (A : Around) : Prop where
  hd : A.handled = none
  dp : A.depth + 3 * k + 5 < recursionLimit
  un : A.units + 16 * k + 200 < cLine
theorem Room.mono {j k : Nat} {A : Around} (r : Room k A) (h : j ≤ k) : Room j A := ⟨r.hd, by have := r.dp; omega, by have := r.un; omega⟩
theorem Room.deeper {k : Nat} {A : Around} (r : Room (k + 1) A) (env : Env) : Room k (A.deeper env) :=
  ⟨r.hd, by have := r.dp; show A.depth + 1 + 3 * k + 5 < _; omega, by have := r.un; show A.units + 3 + 16 * k + 200 < _; omega⟩
theorem Room.in1 {k : Nat} {A : Around} (r : Room (k + 1) A) : Room k A.in1 :=
  ⟨r.hd, by have := r.dp; show A.depth + 3 * k + 5 < _; omega, by have := r.un; show A.units + 1 + 16 * k + 200 < _; omega⟩
theorem make_depth {A : Around} {C : Addr} {us : List Value} {kw : List (Str × Value)} : (A.under (.builtin "type.__call__" ⟨.ref C :: us, kw⟩)).depth = A.depth + 1 := by
  first | rfl | simp [Around.under, Code.weight, Code.isCreation, Code.isGuard, Code.isCaller, Code.frames, Code.isFrame, guardIds]
theorem make_units {A : Around} {C : Addr} {us : List Value} {kw : List (Str × Value)} : (A.under (.builtin "type.__call__" ⟨.ref C :: us, kw⟩)).units = A.units + 1 := by
  first | rfl | simp [Around.under, Code.cUnits, Code.frames, Code.isFrame]
theorem Room.make {k : Nat} {A : Around} (r : Room (k + 1) A) (C : Addr) (us : List Value) (kw : List (Str × Value)) : Room k (A.under (.builtin "type.__call__" ⟨.ref C :: us, kw⟩)) :=
  ⟨r.hd, by have := r.dp; rw [make_depth]; omega, by have := r.un; rw [make_units]; omega⟩
theorem Room.depth {k : Nat} {A : Around} (r : Room k A) : A.depth < recursionLimit := by have := r.dp; omega
theorem Room.units {k : Nat} {A : Around} (r : Room k A) : A.units + 64 < cLine := by have := r.un; omega
theorem Room.units0 {k : Nat} {A : Around} (r : Room k A) : A.units < cLine := by have := r.un; omega

/-! ### argument lists and displays -/
def tNil : TA := fun _ H Q => Q [] H
def tCons (ta : TE) (tr : TA) : TA := fun σ H Q => ta σ H fun x H1 => tr σ H1 fun xs H2 => Q (x :: xs) H2
section
variable {X : Cx} {e : Expr} {es : List Expr} {te : TE} {t : TA} {pos : Pos}
theorem pa_nil : PA X [] tNil := fun _ _ _ _ H Q I h => Calls.spliced_nil ⟨[], H, I, .nil, h⟩
theorem pa_cons (ha : PE X e te) (hr : PA X es t) (hs : starEach (e :: es) X.env = (false, eval e X.env) :: starEach es X.env := by rfl) : PA X (e :: es) (tCons te t) := by
  intro pos pins s σ H Q I h
  rw [hs]
  show wpAny _ _ (spliced ((false, eval e X.env) :: backTo pos (starEach es X.env))) _ _ s
  refine Calls.spliced_cons (thn (ha pins s σ H _ I h) fun u s1 ⟨x, H1, I1, r1, q1⟩ => ?_)
  exact thn (hr pos pins s1 σ H1 _ I1 q1) fun us s2 ⟨xs, H2, I2, r2, q2⟩ => ⟨x :: xs, H2, I2, .cons r1 r2, q2⟩

/-- a tuple, a list of written items -/
def tTup (t : TA) : TE := fun σ H Q => t σ H fun xs H1 => xs.length ≤ sizeLine ∧ ∀ p, H1 p = none → Q (.ref p) (upd H1 p (.tup xs))
def tLst (t : TA) : TE := fun σ H Q => t σ H fun xs H1 => xs.length ≤ sizeLine ∧ ∀ p, H1 p = none → Q (.ref p) (upd H1 p (.lst xs))
theorem pe_tup {x1} (h : PA X es t) : PE X (.Tuple es x1 pos) (tTup t) := by
  intro pins s σ H Q I hq
  refine wpAny_Tuple_spliced (thn (h pos pins s σ H _ I hq) fun us s1 ⟨xs, H1, I1, r, z, q⟩ => ⟨by rw [← r.length]; exact z, ?_⟩)
  have hf : H1 s1.heap.objs.size = none := I1.hok.fresh (Nat.le_refl _)
  refine ⟨.ref s1.heap.objs.size, upd H1 s1.heap.objs.size (.tup xs), I1.laid (t' := s1.toks) (fun b u e => Heap.get?_push_of_some _ e) (Nat.le_refl _) ?_, rfl, q _ hf⟩
  exact ⟨z, us, r, ⟨_, Heap.get?_push_size _ rfl, rfl, _, rfl⟩⟩
theorem pe_lst (h : PA X es t) : PE X (.List es pos) (tLst t) := by
  intro pins s σ H Q I hq
  refine wpAny_List_spliced (thn (h pos pins s σ H _ I hq) fun us s1 ⟨xs, H1, I1, r, z, q⟩ => ⟨by rw [← r.length]; exact z, ?_⟩)
  have hf : H1 s1.heap.objs.size = none := I1.hok.fresh (Nat.le_refl _)
  refine ⟨.ref s1.heap.objs.size, upd H1 s1.heap.objs.size (.lst xs), I1.laid (t' := s1.toks) (fun b u e => Heap.get?_push_of_some _ e) (Nat.le_refl _) ?_, rfl, q _ hf⟩
  exact ⟨z, us, 0, r, Heap.get?_push_size _ rfl⟩
end

/-! ### what a def promises -/
/-- a def's promise: the bound arguments in the parameters' order, the heap, the wanted end, the wanted exception -/
abbrev Sp := List V → Hp → VK → XK → Prop
/-- how an exception lies behind a call (file 08 gives it): the callers' frames, abstract heap and state ahead of the call, the wish, the exception, the state -/
abbrev CXT := List Env → Hp → Shared → XK → Value → Shared → Prop

/-- the state at a call -/
structure Env0 (P : Program) (w : World) (K : PySem.W.Frag) (mg : Str → Option Value) (base : Heap) (A : Around) (outer : List Env) (s : Shared) (H : Hp) : Prop where
  frames : A.frames = some outer
  mod : Mod K mg base
  bs : ∀ b o, base.get? b = some o → s.heap.get? b = some o ∧ H b = none
  bsz : base.objs.size ≤ s.heap.objs.size
  funs : s.heap.FunFrames base outer
  frf : ∀ b ∈ frs outer, H b = none
  hok : HOk P w H s.heap
  bare : AllBare s.gens
/-- a call's end -/
def CE (outer : List Env) (P : Program) (w : World) (H : Hp) (s : Shared) (Q : VK) (u : Value) (s' : Shared) : Prop :=
  ∃ v H', s'.os = s.os ∧ AllBare s'.gens ∧ Un (frs outer) [] H H' s.heap s'.heap ∧ HOk P w H' s'.heap ∧ RelV v u ∧ Q v H'
def CR (CX : CXT) (outer : List Env) (P : Program) (w : World) (H : Hp) (s : Shared) (Q : VK) (E : XK) (r : Result) (s' : Shared) : Prop :=
  match r with
  | .ok (.ret u) => CE outer P w H s Q u s'
  | .ok _ => False
  | .error e => CX outer H s E e s'
structure FnOk (P : Program) (w : World) (K : PySem.W.Frag) (mg : Str → Option Value) (base : Heap) (CX : CXT) (k : Nat) (f : Addr) (fd : FuncData) (ps : List Str) (sp : Sp) : Prop where
  len : ∀ vs H Q E, sp vs H Q E → vs.length = ps.length
  run : ∀ (A : Around) (outer : List Env) (s : Shared) (H : Hp) (args : Args) (us : List Value) (vs : List V) (Q : VK) (E : XK), Room k A → Env0 P w K mg base A outer s H → BindsTo s fd args (ps.zip us) → Vals vs us → sp vs H Q E →
    codeAny (model P w) A (.call (.ref f) args) (CR CX outer P w H s Q E) s
theorem FnOk.mono {P : Program} {w : World} {K : PySem.W.Frag} {mg : Str → Option Value} {base : Heap} {CX : CXT} {j k : Nat} {f : Addr} {fd : FuncData} {ps : List Str} {sp : Sp} (F : FnOk P w K mg base CX j f fd ps sp) (h : j ≤ k) :
    FnOk P w K mg base CX k f fd ps sp := ⟨F.len, fun A outer s H args us vs Q E hr => F.run A outer s H args us vs Q E (hr.mono h)⟩
/-- a weaker promise -/
theorem FnOk.imp {P : Program} {w : World} {K : PySem.W.Frag} {mg : Str → Option Value} {base : Heap} {CX : CXT} {k : Nat} {f : Addr} {fd : FuncData} {ps : List Str} {sp sp' : Sp} (F : FnOk P w K mg base CX k f fd ps sp)
    (h : ∀ vs H Q E, sp' vs H Q E → sp vs H Q E) : FnOk P w K mg base CX k f fd ps sp' :=
  ⟨fun vs H Q E q => F.len vs H Q E (h _ _ _ _ q), fun A outer s H args us vs Q E hr he hb hv hs => F.run A outer s H args us vs Q E hr he hb hv (h _ _ _ _ hs)⟩

theorem Env0.make {P : Program} {w : World} {K : PySem.W.Frag} {mg : Str → Option Value} {base : Heap} {A : Around} {outer : List Env} {s : Shared} {H : Hp} (e : Env0 P w K mg base A outer s H) (C : Addr) (us : List Value) (kw : List (Str × Value)) :
    Env0 P w K mg base (A.under (.builtin "type.__call__" ⟨.ref C :: us, kw⟩)) outer s H := ⟨by first | exact e.frames | (simpa [Around.under, Code.envs, Code.isFrame, pushEnvs] using e.frames), e.mod, e.bs, e.bsz, e.funs, e.frf, e.hok, e.bare⟩
theorem Env0.in1 {P : Program} {w : World} {K : PySem.W.Frag} {mg : Str → Option Value} {base : Heap} {A : Around} {outer : List Env} {s : Shared} {H : Hp} (e : Env0 P w K mg base A outer s H) :
    Env0 P w K mg base A.in1 outer s H := ⟨e.frames, e.mod, e.bs, e.bsz, e.funs, e.frf, e.hok, e.bare⟩

section
variable {X : Cx} {pins : List (Addr × Obj)} {σ : St} {H : Hp} {s s' : Shared}
/-- from a body: what a callee wants -/
theorem Inv.env0 (I : Inv X pins σ H s) : Env0 X.prog X.w X.K X.mg X.base X.A X.stack s H :=
  ⟨I.ok.frames, I.ok.mod, I.bs, Nat.le_trans I.ok.bsz I.sz, I.stack, I.stkFree, I.hok, I.bare⟩
/-- behind a call -/
theorem Inv.after {Q : VK} {u : Value} (I : Inv X pins σ H s) (h : CE X.stack X.prog X.w H s Q u s') : EP X pins σ Q u s' := by
  obtain ⟨v, H', os, bare, un, hok, r, q⟩ := h
  obtain ⟨hh, g, d, t, os'⟩ := s'
  obtain rfl : os' = s.os := os
  exact ⟨v, H', I.call (h' := hh) (g' := g) (d' := d) (t' := t) (ch := []) un hok bare (fun b z => absurd z (by simp)), r, q⟩
end

/-! ### calls -/
/-- f(..): the written arguments, then the defaults dvs; E: what is wanted of an exception -/
def tCall (sp : Sp) (dvs : List V) (E : XK) (t : TA) : TE := fun σ H Q => t σ H fun vs H1 => sp (vs ++ dvs) H1 Q E
/-- o.m(..) of an instance of the class at C -/
def tMeth (C : Addr) (m : Str) (sp : Sp) (dvs : List V) (E : XK) (ta : TE) (t : TA) : TE := fun σ H Q => ta σ H fun x H1 => ∃ a dx fs, x = .ref a ∧ H1 a = some (.ins C dx fs) ∧ fs.lookup m = none ∧
  t σ H1 fun vs H2 => sp (x :: (vs ++ dvs)) H2 Q E
/-- C(..): a new instance and its dict, then __init__ -/
def tMake (C : Addr) (sp : Sp) (dvs : List V) (E : XK) (t : TA) : TE := fun σ H Q => t σ H fun vs H1 => ∀ x dx, H1 x = none → H1 dx = none → dx ≠ x →
  sp (.ref x :: (vs ++ dvs)) (upd (upd H1 dx (.own x)) x (.ins C dx [])) (fun v H2 => v = .non ∧ Q (.ref x) H2) E

/-- how the parameters are bound: us the positional arguments, kw the keywords' values by name, ds the defaults that fill up -/
def Binds (K : PySem.W.Frag) (fd : FuncData) (ps : List Str) (ds : List Value) : Prop :=
  ∀ (s : Shared) (us : List Value), K.In s.heap → (us ++ ds).length = ps.length → BindsTo s fd ⟨us, []⟩ (ps.zip (us ++ ds))
/-- every parameter is given -/
theorem Binds.all {K : PySem.W.Frag} {fd : FuncData} {ps : List Str} (h : ∀ us : List Value, us.length = ps.length → bindArgs fd ⟨us, []⟩ = pure (ps.zip us)) : Binds K fd ps [] := fun s us _ hl => by
  rw [List.append_nil] at hl ⊢
  exact .of_eq (h us hl)

/-- an exception of a callee reaches what this body wants of exceptions -/
def Passes (CX : CXT) (X : Cx) (E : XK) : Prop := ∀ (pins : List (Addr × Obj)) (σ : St) (H : Hp) (s : Shared) (e : Value) (s' : Shared), Inv X pins σ H s → CX X.stack H s E e s' → X.xe e s'

section
variable {X : Cx} {CX : CXT} {k : Nat} {f C : Addr} {fd : FuncData} {ps : List Str} {sp : Sp} {dvs : List V} {ds : List Value} {E : XK} {x m : Str} {p pos apos : Pos} {e o : Expr} {es : List Expr} {ta : TE} {t : TA}

/-- the callee runs -/
theorem run_fn {pins : List (Addr × Obj)} {σ : St} {H : Hp} {s : Shared} {Q : VK} {us : List Value} {vs : List V} (F : FnOk X.prog X.w X.K X.mg X.base CX k f fd ps sp) (hr : Room k X.A) (hb : Binds X.K fd ps ds) (hd : Vals dvs ds) (hx : Passes CX X E)
    (I : Inv X pins σ H s) (r : Vals vs us) (h : sp (vs ++ dvs) H Q E) : wpAny (model X.prog X.w) X.A (call (.ref f) us) (EP X pins σ Q) X.xe s := by
  have r2 : Vals (vs ++ dvs) (us ++ ds) := r.append hd
  have hl : (us ++ ds).length = ps.length := by rw [← r2.length]; exact F.len _ _ _ _ h
  refine wpAny_call (codeAny_mono (F.run X.A X.stack s H ⟨us, []⟩ (us ++ ds) (vs ++ dvs) Q E hr I.env0 (hb s us I.kIn hl) r2 h) fun r s' hq => ?_)
  cases r with
  | error e => exact hx pins σ H s e s' I hq
  | ok fl =>
    cases fl with
    | ret u => exact I.after hq
    | next => exact False.elim hq
    | brk => exact False.elim hq
    | cont => exact False.elim hq

theorem pe_call (F : FnOk X.prog X.w X.K X.mg X.base CX k f fd ps sp) (hr : Room k X.A) (hg : Gl X x) (hm : X.mg x = some (.ref f)) (hk : PySem.W.keepIn X.K (.ref f) = true) (hb : Binds X.K fd ps ds) (hd : Vals dvs ds) (hx : Passes CX X E)
    (ha : PA X (e :: es) t) (hdb : (x == ("__debug__" : Str)) = false := by decide) (he : starEach (e :: es) X.env = (false, eval e X.env) :: starEach es X.env := by rfl) (hpl : (backTo pos (starEach es X.env)).any (·.1) = false := by rfl) :
    PE X (.Call (.Name x p) (e :: es) [] pos) (tCall sp dvs E t) := by
  intro pins s σ H Q I h
  refine wpAny_Call_Name_kw (ld_glob I hg hm ?_ hdb)
  refine PySem.W.callWith_K (h₀ := X.base) I.ok.mod.kin hk (thn (ha pos pins s σ H _ I h) fun us s1 ⟨vs, H1, I1, r, q⟩ => ⟨I1.kIn, ?_⟩) he hpl
  exact run_fn F hr hb hd hx I1 r q
theorem pe_call0 (F : FnOk X.prog X.w X.K X.mg X.base CX k f fd ps sp) (hr : Room k X.A) (hg : Gl X x) (hm : X.mg x = some (.ref f)) (hk : PySem.W.keepIn X.K (.ref f) = true) (hb : Binds X.K fd ps ds) (hd : Vals dvs ds) (hx : Passes CX X E)
    (hdb : (x == ("__debug__" : Str)) = false := by decide) : PE X (.Call (.Name x p) [] [] pos) (tCall sp dvs E tNil) := by
  intro pins s σ H Q I h
  refine wpAny_Call_Name_kw (ld_glob I hg hm ?_ hdb)
  exact PySem.W.callWith_K0 I.kIn hk (run_fn (us := []) F hr hb hd hx I .nil h)

/-- o.m(e, ..) -/
theorem pe_meth {pl : Sem Bool} (he : PE X o ta) (c : Cls X.K C) (hm : Meth X.K C m f) (F : FnOk X.prog X.w X.K X.mg X.base CX k f fd ps sp) (hr : Room k X.A) (hb : Binds X.K fd ps ds) (hd : Vals dvs ds) (hx : Passes CX X E) (ha : PA X (e :: es) t)
    (hst : starEach (e :: es) X.env = (false, eval e X.env) :: starEach es X.env := by rfl) (hpl : (backTo pos (starEach es X.env)).any (·.1) = false := by rfl)
    (ht : eval (.Call (.Attribute o m apos) (e :: es) [] pos) X.env = (do
      let ov ← eval o X.env
      standAt apos.atName
      let (f, first) ← holding [ov] (getMethod ov m pl)
      callWith pos f first (backTo pos (starEach (e :: es) X.env)) (backToKw pos (keywordEach [] X.env))) := by rfl) :
    PE X (.Call (.Attribute o m apos) (e :: es) [] pos) (tMeth C m sp dvs E ta t) := by
  intro pins s σ H Q I h
  refine PySem.W.methodCall_KW (pl := pl) (thn (he pins s σ H _ I h) fun u s1 ⟨x, H1, I1, rx, a, dx, fs, ex, ea, l, q⟩ => ?_) ht
  subst ex
  obtain rfl : u = Value.ref a := rx
  refine getmeth_ok I1 ea c hm l ?_
  refine PySem.W.callWith_K (first := [.ref a]) (h₀ := X.base) I.ok.mod.kin hm.kp (thn (ha pos pins s1 σ H1 _ I1 q) fun us s2 ⟨vs, H2, I2, r, q2⟩ => ⟨I2.kIn, ?_⟩) hst hpl
  exact run_fn (us := .ref a :: us) (vs := .ref a :: vs) F hr hb hd hx I2 (.cons rfl r) q2
/-- o.m() -/
theorem pe_meth0 {pl : Sem Bool} (he : PE X o ta) (c : Cls X.K C) (hm : Meth X.K C m f) (F : FnOk X.prog X.w X.K X.mg X.base CX k f fd ps sp) (hr : Room k X.A) (hb : Binds X.K fd ps ds) (hd : Vals dvs ds) (hx : Passes CX X E)
    (ht : eval (.Call (.Attribute o m apos) [] [] pos) X.env = (do
      let ov ← eval o X.env
      standAt apos.atName
      let (f, first) ← holding [ov] (getMethod ov m pl)
      callWith pos f first (backTo pos (starEach [] X.env)) (backToKw pos (keywordEach [] X.env))) := by rfl) :
    PE X (.Call (.Attribute o m apos) [] [] pos) (tMeth C m sp dvs E ta tNil) := by
  intro pins s σ H Q I h
  refine PySem.W.methodCall_KW (pl := pl) (thn (he pins s σ H _ I h) fun u s1 ⟨x, H1, I1, rx, a, dx, fs, ex, ea, l, q⟩ => ?_) ht
  subst ex
  obtain rfl : u = Value.ref a := rx
  refine getmeth_ok I1 ea c hm l ?_
  exact PySem.W.callWith_K0 (first := [.ref a]) I1.kIn hm.kp (run_fn (us := [.ref a]) (vs := [.ref a]) F hr hb hd hx I1 (.cons rfl .nil) q)

/-- what a class must have to be made -/
structure Mk (K : PySem.W.Frag) (C f : Addr) : Prop where
  makes : PySem.W.makesIn K C = true
  init : PySem.W.findIn K (.ref C) "__init__" = some (some (.ref f))
  fn : PySem.W.isFn K (.ref f) = true
  kp : PySem.W.keepIn K (.ref C) = true

theorem run_make {pins : List (Addr × Obj)} {σ : St} {H : Hp} {s : Shared} {Q : VK} {us : List Value} {vs : List V} (M : Mk X.K C f) (F : FnOk X.prog X.w X.K X.mg X.base CX k f fd ps sp) (hr : Room (k + 1) X.A) (hb : Binds X.K fd ps ds) (hd : Vals dvs ds)
    (hx : Passes CX X E) (I : Inv X pins σ H s) (r : Vals vs us)
    (h : ∀ x dx, H x = none → H dx = none → dx ≠ x → sp (.ref x :: (vs ++ dvs)) (upd (upd H dx (.own x)) x (.ins C dx [])) (fun v H2 => v = .non ∧ Q (.ref x) H2) E) :
    wpAny (model X.prog X.w) X.A (call (.ref C) us) (EP X pins σ Q) X.xe s := by
  have hq := h (s.heap.objs.size + 1) s.heap.objs.size (I.hok.fresh (Nat.le_succ _)) (I.hok.fresh (Nat.le_refl _)) (Nat.ne_of_lt (Nat.lt_succ_self _))
  have I2 := Inv.made (C := C) I
  have r2 : Vals (V.ref (s.heap.objs.size + 1) :: (vs ++ dvs)) (Value.ref (s.heap.objs.size + 1) :: (us ++ ds)) := .cons rfl (r.append hd)
  have hl : (Value.ref (s.heap.objs.size + 1) :: us ++ ds).length = ps.length := by
    have e := r2.length
    rw [F.len _ _ _ _ hq] at e
    exact e.symm
  refine wpAny_call (make_map (f := f) I.kIn M.makes M.init (beq_iff_eq.mp M.fn) (codeAny_mono (F.run _ X.stack _ _ ⟨Value.ref (s.heap.objs.size + 1) :: us, []⟩ (Value.ref (s.heap.objs.size + 1) :: (us ++ ds)) _ _ E (hr.make C us [])
    (I2.env0.make C us []) (hb _ (Value.ref (s.heap.objs.size + 1) :: us) I2.kIn hl) r2 hq) fun r s' hq' => ?_))
  cases r with
  | error e => exact hx pins σ _ _ e s' I2 hq'
  | ok fl =>
    cases fl with
    | ret u =>
      obtain ⟨v, H', I3, rv, ev, q3⟩ := I2.after hq'
      subst ev
      exact ⟨rv, ⟨V.ref (s.heap.objs.size + 1), H', I3, rfl, q3⟩⟩
    | next => exact False.elim hq'
    | brk => exact False.elim hq'
    | cont => exact False.elim hq'
theorem pe_make (M : Mk X.K C f) (F : FnOk X.prog X.w X.K X.mg X.base CX k f fd ps sp) (hr : Room (k + 1) X.A) (hg : Gl X x) (hm : X.mg x = some (.ref C)) (hb : Binds X.K fd ps ds) (hd : Vals dvs ds) (hx : Passes CX X E)
    (ha : PA X (e :: es) t) (hdb : (x == ("__debug__" : Str)) = false := by decide) (he : starEach (e :: es) X.env = (false, eval e X.env) :: starEach es X.env := by rfl) (hpl : (backTo pos (starEach es X.env)).any (·.1) = false := by rfl) :
    PE X (.Call (.Name x p) (e :: es) [] pos) (tMake C sp dvs E t) := by
  intro pins s σ H Q I h
  refine wpAny_Call_Name_kw (ld_glob I hg hm ?_ hdb)
  refine PySem.W.callWith_K (h₀ := X.base) I.ok.mod.kin M.kp (thn (ha pos pins s σ H _ I h) fun us s1 ⟨vs, H1, I1, r, q⟩ => ⟨I1.kIn, ?_⟩) he hpl
  exact run_make M F hr hb hd hx I1 r q
theorem pe_make0 (M : Mk X.K C f) (F : FnOk X.prog X.w X.K X.mg X.base CX k f fd ps sp) (hr : Room (k + 1) X.A) (hg : Gl X x) (hm : X.mg x = some (.ref C)) (hb : Binds X.K fd ps ds) (hd : Vals dvs ds) (hx : Passes CX X E)
    (hdb : (x == ("__debug__" : Str)) = false := by decide) : PE X (.Call (.Name x p) [] [] pos) (tMake C sp dvs E tNil) := by
  intro pins s σ H Q I h
  refine wpAny_Call_Name_kw (ld_glob I hg hm ?_ hdb)
  exact PySem.W.callWith_K0 I.kIn M.kp (run_make (us := []) M F hr hb hd hx I .nil h)
end

/-! ### keywords -/
/-- the values of the keywords, from the left -/
def PK (X : Cx) (kws : List Keyword) (t : TA) : Prop :=
  ∀ (pos : Pos) (pins : List (Addr × Obj)) (s : Shared) (σ : St) (H : Hp) (Q : List V → Hp → Prop), Inv X pins σ H s → t σ H Q → wpAny (model X.prog X.w) X.A (evalAll ((backToKw pos (keywordEach kws X.env)).map (·.2))) (AP X pins σ Q) X.xe s
section
variable {X : Cx} {CX : CXT} {k : Nat} {f C : Addr} {fd : FuncData} {ps ks : List Str} {sp : Sp} {E : XK} {x m : Str} {p pos apos kpos : Pos} {e o : Expr} {es : List Expr} {kws : List Keyword} {te ta : TE} {t tk : TA} {nm : Option Str}
theorem pk_nil : PK X [] tNil := fun _ _ _ _ H Q I h => wpAny_evalAll_nil ⟨[], H, I, .nil, h⟩
theorem pk_cons (ha : PE X e te) (hr : PK X kws t) : PK X (⟨nm, e, kpos⟩ :: kws) (tCons te t) := by
  intro pos pins s σ H Q I h
  show wpAny _ _ (evalAll ((do let v ← eval e X.env; standAt pos; pure v) :: (backToKw pos (keywordEach kws X.env)).map (·.2))) _ _ s
  refine wpAny_evalAll_cons (wpAny_bind (thn (ha pins s σ H _ I h) fun u s1 ⟨x, H1, I1, r1, q1⟩ => wpAny_bind (wpAny_standAt (wpAny_pure ?_))))
  exact thn (hr pos pins s1 σ H1 _ I1 q1) fun us s2 ⟨xs, H2, I2, r2, q2⟩ => ⟨x :: xs, H2, I2, .cons r1 r2, q2⟩

/-- how a call with keywords binds: g puts the positional values us and the keywords' values ws (names ks) in the parameters' order, defaults among them -/
structure KBinds (K : PySem.W.Frag) (fd : FuncData) (ps ks : List Str) (g : List Value → List Value → List Value) (gV : List V → List V → List V) : Prop where
  to : ∀ (s : Shared) (us ws : List Value), K.In s.heap → (g us ws).length = ps.length → BindsTo s fd ⟨us, ks.zip ws⟩ (ps.zip (g us ws))
  rel : ∀ {vs : List V} {us : List Value} {zs : List V} {ws : List Value}, Vals vs us → Vals zs ws → Vals (gV vs zs) (g us ws)
def tCallK (sp : Sp) (gV : List V → List V → List V) (E : XK) (t tk : TA) : TE := fun σ H Q => t σ H fun vs H1 => tk σ H1 fun zs H2 => sp (gV vs zs) H2 Q E
variable {g : List Value → List Value → List Value} {gV : List V → List V → List V}
theorem run_fnk {pins : List (Addr × Obj)} {σ : St} {H : Hp} {s : Shared} {Q : VK} {us ws : List Value} {vs zs : List V} (F : FnOk X.prog X.w X.K X.mg X.base CX k f fd ps sp) (hr : Room k X.A) (hb : KBinds X.K fd ps ks g gV) (hx : Passes CX X E)
    (I : Inv X pins σ H s) (r : Vals vs us) (rz : Vals zs ws) (h : sp (gV vs zs) H Q E) : wpAny (model X.prog X.w) X.A (call (.ref f) us (ks.zip ws)) (EP X pins σ Q) X.xe s := by
  have r2 := hb.rel r rz
  have hl : (g us ws).length = ps.length := by rw [← r2.length]; exact F.len _ _ _ _ h
  refine wpAny_call (codeAny_mono (F.run X.A X.stack s H ⟨us, ks.zip ws⟩ (g us ws) (gV vs zs) Q E hr I.env0 (hb.to s us ws I.kIn hl) r2 h) fun r s' hq => ?_)
  cases r with
  | error e => exact hx pins σ H s e s' I hq
  | ok fl =>
    cases fl with
    | ret u => exact I.after hq
    | next => exact False.elim hq
    | brk => exact False.elim hq
    | cont => exact False.elim hq
/-- f(e, .., k = v, ..) -/
theorem pe_callK (F : FnOk X.prog X.w X.K X.mg X.base CX k f fd ps sp) (hr : Room k X.A) (hg : Gl X x) (hm : X.mg x = some (.ref f)) (hk : PySem.W.keepIn X.K (.ref f) = true) (hb : KBinds X.K fd ps ks g gV) (hx : Passes CX X E)
    (ha : PA X (e :: es) t) (hkw : PK X kws tk) (hall : (backToKw pos (keywordEach kws X.env)).all (·.1.isSome) = true := by rfl) (hks : (backToKw pos (keywordEach kws X.env)).filterMap (·.1) = ks := by rfl)
    (hdb : (x == ("__debug__" : Str)) = false := by decide) (he : starEach (e :: es) X.env = (false, eval e X.env) :: starEach es X.env := by rfl)
    (hpl : ((backTo pos (starEach (e :: es) X.env)).any (·.1) || (backToKw pos (keywordEach kws X.env)).any (·.1.isNone)) = false := by rfl) :
    PE X (.Call (.Name x p) (e :: es) kws pos) (tCallK sp gV E t tk) := by
  intro pins s σ H Q I h
  refine wpAny_Call_Name_kw (ld_glob I hg hm ?_ hdb)
  refine PySem.W.callWith_KW (h₀ := X.base) I.ok.mod.kin hk hall (thn (ha pos pins s σ H _ I h) fun us s1 ⟨vs, H1, I1, r, q⟩ => ?_) hpl he
  refine thn (hkw pos pins s1 σ H1 _ I1 q) fun ws s2 ⟨zs, H2, I2, rz, q2⟩ => ⟨I2.kIn, ?_⟩
  rw [hks]
  exact run_fnk F hr hb hx I2 r rz q2
end

/-! ### a def's body keeps its promise -/
/-- names: the parameters first -/
structure FnScope (N P : List Str) (sc : Scope) : Prop where
  kind : sc.kind = .function
  co : sc.isCoroutine = false
  gen : sc.isGenerator = false
  nd : N.Nodup
  pre : N.take P.length = P
  par : ∀ x ∈ P, sc.names.lookup x = some .local ∨ sc.names.lookup x = some .cell
  nofree : ∀ y ∈ sc.names, y.2 ≠ .free

theorem bindL_out {kindOf : Str → Option NameKind} {x : Str} : ∀ {binds : List (Str × Value)} {m : Str → Option Value}, (∀ v, (x, v) ∉ binds) → bindL kindOf binds m x = m x
  | [], _, _ => rfl
  | (n, v) :: r, m, h => by
    unfold bindL
    rw [bindL_out fun w hw => h w (List.mem_cons_of_mem _ hw)]
    split
    · have : x ≠ n := by rintro rfl; exact h v List.mem_cons_self
      simp [this]
    · rfl
theorem bindC_out {kindOf : Str → Option NameKind} {x : Str} : ∀ {binds : List (Str × Value)} {m : Str → Option Value}, (∀ v, (x, v) ∉ binds) → bindC kindOf binds m x = m x
  | [], _, _ => rfl
  | (n, v) :: r, m, h => by
    unfold bindC
    rw [bindC_out fun w hw => h w (List.mem_cons_of_mem _ hw)]
    split
    · rfl
    · have : x ≠ n := by rintro rfl; exact h v List.mem_cons_self
      simp [this]
theorem bindL_get {kindOf : Str → Option NameKind} {x : Str} {v : Value} : ∀ {P : List Str} {vs : List Value} {i : Nat} {m : Str → Option Value}, P.Nodup → P[i]? = some x → vs[i]? = some v → kindOf x = some .local →
    bindL kindOf (P.zip vs) m x = some v
  | [], _, _, _, _, h, _, _ => by simp at h
  | _ :: _, [], _, _, _, _, h, _ => by simp at h
  | p :: P, w :: vs, 0, m, nd, h1, h2, hk => by
    simp at h1 h2; subst h1; subst h2
    show bindL kindOf ((p, w) :: P.zip vs) m p = _
    unfold bindL
    rw [bindL_out fun v hv => (List.nodup_cons.mp nd).1 (List.of_mem_zip hv).1, if_pos hk]
    simp
  | p :: P, w :: vs, i + 1, m, nd, h1, h2, hk => by
    show bindL kindOf ((p, w) :: P.zip vs) m x = _
    unfold bindL
    exact bindL_get (i := i) (List.nodup_cons.mp nd).2 (by simpa using h1) (by simpa using h2) hk
theorem bindC_get {kindOf : Str → Option NameKind} {x : Str} {v : Value} : ∀ {P : List Str} {vs : List Value} {i : Nat} {m : Str → Option Value}, P.Nodup → P[i]? = some x → vs[i]? = some v → kindOf x ≠ some .local →
    bindC kindOf (P.zip vs) m x = some v
  | [], _, _, _, _, h, _, _ => by simp at h
  | _ :: _, [], _, _, _, _, h, _ => by simp at h
  | p :: P, w :: vs, 0, m, nd, h1, h2, hk => by
    simp at h1 h2; subst h1; subst h2
    show bindC kindOf ((p, w) :: P.zip vs) m p = _
    unfold bindC
    rw [bindC_out fun v hv => (List.nodup_cons.mp nd).1 (List.of_mem_zip hv).1, if_neg hk]
    simp
  | p :: P, w :: vs, i + 1, m, nd, h1, h2, hk => by
    show bindC kindOf ((p, w) :: P.zip vs) m x = _
    unfold bindC
    exact bindC_get (i := i) (List.nodup_cons.mp nd).2 (by simpa using h1) (by simpa using h2) hk

/-- the names' values at the entry -/
def start (N : List Str) (vs : List V) : St := vs.map some ++ List.replicate (N.length - vs.length) none

/-- the context of a def's body, at its entry; an exception leaves the frame, then lies as CX says -/
def cxOf (CX : CXT) (P : Program) (w : World) (K : PySem.W.Frag) (mg : Str → Option Value) (base : Heap) (N : List Str) (qual : Str) (scope : Scope) (f : Addr) (cd : Value) (A : Around) (outer : List Env) (s : Shared) (H : Hp) (E : XK) : Cx where
  prog := P
  w := w
  K := K
  mg := mg
  base := base
  A := A.deeper (envOfC qual scope s.heap.objs.size f cd)
  N := N
  s₀ := s
  H₀ := H
  env := envOfC qual scope s.heap.objs.size f cd
  outer := outer
  stack := envOfC qual scope s.heap.objs.size f cd :: outer
  ex := []
  calm := true
  fn := fun _ => true
  pn := []
  xe := fun e s' => wpAny (model P w) (A.deeper (envOfC qual scope s.heap.objs.size f cd)) (leaving (envOfC qual scope s.heap.objs.size f cd) e) (fun _ s'' => CX outer H s E e s'') (fun e' s'' => CX outer H s E e' s'') s'

theorem cell_has {sc : Scope} {n : Nat} {x : Str} (h : sc.names.lookup x = some .cell) : ∃ c, (cellsFrom n sc.names []).lookup x = some c := by
  have q := PySem.W.cellsFrom_some sc.names n [] (.inl h)
  exact Option.isSome_iff_exists.mp q

theorem inv_start {CX : CXT} {P : Program} {w : World} {K : PySem.W.Frag} {mg : Str → Option Value} {base : Heap} {N ps : List Str} {qual : Str} {scope : Scope} {f : Addr} {cd : Value} {A : Around} {outer : List Env} {s s1 : Shared} {H : Hp} {E : XK} {us : List Value} {vs : List V}
    (S : FnScope N ps scope) (hd : A.handled = none) (e0 : Env0 P w K mg base A outer s H) (hl : vs.length = ps.length) (r : Vals vs us)
    (x : InCallC s s.heap.objs.size (bindL (envOfC qual scope s.heap.objs.size f cd).kindOf (ps.zip us) fun _ => none) (cellsFrom (s.heap.objs.size + 1) scope.names []) (bindC (envOfC qual scope s.heap.objs.size f cd).kindOf (ps.zip us) fun _ => none) s1) :
    Inv (cxOf CX P w K mg base N qual scope f cd A outer s H E) [] (start N vs) H s1 := by
  have hpl : ps.length ≤ N.length := by have := congrArg List.length S.pre; rw [List.length_take] at this; omega
  obtain ⟨h1, tk, rfl, hk⟩ := x.done
  have noA : ∀ b : Addr, b ∉ (cxOf CX P w K mg base N qual scope f cd A outer s H E).ex := fun b z => absurd (show b ∈ ([] : List Addr) from z) (by simp)
  refine ⟨⟨e0.mod, S.kind, rfl, rfl, Nat.le_refl _, fun y z c h1 h2 => ?_, fun y hy => ?_, fun y c _ h => ?_, fun _ => hd, Around.frames_deeper e0.frames, .inr ⟨rfl, rfl⟩, fun b z => absurd z (noA b), e0.bs, e0.bsz, fun b _ _ => noA b, fun b z => absurd z (noA b), e0.funs, e0.frf⟩,
    rfl, e0.bare, Un.kept hk, ⟨_, x.toInCall.ns, fun i y v h1 h2 h3 => ?_⟩, fun y c h => ⟨_, x.cell y c h⟩, e0.hok.fresh (Nat.le_refl _), fun y c h => ?_, fun p hp => absurd (show p ∈ ([] : List (Addr × Obj)) from hp) (by simp), e0.hok.kept hk, ?_⟩
  · exact name_of_addr x.apart (PySem.mem_of_lookup h1) (PySem.mem_of_lookup h2)
  · have hy : scope.names.lookup y = some .cell ∨ scope.names.lookup y = some .free := hy
    rcases hy with hy | hy
    · exact cell_has hy
    · exact absurd rfl (S.nofree _ (PySem.mem_of_lookup hy))
  · exact Nat.le_of_lt (x.above y c (PySem.mem_of_lookup h))
  · have hi : i < vs.length := by
      unfold start at h2
      by_cases hi : i < vs.length
      · exact hi
      · rw [List.getElem?_append_right (by simpa using hi)] at h2
        rw [List.getElem?_replicate] at h2
        split at h2 <;> cases h2
    have ha : vs[i]? = some v := by
      unfold start at h2
      rw [List.getElem?_append_left (by simpa using hi), List.getElem?_map] at h2
      cases e : vs[i]? with
      | none => rw [e] at h2; cases h2
      | some a => rw [e] at h2; cases h2; rfl
    obtain ⟨u, hu, rv⟩ := r.get ha
    have hp : ps[i]? = some y := by
      rw [← S.pre, List.getElem?_take_of_lt (by omega)]; exact h1
    have ndP : ps.Nodup := by rw [← S.pre]; exact S.nd.sublist (List.take_sublist _ _)
    refine ⟨u, rv, ?_⟩
    rcases S.par y (List.mem_of_getElem? hp) with k | k
    · exact .inl ⟨k, bindL_get ndP hp hu k⟩
    · obtain ⟨c, e⟩ := cell_has (n := s.heap.objs.size + 1) k
      refine .inr ⟨.inl k, c, e, ?_⟩
      have q := x.cell y c e
      rw [bindC_get ndP hp hu (by show scope.names.lookup y ≠ _; rw [k]; decide)] at q
      exact q
  · exact e0.hok.fresh (Nat.le_of_lt (x.above y c (PySem.mem_of_lookup h)))
  · unfold start
    show _ = N.length
    rw [List.length_append, List.length_map, List.length_replicate]
    omega

/-- THE RULE: a def (or a method) of the text, by its body. The body's reading t is chosen for each entry; it is run at the parameters' values -/
theorem fn_of {CX : CXT} {P : Program} {w : World} {K : PySem.W.Frag} {mg : Str → Option Value} {base : Heap} {k : Nat} {f : Addr} {name qual : Str} {params : Arguments} {body : List Stmt} {scope : Scope} {dV kV doc pm cdv ct oc : Value} {an od : Option Addr}
    {osl : Array (Option Value)} {N ps : List Str} {sp : Sp} (lk : K.lookup f = some ⟨oc, od, .func (PySem.W.fnOf name qual params body scope dV kV doc pm an cdv ct), osl⟩) (hcd : PySem.W.codeIn K cdv qual = true) (S : FnScope N ps scope)
    (len : ∀ vs H Q E, sp vs H Q E → vs.length = ps.length)
    (hbody : ∀ (A : Around) (outer : List Env) (s : Shared) (H : Hp) (vs : List V) (Q : VK) (E : XK), Room k (A.deeper (envOfC qual scope s.heap.objs.size f cdv)) → sp vs H Q E →
      ∃ t, PSs (cxOf CX P w K mg base N qual scope f cdv A outer s H E) body t ∧ t { nx := fun _ H' => Q .non H', rt := Q } (start N vs) H) :
    FnOk P w K mg base CX (k + 1) f (PySem.W.fnOf name qual params body scope dV kV doc pm an cdv ct) ps sp := by
  refine ⟨len, fun A outer s H args us vs Q E hr e0 hb r hsp => ?_⟩
  have hl := len _ _ _ _ hsp
  have KX : K.In s.heap := e0.mod.kin.keeps fun b o e => (e0.bs b o e).1
  have lim : s.heap.NoLimit := e0.mod.nolimit.keeps fun b o e => (e0.bs b o e).1
  have hkind : ∀ y ∈ ps.zip us, scope.names.lookup y.1 = some .local ∨ (scope.names.lookup y.1 = some .cell ∧ ((cellsFrom (s.heap.objs.size + 1) scope.names []).lookup y.1).isSome = true) := fun ⟨n, v⟩ hy => by
    rcases S.par n (List.of_mem_zip hy).1 with q | q
    · exact .inl q
    · exact .inr ⟨q, PySem.W.cellsFrom_some _ _ _ (.inl q)⟩
  refine codeAny_call_function hr.depth (KX _ _ lk) rfl S.co S.gen rfl (PySem.W.codeRec_of KX hcd) (hb _ _ _ _ ?_)
  refine wpAny_newFunctionEnv_cells S.kind hkind fun env he s1 x => ?_
  subst he
  refine ⟨lim.keeps x.toInCall.keep, codeAny_func ?_⟩
  obtain ⟨t, ht, hq⟩ := hbody A outer s H vs Q E (hr.deeper _) hsp
  have I : Inv (cxOf CX P w K mg base N qual scope f cdv A outer s H E) [] (start N vs) H s1 := inv_start S hr.hd e0 hl r x
  refine wpAny_mono (ht [] s1 (start N vs) H _ I hq) (fun fl s' hs => ?_) fun e s' hs => hs
  have fin : ∀ {σ' : St} {H' : Hp} {v : V} {u : Value}, Inv (cxOf CX P w K mg base N qual scope f cdv A outer s H E) [] σ' H' s' → RelV v u → Q v H' → CE outer P w H s Q u s' :=
    fun {σ' H' v u} J rv q => ⟨v, H', J.os, J.bare, J.base, J.hok, rv, q⟩
  cases fl with
  | ret u =>
    obtain ⟨v, σ', H', J, rv, q⟩ := hs
    exact fin J rv q
  | next =>
    obtain ⟨σ', H', J, q⟩ := hs
    exact fin (v := V.non) (u := Value.none) J rfl q
  | brk =>
    obtain ⟨_, _, _, q⟩ := hs
    exact False.elim q
  | cont =>
    obtain ⟨_, _, _, q⟩ := hs
    exact False.elim q
end L2

namespace L2
open PySem PySem.Spec PyProof.Rows
section
variable {X : Cx} {x : Str} {p pos : Pos} {e : Expr} {es : List Expr} {t : TA} {id T : String} {r : List V → Hp → VK → Prop}

def tCB (r : List V → Hp → VK → Prop) (t : TA) : TE := fun σ H Q => t σ H fun vs H1 => r vs H1 Q
/-- f(e, ..), f a built-in function -/
theorem pe_callB (hc : CallR X (.builtin id) r) (hg : Gl X x) (hm : X.mg x = none) (hv : bootBuiltins x = some (.builtin id)) (ha : PA X (e :: es) t) (hn : x ≠ "__name__" := by decide) (hdb : (x == ("__debug__" : Str)) = false := by decide)
    (he : starEach (e :: es) X.env = (false, eval e X.env) :: starEach es X.env := by rfl) (hpl : (backTo pos (starEach es X.env)).any (·.1) = false := by rfl) : PE X (.Call (.Name x p) (e :: es) [] pos) (tCB r t) := by
  intro pins s σ H Q I h
  refine wpAny_Call_Name_kw (ld_blt I hg hm hv ?_ hn hdb)
  exact PyProof.Rows.callWith_builtin1 (thn (ha pos pins s σ H _ I h) fun us s1 ⟨vs, H1, I1, r1, q1⟩ => hc pins s1 σ H1 vs us Q I1 r1 q1) he hpl
/-- T(e, ..), T a built-in type -/
theorem pe_callTy (hc : CallR X (.type T) r) (hg : Gl X x) (hm : X.mg x = none) (hv : bootBuiltins x = some (.type T)) (ha : PA X (e :: es) t) (hn : x ≠ "__name__" := by decide) (hdb : (x == ("__debug__" : Str)) = false := by decide)
    (he : starEach (e :: es) X.env = (false, eval e X.env) :: starEach es X.env := by rfl) (hpl : (backTo pos (starEach es X.env)).any (·.1) = false := by rfl) : PE X (.Call (.Name x p) (e :: es) [] pos) (tCB r t) := by
  intro pins s σ H Q I h
  refine wpAny_Call_Name_kw (ld_blt I hg hm hv ?_ hn hdb)
  exact PyProof.Rows.callWith_type1 (thn (ha pos pins s σ H _ I h) fun us s1 ⟨vs, H1, I1, r1, q1⟩ => hc pins s1 σ H1 vs us Q I1 r1 q1) he hpl
/-- T() -/
theorem pe_callTy0 (hc : CallR X (.type T) r) (hg : Gl X x) (hm : X.mg x = none) (hv : bootBuiltins x = some (.type T)) (hn : x ≠ "__name__" := by decide) (hdb : (x == ("__debug__" : Str)) = false := by decide) :
    PE X (.Call (.Name x p) [] [] pos) (tCB r tNil) := by
  intro pins s σ H Q I h
  refine wpAny_Call_Name_kw (ld_blt I hg hm hv ?_ hn hdb)
  exact PyProof.Rows.callWith_type0 (hc pins s σ H [] [] Q I .nil h)
end
end L2

namespace HT
open PySem PyProof.Rows

/-- t < u of tuples of ints -/
def lexLt : List Int → List Int → Bool
  | [], [] => false
  | [], _ :: _ => true
  | _ :: _, [] => false
  | x :: xs, y :: ys => if x = y then lexLt xs ys else decide (x < y)
theorem lexLt_cons (x y : Int) (xs ys : List Int) : lexLt (x :: xs) (y :: ys) = if x = y then lexLt xs ys else decide (x < y) := rfl
theorem lexLt_nil_nil : lexLt [] [] = false := rfl
theorem lexLt_nil_cons (y : Int) (ys : List Int) : lexLt [] (y :: ys) = true := rfl
theorem lexLt_cons_nil (x : Int) (xs : List Int) : lexLt (x :: xs) [] = false := rfl

theorem eqAt_int (A : Around) (s : Shared) (a : Int) (t : Tok) (c : Int) (u : Tok) : ∃ e, SeqAt.EqAt A s (.int a t) (.int c u) e ∧ (e = true ↔ a = c) :=
  ⟨(a == c), SeqAt.EqAt.int_int a t c u, by simp⟩
theorem rcLt_int (A : Around) (s : Shared) (a : Int) (t : Tok) (c : Int) (u : Tok) (prog : Program) (w : World) (E : Value → Shared → Prop) (Q : Value → Shared → Prop) (h : Q (.bool (decide (a < c))) s) :
    wpAny (model prog w) A (richCompare .Lt (.int a t) (.int c u)) Q E s :=
  (PyProof.Rows.lt_int h : wpAny (model prog w) A (compareOp .Lt (.int a t) (.int c u)) Q E s)

section
open PySem.SeqAt
open PySem.AutoSeq1 (wpAny_loadPart')
open PySem.MeetsSeq PySem.MeetsSeq2 PySem.MeetsSeq3

theorem tuple_lt_ints (l b : Addr) (items items2 : Array Value) (n n2 : Nat) (dd dd2 : Option Addr) (sl sl2 : Array (Option Value)) (ns ms : List Int) (hi : IntsAre items.toList ns) (hj : IntsAre items2.toList ms) :
    Meets (Builtin.«tuple.__lt__» ⟨[.ref l, .ref b], []⟩)
      (fun _ R s => s.heap.get? l = some { cls := .type "tuple", dict := dd, data := .seq items n, slots := sl } ∧ s.heap.get? b = some { cls := .type "tuple", dict := dd2, data := .seq items2 n2, slots := sl2 } ∧
        R (.ok (.ret (.bool (lexLt ns ms)))) s) :=
  .of_wp fun prog w A R s h => by
    obtain ⟨hp, g, d, tk, os⟩ := s; obtain ⟨hl, hb, h⟩ := h
    have f2 := AutoSeq1.sub_tuple_tuple
    have z1 : items.size = ns.length := by rw [← hi.length]; simp
    have z2 : items2.size = ms.length := by rw [← hj.length]; simp
    wp_walk using wpAny_loadPart' hl, wpAny_loadPart' hb, wpAny_forIn_list _ (fun rest b s' => b.1 = none ∧ s' = ⟨hp, g, d, tk, os⟩ ∧ ∃ (vs ws : List Value) (ns' ms' : List Int), rest = vs.zip ws ∧
      IntsAre vs ns' ∧ IntsAre ws ms' ∧ ns'.length + items2.size = ms'.length + items.size ∧ R (.ok (.ret (.bool (lexLt ns' ms')))) ⟨hp, g, d, tk, os⟩) _
    case turn =>
      rintro ⟨y, x⟩ rest b s' ⟨hb', rfl, vs, ws, ns', ms', hz, hvi, hwi, hlen, hR⟩
      cases hvi with
      | nil => rw [List.zip_nil_left] at hz; cases hz
      | cons a t hvi' =>
        cases hwi with
        | nil => rw [List.zip_nil_right] at hz; cases hz
        | cons c u hwi' =>
          rw [List.zip_cons_cons] at hz
          injection hz with hyx hrest
          injection hyx with hy hx
          subst hy hx
          rw [lexLt_cons] at hR
          simp only [List.length_cons] at hlen
          obtain ⟨e, he, hiff⟩ := eqAt_int A.in1 ⟨hp, g, d, tk, os⟩ a t c u
          refine wpAny_bind (he prog w _ _ ?_)
          cases e with
          | true =>
            rw [if_pos (hiff.mp rfl)] at hR
            wp_walk
            exact ⟨rfl, rfl, _, _, _, _, hrest, hvi', hwi', by omega, hR⟩
          | false =>
            rw [if_neg (fun q => absurd (hiff.mpr q) Bool.false_ne_true)] at hR
            have hri := rcLt_int A.in1 ⟨hp, g, d, tk, os⟩ a t c u prog w
            wp_walk using hri
            exact ⟨_, rfl, by simpa using hR⟩
    case fin =>
      rintro ⟨b1, b2⟩ s' ⟨hb', rfl, vs, ws, ns', ms', hz, hvi, hwi, hlen, hR⟩
      simp only at hb'
      subst hb'
      have hv : lexLt ns' ms' = decide (items.size < items2.size) := by
        cases hvi with
        | nil =>
          cases hwi with
          | nil =>
            simp only [List.length_nil] at hlen
            rw [lexLt_nil_nil]
            exact (decide_eq_false (by omega)).symm
          | cons c u hw =>
            simp only [List.length_nil, List.length_cons] at hlen
            rw [lexLt_nil_cons]
            exact (decide_eq_true (by omega)).symm
        | cons a t hv =>
          cases hwi with
          | nil =>
            simp only [List.length_nil, List.length_cons] at hlen
            rw [lexLt_cons_nil]
            exact (decide_eq_false (by omega)).symm
          | cons c u hw =>
            rw [List.zip_cons_cons] at hz
            cases hz
      rw [hv] at hR
      wp_walk
      exact ⟨_, rfl, by simpa [Builtin.Tuple.tupleCompareSizes] using hR⟩
    case h =>
      exact ⟨rfl, rfl, items.toList, items2.toList, ns, ms, rfl, hi, hj, by omega, h⟩
end

section
variable {prog : Program} {w : World} {A : Around} {E : Value → Shared → Prop} {s : Shared}

theorem lt_tupInts {l b : Addr} {items items2 : Array Value} {ns ms : List Int} {Q : Value → Shared → Prop} (hl : IsTup s.heap l items) (hb : IsTup s.heap b items2) (hi : IntsAre items.toList ns) (hj : IntsAre items2.toList ms)
    (hu : A.units < cLine) (h : Q (.bool (lexLt ns ms)) s) : wpAny (model prog w) A (compareOp .Lt (.ref l) (.ref b)) Q E s := by
  obtain ⟨⟨cls, dd, data, sl⟩, ho, hc, n, hd⟩ := id hl
  obtain ⟨⟨cls2, dd2, data2, sl2⟩, ho2, hc2, n2, hd2⟩ := id hb
  simp only at hc hd hc2 hd2
  subst hc hd hc2 hd2
  exact richCompare_meets_room (op := .Lt) ⟨_, ho, rfl⟩ ⟨_, ho2, rfl⟩ PySem.F.slot_tuple_lt PySem.F.entry_tuple_lt (PySem.F.args_tuple_lt_2 _ _) (tuple_lt_ints l b items items2 n n2 dd dd2 sl sl2 ns ms hi hj)
    ⟨ho, ho2, show Value.bool (lexLt ns ms) ≠ Value.notImplemented ∧ Q (.bool (lexLt ns ms)) s from ⟨(fun x => nomatch x), h⟩⟩ hu

/-- t + u, t not empty -/
theorem cat_tup {t b : Addr} {vs ws : List Value} {Q : Value → Shared → Prop} (ht : IsTup s.heap t vs.toArray) (hb : IsTup s.heap b ws.toArray) (hv : vs ≠ [])
    (h1 : ws = [] → Q (.ref t) s) (h2 : ws ≠ [] → Q (.ref s.heap.objs.size) { s with heap := s.heap.push { cls := .type "tuple", data := .seq (vs ++ ws).toArray } })
    (hsz : vs.length + ws.length ≤ sizeLine) : wpAny (model prog w) A (binaryOp .Add (.ref t) (.ref b)) Q E s := by
  obtain ⟨⟨cls, dd, data, sl⟩, ho, hc, n, hd⟩ := id ht
  obtain ⟨⟨cls2, dd2, data2, sl2⟩, ho2, hc2, n2, hd2⟩ := id hb
  simp only at hc hd hc2 hd2
  subst hc hd hc2 hd2
  have e : vs.toArray ++ ws.toArray = (vs ++ ws).toArray := by simp
  by_cases hw : ws = []
  · exact concat_meets ⟨_, ho, rfl⟩ ⟨_, ho2, rfl⟩ noFill_tuple_add seq_tuple_add PySem.F.slot_tuple_add PySem.F.entry_tuple_add (PySem.F.args_tuple_add_2 _ _)
      (tuple_addW1 t b vs.toArray ws.toArray n n2 dd dd2 sl sl2 (by simpa using hv) (by simp [hw])) ⟨ho, ho2, h1 hw⟩
  · refine concat_meets ⟨_, ho, rfl⟩ ⟨_, ho2, rfl⟩ noFill_tuple_add seq_tuple_add PySem.F.slot_tuple_add PySem.F.entry_tuple_add (PySem.F.args_tuple_add_2 _ _)
      (tuple_addW2 t b vs.toArray ws.toArray n n2 dd dd2 sl sl2 (by simpa using hv) (by simpa using hw) (by rw [List.size_toArray, List.size_toArray]; exact hsz)) ⟨ho, ho2, ?_⟩
    rw [e]
    exact h2 hw

/-! ### t[a:b], not the whole -/
/-- a slice's bound as a place among n (d where it is left out) -/
def sIx (n d : Nat) : Option Int → Nat
  | none => d
  | some v => if v < 0 then (v + (n : Int)).toNat else min v.toNat n
theorem sIx_none (n d : Nat) : sIx n d none = d := rfl
theorem sIx_nat (n d k : Nat) : sIx n d (some (k : Int)) = min k n := by
  show (if (k : Int) < 0 then ((k : Int) + (n : Int)).toNat else min (k : Int).toNat n) = min k n
  rw [if_neg (by omega), Int.toNat_natCast]
theorem sIx_le (n d : Nat) (hd : d ≤ n) (o : Option Int) : sIx n d o ≤ n := by
  cases o with
  | none => exact hd
  | some v =>
    show (if v < 0 then (v + (n : Int)).toNat else min v.toNat n) ≤ n
    by_cases hv : v < 0
    · rw [if_pos hv]; omega
    · rw [if_neg hv]; exact Nat.min_le_right _ _
theorem clip_eq (v : Int) (n d : Nat) : (if v < 0 then max (v + (n : Int)) 0 else min v (n : Int)) = ((sIx n d (some v) : Nat) : Int) := by
  show (if v < 0 then max (v + (n : Int)) 0 else min v (n : Int)) = (((if v < 0 then (v + (n : Int)).toNat else min v.toNat n) : Nat) : Int)
  by_cases hv : v < 0
  · simp only [if_pos hv]; omega
  · simp only [if_neg hv]; omega
theorem adjust_gen (lo hi : Option Int) (n : Nat) : Builtin.Slice.sliceAdjust lo hi 1 (n : Int) = (((sIx n 0 lo : Nat) : Int), ((sIx n n hi : Nat) : Int)) := by
  have h1 : ¬ ((1 : Int) < 0) := by omega
  unfold Builtin.Slice.sliceAdjust
  simp only [h1, if_false]
  refine Prod.ext ?_ ?_
  · cases lo with
    | none => rfl
    | some v => exact clip_eq v n 0
  · cases hi with
    | none => rfl
    | some v => exact clip_eq v n n
theorem places_gen (i j : Nat) : Builtin.Slice.slicePlaces (i : Int) (j : Int) 1 = j - i := by
  unfold Builtin.Slice.slicePlaces
  have h1 : (1 : Int) > 0 := by omega
  simp only [h1, if_true, Int.ediv_one]
  split <;> omega
theorem slicePart_ {v : Value} {o : Option Int} {Q : Option Int → Shared → Prop} (p : IsPart v o) (h : Q o s) : wpAny (model prog w) A (Builtin.Slice.slicePartIndex v) Q E s := by
  cases p with
  | none => exact slicePart_none h
  | int i t => exact slicePart_int h
theorem sliceApplied_gen {sl : Addr} {vl vu : Value} {lo hi : Option Int} {n : Nat} {Q : Int × Int × Nat → Shared → Prop} (hs : s.heap.IsSliceOf sl vl vu .none) (pl : IsPart vl lo) (pu : IsPart vu hi)
    (h : Q (((sIx n 0 lo : Nat) : Int), 1, sIx n n hi - sIx n 0 lo) s) : wpAny (model prog w) A (Builtin.Slice.sliceApplied (.ref sl) (pure (n : Int))) Q E s := by
  obtain ⟨os, hos, hcs, hds⟩ := id hs
  unfold Builtin.Slice.sliceApplied Builtin.Slice.sliceFields
  refine wpAny_bind (wpAny_bind (wpAny_field hos hds (x := vl) rfl (wpAny_bind (wpAny_field hos hds (x := vu) rfl (wpAny_bind (wpAny_field hos hds (x := .none) rfl (wpAny_pure ?_)))))))
  refine wpAny_bind (slicePart_none ?_)
  show wpAny _ _ (if ((1 : Int) == 0) = true then _ else _) _ _ s
  rw [if_neg (by decide)]
  refine wpAny_bind (slicePart_ pl (wpAny_bind (slicePart_ pu (wpAny_bind (wpAny_pure ?_)))))
  show wpAny _ _ (match Builtin.Slice.sliceAdjust lo hi 1 (n : Int) with | (lo, hi) => pure (lo, (1 : Int), Builtin.Slice.slicePlaces lo hi 1)) _ _ s
  rw [adjust_gen lo hi n]
  show wpAny _ _ (pure (((sIx n 0 lo : Nat) : Int), (1 : Int), Builtin.Slice.slicePlaces ((sIx n 0 lo : Nat) : Int) ((sIx n n hi : Nat) : Int) 1)) _ _ s
  rw [places_gen]
  exact wpAny_pure h
theorem pick_gen (xs : Array Value) (i k : Nat) : ((List.range k).filterMap fun (m : Nat) => xs[((i : Int) + (m : Int) * 1).toNat]?).toArray = ((xs.toList.drop i).take k).toArray := by
  have e : (fun (m : Nat) => xs[((i : Int) + (m : Int) * 1).toNat]?) = fun m => xs[i + m]? := by
    funext m
    have : ((i : Int) + (m : Int) * 1).toNat = i + m := by omega
    rw [this]
  rw [e]
  have := pick_run xs i k
  rw [List.filterMap_map] at this
  have e2 : ((fun x => xs[x]?) ∘ fun x => i + x) = fun m => xs[i + m]? := rfl
  rw [e2] at this
  rw [this]

theorem getItem_tuple_cut {t sl : Addr} {items : Array Value} {vl vu : Value} {lo hi : Option Int} {Q : Value → Shared → Prop} (ht : IsTup s.heap t items) (hs : s.heap.IsSliceOf sl vl vu .none) (pl : IsPart vl lo) (pu : IsPart vu hi)
    (hw : ¬ (sIx items.size 0 lo = 0 ∧ sIx items.size items.size hi = items.size))
    (h : Q (.ref s.heap.objs.size) { s with heap := s.heap.push { cls := .type "tuple", data := .seq ((items.toList.drop (sIx items.size 0 lo)).take (sIx items.size items.size hi - sIx items.size 0 lo)).toArray } })
    (hsz : items.size ≤ sizeLine) : wpAny (model prog w) A (getItem (.ref t) (.ref sl)) Q E s := by
  have htake : sizeOk (.seq ((items.toList.drop (sIx items.size 0 lo)).take (sIx items.size items.size hi - sIx items.size 0 lo)).toArray) := by
    show ((items.toList.drop (sIx items.size 0 lo)).take (sIx items.size items.size hi - sIx items.size 0 lo)).toArray.size ≤ sizeLine
    rw [List.size_toArray, List.length_take, List.length_drop, Array.length_toList]
    omega
  have hj : sIx items.size items.size hi ≤ items.size := sIx_le _ _ (Nat.le_refl _) hi
  obtain ⟨os, hos, hcs, hds⟩ := id hs
  have hTs : s.TypeIs (.ref sl) "slice" := ⟨os, hos, hcs⟩
  unfold getItem
  try with_reducible refine wpAny_holding ?_
  first | refine wpAny_bind (wpAny_pure ?_) | skip
  refine wpAny_bind (wpAny_sequenceKey ht.typeIs (by decide) ?_)
  refine wpAny_bind (wpAny_callSpecial?_slot (name := Str.ofString "__getitem__") ht.typeIs PyProof.Rows.slot_tuple_getitem
    (wpAny_call_entry PyProof.Rows.slot_tuple_getitem ht.typeIs entry_tuple_getitem ?_ (args_tuple_getitem _ _)))
  show wpAny _ _ (Builtin.Tuple.tupleItemsOf (.ref t) >>= _) _ _ s
  refine wpAny_bind (tupleItemsOf_ ht ?_)
  refine wpAny_bind (wpAny_typeOf hTs ?_)
  rw [if_pos (by decide)]
  refine wpAny_bind (sliceApplied_gen hs pl pu ?_)
  have hno : ¬ ((((sIx items.size 0 lo : Nat) : Int) == 0 && (1 : Int) == 1 && (sIx items.size items.size hi - sIx items.size 0 lo) == items.size) = true) := by
    intro q
    rw [Bool.and_eq_true, Bool.and_eq_true] at q
    have q1 : ((sIx items.size 0 lo : Nat) : Int) = 0 := eq_of_beq q.1.1
    have q2 : sIx items.size items.size hi - sIx items.size 0 lo = items.size := eq_of_beq q.2
    exact hw ⟨by omega, by omega⟩
  show wpAny _ _ (if (((sIx items.size 0 lo : Nat) : Int) == 0 && (1 : Int) == 1 && (sIx items.size items.size hi - sIx items.size 0 lo) == items.size) = true then _ else _) _ _ s
  rw [if_neg hno, pick_gen]
  first
    | exact wpAny_bind (m := Builtin.Tuple.tupleExact _) (wpAny_newObj_type (wpAny_pure ⟨_, rfl, wpAny_pure h⟩) htake)
    | exact wpAny_bind (m := Builtin.Tuple.tupleExact _) (wpAny_newObj_type (wpAny_bind (wpAny_pure (wpAny_pure ⟨_, rfl, wpAny_pure h⟩))) htake)
    | exact wpAny_bind (wpAny_bind (m := Builtin.Tuple.tupleExact _) (wpAny_newObj_type (wpAny_pure (wpAny_pure ⟨_, rfl, wpAny_pure h⟩)) htake))
    | exact wpAny_bind (wpAny_bind (m := Builtin.Tuple.tupleExact _) (wpAny_newObj_type (wpAny_pure ⟨_, rfl, wpAny_pure h⟩) htake))
end
end HT

namespace L2
open PySem PySem.Spec PyProof.Rows

/-! ### the parts of a slice -/
abbrev TO := St → Hp → (Option Int → Hp → Prop) → Prop
/-- a slice's part (left out, or an int) -/
def PO (X : Cx) (e : Option Expr) (t : TO) : Prop :=
  ∀ (pins : List (Addr × Obj)) (s : Shared) (σ : St) (H : Hp) (Q : Option Int → Hp → Prop), Inv X pins σ H s → t σ H Q →
    wpAny (model X.prog X.w) X.A (evalPart e X.env) (fun u s' => ∃ o H', Inv X pins σ H' s' ∧ IsPart u o ∧ Q o H') X.xe s
def tNoPart : TO := fun _ H Q => Q none H
def tPart (t : TE) : TO := fun σ H Q => t σ H fun x H1 => ∃ i, x = .int i ∧ Q (some i) H1

theorem intsAre_of {ns : List Int} : ∀ {us : List Value}, Vals (ns.map V.int) us → IntsAre us ns := by
  induction ns with
  | nil => intro us r; rw [List.map_nil] at r; cases r; exact .nil
  | cons n ns ih =>
    intro us r
    rw [List.map_cons] at r
    cases r with
    | cons r1 r2 =>
      obtain ⟨t, e⟩ := r1
      subst e
      exact .cons n t (ih r2)

section
variable {X : Cx} {e : Expr} {te : TE} {lo hi : Option Expr} {tl th : TO} {pos p2 : Pos}

theorem po_none : PO X none tNoPart := by
  intro pins s σ H Q I h
  rw [evalPart_none]
  exact wpAny_pure ⟨none, H, I, .none, h⟩
theorem po_some (h : PE X e te) : PO X (some e) (tPart te) := by
  intro pins s σ H Q I hw
  rw [evalPart_some]
  refine thn (h pins s σ H _ I hw) fun u s1 ⟨x, H1, I1, r1, q1⟩ => ?_
  obtain ⟨i, rfl, q⟩ := q1
  obtain ⟨t, rfl⟩ := r1
  exact ⟨some i, H1, I1, .int i t, q⟩

/-- what a slice of a value is, by values: the slice object stands at sl -/
def SlR (X : Cx) (r : V → Option Int → Option Int → Hp → VK → Prop) : Prop :=
  ∀ (pins : List (Addr × Obj)) (s : Shared) (σ : St) (H : Hp) (x : V) (v vl vu : Value) (lo hi : Option Int) (sl : Addr) (Q : VK), Inv X pins σ H s → RelV x v → s.heap.IsSliceOf sl vl vu .none → IsPart vl lo → IsPart vu hi → r x lo hi H Q →
    ∃ T id, typeLookup (.type T) "__getitem__" = pure (some (.builtin id)) ∧ s.TypeIs v T ∧ wpAny (model X.prog X.w) X.A (getItem v (.ref sl)) (EP X pins σ Q) X.xe s
theorem SlR.or {r r' : V → Option Int → Option Int → Hp → VK → Prop} (h : SlR X r) (h' : SlR X r') : SlR X (fun x lo hi H Q => r x lo hi H Q ∨ r' x lo hi H Q) := by
  intro pins s σ H x v vl vu lo hi sl Q I rx hs pl pu q
  rcases q with q | q
  · exact h pins s σ H x v vl vu lo hi sl Q I rx hs pl pu q
  · exact h' pins s σ H x v vl vu lo hi sl Q I rx hs pl pu q
def tSl (r : V → Option Int → Option Int → Hp → VK → Prop) (te : TE) (tl th : TO) : TE := fun σ H Q => te σ H fun x H1 => tl σ H1 fun l H2 => th σ H2 fun u H3 => r x l u H3 Q
/-- a[lo:hi], any a -/
theorem pe_slice {r : V → Option Int → Option Int → Hp → VK → Prop} (hr : SlR X r) (he : PE X e te) (hl : PO X lo tl) (hu : PO X hi th) : PE X (.Subscript e (.Slice lo hi none p2) pos) (tSl r te tl th) := by
  intro pins s σ H Q I h
  refine Subscript_ (thn (he pins s σ H _ I h) fun v s1 ⟨x, H1, I1, r1, q1⟩ => ?_)
  refine wpAny_Slice (thn (hl pins s1 σ H1 _ I1 q1) fun vl s2 ⟨l, H2, I2, pl, q2⟩ => thn (hu pins s2 σ H2 _ I2 q2) fun vu s3 ⟨u, H3, I3, pu, q3⟩ => ?_)
  rw [evalPart_none]
  refine wpAny_pure ?_
  have I4 : Inv X pins σ H3 { s3 with heap := s3.heap.push { cls := .type "slice", data := .fields #[vl, vu, .none] } } := I3.kept (t' := s3.toks) fun b ob q => Heap.get?_push_of_some _ q
  obtain ⟨T, id, hT, ht, hg⟩ := hr pins { s3 with heap := s3.heap.push { cls := .type "slice", data := .fields #[vl, vu, .none] } } σ H3 x v vl vu l u s3.heap.objs.size Q I4 r1 (Heap.IsSliceOf.new ..) pl pu q3
  show wpAny (model X.prog X.w) X.A (subscriptTail e (.Slice lo hi none p2) v (.ref s3.heap.objs.size)) (EP X pins σ Q) X.xe { s3 with heap := s3.heap.push { cls := .type "slice", data := .fields #[vl, vu, .none] } }
  exact tail_any (ops := [.ref s3.heap.objs.size, v]) ht hT hg (by with_unfolding_all rfl)

/-- the items of xs[lo:hi] -/
def cutV (xs : List V) (lo hi : Option Int) : List V := (xs.drop (HT.sIx xs.length 0 lo)).take (HT.sIx xs.length xs.length hi - HT.sIx xs.length 0 lo)
theorem cutV_length (xs : List V) (lo hi : Option Int) : (cutV xs lo hi).length ≤ xs.length := by
  unfold cutV
  rw [List.length_take, List.length_drop]
  omega
/-- t[lo:hi], not the whole of it (the whole would be t itself) -/
def rSlT (K : PySem.W.Frag) : V → Option Int → Option Int → Hp → VK → Prop := fun x lo hi H Q => ∃ a xs, x = .ref a ∧ SqT K H a xs ∧
  ¬ (HT.sIx xs.length 0 lo = 0 ∧ HT.sIx xs.length xs.length hi = xs.length) ∧ ∀ p, H p = none → Q (.ref p) (upd H p (.tup (cutV xs lo hi)))
theorem sl_tup : SlR X (rSlT X.K) := by
  intro pins s σ H x v vl vu lo hi sl Q I rx hs pl pu h
  obtain ⟨a, xs, rfl, hx, hw, q⟩ := h
  cases rx
  obtain ⟨its, r, ht, hz⟩ := I.tuple hx
  have hlen : its.toArray.size = xs.length := by rw [List.size_toArray]; exact r.length.symm
  refine ⟨"tuple", _, PyProof.Rows.slot_tuple_getitem.lookup, ht.typeIs, ?_⟩
  refine HT.getItem_tuple_cut ht hs pl pu (by rw [hlen]; exact hw) ?_ (by rw [hlen]; exact hz)
  rw [hlen]
  refine ⟨.ref s.heap.objs.size, _, I.laid (t' := s.toks) (o := .tup (cutV xs lo hi)) (fun b ob q => Heap.get?_push_of_some _ q) (Nat.le_refl _) ?_, rfl, q _ (I.hok.fresh (Nat.le_refl _))⟩
  exact ⟨Nat.le_trans (cutV_length xs lo hi) hz, _, (r.drop (HT.sIx xs.length 0 lo)).take (HT.sIx xs.length xs.length hi - HT.sIx xs.length 0 lo), IsTup.new _ _⟩

/-! ### t < u, t + u -/
def rLtT (K : PySem.W.Frag) : R2 := fun x y H Q => ∃ a b ns ms, x = .ref a ∧ y = .ref b ∧ SqT K H a (ns.map V.int) ∧ SqT K H b (ms.map V.int) ∧ Q (.bl (HT.lexLt ns ms)) H
theorem op_ltT (hu : X.A.units < cLine) : OpR X (compareOp .Lt) (rLtT X.K) := by
  intro pins s σ H x y v u Q I rx ry h
  obtain ⟨a, b, ns, ms, rfl, rfl, ha, hb, q⟩ := h
  cases rx
  cases ry
  obtain ⟨its, r1, p1, _⟩ := I.tuple ha
  obtain ⟨its2, r2, p2, _⟩ := I.tuple hb
  have i1 : IntsAre its.toArray.toList ns := intsAre_of r1
  have i2 : IntsAre its2.toArray.toList ms := intsAre_of r2
  exact HT.lt_tupInts p1 p2 i1 i2 hu ⟨.bl (HT.lexLt ns ms), H, I, rfl, q⟩
/-- t + u, t not empty: u empty gives t itself -/
def rCatT (K : PySem.W.Frag) : R2 := fun x y H Q => ∃ a b xs ys, x = .ref a ∧ y = .ref b ∧ SqT K H a xs ∧ SqT K H b ys ∧ xs ≠ [] ∧ xs.length + ys.length ≤ sizeLine ∧
  (ys = [] → Q (.ref a) H) ∧ (ys ≠ [] → ∀ p, H p = none → Q (.ref p) (upd H p (.tup (xs ++ ys))))
theorem Vals.nil_iff {xs : List V} {us : List Value} (r : Vals xs us) : us = [] ↔ xs = [] := by
  cases r with
  | nil => simp
  | cons _ _ => simp
theorem op_catT : OpR X (binaryOp .Add) (rCatT X.K) := by
  intro pins s σ H x y v u Q I rx ry h
  obtain ⟨a, b, xs, ys, rfl, rfl, ha, hb, hx, hz, q1, q2⟩ := h
  cases rx
  cases ry
  obtain ⟨its, r1, p1, _⟩ := I.tuple ha
  obtain ⟨its2, r2, p2, _⟩ := I.tuple hb
  refine HT.cat_tup p1 p2 (fun z => hx (r1.nil_iff.mp z)) (fun z => ⟨.ref a, H, I, rfl, q1 (r2.nil_iff.mp z)⟩) (fun z => ?_) (by rw [← r1.length, ← r2.length]; exact hz)
  refine ⟨.ref s.heap.objs.size, _, I.laid (t' := s.toks) (o := .tup (xs ++ ys)) (fun b ob q => Heap.get?_push_of_some _ q) (Nat.le_refl _) ?_, rfl, q2 (fun w => z (r2.nil_iff.mpr w)) _ (I.hok.fresh (Nat.le_refl _))⟩
  exact ⟨by rw [List.length_append]; exact hz, _, r1.append r2, IsTup.new _ _⟩
/-- tuple(t) -/
theorem call_tupleT : CallR X (.type "tuple") (fun xs H Q => ∃ a ys, xs = [.ref a] ∧ SqT X.K H a ys ∧ Q (.ref a) H) := by
  intro pins s σ H xs us Q I r h
  obtain ⟨a, ys, rfl, ha, q⟩ := h
  obtain ⟨u, rfl, ru⟩ := vals1 r
  cases ru
  obtain ⟨its, _, p1, _⟩ := I.tuple ha
  exact call_tuple_same (items := its.toArray) p1 ⟨.ref a, H, I, rfl, q⟩
end
end L2

namespace L2
open PySem PySem.Spec PyProof.Rows

/-! ### places -/
/-- the place that an index of any sign means -/
def ixN (n : Nat) (i : Int) : Option Nat := if 0 ≤ i then (if i < n then some i.toNat else none) else if -(n : Int) ≤ i then some (i + n).toNat else none
def atI {α : Type} (xs : List α) (i : Int) : Option α := (ixN xs.length i).bind fun j => xs[j]?
theorem ixN_seq {n : Nat} {i : Int} {j : Nat} (h : ixN n i = some j) : seqIndex? i n = some j ∧ j < n ∧ -(n : Int) ≤ i ∧ i < n := by
  unfold ixN at h
  by_cases h0 : 0 ≤ i
  · rw [if_pos h0] at h
    by_cases h1 : i < n
    · rw [if_pos h1] at h
      have e : i.toNat = j := Option.some.inj h
      exact ⟨by rw [seqIndex_of h0 h1, e], by omega, by omega, h1⟩
    · rw [if_neg h1] at h; cases h
  · rw [if_neg h0] at h
    by_cases h1 : -(n : Int) ≤ i
    · rw [if_pos h1] at h
      have e : (i + n).toNat = j := Option.some.inj h
      exact ⟨by rw [seqIndex_neg (by omega) h1, e], by omega, h1, by omega⟩
    · rw [if_neg h1] at h; cases h
theorem atI_get {α : Type} {xs : List α} {i : Int} {v : α} (h : atI xs i = some v) : ∃ j, seqIndex? i xs.length = some j ∧ xs[j]? = some v ∧ j < xs.length ∧ -(xs.length : Int) ≤ i ∧ i < xs.length := by
  unfold atI at h
  cases e : ixN xs.length i with
  | none => rw [e] at h; cases h
  | some j =>
    rw [e] at h
    obtain ⟨h1, h2, h3, h4⟩ := ixN_seq e
    exact ⟨j, h1, h, h2, h3, h4⟩
theorem atI_nat {α : Type} {xs : List α} {j : Nat} {v : α} (h : xs[j]? = some v) : atI xs (j : Int) = some v := by
  have hj : j < xs.length := (List.getElem?_eq_some_iff.mp h).1
  have e : ixN xs.length (j : Int) = some j := by
    unfold ixN
    rw [if_pos (by omega), if_pos (by omega)]; simp
  unfold atI; rw [e]; exact h
theorem atI_last {α : Type} (xs : List α) (v : α) : atI (xs ++ [v]) (-1) = some v := by
  have hl : (xs ++ [v]).length = xs.length + 1 := by simp
  have e : ixN (xs ++ [v]).length (-1) = some xs.length := by
    unfold ixN
    rw [hl, if_neg (by decide), if_pos (by omega)]
    congr 1
    omega
  unfold atI
  rw [e]
  show (xs ++ [v])[xs.length]? = some v
  simp

/-! ### what may be subscripted -/
/-- what stands as an index of a plain subscript -/
def PlainIx (b : Expr) : Prop := ∀ o i, subscripted b false o i = operate [o, i] (getItem o i)
/-- a subscript by values -/
def IxR (X : Cx) (r : R2) : Prop :=
  ∀ (value slice : Expr) (pins : List (Addr × Obj)) (s : Shared) (σ : St) (H : Hp) (x y : V) (v u : Value) (Q : VK), Inv X pins σ H s → RelV x v → RelV y u → r x y H Q →
    subscripted slice false v u = operate [v, u] (getItem v u) → wpAny (model X.prog X.w) X.A (subscriptTail value slice v u) (EP X pins σ Q) X.xe s
/-- a call of a builtin's method by values: the receiver, the arguments -/
def MtR (X : Cx) (id : String) (r : V → List V → Hp → VK → Prop) : Prop :=
  ∀ (pins : List (Addr × Obj)) (s : Shared) (σ : St) (H : Hp) (x : V) (xs : List V) (v : Value) (us : List Value) (Q : VK), Inv X pins σ H s → RelV x v → Vals xs us → r x xs H Q →
    wpAny (model X.prog X.w) X.A (call (.builtin id) (v :: us)) (EP X pins σ Q) X.xe s
section
variable {X : Cx} {a b : Expr} {ta tb : TE} {pos : Pos}
theorem IxR.or {r r' : R2} (h : IxR X r) (h' : IxR X r') : IxR X (fun x y H Q => r x y H Q ∨ r' x y H Q) := by
  intro value slice pins s σ H x y v u Q I rx ry q hs
  rcases q with q | q
  · exact h value slice pins s σ H x y v u Q I rx ry q hs
  · exact h' value slice pins s σ H x y v u Q I rx ry q hs
theorem MtR.or {id : String} {r r' : V → List V → Hp → VK → Prop} (h : MtR X id r) (h' : MtR X id r') : MtR X id (fun x xs H Q => r x xs H Q ∨ r' x xs H Q) := by
  intro pins s σ H x xs v us Q I rx rs q
  rcases q with q | q
  · exact h pins s σ H x xs v us Q I rx rs q
  · exact h' pins s σ H x xs v us Q I rx rs q
/-- a[b] -/
theorem pe_ix {r : R2} (hr : IxR X r) (ha : PE X a ta) (hb : PE X b tb) (hs : PlainIx b) : PE X (.Subscript a b pos) (tOp r ta tb) := by
  intro pins s σ H Q I h
  exact Subscript_ (binT ha hb I h fun v u s2 x y H2 I2 rx ry q => hr a b pins s2 σ H2 x y v u Q I2 rx ry q (hs _ _))

def rIxL (K : PySem.W.Frag) : R2 := fun x y H Q => ∃ p xs i v, x = .ref p ∧ y = .int i ∧ SqL K H p xs ∧ atI xs i = some v ∧ Q v H
def rIxT (K : PySem.W.Frag) : R2 := fun x y H Q => ∃ p xs i v, x = .ref p ∧ y = .int i ∧ SqT K H p xs ∧ atI xs i = some v ∧ Q v H
def rIxS : R2 := fun x y H Q => ∃ z i c, x = .str z ∧ y = .int i ∧ z.length ≤ sizeLine ∧ atI z.cps.toList i = some c ∧ Q (.str ⟨#[c]⟩) H
theorem ix_list : IxR X (rIxL X.K) := by
  intro value slice pins s σ H x y v u Q I rx ry h hs
  obtain ⟨p, xs, i, z, rfl, rfl, hq, he, q⟩ := h
  cases rx
  obtain ⟨t, rfl⟩ := ry
  obtain ⟨its, r, pl, hz⟩ := I.list hq
  obtain ⟨j, h1, h2, h3, h4, h5⟩ := atI_get he
  obtain ⟨w, ew, rw'⟩ := r.get h2
  have hl := r.length
  have hn := line63
  have fin : EP X pins σ Q w s := ⟨z, H, I, rw', q⟩
  by_cases h0 : 0 ≤ i
  · have hj : i.toNat = j := by
      rw [seqIndex_of h0 h5] at h1
      exact Option.some.inj h1
    exact item_listR pl.isList h0 (by omega) (by rw [hj]; simpa using ew) fin hs
  · have hj : (i + (its.toArray.size : Int)).toNat = j := by
      rw [seqIndex_neg (by omega) h4] at h1
      rw [List.size_toArray, ← hl]
      exact Option.some.inj h1
    exact subscriptTail_builtinR (x := w) pl.isList.typeIs slot_list_getitem.lookup
      (wpAny_getItem_list_neg (Q := fun r s' => r = w ∧ EP X pins σ Q r s') pl.isList (by omega) (by rw [List.size_toArray] <;> omega) (by omega) (by rw [hj]; simpa using ew) ⟨rfl, fin⟩) hs
theorem ix_tup : IxR X (rIxT X.K) := by
  intro value slice pins s σ H x y v u Q I rx ry h hs
  obtain ⟨p, xs, i, z, rfl, rfl, hq, he, q⟩ := h
  cases rx
  obtain ⟨t, rfl⟩ := ry
  obtain ⟨its, r, pl, hz⟩ := I.tuple hq
  obtain ⟨j, h1, h2, h3, h4, h5⟩ := atI_get he
  obtain ⟨w, ew, rw'⟩ := r.get h2
  have hl := r.length
  have hn := line63
  have fin : EP X pins σ Q w s := ⟨z, H, I, rw', q⟩
  exact subscriptTail_builtinR (x := w) pl.typeIs slot_tuple_getitem.lookup
    (getItem_tuple (j := j) (Q := fun r s' => r = w ∧ EP X pins σ Q r s') pl (by omega) (by omega) (by rw [List.size_toArray, ← hl]; exact h1) (by simpa using ew) ⟨rfl, fin⟩) hs
theorem ix_str : IxR X rIxS := by
  intro value slice pins s σ H x y v u Q I rx ry h hs
  obtain ⟨z, i, c, rfl, rfl, hz, he, q⟩ := h
  obtain ⟨t, rfl⟩ := rx
  obtain ⟨t', rfl⟩ := ry
  obtain ⟨j, h1, h2, h3, h4, h5⟩ := atI_get he
  have hl : z.cps.toList.length = z.length := by simp [Str.length]
  rw [hl] at h1 h4 h5
  have hn := line63
  exact tail_any (typeIs_str s z t) slot_str_getitem.lookup (getItem_str (c := c) (by
    have e1 : decide (i < -(2 ^ 63 : Int)) = false := decide_eq_false (by omega)
    have e2 : decide (i ≥ 2 ^ 63) = false := decide_eq_false (by omega)
    rw [e1, e2, Bool.or_false]) (by rw [h1]; simpa using h2) ⟨.str ⟨#[c]⟩, H, I.tok _, ⟨_, rfl⟩, q⟩) hs
/-- list, tuple or str -/
def rIx (K : PySem.W.Frag) : R2 := fun x y H Q => rIxL K x y H Q ∨ rIxT K x y H Q ∨ rIxS x y H Q
theorem ix_seq : IxR X (rIx X.K) := ix_list.or (ix_tup.or ix_str)

/-! ### xs[i] = v, any sign -/
/-- the list's object behind a store -/
theorem mapSeq_set (its : List Value) (n j : Nat) (u : Value) : Obj.mapSeq (·.setIfInBounds j u) { cls := .type "list", data := .seq its.toArray n } = { cls := .type "list", data := .seq (its.set j u).toArray n } := by
  simp [Obj.mapSeq]
theorem Inv.lst {pins : List (Addr × Obj)} {σ : St} {H : Hp} {s : Shared} {p : Addr} {xs : List V} (I : Inv X pins σ H s) (h : H p = some (.lst xs)) :
    ∃ (its : List Value) (n : Nat), Vals xs its ∧ s.heap.get? p = some { cls := .type "list", data := .seq its.toArray n } ∧ xs.length ≤ sizeLine := by
  obtain ⟨z, its, n, r, e⟩ := I.hok p _ h
  exact ⟨its, n, r, e, z⟩
/-- the list at p is written by an update of its object -/
theorem Inv.lstUpd {pins : List (Addr × Obj)} {σ : St} {H : Hp} {s : Shared} {p : Addr} {xs ys : List V} {its its' : List Value} {n n' : Nat} {f : Obj → Obj} (I : Inv X pins σ H s) (h : H p = some (.lst xs))
    (ho : s.heap.get? p = some { cls := .type "list", data := .seq its.toArray n }) (hf : f { cls := .type "list", data := .seq its.toArray n } = { cls := .type "list", data := .seq its'.toArray n' }) (r : Vals ys its') (hz : ys.length ≤ sizeLine) (t : Nat) :
    Inv X pins σ (upd H p (.lst ys)) { s with heap := s.heap.update p f, toks := t } := by
  have e : (s.heap.update p f).get? p = some { cls := .type "list", data := .seq its'.toArray n' } := by
    rw [Heap.get?_update_self f ho (by rw [hf] <;> rfl), hf]
  refine I.write (x := p) (e := p) (by rw [h]; trivial) (.inl rfl) (fun b u hb q => (Heap.get?_update_other _ _ (Ne.symm hb)).trans q) ⟨_, e⟩ ?_
  exact ⟨hz, its', n', r, e⟩
def rSetL : V → V → V → Hp → (Hp → Prop) → Prop := fun o i v H Q => ∃ p xs k j, o = .ref p ∧ i = .int k ∧ H p = some (.lst xs) ∧ ixN xs.length k = some j ∧ Q (upd H p (.lst (xs.set j v)))
theorem set_list : PSet X rSetL := by
  intro pins s σ H o i v ov iv u Q I ro ri rv h
  obtain ⟨p, xs, k, j, rfl, rfl, hp, hj, q⟩ := h
  cases ro
  obtain ⟨t, rfl⟩ := ri
  obtain ⟨its, n, r, ho, hz⟩ := I.lst hp
  obtain ⟨h1, h2, h3, h4⟩ := ixN_seq hj
  have hl := r.length
  have hn := line63
  have I' : Inv X pins σ (upd H p (.lst (xs.set j v))) { s with heap := s.heap.update p (Obj.mapSeq (·.setIfInBounds j u)) } :=
    I.lstUpd hp ho (mapSeq_set its n j u) (r.set rv j) (by rw [List.length_set]; exact hz) s.toks
  by_cases h0 : 0 ≤ k
  · have hk : k.toNat = j := by
      rw [seqIndex_of h0 h4] at h1
      exact Option.some.inj h1
    exact PySem.W.ki_setAt ho h0 (by omega) (by rw [List.size_toArray, ← hl]; exact h4) (by rw [hk]; exact ⟨_, I', q⟩)
  · have hk : (k + (its.toArray.size : Int)).toNat = j := by
      rw [seqIndex_neg (by omega) h3] at h1
      rw [List.size_toArray, ← hl]
      exact Option.some.inj h1
    exact PySem.W.ki_setBack ho (by omega) (by rw [List.size_toArray, ← hl]; exact h3) (by omega) (by rw [hk]; exact ⟨_, I', q⟩)

/-! ### slices -/
theorem slice_bounds (lo hi : Option Int) (n : Nat) : (sliceBounds lo hi none n).1 = ((HT.sIx n 0 lo : Nat) : Int) ∧ (sliceBounds lo hi none n).2.1 = ((HT.sIx n n hi : Nat) : Int) ∧ (sliceBounds lo hi none n).2.2 = 1 := by
  refine ⟨?_, ?_, rfl⟩
  · cases lo with
    | none => simp [sliceBounds, HT.sIx]
    | some i =>
      simp only [sliceBounds, HT.sIx, Option.getD_none, show (1 : Int) > 0 by decide, if_true]
      by_cases h : i < 0
      · simp only [h, if_true] <;> omega
      · simp only [h, if_false] <;> omega
  · cases hi with
    | none => simp [sliceBounds, HT.sIx]
    | some i =>
      simp only [sliceBounds, HT.sIx, Option.getD_none, show (1 : Int) > 0 by decide, if_true]
      by_cases h : i < 0
      · simp only [h, if_true] <;> omega
      · simp only [h, if_false] <;> omega
theorem slicePick_cut (its : List Value) (lo hi : Option Int) : slicePick its.toArray lo hi none = ((its.drop (HT.sIx its.length 0 lo)).take (HT.sIx its.length its.length hi - HT.sIx its.length 0 lo)).toArray := by
  obtain ⟨h1, h2, h3⟩ := slice_bounds lo hi its.toArray.size
  unfold slicePick
  rw [h1, h2, h3]
  simp only [sliceRange_one, pick_run, List.size_toArray] <;> rfl
/-- xs[lo:hi] of a list: a new list -/
def rSlL (K : PySem.W.Frag) : V → Option Int → Option Int → Hp → VK → Prop := fun x lo hi H Q => ∃ a xs, x = .ref a ∧ SqL K H a xs ∧ ∀ p, H p = none → Q (.ref p) (upd H p (.lst (cutV xs lo hi)))
theorem sl_list : SlR X (rSlL X.K) := by
  intro pins s σ H x v vl vu lo hi sl Q I rx hs pl pu h
  obtain ⟨a, xs, rfl, hx, q⟩ := h
  cases rx
  obtain ⟨its, r, ht, hz⟩ := I.list hx
  have hlen := r.length
  refine ⟨"list", _, slot_list_getitem.lookup, ht.isList.typeIs, ?_⟩
  refine wpAny_getItem_list_slice ht.isList hs pl pu .none (by simp) ?_ (by rw [List.size_toArray] <;> omega)
  rw [slicePick_cut, ← hlen]
  refine ⟨.ref s.heap.objs.size, _, I.laid (t' := s.toks) (o := .lst (cutV xs lo hi)) (fun b ob q => Heap.get?_push_of_some _ q) (Nat.le_refl _) ?_, rfl, q _ (I.hok.fresh (Nat.le_refl _))⟩
  exact ⟨Nat.le_trans (cutV_length xs lo hi) hz, _, 0, (r.drop (HT.sIx xs.length 0 lo)).take (HT.sIx xs.length xs.length hi - HT.sIx xs.length 0 lo), Heap.get?_push_size _ rfl⟩

/-! ### in, not in: flat items -/
def flatV : V → Bool
  | .non => true
  | .bl _ => true
  | .int _ => true
  | .str _ => true
  | _ => false
/-- == of flat values -/
def eqV : V → V → Bool
  | .non, .non => true
  | .bl a, .bl b => a == b
  | .bl a, .int b => (if a then 1 else 0) == b
  | .int a, .bl b => a == (if b then 1 else 0)
  | .int a, .int b => a == b
  | .str a, .str b => a == b
  | _, _ => false
theorem eqAt_V {A : Around} {s : Shared} {y x : V} {u v : Value} (ry : RelV y u) (rx : RelV x v) (fy : flatV y = true) (fx : flatV x = true) : SeqAt.EqAt A s u v (eqV y x) := by
  cases y with
  | non =>
    cases ry
    cases x with
    | non => cases rx; exact SeqAt.EqAt.same _
    | bl b => cases rx; exact SeqAt.EqAt.none_bool b
    | int b => obtain ⟨t, rfl⟩ := rx; exact SeqAt.EqAt.none_int b t
    | str b => obtain ⟨t, rfl⟩ := rx; exact SeqAt.EqAt.none_str b t
    | _ => exact absurd (show false = true from fx) Bool.false_ne_true
  | bl a =>
    cases ry
    cases x with
    | non => cases rx; exact SeqAt.EqAt.bool_none a
    | bl b => cases rx; exact SeqAt.EqAt.bool_bool a b
    | int b => obtain ⟨t, rfl⟩ := rx; exact SeqAt.EqAt.bool_int a b t
    | str b => obtain ⟨t, rfl⟩ := rx; exact SeqAt.EqAt.bool_str a b t
    | _ => exact absurd (show false = true from fx) Bool.false_ne_true
  | int a =>
    obtain ⟨t', rfl⟩ := ry
    cases x with
    | non => cases rx; exact SeqAt.EqAt.int_none a t'
    | bl b => cases rx; exact SeqAt.EqAt.int_bool a t' b
    | int b => obtain ⟨t, rfl⟩ := rx; exact SeqAt.EqAt.int_int a t' b t
    | str b => obtain ⟨t, rfl⟩ := rx; exact SeqAt.EqAt.int_str a t' b t
    | _ => exact absurd (show false = true from fx) Bool.false_ne_true
  | str a =>
    obtain ⟨t', rfl⟩ := ry
    cases x with
    | non => cases rx; exact SeqAt.EqAt.str_none a t'
    | bl b => cases rx; exact SeqAt.EqAt.str_bool a t' b
    | int b => obtain ⟨t, rfl⟩ := rx; exact SeqAt.EqAt.str_int a t' b t
    | str b => obtain ⟨t, rfl⟩ := rx; exact SeqAt.EqAt.str_str a t' b t
    | _ => exact absurd (show false = true from fx) Bool.false_ne_true
  | _ => exact absurd (show false = true from fy) Bool.false_ne_true
/-- the items' answers, read off the values (a value's own answer does not lean on its token) -/
def eqU (x : V) (u : Value) : Bool := match u with
  | .none => eqV .non x
  | .bool b => eqV (.bl b) x
  | .int i _ => eqV (.int i) x
  | .str z _ => eqV (.str z) x
  | _ => false
theorem eqU_of {x y : V} {u : Value} (r : RelV y u) (f : flatV y = true) : eqU x u = eqV y x := by
  cases y with
  | non => cases r; rfl
  | bl b => cases r; rfl
  | int i => obtain ⟨t, rfl⟩ := r; rfl
  | str z => obtain ⟨t, rfl⟩ := r; rfl
  | _ => exact absurd (show false = true from f) Bool.false_ne_true
theorem any_eqU {x : V} : ∀ {xs : List V} {us : List Value}, Vals xs us → xs.all flatV = true → us.any (eqU x) = xs.any fun y => eqV y x
  | _, _, .nil, _ => rfl
  | y :: xs, u :: us, .cons r t, f => by
    rw [List.all_cons, Bool.and_eq_true] at f
    rw [List.any_cons, List.any_cons, eqU_of r f.1, any_eqU t f.2]
theorem mem_eqAt {A : Around} {s : Shared} {x : V} {v : Value} (rx : RelV x v) (fx : flatV x = true) : ∀ {xs : List V} {us : List Value}, Vals xs us → xs.all flatV = true → ∀ u ∈ us, SeqAt.EqAt A s u v (eqU x u)
  | _, _, .nil, _ => fun u hu => by cases hu
  | y :: xs, u :: us, .cons r t, f => fun u' hu => by
    rw [List.all_cons, Bool.and_eq_true] at f
    rcases List.mem_cons.mp hu with rfl | hu
    · rw [eqU_of r f.1]; exact eqAt_V r rx f.1 fx
    · exact mem_eqAt rx fx t f.2 u' hu
def inV (x : V) (xs : List V) : Bool := xs.any fun y => eqV y x
/-- x in a list or tuple of flat items -/
def rIn (K : PySem.W.Frag) (neg : Bool) : R2 := fun x y H Q => ∃ p xs, y = .ref p ∧ (SqL K H p xs ∨ SqT K H p xs) ∧ flatV x = true ∧ xs.all flatV = true ∧ Q (.bl (if neg then !inV x xs else inV x xs)) H
theorem op_in_seq : OpR X (compareOp .In) (rIn X.K false) := by
  intro pins s σ H x y v u Q I rx ry h
  obtain ⟨p, xs, rfl, hq, fx, fs, q⟩ := h
  cases ry
  rcases hq with hq | hq
  · obtain ⟨its, r, pl, hz⟩ := I.list hq
    refine SeqAt.in_listAt (eqU x) pl.isList (fun w hw => mem_eqAt rx fx r fs w (by simpa using hw)) ⟨.bl _, H, I, rfl, ?_⟩
    rw [show its.toArray.any (eqU x) = its.any (eqU x) by simp, any_eqU r fs]
    exact q
  · obtain ⟨its, r, pl, hz⟩ := I.tuple hq
    refine SeqAt.in_tupleAt (eqU x) pl (fun w hw => mem_eqAt rx fx r fs w (by simpa using hw)) ⟨.bl _, H, I, rfl, ?_⟩
    rw [show its.toArray.any (eqU x) = its.any (eqU x) by simp, any_eqU r fs]
    exact q
theorem op_notIn_seq : OpR X (compareOp .NotIn) (rIn X.K true) := by
  intro pins s σ H x y v u Q I rx ry h
  obtain ⟨p, xs, rfl, hq, fx, fs, q⟩ := h
  cases ry
  rcases hq with hq | hq
  · obtain ⟨its, r, pl, hz⟩ := I.list hq
    refine SeqAt.notIn_listAt (eqU x) pl.isList (fun w hw => mem_eqAt rx fx r fs w (by simpa using hw)) ⟨.bl _, H, I, rfl, ?_⟩
    rw [show its.toArray.any (eqU x) = its.any (eqU x) by simp, any_eqU r fs]
    exact q
  · obtain ⟨its, r, pl, hz⟩ := I.tuple hq
    refine SeqAt.notIn_tupleAt (eqU x) pl (fun w hw => mem_eqAt rx fx r fs w (by simpa using hw)) ⟨.bl _, H, I, rfl, ?_⟩
    rw [show its.toArray.any (eqU x) = its.any (eqU x) by simp, any_eqU r fs]
    exact q
theorem op_notIn_str : OpR X (compareOp .NotIn) (fun x y H Q => ∃ i j, x = .str i ∧ y = .str j ∧ Q (.bl (!(!(Builtin.Str.occurrences j i 0 j.length 1).isEmpty))) H) := by
  intro pins s σ H x y v u Q I rx ry h
  obtain ⟨i, j, rfl, rfl, q⟩ := h
  obtain ⟨t, rfl⟩ := rx
  obtain ⟨t', rfl⟩ := ry
  exact notIn_str ⟨.bl _, H, I, rfl, q⟩

/-! ### len, list(x), tuple(x) of any list or tuple that is read -/
theorem call_len_seq : CallR X (.builtin "len") (fun xs H Q => ∃ p ys, xs = [.ref p] ∧ (SqL X.K H p ys ∨ SqT X.K H p ys) ∧ Q (.int ys.length) H) := by
  intro pins s σ H xs us Q I r h
  obtain ⟨p, ys, rfl, hq, q⟩ := h
  obtain ⟨u, rfl, rx⟩ := vals1 r
  cases rx
  have hn := line63
  rcases hq with hq | hq
  · obtain ⟨its, r', pl, hz⟩ := I.list hq
    have hlen := r'.length
    exact Calls.call_len_list pl.isList (by simp only [List.size_toArray] <;> omega) ⟨.int ys.length, H, I.tok _, ⟨s.toks + 1, by rw [List.size_toArray, hlen]⟩, q⟩
  · obtain ⟨its, r', pl, hz⟩ := I.tuple hq
    have hlen := r'.length
    exact len_tuple pl (by simp only [List.size_toArray] <;> omega) ⟨.int ys.length, H, I.tok _, ⟨s.toks + 1, by rw [List.size_toArray, hlen]⟩, q⟩
theorem call_len_str : CallR X (.builtin "len") (fun xs H Q => ∃ z, xs = [.str z] ∧ z.length ≤ sizeLine ∧ Q (.int z.length) H) := by
  intro pins s σ H xs us Q I r h
  obtain ⟨z, rfl, hz, q⟩ := h
  obtain ⟨u, rfl, t, rfl⟩ := vals1 r
  have hn := line63
  exact len_str (by omega) ⟨.int z.length, H, I.tok _, ⟨_, rfl⟩, q⟩
theorem CallR.or {f : Value} {r r' : List V → Hp → VK → Prop} (h : CallR X f r) (h' : CallR X f r') : CallR X f (fun xs H Q => r xs H Q ∨ r' xs H Q) := by
  intro pins s σ H xs us Q I rs q
  rcases q with q | q
  · exact h pins s σ H xs us Q I rs q
  · exact h' pins s σ H xs us Q I rs q
theorem call_list_of : CallR X (.type "list") (fun xs H Q => ∃ p ys, xs = [.ref p] ∧ (SqL X.K H p ys ∨ SqT X.K H p ys) ∧ ∀ l, H l = none → Q (.ref l) (upd H l (.lst ys))) := by
  intro pins s σ H xs us Q I r h
  obtain ⟨p, ys, rfl, hq, q⟩ := h
  obtain ⟨u, rfl, rx⟩ := vals1 r
  cases rx
  have fin : ∀ (its : List Value), Vals ys its → ys.length ≤ sizeLine → ∀ (h' : Heap) (c' : Nat), (∀ b o', s.heap.get? b = some o' → h'.get? b = some o') →
      h'.get? s.heap.objs.size = some { cls := .type "list", dict := none, data := .seq its.toArray c', slots := #[] } → EP X pins σ Q (.ref s.heap.objs.size) { s with heap := h' } := fun its r' hz h' c' kp e =>
    ⟨.ref s.heap.objs.size, _, I.laid (t' := s.toks) kp (Nat.le_refl _) (show ObjOk X.prog X.w _ h' _ (.lst ys) from ⟨hz, its, c', r', e⟩), rfl, q _ (I.hok.fresh (Nat.le_refl _))⟩
  rcases hq with hq | hq
  · obtain ⟨its, r', pl, hz⟩ := I.list hq
    have hlen := r'.length
    obtain ⟨o, ho, hc, n, hd⟩ := pl.isList
    exact call_list_seq p (.inl rfl) ho hc hd (fun h' c' kp e => fin its r' hz h' c' kp e) (by simp only [List.size_toArray] <;> omega)
  · obtain ⟨its, r', pl, hz⟩ := I.tuple hq
    have hlen := r'.length
    obtain ⟨o, ho, hc, n, hd⟩ := pl
    exact call_list_seq p (.inr rfl) ho hc hd (fun h' c' kp e => fin its r' hz h' c' kp e) (by simp only [List.size_toArray] <;> omega)
theorem call_tuple_of : CallR X (.type "tuple") (fun xs H Q => ∃ p ys, xs = [.ref p] ∧ ((SqL X.K H p ys ∧ ∀ l, H l = none → Q (.ref l) (upd H l (.tup ys))) ∨ (SqT X.K H p ys ∧ Q (.ref p) H))) := by
  intro pins s σ H xs us Q I r h
  obtain ⟨p, ys, rfl, h⟩ := h
  obtain ⟨u, rfl, rx⟩ := vals1 r
  cases rx
  rcases h with ⟨hq, q⟩ | ⟨hq, q⟩
  · obtain ⟨its, r', pl, hz⟩ := I.list hq
    have hlen := r'.length
    refine call_tuple_list pl.isList (fun h' kp => ?_) (by simp only [List.size_toArray] <;> omega)
    have I1 : Inv X pins σ H { s with heap := h' } := I.kept (t' := s.toks) kp
    have I2 : Inv X pins σ (upd H h'.objs.size (.tup ys)) { s with heap := h'.push { cls := .type "tuple", data := .seq its.toArray } } :=
      I1.laid (t' := s.toks) (fun b o e => Heap.get?_push_of_some _ e) (Nat.le_refl _) (show ObjOk X.prog X.w _ _ _ (.tup ys) from ⟨hz, its, r', IsTup.new _ _⟩)
    exact ⟨.ref h'.objs.size, _, I2, rfl, q _ (I1.hok.fresh (Nat.le_refl _))⟩
  · obtain ⟨its, r', pl, hz⟩ := I.tuple hq
    exact call_tuple_same pl ⟨.ref p, H, I, rfl, q⟩

/-! ### the call of a builtin's method: o.m(..) -/
/-- the value is of that builtin type -/
def tyV (K : PySem.W.Frag) (T : String) (x : V) (H : Hp) : Prop := match x with
  | .str _ => T = "str"
  | .int _ => T = "int"
  | .ref p => (T = "list" ∧ ∃ xs, SqL K H p xs) ∨ (T = "tuple" ∧ ∃ o, K.lookup p = some o ∧ o.cls = .type "tuple" ∧ o.dict = none) ∨
      (T = "dict" ∧ ((∃ kvs, H p = some (.dK kvs)) ∨ ∃ kvs, H p = some (.dT kvs))) ∨ (T = "set" ∧ ∃ S n, H p = some (.set S n))
  | _ => False
theorem tyV_is {pins : List (Addr × Obj)} {σ : St} {H : Hp} {s : Shared} {T : String} {x : V} {v : Value} (I : Inv X pins σ H s) (r : RelV x v) (ty : tyV X.K T x H) :
    s.TypeIs v T ∧ ∀ a, v = .ref a → ∃ ob, s.heap.get? a = some ob ∧ ob.dict = none := by
  cases x with
  | str z =>
    obtain ⟨t, rfl⟩ := r
    cases (show T = "str" from ty)
    exact ⟨typeIs_str s z t, fun _ e => nomatch e⟩
  | int i =>
    obtain ⟨t, rfl⟩ := r
    cases (show T = "int" from ty)
    exact ⟨typeIs_int s i t, fun _ e => nomatch e⟩
  | ref p =>
    cases r
    rcases ty with ⟨rfl, xs, hq⟩ | ⟨rfl, o, hk, hc, hd⟩ | ⟨rfl, hk⟩ | ⟨rfl, S, n, hk⟩
    · obtain ⟨its, _, pl, _⟩ := I.list hq
      refine ⟨pl.isList.typeIs, fun a e => ?_⟩
      cases e
      obtain ⟨o, n, e, c, hd, _⟩ := pl
      exact ⟨o, e, hd⟩
    · refine ⟨⟨o, I.kIn p o hk, hc⟩, fun a e => ?_⟩
      cases e
      exact ⟨o, I.kIn _ o hk, hd⟩
    · have z : ∃ o, s.heap.get? p = some o ∧ o.ExactDict := by
        rcases hk with ⟨kvs, hk⟩ | ⟨kvs, hk⟩
        · obtain ⟨_, _, _, _, o, _, _, e, ex, _⟩ := I.hok p _ hk
          exact ⟨o, e, ex⟩
        · obtain ⟨_, _, _, _, o, _, _, e, ex, _⟩ := I.hok p _ hk
          exact ⟨o, e, ex⟩
      obtain ⟨o, e, ex⟩ := z
      refine ⟨⟨o, e, ex.1⟩, fun a e2 => ?_⟩
      cases e2
      exact ⟨o, e, ex.2.1⟩
    · obtain ⟨o, _, _, _, e, ex, _⟩ := I.hok p _ hk
      refine ⟨⟨o, e, ex.1⟩, fun a e2 => ?_⟩
      cases e2
      exact ⟨o, e, ex.2.1⟩
  | _ => exact False.elim ty
def tBM0 (K : PySem.W.Frag) (T : String) (r : V → List V → Hp → VK → Prop) (to : TE) : TE := fun σ H Q => to σ H fun x H1 => tyV K T x H1 ∧ r x [] H1 Q
def tBM (K : PySem.W.Frag) (T : String) (r : V → List V → Hp → VK → Prop) (to : TE) (t : TA) : TE := fun σ H Q => to σ H fun x H1 => tyV K T x H1 ∧ t σ H1 fun xs H2 => r x xs H2 Q
variable {o e : Expr} {es : List Expr} {to : TE} {t : TA} {name : Str} {apos cpos : Pos} {T id : String} {r : V → List V → Hp → VK → Prop}
theorem pe_bm0 (pa : PlainAttrs T) (slot : Slot T name id) (hty : typeOf (.builtin id) = pure (.type "method_descriptor")) (hm : MtR X id r) (ho : PE X o to)
    (hbase : attributeBase o name X.env (eval o X.env) = eval o X.env := by rfl) (hline : (apos.endLine == cpos.line) = true := by rfl) : PE X (.Call (.Attribute o name apos) [] [] cpos) (tBM0 X.K T r to) := by
  intro pins s σ H Q I h
  refine wpAny_Call_method0_late hbase hline (thn (ho pins s σ H _ I h) fun v s1 ⟨x, H1, I1, r1, ty, q1⟩ => ?_)
  obtain ⟨h1, h2⟩ := tyV_is I1 r1 ty
  exact ⟨T, id, pa, slot, hty, h1, h2, Calls.callWith_builtin rfl (PySem.evalArgs_none (hm pins s1 σ H1 x [] v [] Q I1 r1 .nil q1))⟩
theorem pe_bm (pa : PlainAttrs T) (slot : Slot T name id) (hty : typeOf (.builtin id) = pure (.type "method_descriptor")) (hm : MtR X id r) (ho : PE X o to) (ha : PA X (e :: es) t)
    (hbase : attributeBase o name X.env (eval o X.env) = eval o X.env := by rfl)
    (hfew : ((backTo cpos (starEach (e :: es) X.env)).all (fun x => !x.1) && (backToKw cpos (keywordEach [] X.env)).all (fun x => x.1.isSome)
      && decide ((e :: es).length + ([] : List Keyword).length + (if ([] : List Keyword).isEmpty then 0 else 1) < 30)) = true := by rfl)
    (hline : (apos.endLine == cpos.line) = true := by rfl) (hs : starEach (e :: es) X.env = (false, eval e X.env) :: starEach es X.env := by rfl) (hplain : (backTo cpos (starEach es X.env)).any (·.1) = false := by rfl) :
    PE X (.Call (.Attribute o name apos) (e :: es) [] cpos) (tBM X.K T r to t) := by
  intro pins s σ H Q I h
  refine wpAny_Call_method_late hbase hfew hline rfl (thn (ho pins s σ H _ I h) fun v s1 ⟨x, H1, I1, r1, ty, q1⟩ => ?_)
  obtain ⟨h1, h2⟩ := tyV_is I1 r1 ty
  refine ⟨T, id, pa, slot, hty, h1, h2, ?_⟩
  have hA := ha cpos pins s1 σ H1 _ I1 q1
  rw [hs] at hA ⊢
  refine Calls.callWith_builtin (by show (false || (backTo cpos (starEach es X.env)).any (·.1)) = false; rw [hplain] <;> rfl) (Calls.evalArgs_plain ?_)
  exact thn hA fun us s2 ⟨vs, H2, I2, r2, q2⟩ => hm pins s2 σ H2 x vs v us Q I2 r1 r2 q2
/- xs.append(e), list.index on a module's tuple .. are MtR facts of 06m -/
end
end L2

namespace L2
open PySem PySem.Spec PyProof.Rows

def MtM (X : Cx) (id : String) (r : V → List V → Hp → VK → Prop) : Prop :=
  ∀ (pins : List (Addr × Obj)) (s : Shared) (σ : St) (H : Hp) (x : V) (xs : List V) (v : Value) (us : List Value) (Q : VK), Inv X pins σ H s → RelV x v → Vals xs us → r x xs H Q →
    wpAny (model X.prog X.w) X.A (call (.builtin id) (v :: us)) (EP X pins σ Q) X.xe s

/-! ### lists of values -/
theorem Vals.one : ∀ {x : V} {us : List Value}, Vals [x] us → ∃ u, us = [u] ∧ RelV x u
  | _, _, .cons r .nil => ⟨_, rfl, r⟩
theorem Vals.two : ∀ {x y : V} {us : List Value}, Vals [x, y] us → ∃ u v, us = [u, v] ∧ RelV x u ∧ RelV y v
  | _, _, _, .cons r (.cons q .nil) => ⟨_, _, rfl, r, q⟩
theorem Vals.zero : ∀ {us : List Value}, Vals [] us → us = []
  | _, .nil => rfl
theorem Vals.dropLast {xs : List V} {us : List Value} (h : Vals xs us) : Vals xs.dropLast us.dropLast := by
  induction h with
  | nil => exact .nil
  | cons r t ih =>
    cases t with
    | nil => exact .nil
    | cons q t' => exact .cons r ih
theorem Vals.eraseIdx : ∀ {xs : List V} {us : List Value} (i : Nat), Vals xs us → Vals (xs.eraseIdx i) (us.eraseIdx i)
  | _, _, _, .nil => .nil
  | _, _, 0, .cons _ t => t
  | _, _, i + 1, .cons r t => .cons r (Vals.eraseIdx i t)
theorem Vals.reverse {xs : List V} {us : List Value} (h : Vals xs us) : Vals xs.reverse us.reverse := by
  induction h with
  | nil => exact .nil
  | cons r t ih => rw [List.reverse_cons, List.reverse_cons]; exact Vals.append ih (.cons r .nil)
theorem Vals.rep {xs : List V} {us : List Value} (h : Vals xs us) : ∀ k : Nat, Vals (List.replicate k xs).flatten (List.replicate k us).flatten
  | 0 => .nil
  | k + 1 => by
    rw [List.replicate_succ, List.replicate_succ, List.flatten_cons, List.flatten_cons]
    exact Vals.append h (Vals.rep h k)
theorem erase_last {α : Type} (l : List α) : l.eraseIdx (l.length - 1) = l.dropLast := by
  induction l with
  | nil => rfl
  | cons a r ih =>
    cases r with
    | nil => rfl
    | cons b r =>
      have e : (a :: b :: r).length - 1 = ((b :: r).length - 1) + 1 := by
        have h1 : (a :: b :: r).length = r.length + 2 := rfl
        have h2 : (b :: r).length = r.length + 1 := rfl
        omega
      rw [e, List.eraseIdx_cons_succ, ih]
      all_goals rfl
theorem len_erase {α : Type} : ∀ (l : List α) (i : Nat), (l.eraseIdx i).length ≤ l.length
  | [], _ => Nat.le_refl _
  | _ :: _, 0 => Nat.le_succ _
  | _ :: r, i + 1 => Nat.succ_le_succ (len_erase r i)
theorem foldl_rep (its : List Value) : ∀ (k : Nat) (acc : List Value),
    List.foldl (fun x1 x2 => x1 ++ x2) acc.toArray (List.replicate k its.toArray) = (acc ++ (List.replicate k its).flatten).toArray
  | 0, acc => by simp
  | k + 1, acc => by
    have e : acc.toArray ++ its.toArray = (acc ++ its).toArray := by simp
    have e2 : (acc ++ its) ++ (List.replicate k its).flatten = acc ++ (List.replicate (k + 1) its).flatten := by
      rw [List.replicate_succ, List.flatten_cons, List.append_assoc]
    rw [← e2, ← foldl_rep its k (acc ++ its), ← e, List.replicate_succ, List.foldl_cons]

section
variable {X : Cx} {pins : List (Addr × Obj)} {σ : St} {H : Hp} {s : Shared} {l b : Addr} {xs ys zs : List V}

/-! ### the two steps: a tracked list is rewritten, a new list is laid -/
theorem Inv.lset {its its' : List Value} {n : Nat} {f : Array Value → Array Value} {t' : Nat} (I : Inv X pins σ H s) (hH : H l = some (.lst xs))
    (e : s.heap.get? l = some { cls := .type "list", data := .seq its.toArray n }) (hf : f its.toArray = its'.toArray) (hv : Vals ys its') (hz : ys.length ≤ sizeLine) :
    Inv X pins σ (upd H l (.lst ys)) { s with heap := s.heap.update l (Obj.mapSeq f), toks := t' } := by
  have q := PySem.IsL.update e f
  rw [hf] at q
  refine I.write (x := l) (e := l) (by rw [hH]; exact trivial) (.inl rfl) (fun b' u hb hu => (Heap.get?_update_other s.heap (Obj.mapSeq f) (Ne.symm hb)).trans hu) ⟨_, q⟩ ?_
  exact ⟨hz, its', _, hv, q⟩
theorem Inv.lnew {its : List Value} {t' : Nat} (I : Inv X pins σ H s) (hv : Vals ys its) (hz : ys.length ≤ sizeLine) :
    Inv X pins σ (upd H s.heap.objs.size (.lst ys)) { s with heap := s.heap.push { cls := .type "list", data := .seq its.toArray }, toks := t' } :=
  I.laid (fun _ _ q => Heap.get?_push_of_some _ q) (Nat.le_refl _) ⟨hz, its, 0, hv, Heap.get?_push_size _ rfl⟩
theorem Inv.fresh (I : Inv X pins σ H s) : H s.heap.objs.size = none := I.hok.fresh (Nat.le_refl _)
theorem Inv.lstM (I : Inv X pins σ H s) (hH : H l = some (.lst xs)) : xs.length ≤ sizeLine ∧ ∃ (its : List Value) (n : Nat), Vals xs its ∧ xs.length = its.length ∧ s.heap.get? l = some { cls := .type "list", data := .seq its.toArray n } := by
  obtain ⟨z, its, n, r, e⟩ := I.hok l _ hH
  exact ⟨z, its, n, r, r.length, e⟩

theorem notLongL {n : Nat} (h : n ≤ sizeLine) : Builtin.List.listTooLong n = false := by
  unfold Builtin.List.listTooLong
  exact decide_eq_false (by omega)
end

section
variable {X : Cx}

/-! ### methods -/
def rAppend : V → List V → Hp → VK → Prop := fun x vs H Q => ∃ l xs y, x = .ref l ∧ vs = [y] ∧ H l = some (.lst xs) ∧ xs.length < sizeLine ∧ Q .non (upd H l (.lst (xs ++ [y])))
theorem mt_append : MtM X "list.append" rAppend := by
  intro pins s σ H x vs v us Q I rx rv h
  obtain ⟨l, xs, y, rfl, rfl, hH, hz, q⟩ := h
  cases rx
  obtain ⟨u, rfl, ru⟩ := rv.one
  obtain ⟨z, its, n, r, hl, e⟩ := I.lstM hH
  refine call_meets F.slot_list_append ⟨_, e, rfl⟩ F.entry_list_append (F.args_list_append_2 _ _) (PySem.list_append l its.toArray n u (by rw [List.size_toArray]; omega)) ⟨e, ?_⟩
  refine ⟨.non, _, I.lset (its' := its ++ [u]) hH e (by simp) (r.append (.cons ru .nil)) ?_, rfl, q⟩
  rw [List.length_append, List.length_singleton]
  omega

def rExtend : V → List V → Hp → VK → Prop := fun x vs H Q => ∃ l b xs zs, x = .ref l ∧ vs = [.ref b] ∧ H l = some (.lst xs) ∧ H b = some (.lst zs) ∧ xs.length + zs.length ≤ sizeLine ∧ Q .non (upd H l (.lst (xs ++ zs)))
theorem mt_extend : MtM X "list.extend" rExtend := by
  intro pins s σ H x vs v us Q I rx rv h
  obtain ⟨l, b, xs, zs, rfl, rfl, hH, hB, hz, q⟩ := h
  cases rx
  obtain ⟨u, rfl, ru⟩ := rv.one
  cases ru
  obtain ⟨z, its, n, r, hl, e⟩ := I.lstM hH
  obtain ⟨z2, its2, n2, r2, hl2, e2⟩ := I.lstM hB
  have hsz : its.toArray.size + its2.toArray.size ≤ sizeLine := by rw [List.size_toArray, List.size_toArray]; omega
  have hlong : ¬ (!its.toArray.isEmpty && Builtin.List.listTooLong (its.toArray.size + its2.toArray.size)) = true := by
    rw [notLongL hsz, Bool.and_false]
    exact Bool.false_ne_true
  refine call_meets F.slot_list_extend ⟨_, e, rfl⟩ F.entry_list_extend (F.args_list_extend_2 _ _)
    (AutoSeq1.list_extend_list_list_0 l its.toArray n b its2.toArray n2 hlong (by rw [List.size_toArray]; omega) (by omega)) ⟨e, e2, ?_⟩
  refine ⟨.non, _, I.lset (its' := its ++ its2) hH e (by simp) (r.append r2) ?_, rfl, q⟩
  rw [List.length_append]
  omega

def rPop : V → List V → Hp → VK → Prop := fun x vs H Q => ∃ l xs y, x = .ref l ∧ vs = [] ∧ H l = some (.lst xs) ∧ xs[xs.length - 1]? = some y ∧ Q y (upd H l (.lst xs.dropLast))
theorem mt_pop : MtM X "list.pop" rPop := by
  intro pins s σ H x vs v us Q I rx rv h
  obtain ⟨l, xs, y, rfl, rfl, hH, hy, q⟩ := h
  cases rx
  have hus := rv.zero
  subst hus
  obtain ⟨z, its, n, r, hl, e⟩ := I.lstM hH
  obtain ⟨u, hu, ru⟩ := r.get hy
  have hy' : its.toArray[its.toArray.size - 1]? = some u := by
    show its.toArray[its.length - 1]? = some u
    rw [← Array.getElem?_toList, ← hl]
    exact hu
  refine call_meets F.slot_list_pop ⟨_, e, rfl⟩ F.entry_list_pop (F.args_list_pop_1 _) (MeetsSeq.list_pop_last l its.toArray n u hy' (by rw [List.size_toArray]; omega)) ⟨e, ?_⟩
  refine ⟨y, _, I.lset (its' := its.dropLast) hH e ?_ r.dropLast ?_, ru, q⟩
  · show its.toArray.eraseIdxIfInBounds (its.toArray.size - 1) = its.dropLast.toArray
    rw [List.size_toArray, List.eraseIdxIfInBounds_toArray, erase_last]
  · rw [List.length_dropLast]
    omega

def rPopAt : V → List V → Hp → VK → Prop := fun x vs H Q => ∃ l xs i k y, x = .ref l ∧ vs = [.int i] ∧ H l = some (.lst xs) ∧ -(2 ^ 63) ≤ i ∧ i < 2 ^ 63 ∧ seqIndex? i xs.length = some k ∧ xs[k]? = some y ∧ Q y (upd H l (.lst (xs.eraseIdx k)))
theorem mt_popAt : MtM X "list.pop" rPopAt := by
  intro pins s σ H x vs v us Q I rx rv h
  obtain ⟨l, xs, i, k, y, rfl, rfl, hH, h1, h2, hk, hy, q⟩ := h
  cases rx
  obtain ⟨u, rfl, ru⟩ := rv.one
  obtain ⟨t, rfl⟩ := ru
  obtain ⟨z, its, n, r, hl, e⟩ := I.lstM hH
  obtain ⟨w, hw, rw'⟩ := r.get hy
  refine call_meets F.slot_list_pop ⟨_, e, rfl⟩ F.entry_list_pop (F.args_list_pop_2 _ _)
    (MeetsSeq.list_pop_at l its.toArray n i t k w (fitsIndex_both h1 h2) (by rw [List.size_toArray, ← hl]; exact hk) (by rw [← Array.getElem?_toList]; exact hw) (by rw [List.size_toArray]; omega)) ⟨e, ?_⟩
  refine ⟨y, _, I.lset (its' := its.eraseIdx k) hH e ?_ (r.eraseIdx k) ?_, rw', q⟩
  · show its.toArray.eraseIdxIfInBounds k = (its.eraseIdx k).toArray
    rw [List.eraseIdxIfInBounds_toArray]
  · have := len_erase xs k
    omega

def rReverse : V → List V → Hp → VK → Prop := fun x vs H Q => ∃ l xs, x = .ref l ∧ vs = [] ∧ H l = some (.lst xs) ∧ Q .non (upd H l (.lst xs.reverse))
theorem mt_reverse : MtM X "list.reverse" rReverse := by
  intro pins s σ H x vs v us Q I rx rv h
  obtain ⟨l, xs, rfl, rfl, hH, q⟩ := h
  cases rx
  have hus := rv.zero
  subst hus
  obtain ⟨z, its, n, r, hl, e⟩ := I.lstM hH
  refine call_meets F.slot_list_reverse ⟨_, e, rfl⟩ F.entry_list_reverse (F.args_list_reverse_1 _) (AutoSeq1.list_reverse_list_0 l its.toArray n (by rw [List.size_toArray]; omega)) ⟨e, ?_⟩
  refine ⟨.non, _, I.lset (its' := its.reverse) hH e (by simp) r.reverse ?_, rfl, q⟩
  rw [List.length_reverse]
  omega

def rClear : V → List V → Hp → VK → Prop := fun x vs H Q => ∃ l xs, x = .ref l ∧ vs = [] ∧ H l = some (.lst xs) ∧ Q .non (upd H l (.lst []))
theorem mt_clear : MtM X "list.clear" rClear := by
  intro pins s σ H x vs v us Q I rx rv h
  obtain ⟨l, xs, rfl, rfl, hH, q⟩ := h
  cases rx
  have hus := rv.zero
  subst hus
  obtain ⟨z, its, n, r, hl, e⟩ := I.lstM hH
  refine call_meets F.slot_list_clear ⟨_, e, rfl⟩ F.entry_list_clear (F.args_list_clear_1 _) (AutoSeq1.list_clear_list_0 l its.toArray n (by rw [List.size_toArray]; omega)) ⟨e, ?_⟩
  exact ⟨.non, _, I.lset (its' := []) (ys := []) hH e rfl .nil (Nat.zero_le _), rfl, q⟩

/-! ### list + list, list += list, list * int -/
def rCat : R2 := fun x y H Q => ∃ l b xs zs, x = .ref l ∧ y = .ref b ∧ H l = some (.lst xs) ∧ H b = some (.lst zs) ∧ xs.length + zs.length ≤ sizeLine ∧ ∀ p, H p = none → Q (.ref p) (upd H p (.lst (xs ++ zs)))
theorem op_cat : OpR X (binaryOp .Add) rCat := by
  intro pins s σ H x y v u Q I rx ry h
  obtain ⟨l, b, xs, zs, rfl, rfl, hH, hB, hz, q⟩ := h
  cases rx
  cases ry
  obtain ⟨z, its, n, r, hl, e⟩ := I.lstM hH
  obtain ⟨z2, its2, n2, r2, hl2, e2⟩ := I.lstM hB
  refine PySem.P.add_list e e2 ?_ (by rw [List.size_toArray, List.size_toArray]; omega)
  have ea : its.toArray ++ its2.toArray = (its ++ its2).toArray := by simp
  rw [ea]
  exact ⟨.ref _, _, I.lnew (t' := s.toks) (r.append r2) (by rw [List.length_append]; omega), rfl, q _ I.fresh⟩
/-- a list times an int (a negative one is nothing) -/
def rRep : R2 := fun x y H Q => ∃ l k xs, x = .ref l ∧ y = .int k ∧ H l = some (.lst xs) ∧ -(2 ^ 63) ≤ k ∧ k < 2 ^ 63 ∧ xs.length * k.toNat ≤ sizeLine ∧
  ∀ p, H p = none → Q (.ref p) (upd H p (.lst (List.replicate k.toNat xs).flatten))
theorem len_rep {α : Type} (xs : List α) (k : Nat) : (List.replicate k xs).flatten.length = k * xs.length := by
  induction k with
  | zero => simp
  | succ k ih => rw [List.replicate_succ, List.flatten_cons, List.length_append, ih, Nat.succ_mul, Nat.add_comm]
theorem op_rep : OpR X (binaryOp .Mult) rRep := by
  intro pins s σ H x y v u Q I rx ry h
  obtain ⟨l, k, xs, rfl, rfl, hH, h1, h2, hz, q⟩ := h
  cases rx
  obtain ⟨t, rfl⟩ := ry
  obtain ⟨z, its, n, r, hl, e⟩ := I.lstM hH
  have hlen : its.toArray.size * k.toNat ≤ sizeLine := by rw [List.size_toArray, ← hl]; exact hz
  have hcap : ¬ its.toArray.size * k.toNat > (2 ^ 63 - 1) / 8 := by
    have : (sizeLine : Nat) ≤ (2 ^ 63 - 1) / 8 := by decide
    omega
  have hfit : ¬ (!Builtin.List.listFitsIndex k) = true := by
    rw [fitsIndex_both h1 h2]
    exact Bool.false_ne_true
  have hlong : ¬ Builtin.List.listTooLong (its.toArray.size * k.toNat) = true := by
    rw [notLongL hlen]
    exact Bool.false_ne_true
  have hnew : List.foldl (fun x1 x2 => x1 ++ x2) #[] (List.replicate (if its.toArray.isEmpty = true then 0 else k.toNat) its.toArray) = (List.replicate k.toNat its).flatten.toArray := by
    have f0 : ∀ m : Nat, List.foldl (fun x1 x2 => x1 ++ x2) #[] (List.replicate m its.toArray) = (List.replicate m its).flatten.toArray := fun m => by
      have := foldl_rep its m []
      rw [List.nil_append] at this
      exact this
    rw [f0]
    cases its with
    | nil => simp
    | cons a r' => rw [if_neg (by simp)]
  refine wpAny_binaryOp_repeat_ref (T := "list") (U := "int") (by decide) ⟨_, e, rfl⟩ (fun s' => typeIs_int s' k t) noFill_list_mul F.fills_int_mul F.slot_int_rmul repeat_list F.slot_int_index.lookup
    (call_meets F.slot_int_rmul (typeIs_int s k t) F.entry_int_rmul (F.args_int_rmul_2 _ _) (int___rmul___int_list k t l its.toArray n)
      ⟨e, rfl, ⟨_, e, rfl⟩, call_meets F.slot_list_mul ⟨_, e, rfl⟩ F.entry_list_mul (F.args_list_mul_2 _ _) (AutoListH.list___mul___list_int_3 l its.toArray n k t hfit hcap hlong) ⟨e, ?_⟩⟩)
  rw [hnew]
  exact ⟨.ref _, _, I.lnew (t' := s.toks) (r.rep k.toNat) (by rw [len_rep, Nat.mul_comm]; exact hz), rfl, q _ I.fresh⟩

/-! ### del xs[i] -/
theorem del_list {pins : List (Addr × Obj)} {s : Shared} {σ : St} {H : Hp} {l : Addr} {xs : List V} {i : Int} {t : Tok} {k : Nat} {Q : Unit → Shared → Prop} (I : Inv X pins σ H s) (hH : H l = some (.lst xs))
    (h1 : -(2 ^ 63) ≤ i) (h2 : i < 2 ^ 63) (hk : seqIndex? i xs.length = some k) (h : ∀ s', Inv X pins σ (upd H l (.lst (xs.eraseIdx k))) s' → Q () s') :
    wpAny (model X.prog X.w) X.A (delItem (.ref l) (.int i t)) Q X.xe s := by
  obtain ⟨z, its, n, r, hl, e⟩ := I.lstM hH
  refine PySem.P.delItem_list (k := k) e (fitsIndex_both h1 h2) (by rw [List.size_toArray, ← hl]; exact hk) (h _ ?_) (by rw [List.size_toArray]; omega)
  refine I.lset (its' := its.eraseIdx k) (t' := s.toks) hH e ?_ (r.eraseIdx k) ?_
  · show its.toArray.eraseIdxIfInBounds k = (its.eraseIdx k).toArray
    rw [List.eraseIdxIfInBounds_toArray]
  · have := len_erase xs k
    omega
end

/-! ### xs[a:b] = ys -/
section
variable {prog : Program} {w : World} {A : Around} {E : Value → Shared → Prop} {s : Shared}
theorem splice_eq (its its2 : List Value) (a c : Nat) : its.toArray.extract 0 a ++ its2.toArray ++ its.toArray.extract c its.toArray.size = (its.take a ++ its2 ++ its.drop c).toArray := by
  apply Array.toList_inj.mp
  first
    | (simp
       exact List.take_of_length_le (by simp))
    | simp [List.take_of_length_le]
    | simp
theorem bounds_run {a c n : Nat} (hac : a ≤ c) (hc : c ≤ n) : sliceBounds (some (a : Int)) (some (c : Int)) none n = ((a : Int), (c : Int), 1) := by
  simp only [sliceBounds, Option.getD_none]
  have h1 : ¬ ((a : Int) < 0) := by omega
  have h2 : ¬ ((c : Int) < 0) := by omega
  simp only [h1, h2, if_false, show (1 : Int) > 0 by decide, if_true]
  congr 1
  · omega
  · congr 1; omega
set_option maxRecDepth 100000 in
/-- list.__setitem__ with a slice of step one and another list -/
theorem setItem_slice {l b sl : Addr} {items new : Array Value} {n n2 : Nat} {vl vu : Value} {a c : Nat} {Q : Unit → Shared → Prop}
    (e : s.heap.get? l = some { cls := .type "list", data := .seq items n }) (e2 : s.heap.get? b = some { cls := .type "list", data := .seq new n2 }) (hne : l ≠ b)
    (hs : s.heap.IsSliceOf sl vl vu .none) (pl : IsPart vl (some (a : Int))) (pu : IsPart vu (some (c : Int))) (hac : a ≤ c) (hc : c ≤ items.size)
    (hsz : items.size + new.size ≤ sizeLine) (h : Q () { s with heap := s.heap.update l (Obj.mapSeq fun xs => xs.extract 0 a ++ new ++ xs.extract c xs.size) }) :
    wpAny (model prog w) A (setItem (.ref l) (.ref sl) (.ref b)) Q E s := by
  have hl : s.heap.IsList l items := PySem.IsL.isList e
  have hb : s.heap.IsList b new := PySem.IsL.isList e2
  obtain ⟨os, hos, hcs, hds⟩ := id hs
  have hTs : s.TypeIs (.ref sl) "slice" := ⟨os, hos, hcs⟩
  have hstep : ¬ ((rawPart none == rawInt 0) = true) := Bool.false_ne_true
  have hsame : Builtin.List.listSameRef (.ref l) (.ref b) = false := by
    unfold Builtin.List.listSameRef
    exact beq_eq_false_iff_ne.mpr hne
  have hmax : (max (a : Int) (c : Int)).toNat = c := by omega
  have hz' : ((fun xs : Array Value => xs.extract 0 a ++ new ++ xs.extract c xs.size) items).size ≤ sizeLine + 1 := by
    simp only [Array.size_append, Array.size_extract]
    omega
  unfold setItem
  try with_reducible refine wpAny_holding ?_
  first | refine wpAny_bind (wpAny_pure ?_) | skip
  refine wpAny_bind (wpAny_sequenceKey hl.typeIs (by decide) ?_)
  refine wpAny_bind (wpAny_callSpecial?_slot (name := Str.ofString "__setitem__") hl.typeIs slot_list_setitem
    (wpAny_call_entry slot_list_setitem hl.typeIs entry_list_setitem ?_ (args_list_setitem _ _ _)))
  show wpAny _ _ (Builtin.List.listSubscript? (.ref sl) >>= _) _ _ s
  refine wpAny_bind ?_
  unfold Builtin.List.listSubscript?
  refine wpAny_bind (wpAny_specialOf hTs slice_no_index ?_)
  simp only [Option.isNone_none, if_true]
  refine wpAny_pure ?_
  show wpAny _ _ (typeOf (.ref sl) >>= _) _ _ s
  refine wpAny_bind (wpAny_typeOf hTs ?_)
  first
    | rw [if_neg (by decide)]
    | refine PySem.W.KFB.if_not (by decide) ?_
  rw [listSliceParts_eq]
  refine wpAny_bind (wpAny_bind (wpAny_field hos hds (x := .none) rfl (wpAny_bind (wpAny_listPart .none ?_))))
  rw [if_neg hstep]
  refine wpAny_bind (wpAny_field hos hds (x := vl) rfl (wpAny_bind (wpAny_listPart pl ?_)))
  refine wpAny_bind (wpAny_field hos hds (x := vu) rfl (wpAny_bind (wpAny_listPart pu (wpAny_pure ?_))))
  first
    | simp only [hsame, Bool.false_eq_true, if_false]
    | refine PySem.W.KFB.if_not hsame ?_
    | (dsimp only
       rw [if_neg (by rw [hsame]; exact Bool.false_ne_true)])
  refine wpAny_bind (m := Builtin.List.listAllItems (.ref b) "must assign iterable to extended slice") ?_
  unfold Builtin.List.listAllItems
  refine wpAny_bind (wpAny_typeOf hb.typeIs ?_)
  first
    | refine PySem.W.KFB.if_so (by decide) ?_
    | rw [if_pos (by decide)]
    | simp only [beq_self_eq_true, Bool.true_or, if_true]
  unfold Builtin.List.listItems
  refine wpAny_bind (wpAny_seqItems e2 rfl (wpAny_pure ?_))
  refine wpAny_bind (wpAny_bind (wpAny_seqItems e rfl (wpAny_pure ?_)))
  refine wpAny_bind (wpAny_of_eq ((sliceIndices_raw (some (a : Int)) (some (c : Int)) none items.size (by simp)).trans (congrArg (pure : Int × Int × Int → Sem (Int × Int × Int)) (bounds_run hac hc))) ?_)
  show wpAny _ _ (if ((1 : Int) == 1) = true then _ else _) _ _ s
  rw [if_pos (by decide)]
  refine wpAny_bind (wpAny_rule ?_)
  first
    | simp only [notLongL hsz, Bool.false_eq_true, if_false]
    | refine PySem.W.KFB.if_not (notLongL hsz) ?_
  first | refine wpAny_bind (wpAny_pure ?_) | skip
  show wpAny _ _ (updateSeq l (fun xs => xs.extract 0 ((a : Int)).toNat ++ new ++ xs.extract (max (a : Int) (c : Int)).toNat xs.size) >>= _) _ _ s
  rw [hmax, Int.toNat_natCast]
  refine wpAny_bind (wpAny_updateSeq (hz := Nat.le_trans (Nat.le_add_right _ _) hsz) (_hz' := hz') e rfl ?_)
  refine wpAny_bind (wpAny_letGo ?_)
  first
    | exact wpAny_bind (wpAny_pure (wpAny_pure ⟨.none, rfl, wpAny_pure h⟩))
    | exact wpAny_pure ⟨.none, rfl, wpAny_pure h⟩
end

section
variable {X : Cx}
/-- xs[a:c] = ys of another list, at the value level: sl is the slice object that was just made -/
theorem set_slice {pins : List (Addr × Obj)} {s : Shared} {σ : St} {H : Hp} {l b sl : Addr} {xs ys : List V} {a c : Int} {vl vu : Value} {Q : Unit → Shared → Prop} (I : Inv X pins σ H s)
    (hH : H l = some (.lst xs)) (hB : H b = some (.lst ys)) (hne : l ≠ b) (hs : s.heap.IsSliceOf sl vl vu .none) (ra : RelV (.int a) vl) (rc : RelV (.int c) vu) (h0 : 0 ≤ a) (hac : a ≤ c) (hc : c ≤ xs.length)
    (hz : xs.length + ys.length ≤ sizeLine) (h : ∀ s', Inv X pins σ (upd H l (.lst (xs.take a.toNat ++ ys ++ xs.drop c.toNat))) s' → Q () s') :
    wpAny (model X.prog X.w) X.A (setItem (.ref l) (.ref sl) (.ref b)) Q X.xe s := by
  obtain ⟨ta, rfl⟩ := ra
  obtain ⟨tc, rfl⟩ := rc
  obtain ⟨z, its, n, r, hl, e⟩ := I.lstM hH
  obtain ⟨z2, its2, n2, r2, hl2, e2⟩ := I.lstM hB
  obtain ⟨a', rfl⟩ := Int.eq_ofNat_of_zero_le h0
  obtain ⟨c', rfl⟩ := Int.eq_ofNat_of_zero_le (Int.le_trans h0 hac)
  simp only [Int.toNat_natCast] at h
  refine setItem_slice (a := a') (c := c') e e2 hne hs (.int _ _) (.int _ _) (by omega) (by rw [List.size_toArray]; omega) (by rw [List.size_toArray, List.size_toArray]; omega) (h _ ?_)
  refine I.lset (its' := its.take a' ++ its2 ++ its.drop c') (t' := s.toks) hH e ?_ (Vals.append (Vals.append (r.take _) r2) (r.drop _)) ?_
  · exact splice_eq its its2 a' c'
  · rw [List.length_append, List.length_append, List.length_take, List.length_drop]
    omega
end
end L2

namespace Att
open PySem PySem.W PySem.Calls PyProof.Rows

/-! ### the script -/
theorem ints_of_wellAll {P : Params} {h : Heap} : ∀ (ns : List Int) (vs : List Value), WellAll P h vs (ns.map WData.int) → IntsAre vs ns := by
  intro ns
  induction ns with
  | nil =>
    intro vs w
    rw [List.map_nil] at w
    cases w
    exact .nil
  | cons n ns ih =>
    intro vs w
    rw [List.map_cons] at w
    cases w with
    | cons a b =>
      cases a
      exact .cons _ _ (ih _ b)

theorem script_of {l : OpenLaw} {n : Nat} (hn : l.most = some n) {P : Params} {h : Heap} {args : List WData} {vals : List Value}
    (hpre : l.row.toRowW.claim.pre args = true) (hwl : WellAll P h vals args) :
    ∃ a vs ns, vals = [Value.ref a] ∧ args = [WData.list (ns.map WData.int)] ∧ h.get? a = some { cls := .type "list", data := .seq vs.toArray } ∧ IntsAre vs ns ∧ ns.length ≤ n := by
  have hsh : WShape.hasAll [] args [.list .int] = true := (pre_splitW hpre).1
  have hc : l.pre.holds [] { args := args } = true := (pre_splitW hpre).2
  obtain ⟨d, r, rfl, h1, h2⟩ := hasAllW_cons hsh
  obtain rfl := hasAllW_nil h2
  obtain ⟨xs, rfl, h3⟩ := hasW_list h1
  obtain ⟨ns, rfl⟩ := items_int h3
  have hlen : ns.length ≤ n := by
    unfold OpenLaw.pre at hc
    have h4 : (WTm.not (.lt (.lit (.int (n : Int))) (.len (.arg 0)))).holds [] { args := [.list (ns.map .int)] } = true := by
      have h4 := (holds_andW hc).1
      rw [hn] at h4
      exact h4
    have h5 := condW_of h4 (w_not (w_lt w_lit (w_len_list (w_arg rfl))))
    rw [List.length_map] at h5
    refine Nat.le_of_not_lt fun q => ?_
    have q' : (n : Int) < ((ns.length : Nat) : Int) := by omega
    first
      | (rw [decide_eq_true q'] at h5; exact absurd h5 (by decide))
      | (simp at h5; omega)
  cases hwl with
  | cons w1 w2 =>
    cases w2
    cases w1 with
    | list ho hall => exact ⟨_, _, ns, rfl, rfl, ho, ints_of_wellAll ns _ hall, hlen⟩

theorem post_true (l : OpenLaw) (args : List WData) : l.row.toRowW.claim.post args (.bool true) args = true :=
  postW_of (r := l.row.toRowW) (X := (true == true))
    (show WShape.has [] (.bool true) .bool = true by first | rfl | decide | simp [WShape.has, WShape.arms, WShape.armsAll])
    (show (WTm.eq .res (.lit (.bool true))).value [] { args := args, res := some (.bool true), after := args } = some (.bool (true == true)) from w_eq_bool (w_res rfl) w_lit) rfl

/-! ### the attachment: holds_open's last premise (the goal 'hc' behind k_head) from a wpAny of the law's body -/
theorem attach {l : OpenLaw} {n : Nat} {q : Program} {loose : List Str} {XP : (Str → Option Value) → Heap → Prop} {YP : World → Heap → Prop} {d : DefRec} {x : Str}
    (hn : l.most = some n) (hdf : d.params.defaults = [])
    (hbind : ∀ pm cd doc v : Value, bindArgs (docDef d.name d.params d.body d.scope pm cd doc) ⟨[v], []⟩ = pure [(x, v)])
    (hx : d.scope.names.lookup x = some .local ∨ d.scope.names.lookup x = some .cell)
    (hk : d.scope.kind = .function) (hco : d.scope.isCoroutine = false) (hgen : d.scope.isGenerator = false)
    (body : ∀ (w : World) (s₀ s₁ s : Shared) (mg mb : Str → Option Value) (fa : Addr) (o : Obj) (pm cd doc : Value) (a : Addr) (vs : List Value) (ns : List Int),
      Ground q loose [] XP w s₀ mg mb s₁.heap → YP w s₁.heap →
      s₁.heap.get? fa = some o → o.data = .func (docDef d.name d.params d.body d.scope pm cd doc) → s₁.heap.CodeRec cd d.name → mg d.name = some (.ref fa) →
      s₁.heap.get? a = some { cls := .type "list", data := .seq vs.toArray } → IntsAre vs ns → ns.length ≤ n →
      s.gens = #[] → s.os = s₁.os →
      Fr s₁.heap s₁.heap.objs.size s.heap (bindL (envOfC d.name d.scope s₁.heap.objs.size fa cd).kindOf [(x, .ref a)] fun _ => none) →
      Cl s₁.heap.objs.size (cellsFrom (s₁.heap.objs.size + 1) d.scope.names []) s.heap (bindC (envOfC d.name d.scope s₁.heap.objs.size fa cd).kindOf [(x, .ref a)] fun _ => none) →
      wpAny (model l.prog w) (callerA.deeper (envOfC d.name d.scope s₁.heap.objs.size fa cd)) (execs d.body (envOfC d.name d.scope s₁.heap.objs.size fa cd))
        (fun f s' => f = .ret (.bool true) ∧ OldK s₁.heap s'.heap ∧ s'.os = s₁.os ∧ AllBare s'.gens) (fun _ _ => False) s) :
    WalkO q loose XP YP l.row.toRowW d [] (fun f vs => PySem.call f vs) := by
  intro w s₀ s₁ mg mb G Y fa o pm cd doc dV kV ho hd hcd hD hmg hg args vals as hpre hlay hrd hwl hlo
  obtain rfl : dV = .none := Dflts.none hD hdf
  obtain rfl : kV = .none := Dflts.noKw hD
  obtain ⟨a, vs, ns, rfl, rfl, hobj, hints, hlen⟩ := script_of hn hpre hwl
  refine enter_call ?_
  refine call_cells_ret (o := o) (by rw [depth_caller]; decide) ho (fd_plain hd) G.T.nolimit hcd (hbind pm cd doc (.ref a)) (fun y hy => ?_) (fun h₁ tk F X => ?_) hco hgen hk
  · obtain rfl : y = (x, Value.ref a) := List.mem_singleton.mp hy
    rcases hx with e | e
    · exact .inl e
    · exact .inr ⟨e, cellsFrom_some _ _ _ (.inl e)⟩
  · refine wpAny_mono (body w s₀ s₁ { s₁ with heap := h₁, toks := tk } mg mb fa o pm cd doc a vs ns G Y ho (fd_plain hd) hcd hmg hobj hints hlen hg rfl F X) (fun f s' hq => ?_) (fun _ _ hq => hq)
    obtain ⟨rfl, h2, h3, h4⟩ := hq
    exact ⟨.inl ⟨.bool true, .bool true, [], rfl, fun _ => rfl, .bool true, post_true l _, fun _ => ⟨List.Pairwise.nil, fun _ hm => (nomatch hm)⟩⟩, h2, h3, h4⟩

/-- the same from a codeAny of the CALL (for a layer whose function contracts speak of calls) -/
theorem attach_call {l : OpenLaw} {n : Nat} {q : Program} {loose : List Str} {XP : (Str → Option Value) → Heap → Prop} {YP : World → Heap → Prop} {d : DefRec}
    (hn : l.most = some n) (hdf : d.params.defaults = [])
    (call : ∀ (w : World) (s₀ s₁ : Shared) (mg mb : Str → Option Value) (fa : Addr) (o : Obj) (pm cd doc : Value) (a : Addr) (vs : List Value) (ns : List Int),
      Ground q loose [] XP w s₀ mg mb s₁.heap → YP w s₁.heap →
      s₁.heap.get? fa = some o → o.data = .func (docDef d.name d.params d.body d.scope pm cd doc) → s₁.heap.CodeRec cd d.name → mg d.name = some (.ref fa) →
      s₁.heap.get? a = some { cls := .type "list", data := .seq vs.toArray } → IntsAre vs ns → ns.length ≤ n → s₁.gens = #[] →
      codeAny (model l.prog w) callerA (.call (.ref fa) ⟨[.ref a], []⟩) (fun r s' => r = .ok (.ret (.bool true)) ∧ OldK s₁.heap s'.heap ∧ s'.os = s₁.os ∧ AllBare s'.gens) s₁) :
    WalkO q loose XP YP l.row.toRowW d [] (fun f vs => PySem.call f vs) := by
  intro w s₀ s₁ mg mb G Y fa o pm cd doc dV kV ho hd hcd hD hmg hg args vals as hpre hlay hrd hwl hlo
  obtain rfl : dV = .none := Dflts.none hD hdf
  obtain rfl : kV = .none := Dflts.noKw hD
  obtain ⟨a, vs, ns, rfl, rfl, hobj, hints, hlen⟩ := script_of hn hpre hwl
  refine enter_call (codeAny_mono (call w s₀ s₁ mg mb fa o pm cd doc a vs ns G Y ho (fd_plain hd) hcd hmg hobj hints hlen hg) fun r s' hq => ?_)
  obtain ⟨rfl, h2, h3, h4⟩ := hq
  exact ⟨.inl ⟨.bool true, .bool true, [], rfl, fun _ => rfl, .bool true, post_true l _, fun _ => ⟨List.Pairwise.nil, fun _ hm => (nomatch hm)⟩⟩, h2, h3, h4⟩

/-- the same where the top left finished generators (o_head chose holds_openN): nothing may have changed at all and no generator may be left -/
theorem attachN {l : OpenLaw} {n : Nat} {q : Program} {loose : List Str} {XP : (Str → Option Value) → Heap → Prop} {YP : World → Heap → Prop} {d : DefRec} {x : Str}
    (hn : l.most = some n) (hdf : d.params.defaults = [])
    (hbind : ∀ pm cd doc v : Value, bindArgs (docDef d.name d.params d.body d.scope pm cd doc) ⟨[v], []⟩ = pure [(x, v)])
    (hx : d.scope.names.lookup x = some .local ∨ d.scope.names.lookup x = some .cell)
    (hk : d.scope.kind = .function) (hco : d.scope.isCoroutine = false) (hgen : d.scope.isGenerator = false)
    (body : ∀ (w : World) (s₀ s₁ s : Shared) (mg mb : Str → Option Value) (fa : Addr) (o : Obj) (pm cd doc : Value) (a : Addr) (vs : List Value) (ns : List Int),
      Ground q loose [] XP w s₀ mg mb s₁.heap → YP w s₁.heap →
      s₁.heap.get? fa = some o → o.data = .func (docDef d.name d.params d.body d.scope pm cd doc) → s₁.heap.CodeRec cd d.name → mg d.name = some (.ref fa) →
      s₁.heap.get? a = some { cls := .type "list", data := .seq vs.toArray } → IntsAre vs ns → ns.length ≤ n →
      s.gens = #[] → s.os = s₁.os →
      Fr s₁.heap s₁.heap.objs.size s.heap (bindL (envOfC d.name d.scope s₁.heap.objs.size fa cd).kindOf [(x, .ref a)] fun _ => none) →
      Cl s₁.heap.objs.size (cellsFrom (s₁.heap.objs.size + 1) d.scope.names []) s.heap (bindC (envOfC d.name d.scope s₁.heap.objs.size fa cd).kindOf [(x, .ref a)] fun _ => none) →
      wpAny (model l.prog w) (callerA.deeper (envOfC d.name d.scope s₁.heap.objs.size fa cd)) (execs d.body (envOfC d.name d.scope s₁.heap.objs.size fa cd))
        (fun f s' => f = .ret (.bool true) ∧ (∀ b o, s₁.heap.get? b = some o → s'.heap.get? b = some o) ∧ s'.os = s₁.os ∧ s'.gens = #[]) (fun _ _ => False) s) :
    WalkN q loose XP YP l.row.toRowW d [] (fun f vs => PySem.call f vs) := by
  intro w s₀ s₁ mg mb G Y fa o pm cd doc dV kV ho hd hcd hD hmg hg args vals as hpre hlay hrd hwl hlo
  obtain rfl : dV = .none := Dflts.none hD hdf
  obtain rfl : kV = .none := Dflts.noKw hD
  obtain ⟨a, vs, ns, rfl, rfl, hobj, hints, hlen⟩ := script_of hn hpre hwl
  refine enter_callW ?_
  refine call_cells_ret (o := o) (by rw [depth_caller]; decide) ho (fd_plain hd) G.T.nolimit hcd (hbind pm cd doc (.ref a)) (fun y hy => ?_) (fun h₁ tk F X => ?_) hco hgen hk
  · obtain rfl : y = (x, Value.ref a) := List.mem_singleton.mp hy
    rcases hx with e | e
    · exact .inl e
    · exact .inr ⟨e, cellsFrom_some _ _ _ (.inl e)⟩
  · refine wpAny_mono (body w s₀ s₁ { s₁ with heap := h₁, toks := tk } mg mb fa o pm cd doc a vs ns G Y ho (fd_plain hd) hcd hmg hobj hints hlen hg rfl F X) (fun f s' hq => ?_) (fun _ _ hq => hq)
    obtain ⟨rfl, h2, h3, h4⟩ := hq
    exact ⟨.inl ⟨.bool true, .bool true, [], rfl, fun _ => rfl, .bool true, post_true l _, fun _ => ⟨List.Pairwise.nil, fun _ hm => (nomatch hm)⟩⟩, h2, h3, h4⟩

/-! ### rules over ANY heap (no ledger) from facts about the written part K: the library's own take a ledger (News) for what they write -/
section
variable {prog : Program} {w : World} {A : Around} {E : Value → Shared → Prop} {s : Shared} {K : Frag}

/-- a def of the module, or a method (qual 'C.m'), entered: the frame is the next address; cells behind it -/
theorem call_fn {R : Result → Shared → Prop} {name qual : Str} {params : Arguments} {body : List Stmt} {scope : Scope} {dV kV doc pm cdv ct oc : Value} {an od : Option Addr} {osl : Array (Option Value)} {f : Addr} {args : Args} {binds : List (Str × Value)}
    (X : K.In s.heap) (hlim : s.heap.NoLimit) (ho : K.lookup f = some ⟨oc, od, .func (fnOf name qual params body scope dV kV doc pm an cdv ct), osl⟩) (hcd : codeIn K cdv qual = true) (hroom : A.depth < recursionLimit)
    (hbind : BindsTo s (fnOf name qual params body scope dV kV doc pm an cdv ct) args binds)
    (hkind : (binds.all fun y => scope.names.lookup y.1 == some .local || scope.names.lookup y.1 == some .cell) = true)
    (h : ∀ s₁, InCallC s s.heap.objs.size (bindL (envOfC qual scope s.heap.objs.size f cdv).kindOf binds fun _ => none) (cellsFrom (s.heap.objs.size + 1) scope.names [])
        (bindC (envOfC qual scope s.heap.objs.size f cdv).kindOf binds fun _ => none) s₁ →
      wpAny (model prog w) (A.deeper (envOfC qual scope s.heap.objs.size f cdv)) (execs body (envOfC qual scope s.heap.objs.size f cdv))
        (fun fl s' => R (.ok (.ret (match fl with | .ret v => v | _ => .none))) s')
        (fun e s' => wpAny (model prog w) (A.deeper (envOfC qual scope s.heap.objs.size f cdv)) (leaving (envOfC qual scope s.heap.objs.size f cdv) e) (fun _ s'' => R (.error e) s'') (fun e' s'' => R (.error e') s'') s') s₁)
    (hco : scope.isCoroutine = false) (hgen : scope.isGenerator = false) (hk : scope.kind = .function) : codeAny (model prog w) A (.call (.ref f) args) R s := by
  refine codeAny_call_function hroom (X _ _ ho) rfl hco hgen rfl (codeRec_of X hcd) (hbind _ _ _ _ ?_)
  refine wpAny_newFunctionEnv_cells hk (kindsX hkind _) fun env he s₁ x => ?_
  subst he
  exact ⟨hlim.keeps x.toInCall.keep, codeAny_func (h s₁ x)⟩

/-- C(..): dict at size, instance at size + 1, then __init__ -/
theorem make_obj {R : Result → Shared → Prop} {C fI : Addr} {rest : List Value} {kw : List (Str × Value)}
    (X : K.In s.heap) (hm : makesIn K C = true) (hi : findIn K (.ref C) "__init__" = some (some (.ref fI))) (hf : isFn K (.ref fI) = true)
    (h : codeAny (model prog w) (A.under (.builtin "type.__call__" ⟨.ref C :: rest, kw⟩)) (.call (.ref fI) ⟨.ref (s.heap.objs.size + 1) :: rest, kw⟩) (InitBack (s.heap.objs.size + 1) R)
      { s with heap := (s.heap.push emptyDict).push (instObj C s.heap.objs.size) }) : codeAny (model prog w) A (.call (.ref C) ⟨rest, kw⟩) R s := by
  obtain ⟨hh, g, d, t, os⟩ := s
  exact make_core (makes_of X hm) (looks_findIn X hi) (fun self => bind_fn X self (beq_iff_eq.mp hf)) (.inl rfl) h

/-- x.name where the instance's dict holds the name and the class does not -/
theorem get_field {x C : Addr} {ox : Obj} {es : List DictEntry} {n : Nat} {name : Str} {expr : Bool} {v : Value} {Q : Value → Shared → Prop}
    (X : K.In s.heap) (I : PySem.W.InstAt s.heap x ox C (some (dictOf es n))) (hg : plainGet K C name = true) (hh : hasDictIn K C = true) (ha : findIn K (.ref C) name = some none)
    (hl : getL name es = some (some v)) (hv : handedIn v = true) (h : Q v { s with toks := s.toks + 1 }) : wpAny (model prog w) A (getAttr (.ref x) name expr) Q E s :=
  get_value X I (plainGet_of hg).1 (findObj_own hh ha rfl hl) hv h

/-- x.m(..): the method found in the class -/
theorem get_method {x C f : Addr} {ox : Obj} {es : List DictEntry} {n : Nat} {name : Str} {pl : Sem Bool} {Q : Value × List Value → Shared → Prop}
    (X : K.In s.heap) (I : PySem.W.InstAt s.heap x ox C (some (dictOf es n))) (hg : plainGet K C name = true) (hf : findIn K (.ref C) name = some (some (.ref f))) (ht : isFn K (.ref f) = true)
    (hl : getL name es = some none) (h : Q (.ref f, [.ref x]) s) : wpAny (model prog w) A (getMethod (.ref x) name pl) Q E s :=
  method_fn X I (plainGet_of hg).1 (plainGet_of hg).2 hf (beq_iff_eq.mp ht) (by show (lookIn name (dictOf es n)).map _ = _; rw [lookIn_dict, hl]; rfl) h

/-! the whole heap as the ledger: makes every rule that writes through a ledger a rule over any heap -/
def noObjs (h : Heap) : Heap := { h with objs := #[] }
theorem noObjs_get (h : Heap) (b : Addr) : (noObjs h).get? b = none := by
  cases e : (noObjs h).get? b with
  | none => rfl
  | some o => exact absurd (Heap.lt_size e) (Nat.not_lt_zero _)
def ledger (h : Heap) (L d : Addr) : List (Addr × Obj) := (List.range h.objs.size).filterMap fun a => if a = L ∨ a = d then none else (h.get? a).map fun o => (a, o)
theorem mem_ledger {h : Heap} {L d a : Addr} {o : Obj} : (a, o) ∈ ledger h L d ↔ a ≠ L ∧ a ≠ d ∧ h.get? a = some o := by
  unfold ledger
  rw [List.mem_filterMap]
  constructor
  · rintro ⟨b, _, e⟩
    split at e
    · cases e
    · rename_i hb
      obtain ⟨o', ho, e'⟩ := Option.map_eq_some_iff.mp e
      cases e'
      exact ⟨fun q => hb (.inl q), fun q => hb (.inr q), ho⟩
  · rintro ⟨n1, n2, ho⟩
    refine ⟨a, List.mem_range.mpr (Heap.lt_size ho), ?_⟩
    rw [if_neg (show ¬ (a = L ∨ a = d) from fun q => q.elim n1 n2), ho] <;> rfl
theorem news_ledger {h : Heap} {L d : Addr} {od : Obj} (hne : d ≠ L) (ho : h.get? d = some od) : News (noObjs h) L h ([] ++ (d, od) :: ledger h L d) := by
  rintro ⟨a, o⟩ hp
  rcases List.mem_cons.mp hp with e | hp
  · cases e
    exact ⟨ho, hne, noObjs_get _ _⟩
  · obtain ⟨n1, n2, e⟩ := mem_ledger.mp hp
    exact ⟨e, n1, noObjs_get _ _⟩
theorem fr_all {h : Heap} {L : Addr} {m : Str → Option Value} (n : h.Ns L m) : Fr (noObjs h) L h m :=
  ⟨n, fun b o e => (by rw [noObjs_get] at e; cases e), Nat.zero_le _⟩
/-- Upd of the head entry (for append_K, setItem_K ..) -/
theorem upd_ledger {h : Heap} {L d : Addr} {o o' : Obj} : Upd d o o' ((d, o) :: ledger h L d) ((d, o') :: ledger h L d) :=
  .head fun ⟨_, _⟩ hp => (mem_ledger.mp hp).2.1

/-- x.name = v over any heap: L is any namespace of the heap (the frame's, say): its map stays, its object is not told; all else but the dict stays -/
theorem set_field {x C dx L : Addr} {ox : Obj} {m : Str → Option Value} {es es' : List DictEntry} {n n' : Nat} {name : Str} {v : Value} {Q : Unit → Shared → Prop}
    (X : K.In s.heap) (I : PySem.W.InstAt s.heap x ox C (some (dictOf es n))) (hd : ox.dict = some dx) (hL : s.heap.Ns L m) (hne : dx ≠ L)
    (hs : findIn K (.ref C) "__setattr__" = some (some (.builtin "object.__setattr__"))) (hp : plainOver K C = true) (ht : takerIn K C name = some none) (hh : hasDictIn K C = true) (hl : (getL name es).isSome = true)
    (e : (putL name (PyData.keyHash w.params name) (.str name (s.toks + 1)) v es, putN name es n) = (es', n')) (hz : es'.length ≤ 1000)
    (h : ∀ h' : Heap, h'.Ns L m → h'.get? dx = some (dictOf es' n') → (∀ b o, b ≠ dx → b ≠ L → s.heap.get? b = some o → h'.get? b = some o) → Q () { s with heap := h', toks := s.toks + 2 }) :
    wpAny (model prog w) A (setAttr (.ref x) name v) Q E s := by
  obtain ⟨e1, e2⟩ := Prod.mk.inj e
  have hdx : s.heap.get? dx = some (dictOf es n) := by
    have := I.dict
    rw [hd] at this
    exact this
  refine set_plain X I hs (osa_dict (s := { s with toks := s.toks + 1 }) (h₀ := noObjs s.heap) (L := L) (m := m) (od := dictOf es n) (od' := dictOf es' n') (es := es') (n := n') (pre := []) (post := ledger s.heap L dx)
    (fr_all hL) (news_ledger hne hdx) X I hd hp ht hh hl (fun _ q => nomatch q) (fun ⟨_, _⟩ q => (mem_ledger.mp q).2.1) (by rw [putName_dict, e1, e2]) rfl hz fun h' F' N' => ?_)
  exact h h' F'.ns (N'.get (List.Mem.head _)) fun b o n1 n2 ho => N'.get (List.Mem.tail _ (mem_ledger.mpr ⟨n2, n1, ho⟩))
end
end Att

namespace L2
open PySem PySem.Spec PyProof.Rows

theorem vals_ints : ∀ {vs : List Value} {ns : List Int}, IntsAre vs ns → Vals (ns.map V.int) vs
  | _, _, .nil => .nil
  | _, _, .cons n t h => .cons ⟨t, rfl⟩ (vals_ints h)

/-- nothing is tracked but the script, known to the object (or it is an object of the module) -/
def Only (H : Hp) : Prop := ∀ b, H b = none ∨ ∃ o xs, H b = some (.frz o (.lst xs))

/-- THE HEAD: the law's promise, at the heap behind the top. F, the promise of the law's def, may use that base is part of the heap (so K.In base, base.Ns mainGlobals mg stand in Mod) -/
theorem law_call {P : Program} {w : World} {K : PySem.W.Frag} {mg mb : Str → Option Value} {CX : CXT} {k : Nat} {fa a : Addr} {fd : FuncData} {x : Str} {sp : Sp} {s₁ : Shared} {vs : List Value} {ns : List Int}
    (KX : K.In s₁.heap) (hns : s₁.heap.Ns mainGlobals mg) (hb : s₁.heap.Ns builtinsNs mb) (hbb : ∀ x : Str, x ≠ "__name__" → mb x = bootBuiltins x) (hlim : s₁.heap.NoLimit) (hg : s₁.gens = #[])
    (ha : s₁.heap.get? a = some { cls := .type "list", data := .seq vs.toArray }) (hi : IntsAre vs ns) (hl : ns.length ≤ sizeLine) (hr : Room k callerA)
    (F : ∀ base : Heap, K.In base → base.Ns mainGlobals mg → FnOk P w K mg base CX k fa fd [x] sp) (hbind : ∀ (s : Shared) (u : Value), BindsTo s fd ⟨[u], []⟩ [(x, u)])
    (hsp : ∀ H : Hp, Only H → SqL K H a (ns.map V.int) → sp [.ref a] H (fun v _ => v = .bl true) fun _ _ _ => False)
    (hCX : ∀ H e s', CX [] H s₁ (fun _ _ _ => False) e s' → False) :
    codeAny (model P w) callerA (.call (.ref fa) ⟨[.ref a], []⟩) (fun r s' => r = .ok (.ret (.bool true)) ∧ OldK s₁.heap s'.heap ∧ s'.os = s₁.os ∧ AllBare s'.gens) s₁ := by
  have rv := vals_ints hi
  have lenV := hi.length
  -- from an abstract heap in which nothing but the script may be tracked
  have core : ∀ H : Hp, Only H → SqL K H a (ns.map V.int) → HOk P w H s₁.heap → (∀ b, H b ≠ none → b = a) → (H a ≠ none → K.lookup a = none) →
      codeAny (model P w) callerA (.call (.ref fa) ⟨[.ref a], []⟩) (fun r s' => r = .ok (.ret (.bool true)) ∧ OldK s₁.heap s'.heap ∧ s'.os = s₁.os ∧ AllBare s'.gens) s₁ := by
    intro H hO hS hok hA hK
    have base_of : ∀ {b : Addr} {o : Obj}, s₁.heap.get? b = some o → H b = none → (hidT s₁.heap H).get? b = some o := fun e n => hidT_get e n
    have noA : ∀ {b : Addr} {o : Obj} {es : Array DictEntry} {ep : Nat}, s₁.heap.get? b = some o → o.data = .dict es ep → H b = none := fun {b o es ep} e d => by
      cases q : H b with
      | none => rfl
      | some u =>
        have e' : b = a := hA b (by rw [q]; simp)
        subst e'
        rw [ha] at e; cases e
        have d' : Data.seq vs.toArray _ = Data.dict es ep := d
        cases d'
    have nsK : ∀ {b : Addr} {m : Str → Option Value}, s₁.heap.Ns b m → (hidT s₁.heap H).Ns b m := fun {b m} ⟨o, es, ep, e, d, r⟩ => ⟨o, es, ep, base_of e (noA e d), d, r⟩
    have hKb : K.In (hidT s₁.heap H) := fun b o e => base_of (KX b o e) (by
      cases q : H b with
      | none => rfl
      | some u =>
        have e' : b = a := hA b (by rw [q]; simp)
        subst e'
        rw [hK (by rw [q]; simp)] at e; cases e)
    have hM : Mod K mg (hidT s₁.heap H) := ⟨hKb, nsK hns, ⟨mb, nsK hb, hbb⟩, let ⟨mc, h1, h2⟩ := hlim; ⟨mc, nsK h1, h2⟩⟩
    have e0 : Env0 P w K mg (hidT s₁.heap H) callerA [] s₁ H := ⟨rfl, hM, fun b o e => of_hidT e, Nat.le_of_eq (hidT_size _ _), trivial, fun b hb => absurd (show b ∈ ([] : List Addr) from hb) (by simp), hok, .of_eq hg⟩
    refine codeAny_mono ((F _ hKb (nsK hns)).run callerA [] s₁ H ⟨[.ref a], []⟩ [.ref a] [.ref a] _ _ hr e0 (hbind s₁ (.ref a)) (.cons rfl .nil) (hsp H hO hS)) fun r s' h => ?_
    cases r with
    | error e => exact (hCX H e s' h).elim
    | ok fl =>
      cases fl with
      | next => exact False.elim h
      | brk => exact False.elim h
      | cont => exact False.elim h
      | ret u =>
        obtain ⟨v, H', os, bare, un, hok', r', q⟩ := h
        have q' : v = .bl true := q
        subst q'
        obtain rfl : u = Value.bool true := r'
        refine ⟨rfl, OldK.of_keep fun b o e => ?_, os, bare⟩
        cases q : H b with
        | none => exact un.keep b o e q (by intro z; exact absurd (show b ∈ ([] : List Addr) from z) (by simp)) (by simp)
        | some u =>
          rcases hO b with z | ⟨ob, xs, z⟩
          · rw [q] at z; cases z
          · have z2 := un.frzs b ob _ z
            obtain ⟨e1, _⟩ := hok b _ z
            obtain ⟨e2, _⟩ := hok' b _ z2
            rw [e] at e1; cases e1
            exact e2
  cases hk : K.lookup a with
  | some o =>
    -- the script is one of the module's own objects
    have e := KX a o hk
    rw [ha] at e
    cases e
    refine core (fun _ => none) (fun _ => .inl rfl) (.inr ⟨_, vs.toArray, _, hk, rfl, rfl, rfl, by rw [List.size_toArray, lenV]; exact hl, by simpa using rv⟩) (fun b u z => by have z' : (none : Option HO) = some u := z; cases z') (fun b z => absurd rfl z) fun z => absurd rfl z
  | none =>
    refine core (fun b => if b = a then some (.frz { cls := .type "list", data := .seq vs.toArray } (.lst (ns.map V.int))) else none) (fun b => ?_) (.inl (.inr ⟨{ cls := .type "list", data := .seq vs.toArray }, if_pos rfl⟩)) (fun b u z => ?_) (fun b z => ?_) fun _ => hk
    · by_cases hb : b = a
      · exact .inr ⟨_, _, if_pos hb⟩
      · exact .inl (if_neg hb)
    · by_cases hb : b = a
      · have z' := (if_pos hb).symm.trans z
        cases z'
        subst hb
        exact ⟨ha, by rw [List.length_map]; exact hl, vs, _, rv, ha⟩
      · have z' := (if_neg hb).symm.trans z
        cases z'
    · by_cases hb : b = a
      · exact hb
      · exact absurd (if_neg hb) z
end L2

namespace L2
open PySem PySem.Spec PyProof.Rows

abbrev KOf {K : PySem.W.Frag} {h : Heap} (_ : K.In h) : PySem.W.Frag := K

/-- the goal that k_head leaves (case hc), from the law's promise. F gives the function object fd (K's own) once, then the promise over every base -/
theorem walk_of {l : PySem.W.OpenLaw} {n k : Nat} {q : Program} {loose : List Str} {XP : (Str → Option Value) → Heap → Prop} {YP : World → Heap → Prop} {d : DefRec} {K : Params → PySem.W.Frag} {CX : World → CXT} {sp : World → Sp} {x : Str}
    (hn : l.most = some n) (hn2 : n ≤ sizeLine) (hdf : d.params.defaults = []) (hr : Room k callerA)
    (hY : ∀ (w : World) (h : Heap), YP w h → (K w.params).In h)
    (F : ∀ (w : World) (mg : Str → Option Value) (fa : Addr) (h : Heap), (K w.params).In h → h.Ns mainGlobals mg → mg d.name = some (.ref fa) →
      ∃ fd : FuncData, (∀ (s : Shared) (u : Value), BindsTo s fd ⟨[u], []⟩ [(x, u)]) ∧
        ∀ base : Heap, (K w.params).In base → base.Ns mainGlobals mg → FnOk l.prog w (K w.params) mg base (CX w) k fa fd [x] (sp w))
    (hsp : ∀ (w : World) (H : Hp) (a : Addr) (ns : List Int), ns.length ≤ n → Only H → SqL (K w.params) H a (ns.map V.int) → sp w [.ref a] H (fun v _ => v = .bl true) fun _ _ _ => False)
    (hCX : ∀ (w : World) (H : Hp) (s : Shared) (e : Value) (s' : Shared), CX w [] H s (fun _ _ _ => False) e s' → False) :
    PySem.W.WalkO q loose XP YP l.row.toRowW d [] (fun f vs => PySem.call f vs) := by
  refine Att.attach_call hn hdf fun w s₀ s₁ mg mb fa o pm cd doc a vs ns G Y ho hd hcd hmg hobj hints hlen hg => ?_
  have KX := hY w _ Y
  obtain ⟨fd, hb, hF⟩ := F w mg fa _ KX G.T.g hmg
  exact law_call KX G.T.g G.T.b G.T.builtins G.T.nolimit hg hobj hints (Nat.le_trans hlen hn2) hr hF hb (fun H hO hS => hsp w H a ns hlen hO hS) fun H e s' => hCX w H s₁ e s'
/-- the same where the promise hangs on the written part alone: (sp := My.sp_law), no hole under a binder -/
theorem walk_ofK {l : PySem.W.OpenLaw} {n k : Nat} {q : Program} {loose : List Str} {XP : (Str → Option Value) → Heap → Prop} {YP : World → Heap → Prop} {d : DefRec} {K : Params → PySem.W.Frag} {CX : CXT} {sp : PySem.W.Frag → Sp} {x : Str}
    (hn : l.most = some n) (hn2 : n ≤ sizeLine) (hdf : d.params.defaults = []) (hr : Room k callerA)
    (hY : ∀ (w : World) (h : Heap), YP w h → (K w.params).In h)
    (F : ∀ (w : World) (mg : Str → Option Value) (fa : Addr) (h : Heap), (K w.params).In h → h.Ns mainGlobals mg → mg d.name = some (.ref fa) →
      ∃ fd : FuncData, (∀ (s : Shared) (u : Value), BindsTo s fd ⟨[u], []⟩ [(x, u)]) ∧
        ∀ base : Heap, (K w.params).In base → base.Ns mainGlobals mg → FnOk l.prog w (K w.params) mg base CX k fa fd [x] (sp (K w.params)))
    (hsp : ∀ (K : PySem.W.Frag) (H : Hp) (a : Addr) (ns : List Int), ns.length ≤ n → Only H → SqL K H a (ns.map V.int) → sp K [.ref a] H (fun v _ => v = .bl true) fun _ _ _ => False)
    (hCX : ∀ (H : Hp) (s : Shared) (e : Value) (s' : Shared), CX [] H s (fun _ _ _ => False) e s' → False) :
    PySem.W.WalkO q loose XP YP l.row.toRowW d [] (fun f vs => PySem.call f vs) :=
  walk_of (K := K) (CX := fun _ => CX) (sp := fun w => sp (K w.params)) hn hn2 hdf hr hY F (fun w H a ns h1 h2 h3 => hsp (K w.params) H a ns h1 h2 h3) fun _ H s e s' => hCX H s e s'
end L2

/- THE LAST THEOREM (shape; LID, My.* are yours):
   My.Adr: a structure of the addresses that your layer names (classes, functions); My.Txt K t: a structure (Prop) of the equations over K;
   My.txt_mk : {K} {implicit addresses ..} (e1 : nsIn K mainGlobals "law" = some (some (.ref f))) (e2 : K.lookup f = some ⟨oc, od, .func (fnOf "law" "law" params body scope dV kV doc pm an cdv ct), sl⟩) (e3 : codeIn K cdv "law" = true) .. : ∃ t, My.Txt K t

set_option maxRecDepth 100000 in
set_option maxHeartbeats 0 in
theorem PySem.Challenge.cw_LID_holds : PySem.Challenge.rw_LID.Holds := by
  w_on; o_law; k_head; (case hw => w_witness2)
  k_fill
  refine L2.walk_of (l := PySem.Challenge.rw_LID) (n := 63) (k := 40) (x := "script") (CX := fun w => ..) (sp := fun _ => My.sp_law) rfl (by decide) rfl ⟨rfl, by decide, by decide⟩ (fun w h Y => PySem.W.kIn_of Y) ?F ?S ?C
  case F =>
    intro w mg fa h KX G hmg
    have T : ∃ t, My.Txt (L2.KOf KX) t := by
      dsimp only [L2.KOf]                          -- K must stand as «<heap const> w.params» for k_is
      refine' My.txt_mk ?e1 ?e2 ?e3 ..
      (case e1 => PySem.W.k_is)                    -- in the order: a name -> its address -> its object -> its parts
      (case e2 => PySem.W.k_is)
      ..
    obtain ⟨t, T⟩ := T
    have e0 := hmg.symm.trans (PySem.W.mg_of KX G T.law)
    cases e0                                       -- fa is the law's own address
    exact ⟨_, fun s u => .of_eq rfl, fun base kb nb => My.law_fn T kb nb⟩     -- if «.of_eq rfl» comes too early: refine' ⟨_, ?b, fun base kb nb => My.law_fn T kb nb⟩; exact fun s u => .of_eq rfl
  case S => exact fun w H a ns hl hO hS => ..
  case C => exact ..
(the tactic k_is has no namespace: write k_is) -/

/-! SHORT WORDS over the layer: a def of the text, its body, what a loop and a test want. -/
namespace L2
open PySem PySem.Spec PyProof.Rows

/-! ### the text by places -/
/-- the j-th statement of a class's body -/
def inClass (s : Stmt) (j : Nat) : Stmt := match s with
  | .ClassDef _ _ _ body _ _ _ _ _ _ _ => body.getD j (.Pass ⟨0, 0, 0, 0⟩)
  | _ => .Pass ⟨0, 0, 0, 0⟩
def defArgs (s : Stmt) : Arguments := match s with
  | .FunctionDef _ a _ _ _ _ _ _ _ _ => a
  | _ => { posonlyargs := [], args := [], vararg := none, kwonlyargs := [], kw_defaults := [], kwarg := none, defaults := [] }
def defBody (s : Stmt) : List Stmt := match s with
  | .FunctionDef _ _ b _ _ _ _ _ _ _ => b
  | _ => []
def defScope (s : Stmt) : Scope := match s with
  | .FunctionDef _ _ _ _ _ _ sc _ _ _ => sc
  | _ => { kind := .function, names := [], isGenerator := false, isCoroutine := false }

/-! ### no exception leaves a def -/
abbrev CX0 : CXT := fun _ _ _ _ _ _ => False
abbrev E0 : XK := fun _ _ _ => False
theorem pass0 {X : Cx} : Passes CX0 X E0 := fun _ _ _ _ _ _ _ h => h.elim

/-! ### a def (or method) of the text as it stands behind the top -/
structure Fun (K : PySem.W.Frag) (x qual : Str) (st : Stmt) (f : Addr) (fd : FuncData) : Prop where
  ex : ∃ (oc : Value) (od : Option Addr) (kV doc pm : Value) (an : Option Addr) (cdv ct : Value) (osl : Array (Option Value)),
    fd = PySem.W.fnOf x qual (defArgs st) (defBody st) (defScope st) .none kV doc pm an cdv ct ∧ K.lookup f = some ⟨oc, od, .func fd, osl⟩ ∧ PySem.W.codeIn K cdv qual = true
  kp : PySem.W.keepIn K (.ref f) = true
section
variable {P : Program} {w : World} {K : PySem.W.Frag} {mg : Str → Option Value} {base : Heap}
/-- THE RULE for a def: its body as a term of rules, and the reading of that term -/
theorem Fun.ok {x qual : Str} {st : Stmt} {f : Addr} {fd : FuncData} {N ps : List Str} {k : Nat} {sp : Sp} (F : Fun K x qual st f fd) (S : FnScope N ps (defScope st)) (len : ∀ vs H Q E, sp vs H Q E → vs.length = ps.length)
    (hbody : ∀ (cdv : Value) (A : Around) (outer : List Env) (s : Shared) (H : Hp) (vs : List V) (Q : VK) (E : XK), Room k (A.deeper (envOfC qual (defScope st) s.heap.objs.size f cdv)) → sp vs H Q E →
      ∃ t, PSs (cxOf CX0 P w K mg base N qual (defScope st) f cdv A outer s H E).nox (defBody st) t ∧ t { nx := fun _ H' => Q .non H', rt := Q } (start N vs) H) : FnOk P w K mg base CX0 (k + 1) f fd ps sp := by
  obtain ⟨oc, od, kV, doc, pm, an, cdv, ct, osl, rfl, lk, hcd⟩ := F.ex
  refine fn_of lk hcd S len fun A outer s H vs Q E hr hsp => ?_
  obtain ⟨t, h, q⟩ := hbody cdv A outer s H vs Q E hr hsp
  exact ⟨t, h.nox, q⟩
/-- how its arguments bind (no defaults): h is «fun _ _ _ _ _ _ us hl => match us, hl with | [_, _], _ => rfl», one _ a parameter -/
theorem Fun.binds {x qual : Str} {st : Stmt} {f : Addr} {fd : FuncData} {ps : List Str} (F : Fun K x qual st f fd)
    (h : ∀ (kV doc pm : Value) (an : Option Addr) (cdv ct : Value) (us : List Value), us.length = ps.length → bindArgs (PySem.W.fnOf x qual (defArgs st) (defBody st) (defScope st) .none kV doc pm an cdv ct) ⟨us, []⟩ = pure (ps.zip us)) : Binds K fd ps [] := by
  obtain ⟨oc, od, kV, doc, pm, an, cdv, ct, osl, rfl, lk, hcd⟩ := F.ex
  exact .all (h kV doc pm an cdv ct)
theorem fun_mk {x qual : Str} {st : Stmt} {f : Addr} {oc : Value} {od an : Option Addr} {osl : Array (Option Value)} {kV doc pm cdv ct : Value} (l : K.lookup f = some ⟨oc, od, .func (PySem.W.fnOf x qual (defArgs st) (defBody st) (defScope st) .none kV doc pm an cdv ct), osl⟩)
    (c : PySem.W.codeIn K cdv qual = true) (k : PySem.W.keepIn K (.ref f) = true) : Fun K x qual st f (PySem.W.fnOf x qual (defArgs st) (defBody st) (defScope st) .none kV doc pm an cdv ct) := ⟨⟨oc, od, kV, doc, pm, an, cdv, ct, osl, rfl, l, c⟩, k⟩
end
theorem hu_of {A : Around} {k : Nat} (hr : Room k A) : A.units + 1 < cLine := Nat.lt_of_le_of_lt (Nat.add_le_add_left (by decide : 1 ≤ 64) _) hr.units
theorem small1000 {n : Nat} (h : n ≤ 1000) : n < sizeLine := Nat.lt_of_le_of_lt h (by decide)

/-! ### expressions in short: the name that stands in the i-th slot -/
section
variable {X : Cx}
theorem pv (i : Nat) {x : Str} {pos : Pos} (hN : X.N[i]? = some x := by rfl) (hv : Vis X.env.scope x := by first | exact Or.inl rfl | exact Or.inr (Or.inl rfl) | exact Or.inr (Or.inr rfl)) (hd : (x == ("__debug__" : Str)) = false := by decide)
    (hcd : (x == ("__classdict__" : Str)) = false := by decide) : PE X (.Name x pos) (tVar i) := pe_var hN hv hd hcd
end

/-! ### tests -/
theorem iteF {A B : Prop} (h : B) : if false = true then A else B := by
  rw [if_neg Bool.false_ne_true]
  exact h
theorem iteT {A B : Prop} (h : A) : if true = true then A else B := by
  rw [if_pos rfl]
  exact h
theorem ite2 {c A B : Prop} [Decidable c] (h1 : c → A) (h2 : ¬ c → B) : if c then A else B := by
  by_cases h : c
  · rw [if_pos h]
    exact h1 h
  · rw [if_neg h]
    exact h2 h
theorem iteNS {c A B : Prop} [Decidable c] (hc : c) (h : B) : if (!decide c) = true then A else B := by
  rw [decide_eq_true hc]
  exact iteF h

/-! ### heaps -/
/-- all that was tracked is as it was -/
def Same (H H' : Hp) : Prop := ∀ b o, H b = some o → H' b = some o
theorem Same.refl (H : Hp) : Same H H := fun _ _ h => h
theorem Same.trans {H H1 H2 : Hp} (a : Same H H1) (b : Same H1 H2) : Same H H2 := fun c o h => b c o (a c o h)
theorem Same.free {H H' : Hp} (e : Same H H') {l : Addr} (h : H' l = Option.none) : H l = Option.none := by
  cases q : H l with
  | none => rfl
  | some o =>
    rw [e l o q] at h
    cases h
theorem Same.seq {K : PySem.W.Frag} {H H' : Hp} {a : Addr} {xs : List V} (e : Same H H') (h : SqL K H a xs) : SqL K H' a xs := by
  rcases h with (h | ⟨o, h⟩) | h
  · exact .inl (.inl (e _ _ h))
  · exact .inl (.inr ⟨o, e _ _ h⟩)
  · exact .inr h

end L2

namespace Fx
open PySem

/-! ### data without addresses; what a name holds; how a piece of code ends -/
inductive Sl where
  | emp | val (t : PyData) | own (xs : List PyData)
inductive Res (α : Type) where
  | ok (a : α) | exc (c : Str) | stuck
def Res.bind {α β : Type} (r : Res α) (f : α → Res β) : Res β :=
  match r with
  | .ok a => f a
  | .exc c => .exc c
  | .stuck => .stuck
@[simp] theorem Res.bind_ok {α β : Type} (a : α) (f : α → Res β) : Res.bind (.ok a) f = f a := rfl
@[simp] theorem Res.bind_exc {α β : Type} (c : Str) (f : α → Res β) : Res.bind (.exc c) f = .exc c := rfl
@[simp] theorem Res.bind_stuck {α β : Type} (f : α → Res β) : Res.bind .stuck f = .stuck := rfl
abbrev DE := List Sl → Res PyData
abbrev DT := List Sl → Res Bool
abbrev DA := List Sl → Res (List PyData)
inductive Out where
  | nx (G : List Sl) | rt (t : PyData) | bk (G : List Sl) | ct (G : List Sl)
abbrev DS := List Sl → Res Out
abbrev DF := List PyData → Res PyData

@[simp] def frz1 (G : List Sl) (i : Nat) : List Sl :=
  match G[i]? with
  | some (.own xs) => G.set i (.val (.list xs))
  | _ => G
@[simp] def frz (is : List Nat) (G : List Sl) : List Sl := is.foldl frz1 G
@[simp] def frzA : List Sl → List Sl
  | [] => []
  | .own xs :: r => .val (.list xs) :: frzA r
  | .emp :: r => .emp :: frzA r
  | .val t :: r => .val t :: frzA r
@[simp] def frzS : Sl → Sl
  | .own xs => .val (.list xs)
  | .emp => .emp
  | .val t => .val t
@[simp] theorem frzA_cons (s : Sl) (G : List Sl) : frzA (s :: G) = frzS s :: frzA G := by cases s <;> simp
mutual
/-- a datum with no list in it -/
def scalT : PyData → Bool
  | .none | .bool _ | .int _ | .str _ => true
  | .tuple xs => scalAll xs
  | .list _ => false
  | .dict _ => false
def scalAll : List PyData → Bool
  | [] => true
  | x :: xs => scalT x && scalAll xs
end
@[simp] theorem scalT_none : scalT .none = true := by simp [scalT]
@[simp] theorem scalT_bool (b : Bool) : scalT (.bool b) = true := by simp [scalT]
@[simp] theorem scalT_int (b : Int) : scalT (.int b) = true := by simp [scalT]
@[simp] theorem scalT_str (b : Str) : scalT (.str b) = true := by simp [scalT]
@[simp] theorem scalT_tuple (xs : List PyData) : scalT (.tuple xs) = scalAll xs := by simp [scalT]
@[simp] theorem scalT_dict (xs : List (PyData × PyData)) : scalT (.dict xs) = false := by simp [scalT]
@[simp] theorem scalT_list (xs : List PyData) : scalT (.list xs) = false := by simp [scalT]
@[simp] theorem scalAll_nil : scalAll [] = true := by simp [scalAll]
@[simp] theorem scalAll_cons (x : PyData) (xs : List PyData) : scalAll (x :: xs) = (scalT x && scalAll xs) := by simp [scalAll]

/-! ### expressions -/
@[simp] def dC (t : PyData) : DE := fun _ => .ok t
@[simp] def dVar (i : Nat) : DE := fun G => match G[i]? with
  | some (.val t) => .ok t
  | _ => .stuck
@[simp] def d1 (f : PyData → Res PyData) (a : DE) : DE := fun G => (a G).bind f
@[simp] def d2 (f : PyData → PyData → Res PyData) (a b : DE) : DE := fun G => (a G).bind fun x => (b G).bind fun y => f x y
@[simp] def dNil : DA := fun _ => .ok []
@[simp] def dCons (a : DE) (r : DA) : DA := fun G => (a G).bind fun x => (r G).bind fun xs => .ok (x :: xs)
@[simp] def lenOk (xs : List PyData) : Bool := decide (xs.length ≤ 16777216)
@[simp] def dTup (a : DA) : DE := fun G => (a G).bind fun xs => if lenOk xs then .ok (.tuple xs) else .stuck
@[simp] def dLst (a : DA) : DE := fun G => (a G).bind fun xs => if lenOk xs then .ok (.list xs) else .stuck
@[simp] def dCall (f : DF) (a : DA) : DE := fun G => (a G).bind f
@[simp] def dIfE (c : DT) (a b : DE) : DE := fun G => (c G).bind fun k => if k then a G else b G
@[simp] def dAndV (a b : DE) : DE := fun G => (a G).bind fun x => match x with
  | .bool k => if k then b G else .ok (.bool false)
  | _ => .stuck
@[simp] def dOrV (a b : DE) : DE := fun G => (a G).bind fun x => match x with
  | .bool k => if k then .ok (.bool true) else b G
  | _ => .stuck
@[simp] def dNotV (a : DE) : DE := fun G => (a G).bind fun x => match x with
  | .bool k => .ok (.bool (!k))
  | _ => .stuck

def mulOk (i j : Int) : Bool := decide (i.natAbs.log2 + j.natAbs.log2 + 2 ≤ 134217728) || decide (i.natAbs < 18446744073709551616) || decide (j.natAbs < 18446744073709551616)
def divOk (j : Int) : Bool := decide (j ≠ 0) && decide (j.natAbs.log2 < 9000)
@[simp] def fAdd : PyData → PyData → Res PyData
  | .int i, .int j => .ok (.int (i + j))
  | .list xs, .list ys => if xs.length + ys.length ≤ 16777216 then .ok (.list (xs ++ ys)) else .stuck
  | _, _ => .stuck
@[simp] def fSub : PyData → PyData → Res PyData
  | .int i, .int j => .ok (.int (i - j))
  | _, _ => .stuck
@[simp] def fMul : PyData → PyData → Res PyData
  | .int i, .int j => if mulOk i j then .ok (.int (i * j)) else .stuck
  | _, _ => .stuck
@[simp] def fDiv : PyData → PyData → Res PyData
  | .int i, .int j => if divOk j then .ok (.int (i.fdiv j)) else .stuck
  | _, _ => .stuck
@[simp] def fMod : PyData → PyData → Res PyData
  | .int i, .int j => if j = 0 then .stuck else .ok (.int (i.fmod j))
  | _, _ => .stuck
@[simp] def fPow : PyData → PyData → Res PyData
  | .int i, .int j => if 0 ≤ j ∧ j ≤ 1000000 ∧ i.natAbs < 2 ^ 64 then .ok (.int (i ^ j.toNat)) else .stuck
  | _, _ => .stuck
@[simp] def fNeg : PyData → Res PyData
  | .int i => .ok (.int (-i))
  | _ => .stuck
@[simp] def fLt : PyData → PyData → Res PyData
  | .int i, .int j => .ok (.bool (decide (i < j)))
  | _, _ => .stuck
@[simp] def fLe : PyData → PyData → Res PyData
  | .int i, .int j => .ok (.bool (decide (i ≤ j)))
  | _, _ => .stuck
@[simp] def fGt : PyData → PyData → Res PyData
  | .int i, .int j => .ok (.bool (decide (j < i)))
  | _, _ => .stuck
@[simp] def fGe : PyData → PyData → Res PyData
  | .int i, .int j => .ok (.bool (decide (j ≤ i)))
  | _, _ => .stuck
def shapedD (d : PyData) : Bool := d.canLay0 && decide (d.depth ≤ 64)
def fEq : PyData → PyData → Res PyData
  | .int i, .int j => .ok (.bool (decide (i = j)))
  | x, y => if shapedD x && shapedD y then .ok (.bool (x.eqv y)) else .stuck
def fNe : PyData → PyData → Res PyData
  | .int i, .int j => .ok (.bool (!decide (i = j)))
  | x, y => if shapedD x && shapedD y then .ok (.bool (!x.eqv y)) else .stuck
@[simp] def fIsN : PyData → Res PyData
  | .none => .ok (.bool true)
  | _ => .ok (.bool false)
@[simp] def fNotN : PyData → Res PyData
  | .none => .ok (.bool false)
  | _ => .ok (.bool true)
@[simp] def fLen : PyData → Res PyData
  | .list xs => .ok (.int xs.length)
  | .tuple xs => .ok (.int xs.length)
  | _ => .stuck
@[simp] def fAbs : PyData → Res PyData
  | .int i => .ok (.int (if i < 0 then -i else i))
  | _ => .stuck
/-- the place that an index of any sign means -/
def ixP (n : Nat) (i : Int) : Option Nat := if 0 ≤ i then (if i < n then some i.toNat else none) else if -(n : Int) ≤ i then some (i + n).toNat else none
def atP (xs : List PyData) (i : Int) : Option PyData := (ixP xs.length i).bind fun j => xs[j]?
@[simp] def ofO {α : Type} : Option α → Res α
  | some a => .ok a
  | none => .stuck
@[simp] def fIx : PyData → PyData → Res PyData
  | .list xs, .int i => ofO (atP xs i)
  | .tuple xs, .int i => ofO (atP xs i)
  | _, _ => .stuck
@[simp] def isInt : PyData → Bool
  | .int _ => true
  | .bool _ => true
  | _ => false
@[simp] def isBool : PyData → Bool
  | .bool _ => true
  | _ => false
@[simp] def isTuple : PyData → Bool
  | .tuple _ => true
  | _ => false
@[simp] def isList : PyData → Bool
  | .list _ => true
  | _ => false
@[simp] def isStr : PyData → Bool
  | .str _ => true
  | _ => false
@[simp] def fIs (p : PyData → Bool) : PyData → Res PyData
  | .dict _ => .stuck
  | .none => .ok (.bool (p .none))
  | .bool b => .ok (.bool (p (.bool b)))
  | .int b => .ok (.bool (p (.int b)))
  | .str b => .ok (.bool (p (.str b)))
  | .list b => .ok (.bool (p (.list b)))
  | .tuple b => .ok (.bool (p (.tuple b)))
/-- isinstance(e, ValueError), e an exception -/
@[simp] def fIsX : PyData → Res PyData
  | .dict _ => .ok (.bool true)
  | _ => .stuck
@[simp] def fList : PyData → Res (List PyData)
  | .list xs => .ok xs
  | .tuple xs => .ok xs
  | _ => .stuck
@[simp] def fTuple : PyData → Res PyData
  | .list xs => .ok (.tuple xs)
  | .tuple xs => .ok (.tuple xs)
  | _ => .stuck
@[simp] def truth : PyData → Res Bool
  | .none => .ok false
  | .bool b => .ok b
  | .int i => .ok (i != 0)
  | .list xs => .ok (!xs.isEmpty)
  | .tuple xs => .ok (!xs.isEmpty)
  | _ => .stuck

/-! ### tests -/
@[simp] def tV (a : DE) : DT := fun G => (a G).bind truth
@[simp] def tAnd (a b : DT) : DT := fun G => (a G).bind fun k => if k then b G else .ok false
@[simp] def tOr (a b : DT) : DT := fun G => (a G).bind fun k => if k then .ok true else b G
@[simp] def tNot (a : DT) : DT := fun G => (a G).bind fun k => .ok (!k)

/-! ### statements -/
@[simp] def dSeq (a b : DS) : DS := fun G => (a G).bind fun o => match o with
  | .nx G' => b G'
  | .rt t => .ok (.rt t)
  | .bk G' => .ok (.bk G')
  | .ct G' => .ok (.ct G')
@[simp] def dPass : DS := fun G => .ok (.nx G)
@[simp] def dBrk : DS := fun G => .ok (.bk G)
@[simp] def dCnt : DS := fun G => .ok (.ct G)
@[simp] def dNev : DS := fun _ => .stuck
@[simp] def dRaise (c : Str) (a : DA) : DS := fun G => (a (frzA G)).bind fun _ => .exc c
def dSet (i : Nat) (is : List Nat) (e : DE) : DS := fun G => (e (frz is G)).bind fun t => .ok (.nx ((if scalT t then G else frz is G).set i (.val t)))
@[simp] theorem dSet_nil (i : Nat) (e : DE) (G : List Sl) : dSet i [] e G = (e G).bind fun t => .ok (.nx (G.set i (.val t))) := by
  unfold dSet
  show (e G).bind _ = _
  congr 1
  funext t
  show Res.ok (Out.nx ((if scalT t = true then G else G).set i (.val t))) = _
  rw [ite_self]
@[simp] theorem dSet_cons (i j : Nat) (is : List Nat) (e : DE) (G : List Sl) : dSet i (j :: is) e G = (e (frz (j :: is) G)).bind fun t => .ok (.nx ((if scalT t then G else frz (j :: is) G).set i (.val t))) := rfl
@[simp] def dSetO (i : Nat) (is : List Nat) (e : DA) : DS := fun G => (e (frz is G)).bind fun xs => if i < G.length then .ok (.nx ((frz is G).set i (.own xs))) else .stuck
@[simp] def dRet (e : DE) : DS := fun G => (e (frzA G)).bind fun t => .ok (.rt t)
@[simp] def dRetN : DS := fun _ => .ok (.rt .none)
@[simp] def dIf (c : DT) (a b : DS) : DS := fun G => (c (frzA G)).bind fun k => if k then a G else b G
@[simp] def dDrop (e : DE) : DS := fun G => (e (frzA G)).bind fun _ => .ok (.nx G)
@[simp] def appOwn (i : Nat) (G' : List Sl) (t : PyData) : Res Out :=
  match G'[i]? with
  | some (.own xs) => if xs.length < 16777216 then .ok (.nx (G'.set i (.own (xs ++ [t])))) else .stuck
  | _ => .stuck
@[simp] def isOwn (G : List Sl) (i : Nat) : Bool := match G[i]? with
  | some (.own _) => true
  | _ => false
def dApp (i : Nat) (is : List Nat) (e : DE) : DS := fun G => if isOwn G i then (e (frz is G)).bind fun t => appOwn i (if scalT t then G else frz is G) t else .stuck
@[simp] theorem dApp_nil (i : Nat) (e : DE) (G : List Sl) : dApp i [] e G = if isOwn G i then (e G).bind fun t => appOwn i G t else .stuck := by
  unfold dApp
  congr 1
  show (e G).bind _ = _
  congr 1
  funext t
  show appOwn i (if scalT t = true then G else G) t = _
  rw [ite_self]
@[simp] theorem dApp_cons (i j : Nat) (is : List Nat) (e : DE) (G : List Sl) : dApp i (j :: is) e G = if isOwn G i then (e (frz (j :: is) G)).bind fun t => appOwn i (if scalT t then G else frz (j :: is) G) t else .stuck := rfl
def forL (st : PyData → List Sl → Res (List Sl)) (b : DS) : List PyData → List Sl → Res Out
  | [], G => .ok (.nx G)
  | t :: ts, G => (st t G).bind fun G1 => (b G1).bind fun o => match o with
    | .nx G' => forL st b ts G'
    | .ct G' => forL st b ts G'
    | .bk G' => .ok (.nx G')
    | .rt t => .ok (.rt t)
@[simp] def dFor (st : PyData → List Sl → Res (List Sl)) (is : List Nat) (it : DA) (b : DS) : DS := fun G => (it (frz is G)).bind fun ts => forL st b ts (frz is G)
@[simp] def sName (i : Nat) : PyData → List Sl → Res (List Sl) := fun t G => .ok (G.set i (.val t))
def whileN (c : DT) (b : DS) : Nat → List Sl → Res Out
  | 0, _ => .stuck
  | n + 1, G => (c (frzA G)).bind fun k => if k then (b G).bind fun o => match o with
      | .nx G' => whileN c b n G'
      | .ct G' => whileN c b n G'
      | .bk G' => .ok (.nx G')
      | .rt t => .ok (.rt t)
    else .ok (.nx G)
@[simp] def dWhile (fuel : List Sl → Nat) (c : DT) (b : DS) : DS := fun G => whileN c b (fuel G) G
@[simp] def noX {α : Type} : Res α → Res α
  | .ok a => .ok a
  | _ => .stuck
/-- try: a call (and what is done with its answer), one handler -/
@[simp] def dTry (b : DS) (sub : Str → Bool) (h : DS) : DS := fun G => match b G with
  | .exc c => if sub c then noX (h G) else .stuck
  | .ok o => .ok o
  | .stuck => .stuck
/-- a call whose arguments raise nothing -/
@[simp] def dCallN (f : DF) (a : DA) : DE := fun G => (noX (a G)).bind f
/-- .. the exception gets the name i -/
@[simp] def dTryA (i : Nat) (b : DS) (sub : Str → Bool) (h : DS) : DS := fun G => match b G with
  | .exc c => if sub c then (noX (h (G.set i (.val (.dict []))))).bind fun o => match o with
    | .nx G' => .ok (.nx (G'.set i .emp))
    | .rt t => .ok (.rt t)
    | _ => .stuck
    else .stuck
  | .ok o => .ok o
  | .stuck => .stuck
/-- int(b) -/
@[simp] def fInt : PyData → Res PyData
  | .int i => .ok (.int i)
  | .bool b => .ok (.int (if b then 1 else 0))
  | _ => .stuck
/-- a def: its number of names, of parameters, its body -/
def runF (n np : Nat) (b : DS) : DF := fun ts => if ts.length = np then (b (ts.map .val ++ List.replicate (n - np) .emp)).bind fun o => match o with
    | .rt t => .ok t
    | .nx _ => .ok .none
    | _ => .stuck
  else .stuck
/-- the same where no error is to leave it -/
theorem noX_cases {α : Type} (r : Res α) : (∃ a, noX r = .ok a) ∨ noX r = .stuck := by
  cases r
  · exact .inl ⟨_, rfl⟩
  · exact .inr rfl
  · exact .inr rfl
theorem noX_ok {α : Type} {r : Res α} {a : α} (h : noX r = .ok a) : r = .ok a := by
  cases r <;> simp at h
  rw [h]
def runQ (n np : Nat) (b : DS) : DF := fun ts => noX (runF n np b ts)
theorem runQ_nox (n np : Nat) (b : DS) (ts : List PyData) (c : Str) : runQ n np b ts ≠ .exc c := by
  unfold runQ
  cases runF n np b ts <;> simp
/-- the ints 0 .. n - 1 -/
def rngT (lo : Int) (n : Nat) : List PyData := (List.range n).map fun (k : Nat) => .int (lo + (k : Int))
def rngOk (j : Int) : Bool := decide (j.natAbs ≤ 1000000000000)
theorem rngOk_nat {n : Nat} (h : n ≤ 1000000000) : rngOk (n : Int) = true := by
  unfold rngOk
  exact decide_eq_true (by omega)
theorem rngOk_ok {j : Int} (h : rngOk j = true) : -(2 ^ 62) ≤ j ∧ j < 2 ^ 62 := by
  have h' : j.natAbs ≤ 1000000000000 := of_decide_eq_true h
  omega
@[simp] def iRng (a : DE) : DA := fun G => (a G).bind fun x => match x with
  | .int j => if rngOk j = true then .ok (rngT 0 j.toNat) else .stuck
  | _ => .stuck
@[simp] def iRng2 (a b : DE) : DA := fun G => (a G).bind fun x => (b G).bind fun y => match x, y with
  | .int i, .int j => if rngOk i = true ∧ rngOk j = true then .ok (rngT i (j - i).toNat) else .stuck
  | _, _ => .stuck
@[simp] def iLst (a : DE) : DA := fun G => (a G).bind fun x => match x with
  | .list xs => .ok xs
  | _ => .stuck
@[simp] def iTup (a : DE) : DA := fun G => (a G).bind fun x => match x with
  | .tuple xs => .ok xs
  | _ => .stuck
theorem fLt_b : ∀ x y, (∃ k, fLt x y = .ok (.bool k)) ∨ fLt x y = .stuck := by intro x y; cases x <;> cases y <;> simp
theorem fLe_b : ∀ x y, (∃ k, fLe x y = .ok (.bool k)) ∨ fLe x y = .stuck := by intro x y; cases x <;> cases y <;> simp
theorem fGt_b : ∀ x y, (∃ k, fGt x y = .ok (.bool k)) ∨ fGt x y = .stuck := by intro x y; cases x <;> cases y <;> simp
theorem fGe_b : ∀ x y, (∃ k, fGe x y = .ok (.bool k)) ∨ fGe x y = .stuck := by intro x y; cases x <;> cases y <;> simp
theorem fEq_b : ∀ x y, (∃ k, fEq x y = .ok (.bool k)) ∨ fEq x y = .stuck := by
  intro x y
  unfold fEq
  split
  · exact .inl ⟨_, rfl⟩
  · split
    · exact .inl ⟨_, rfl⟩
    · exact .inr rfl
theorem fNe_b : ∀ x y, (∃ k, fNe x y = .ok (.bool k)) ∨ fNe x y = .stuck := by
  intro x y
  unfold fNe
  split
  · exact .inl ⟨_, rfl⟩
  · split
    · exact .inl ⟨_, rfl⟩
    · exact .inr rfl
/-! ### loops over data, comprehensions, lists of one's own -/
@[simp] def iSeq (a : DE) : DA := fun G => (a G).bind fun x => match x with
  | .list xs => .ok xs
  | .tuple xs => .ok xs
  | _ => .stuck
/-- (i, x) for the items in order -/
def enumT : Nat → List PyData → List PyData
  | _, [] => []
  | n, x :: r => .tuple [.int n, x] :: enumT (n + 1) r
def zipT : List PyData → List PyData → List PyData
  | x :: xs, y :: ys => .tuple [x, y] :: zipT xs ys
  | _, _ => []
@[simp] def iEnum (a : DA) : DA := fun G => (a G).bind fun xs => .ok (enumT 0 xs)
@[simp] def iZip (a b : DA) : DA := fun G => (a G).bind fun xs => (b G).bind fun ys => .ok (zipT xs ys)
@[simp] def sTup2 (i j : Nat) : PyData → List Sl → Res (List Sl)
  | .tuple [x, y], G => .ok ((G.set i (.val x)).set j (.val y))
  | _, _ => .stuck
@[simp] def capS (cap : List Nat) (G : List Sl) : List Sl := cap.map fun i => match (G[i]? : Option Sl) with
  | some (.val t) => .val t
  | _ => .emp
def compL (st : PyData → List Sl → Res (List Sl)) (c : DT) (e : DE) (C : List Sl) : List PyData → Res (List PyData)
  | [] => .ok []
  | t :: ts => (noX (st t C)).bind fun G1 => (c G1).bind fun k => if k then (e G1).bind fun y => (compL st c e C ts).bind fun ys => .ok (y :: ys) else compL st c e C ts
@[simp] def dComp (nv : Nat) (cap : List Nat) (st : PyData → List Sl → Res (List Sl)) (it : DA) (c : DT) (e : DE) : DA := fun G => (it G).bind fun ts => if ts.length ≤ 16777216 then compL st c e (List.replicate nv .emp ++ capS cap G) ts else .stuck
@[simp] def tT : DT := fun _ => .ok true
/-- x[k], len(x), x a name whose own list is not handed on thereby -/
@[simp] def dIxN (i : Nat) (k : DE) : DE := fun G => match G[i]? with
  | some (.own xs) => (k G).bind fun y => fIx (.list xs) y
  | some (.val t) => (k G).bind fun y => fIx t y
  | _ => .stuck
@[simp] def dLenN (i : Nat) : DE := fun G => match G[i]? with
  | some (.own xs) => .ok (.int xs.length)
  | some (.val t) => fLen t
  | _ => .stuck
/-- the place that a slice's part means -/
def sIxT (n d : Nat) : Option Int → Nat
  | none => d
  | some i => if i < 0 then (i + n).toNat else min i.toNat n
def cutT (xs : List PyData) (lo hi : Option Int) : List PyData := (xs.drop (sIxT xs.length 0 lo)).take (sIxT xs.length xs.length hi - sIxT xs.length 0 lo)
abbrev DP := List Sl → Res (Option Int)
@[simp] def pNo : DP := fun _ => .ok none
@[simp] def pAt (a : DE) : DP := fun G => (a G).bind fun x => match x with
  | .int i => .ok (some i)
  | _ => .stuck
/-- x[a:b] of a list, a new list -/
@[simp] def oCut (a : DE) (lo hi : DP) : DA := fun G => (a G).bind fun x => (lo G).bind fun l => (hi G).bind fun h => match x with
  | .list xs => .ok (cutT xs l h)
  | _ => .stuck
@[simp] def subs (l : List Str) (c : Str) : Bool := l.contains c
/-- a new list as a datum -/
@[simp] def dL (a : DA) : DE := fun G => (a G).bind fun xs => .ok (.list xs)
@[simp] def oLst (a : DA) : DA := fun G => (a G).bind fun xs => if lenOk xs then .ok xs else .stuck
@[simp] def oList (a : DE) : DA := fun G => (a G).bind fList
@[simp] def oCat (a b : DE) : DA := fun G => (a G).bind fun x => (b G).bind fun y => match x, y with
  | .list xs, .list ys => if xs.length + ys.length ≤ 16777216 then .ok (xs ++ ys) else .stuck
  | _, _ => .stuck
def allT : List PyData → Res Bool
  | [] => .ok true
  | .bool k :: r => (allT r).bind fun m => .ok (k && m)
  | _ => .stuck
theorem allT_ok : ∀ {xs : List PyData} {k : Bool}, allT xs = .ok k → ∃ bs : List Bool, xs = bs.map .bool ∧ k = bs.all id
  | [], k, h => by simp [allT] at h; exact ⟨[], rfl, by simp [← h]⟩
  | x :: r, k, h => by
    cases x with
    | bool b =>
      simp only [allT] at h
      cases e : allT r with
      | ok m =>
        rw [e] at h
        simp at h
        obtain ⟨bs, h1, h2⟩ := allT_ok e
        exact ⟨b :: bs, by simp [h1], by simp [← h, h2]⟩
      | exc c => rw [e] at h; cases h
      | stuck => rw [e] at h; cases h
    | none => simp [allT] at h
    | int _ => simp [allT] at h
    | str _ => simp [allT] at h
    | list _ => simp [allT] at h
    | tuple _ => simp [allT] at h
    | dict _ => simp [allT] at h
theorem allT_nox : ∀ (xs : List PyData) (c : Str), allT xs ≠ .exc c
  | [], c => by simp [allT]
  | x :: r, c => by
    cases x with
    | bool b =>
      simp only [allT]
      cases e : allT r with
      | ok m => simp
      | exc c' => exact absurd e (allT_nox r c')
      | stuck => simp
    | none => simp [allT]
    | int _ => simp [allT]
    | str _ => simp [allT]
    | list _ => simp [allT]
    | tuple _ => simp [allT]
    | dict _ => simp [allT]
@[simp] def fAll : PyData → Res PyData
  | .list xs => (allT xs).bind fun k => .ok (.bool k)
  | _ => .stuck
@[simp] def setOwn (i : Nat) (G' : List Sl) (t kt : PyData) : Res Out :=
  match G'[i]?, kt with
  | some (.own xs), .int j => match ixP xs.length j with
    | some m => .ok (.nx (G'.set i (.own (xs.set m t))))
    | none => .stuck
  | _, _ => .stuck
/-- x[k] = e: e is read first; the list itself may be read in e -/
def dSetIt (i : Nat) (is : List Nat) (k e : DE) : DS := fun G => (e (frz is G)).bind fun t => if isOwn (if scalT t then G else frz is G) i then (k (frz is G)).bind fun kt => setOwn i (if scalT t then G else frz is G) t kt else .stuck
@[simp] theorem dSetIt_nil (i : Nat) (k e : DE) (G : List Sl) : dSetIt i [] k e G = (e G).bind fun t => if isOwn G i then (k G).bind fun kt => setOwn i G t kt else .stuck := by
  unfold dSetIt
  show (e G).bind _ = _
  congr 1
  funext t
  show (if isOwn (if scalT t = true then G else G) i = true then (k G).bind fun kt => setOwn i (if scalT t = true then G else G) t kt else .stuck) = _
  rw [ite_self]
@[simp] theorem dSetIt_cons (i j : Nat) (is : List Nat) (k e : DE) (G : List Sl) : dSetIt i (j :: is) k e G = (e (frz (j :: is) G)).bind fun t => if isOwn (if scalT t then G else frz (j :: is) G) i then (k (frz (j :: is) G)).bind fun kt => setOwn i (if scalT t then G else frz (j :: is) G) t kt else .stuck := rfl
theorem sName_nox {i : Nat} : ∀ t G c, sName i t G ≠ .exc c := by intro t G c; simp
theorem sTup2_nox {i j : Nat} : ∀ t G c, sTup2 i j t G ≠ .exc c := by
  intro t G c
  unfold sTup2
  split <;> simp
/-- a target touches the first nv names alone -/
def KeepS (nv : Nat) (st : PyData → List Sl → Res (List Sl)) : Prop := ∀ t G G1, st t G = .ok G1 → G1.length = G.length ∧ ∀ i, nv ≤ i → G1[i]? = G[i]?
theorem keep_name {nv i : Nat} (h : i < nv) : KeepS nv (sName i) := by
  intro t G G1 e
  simp at e
  subst e
  refine ⟨by simp, fun j hj => ?_⟩
  rw [List.getElem?_set_ne (by omega)]
theorem keep_pair {nv i j : Nat} (h : i < nv) (h2 : j < nv) : KeepS nv (sTup2 i j) := by
  intro t G G1 e
  unfold sTup2 at e
  split at e
  · cases e
    refine ⟨by simp, fun k hk => ?_⟩
    rw [List.getElem?_set_ne (by omega), List.getElem?_set_ne (by omega)]
  · cases e
end Fx

namespace Fx
open PySem
/-! ### sizes -/
theorem log2_le {x m : Nat} (h : x < 2 ^ m) : x.log2 ≤ m := by
  by_cases hx : x = 0
  · subst hx; simp
  · exact Nat.le_of_lt ((Nat.log2_lt hx).mpr h)
theorem mulOk_of {i j : Int} {m n : Nat} (hi : i.natAbs < 2 ^ m) (hj : j.natAbs < 2 ^ n) (h : m + n + 2 ≤ 134217728) : mulOk i j = true := by
  have h1 := log2_le hi
  have h2 := log2_le hj
  simp only [mulOk, Bool.or_eq_true, decide_eq_true_eq]
  omega
theorem mulOk_r {i j : Int} (hj : j.natAbs < 18446744073709551616) : mulOk i j = true := by
  simp only [mulOk, Bool.or_eq_true, decide_eq_true_eq]
  exact .inr hj
theorem mulOk_l {i j : Int} (hi : i.natAbs < 18446744073709551616) : mulOk i j = true := by
  simp only [mulOk, Bool.or_eq_true, decide_eq_true_eq]
  exact .inl (.inr hi)
theorem divOk_of {j : Int} {m : Nat} (h0 : j ≠ 0) (hj : j.natAbs < 2 ^ m) (h : m < 9000) : divOk j = true := by
  have h2 := log2_le hj
  simp only [divOk, Bool.and_eq_true, decide_eq_true_eq]
  exact ⟨h0, by omega⟩
theorem natAbs_mul_lt {i j : Int} {m n : Nat} (hi : i.natAbs < 2 ^ m) (hj : j.natAbs < 2 ^ n) : (i * j).natAbs < 2 ^ (m + n) := by
  rw [Int.natAbs_mul, Nat.pow_add]
  exact Nat.mul_lt_mul'' hi hj
theorem natAbs_add_lt {i j : Int} {m : Nat} (hi : i.natAbs < 2 ^ m) (hj : j.natAbs < 2 ^ m) : (i + j).natAbs < 2 ^ (m + 1) := by
  have := Int.natAbs_add_le i j
  rw [Nat.pow_succ]; omega
theorem natAbs_sub_lt {i j : Int} {m : Nat} (hi : i.natAbs < 2 ^ m) (hj : j.natAbs < 2 ^ m) : (i - j).natAbs < 2 ^ (m + 1) := by
  have := Int.natAbs_sub_le i j
  rw [Nat.pow_succ]; omega
theorem pow_le {m n : Nat} (h : m ≤ n) : 2 ^ m ≤ 2 ^ n := Nat.pow_le_pow_right (by decide) h

/-! ### fractions -/
def fr (q : Rat) : PyData := .tuple [.int q.num, .int (q.den : Int)]
@[simp] theorem scalT_fr (q : Rat) : scalT (fr q) = true := by simp [fr]
structure Sz (n : Nat) (q : Rat) : Prop where
  num : q.num.natAbs < 2 ^ n
  den : q.den < 2 ^ n
theorem Sz.mono {m n : Nat} {q : Rat} (h : Sz m q) (l : m ≤ n) : Sz n q := ⟨Nat.lt_of_lt_of_le h.num (pow_le l), Nat.lt_of_lt_of_le h.den (pow_le l)⟩
theorem Sz.denI {n : Nat} {q : Rat} (h : Sz n q) : ((q.den : Int)).natAbs < 2 ^ n := by rw [Int.natAbs_natCast]; exact h.den
theorem den_ne (q : Rat) : (q.den : Int) ≠ 0 := by have := q.den_nz; omega
theorem divInt_sz {u l : Int} {n : Nat} (hl : l ≠ 0) (h1 : u.natAbs < 2 ^ n) (h2 : l.natAbs < 2 ^ n) : Sz n (Rat.divInt u l) := by
  constructor
  · rw [Rat.num_divInt]
    refine Nat.lt_of_le_of_lt ?_ h1
    have e : (l.sign * u / (l.gcd u : Int)).natAbs ≤ (l.sign * u).natAbs := Int.natAbs_ediv_le_natAbs _ _
    refine Nat.le_trans e ?_
    rw [Int.natAbs_mul, Int.natAbs_sign_of_ne_zero hl, Nat.one_mul]
    exact Nat.le_refl _
  · rw [Rat.den_divInt, if_neg hl]
    exact Nat.lt_of_le_of_lt (Nat.div_le_self _ _) h2
theorem divInt_mul {u l : Int} (hl : l ≠ 0) {q : Rat} (e : q = Rat.divInt u l) : q.num * l = u * q.den := by
  have h : Rat.divInt q.num q.den = Rat.divInt u l := by rw [Rat.num_divInt_den]; exact e
  exact (Rat.divInt_eq_divInt_iff (den_ne q) hl).mp h
theorem gcd_num_den (q : Rat) : Int.gcd q.num q.den = 1 := q.reduced

/-! ### the greatest common divisor's loop -/
def uGcd : List Sl → Nat := fun G => match (G[1]? : Option Sl) with
  | some (.val (.int b)) => b.natAbs + 1
  | _ => 0
def gcdC : DT := tV (d2 fNe (dVar 1) (dC (.int 0)))
def gcdB : DS := dSeq (dSet 2 [] (d2 fMod (dVar 0) (dVar 1))) (dSeq (dSet 0 [] (dVar 1)) (dSet 1 [] (dVar 2)))
theorem gcd_step {a b : Int} (ha : 0 ≤ a) (hb : 0 ≤ b) : Int.gcd b (a % b) = Int.gcd a b := by
  obtain ⟨m, rfl⟩ := Int.eq_ofNat_of_zero_le ha
  obtain ⟨n, rfl⟩ := Int.eq_ofNat_of_zero_le hb
  rw [← Int.natCast_emod, Int.gcd_natCast_natCast, Int.gcd_natCast_natCast, Nat.gcd_comm n, ← Nat.gcd_rec, Nat.gcd_comm]
theorem gcd_loop : ∀ (n : Nat) (a b : Int) (s : Sl), 0 ≤ a → 0 ≤ b → b.natAbs < n →
    ∃ s', whileN gcdC gcdB n [.val (.int a), .val (.int b), s] = .ok (.nx [.val (.int (Int.gcd a b)), .val (.int 0), s'])
  | 0, a, b, s, ha, hb, h => by omega
  | n + 1, a, b, s, ha, hb, h => by
    unfold whileN
    by_cases hz : b = 0
    · subst hz
      refine ⟨s, ?_⟩
      simp [gcdC, fNe, Int.natAbs_of_nonneg ha]
    · have hf : Int.fmod a b = a % b := Int.fmod_eq_emod_of_nonneg a hb
      have h1 : 0 ≤ a % b := Int.emod_nonneg a hz
      have h2 : a % b < b := Int.emod_lt_of_pos a (by omega)
      obtain ⟨s', e⟩ := gcd_loop n b (a % b) (.val (.int (a % b))) hb h1 (by omega)
      refine ⟨s', ?_⟩
      rw [gcd_step ha hb] at e
      simpa [gcdC, gcdB, fNe, hz, hf] using e
def dGcd : DS := dSeq (dSet 0 [] (d1 fAbs (dVar 0))) (dSeq (dSet 1 [] (d1 fAbs (dVar 1))) (dSeq (dWhile uGcd gcdC gcdB) (dRet (dVar 0))))
theorem abs_if (a : Int) : (if a < 0 then -a else a) = (a.natAbs : Int) := by split <;> omega
theorem gcd_ok (a b : Int) : runF 3 2 dGcd [.int a, .int b] = .ok (.int (Int.gcd a b)) := by
  obtain ⟨s', e⟩ := gcd_loop (b.natAbs + 1) a.natAbs b.natAbs .emp (Int.natCast_nonneg _) (Int.natCast_nonneg _) (by simp)
  have g : Int.gcd (a.natAbs : Int) (b.natAbs : Int) = Int.gcd a b := by simp [Int.gcd]
  rw [g] at e
  simp [runF, dGcd, abs_if, uGcd, e]
end Fx

namespace Fx
open PySem
/-! ### loops by an invariant -/
/-- a loop that no return leaves -/
theorem forL_inv {st : PyData → List Sl → Res (List Sl)} {b : DS} (Inv : Nat → List Sl → Prop) : ∀ (ts : List PyData) (k : Nat) (G : List Sl), Inv k G →
    (∀ i t G, ts[i]? = some t → Inv (k + i) G → ∃ G1, st t G = .ok G1 ∧ ∃ G2, (b G1 = .ok (.nx G2) ∨ b G1 = .ok (.ct G2)) ∧ Inv (k + i + 1) G2) →
    ∃ G', forL st b ts G = .ok (.nx G') ∧ Inv (k + ts.length) G'
  | [], k, G, h0, _ => ⟨G, rfl, h0⟩
  | t :: ts, k, G, h0, hs => by
    obtain ⟨G1, e1, G2, e2, h2⟩ := hs 0 t G rfl h0
    obtain ⟨G', e3, h3⟩ := forL_inv Inv ts (k + 1) G2 h2 fun i t' G' ht hi => by
      have := hs (i + 1) t' G' (by simpa using ht) (by rw [← Nat.add_assoc, Nat.add_right_comm]; exact hi)
      simpa [Nat.add_assoc, Nat.add_comm, Nat.add_left_comm] using this
    refine ⟨G', ?_, by simpa [Nat.add_assoc, Nat.add_comm, Nat.add_left_comm] using h3⟩
    rw [forL, e1, Res.bind_ok]
    rcases e2 with e2 | e2 <;> rw [e2, Res.bind_ok] <;> exact e3
/-- the same with an early return: what is returned is told by R -/
theorem forL_ret {st : PyData → List Sl → Res (List Sl)} {b : DS} (Inv : Nat → List Sl → Prop) (R : PyData → Prop) : ∀ (ts : List PyData) (k : Nat) (G : List Sl), Inv k G →
    (∀ i t G, ts[i]? = some t → Inv (k + i) G → ∃ G1, st t G = .ok G1 ∧ ((∃ G2, (b G1 = .ok (.nx G2) ∨ b G1 = .ok (.ct G2)) ∧ Inv (k + i + 1) G2) ∨ ∃ r, b G1 = .ok (.rt r) ∧ R r)) →
    (∃ G', forL st b ts G = .ok (.nx G') ∧ Inv (k + ts.length) G') ∨ ∃ r, forL st b ts G = .ok (.rt r) ∧ R r
  | [], k, G, h0, _ => .inl ⟨G, rfl, h0⟩
  | t :: ts, k, G, h0, hs => by
    obtain ⟨G1, e1, h⟩ := hs 0 t G rfl h0
    rcases h with ⟨G2, e2, h2⟩ | ⟨r, e2, hr⟩
    · rcases forL_ret Inv R ts (k + 1) G2 h2 (fun i t' G' ht hi => by
        have := hs (i + 1) t' G' (by simpa using ht) (by rw [← Nat.add_assoc, Nat.add_right_comm]; exact hi)
        simpa [Nat.add_assoc, Nat.add_comm, Nat.add_left_comm] using this) with ⟨G', e3, h3⟩ | ⟨r, e3, hr⟩
      · refine .inl ⟨G', ?_, by simpa [Nat.add_assoc, Nat.add_comm, Nat.add_left_comm] using h3⟩
        rw [forL, e1, Res.bind_ok]
        rcases e2 with e2 | e2 <;> rw [e2, Res.bind_ok] <;> exact e3
      · refine .inr ⟨r, ?_, hr⟩
        rw [forL, e1, Res.bind_ok]
        rcases e2 with e2 | e2 <;> rw [e2, Res.bind_ok] <;> exact e3
    · refine .inr ⟨r, ?_, hr⟩
      rw [forL, e1, Res.bind_ok, e2, Res.bind_ok]
theorem rngT_len (lo : Int) (n : Nat) : (rngT lo n).length = n := by simp [rngT]
theorem rngT_at {lo : Int} {n i : Nat} {t : PyData} (h : (rngT lo n)[i]? = some t) : i < n ∧ t = .int (lo + (i : Int)) := by
  unfold rngT at h
  rw [List.getElem?_map] at h
  by_cases hi : i < n
  · rw [List.getElem?_eq_getElem (by simpa using hi)] at h
    simp at h
    exact ⟨hi, h.symm⟩
  · rw [List.getElem?_eq_none (by simpa using hi)] at h
    cases h
/-- over range(n) -/
theorem for_rng {st : PyData → List Sl → Res (List Sl)} {b : DS} {n : Nat} {G : List Sl} (Inv : Nat → List Sl → Prop) (h0 : Inv 0 G)
    (hs : ∀ i G, i < n → Inv i G → ∃ G1, st (.int (i : Int)) G = .ok G1 ∧ ∃ G2, (b G1 = .ok (.nx G2) ∨ b G1 = .ok (.ct G2)) ∧ Inv (i + 1) G2) :
    ∃ G', forL st b (rngT 0 n) G = .ok (.nx G') ∧ Inv n G' := by
  obtain ⟨G', e, h⟩ := forL_inv Inv (rngT 0 n) 0 G h0 fun i t G ht hi => by
    obtain ⟨hl, rfl⟩ := rngT_at ht
    simpa using hs i G hl (by simpa using hi)
  refine ⟨G', e, ?_⟩
  rw [rngT_len] at h
  simpa using h
theorem for_rng_ret {st : PyData → List Sl → Res (List Sl)} {b : DS} {n : Nat} {G : List Sl} (Inv : Nat → List Sl → Prop) (R : PyData → Prop) (h0 : Inv 0 G)
    (hs : ∀ i G, i < n → Inv i G → ∃ G1, st (.int (i : Int)) G = .ok G1 ∧ ((∃ G2, (b G1 = .ok (.nx G2) ∨ b G1 = .ok (.ct G2)) ∧ Inv (i + 1) G2) ∨ ∃ r, b G1 = .ok (.rt r) ∧ R r)) :
    (∃ G', forL st b (rngT 0 n) G = .ok (.nx G') ∧ Inv n G') ∨ ∃ r, forL st b (rngT 0 n) G = .ok (.rt r) ∧ R r := by
  rcases forL_ret Inv R (rngT 0 n) 0 G h0 (fun i t G ht hi => by
    obtain ⟨hl, rfl⟩ := rngT_at ht
    simpa using hs i G hl (by simpa using hi)) with ⟨G', e, h⟩ | h
  · refine .inl ⟨G', e, ?_⟩
    rw [rngT_len] at h
    simpa using h
  · exact .inr h
/-! ### comprehensions -/
theorem compL_map {st : PyData → List Sl → Res (List Sl)} {e : DE} {C : List Sl} (f : PyData → PyData) : ∀ (ts : List PyData), (∀ t ∈ ts, ∃ G1, st t C = .ok G1 ∧ e G1 = .ok (f t)) → compL st tT e C ts = .ok (ts.map f)
  | [], _ => rfl
  | t :: ts, h => by
    obtain ⟨G1, e1, e2⟩ := h t List.mem_cons_self
    have ih := compL_map f ts fun t' ht => h t' (List.mem_cons_of_mem _ ht)
    unfold compL
    simp [e1, e2, ih]
/-- the element's data by a list of anything -/
theorem compL_of {α : Type} {st : PyData → List Sl → Res (List Sl)} {e : DE} {C : List Sl} (inj f : α → PyData) : ∀ (xs : List α), (∀ x ∈ xs, ∃ G1, st (inj x) C = .ok G1 ∧ e G1 = .ok (f x)) → compL st tT e C (xs.map inj) = .ok (xs.map f)
  | [], _ => rfl
  | t :: ts, h => by
    obtain ⟨G1, e1, e2⟩ := h t List.mem_cons_self
    have ih := compL_of inj f ts fun t' ht => h t' (List.mem_cons_of_mem _ ht)
    rw [List.map_cons]
    unfold compL
    simp [e1, e2, ih]
theorem compL_filt {α : Type} {st : PyData → List Sl → Res (List Sl)} {c : DT} {e : DE} {C : List Sl} (inj f : α → PyData) (p : α → Bool) : ∀ (xs : List α), (∀ x ∈ xs, ∃ G1, st (inj x) C = .ok G1 ∧ c G1 = .ok (p x) ∧ (p x = true → e G1 = .ok (f x))) →
    compL st c e C (xs.map inj) = .ok ((xs.filter p).map f)
  | [], _ => rfl
  | t :: ts, h => by
    obtain ⟨G1, e1, e2, e3⟩ := h t List.mem_cons_self
    have ih := compL_filt inj f p ts fun t' ht => h t' (List.mem_cons_of_mem _ ht)
    rw [List.map_cons]
    unfold compL
    cases hp : p t with
    | false => simp [e1, e2, ih, hp]
    | true => simp [e1, e2, e3 hp, ih, hp]
theorem rngT_map (n : Nat) : rngT 0 n = (List.range n).map fun (k : Nat) => PyData.int (k : Int) := by simp [rngT]
/-! ### sizes of sums -/
theorem Sz.ofInt {n : Nat} {i : Int} (h : i.natAbs < 2 ^ n) (h1 : 0 < n) : Sz n (i : Rat) := ⟨by simpa using h, by
  have : 2 ^ 1 ≤ 2 ^ n := pow_le h1
  simp; omega⟩
theorem Sz.zero : Sz 1 0 := ⟨by decide, by decide⟩
theorem add_divInt (a b : Rat) : a + b = Rat.divInt (a.num * b.den + b.num * a.den) (a.den * b.den) := by
  have := Rat.divInt_add_divInt a.num b.num (den_ne a) (den_ne b)
  rw [Rat.num_divInt_den, Rat.num_divInt_den] at this
  exact this
theorem sub_divInt (a b : Rat) : a - b = Rat.divInt (a.num * b.den - b.num * a.den) (a.den * b.den) := by
  have := Rat.divInt_sub_divInt a.num b.num (den_ne a) (den_ne b)
  rw [Rat.num_divInt_den, Rat.num_divInt_den] at this
  exact this
theorem mul_divInt (a b : Rat) : a * b = Rat.divInt (a.num * b.num) (a.den * b.den) := by
  have := Rat.divInt_mul_divInt a.num b.num (d₁ := a.den) (d₂ := b.den)
  rw [Rat.num_divInt_den, Rat.num_divInt_den] at this
  exact this
theorem Sz.add {m n : Nat} {a b : Rat} (ha : Sz m a) (hb : Sz n b) : Sz (m + n + 1) (a + b) := by
  rw [add_divInt]
  have h1 := natAbs_mul_lt ha.num hb.denI
  have h2 := natAbs_mul_lt hb.num ha.denI
  rw [Nat.add_comm n m] at h2
  exact divInt_sz (Int.mul_ne_zero (den_ne a) (den_ne b)) (natAbs_add_lt h1 h2) (Nat.lt_of_lt_of_le (natAbs_mul_lt ha.denI hb.denI) (pow_le (Nat.le_succ _)))
theorem Sz.sub {m n : Nat} {a b : Rat} (ha : Sz m a) (hb : Sz n b) : Sz (m + n + 1) (a - b) := by
  rw [sub_divInt]
  have h1 := natAbs_mul_lt ha.num hb.denI
  have h2 := natAbs_mul_lt hb.num ha.denI
  rw [Nat.add_comm n m] at h2
  exact divInt_sz (Int.mul_ne_zero (den_ne a) (den_ne b)) (natAbs_sub_lt h1 h2) (Nat.lt_of_lt_of_le (natAbs_mul_lt ha.denI hb.denI) (pow_le (Nat.le_succ _)))
theorem Sz.mul {m n : Nat} {a b : Rat} (ha : Sz m a) (hb : Sz n b) : Sz (m + n) (a * b) := by
  rw [mul_divInt]
  exact divInt_sz (Int.mul_ne_zero (den_ne a) (den_ne b)) (natAbs_mul_lt ha.num hb.num) (natAbs_mul_lt ha.denI hb.denI)
theorem Sz.neg {m : Nat} {a : Rat} (ha : Sz m a) : Sz m (-a) := ⟨by simpa using ha.num, by simpa using ha.den⟩
/-! ### shapes -/
theorem canLay_map {α : Type} {f : α → PyData} : ∀ (xs : List α), (∀ x ∈ xs, (f x).canLay0 = true) → PyData.canLayAll0 (xs.map f) = true
  | [], _ => by simp [PyData.canLayAll0]
  | x :: xs, h => by simp [PyData.canLayAll0, h x List.mem_cons_self, canLay_map xs fun y hy => h y (List.mem_cons_of_mem _ hy)]
theorem depth_map {α : Type} {f : α → PyData} {n : Nat} : ∀ (xs : List α), (∀ x ∈ xs, (f x).depth ≤ n) → PyData.depthAll (xs.map f) ≤ n
  | [], _ => by simp [PyData.depthAll]
  | x :: xs, h => by
    have h1 := h x List.mem_cons_self
    have h2 := depth_map (f := f) (n := n) xs fun y hy => h y (List.mem_cons_of_mem _ hy)
    simp only [List.map_cons, PyData.depthAll]
    omega
/-- a datum that == takes, of at most n levels -/
def Shp (n : Nat) (t : PyData) : Prop := t.canLay0 = true ∧ t.depth ≤ n
theorem Shp.ok {n : Nat} {t : PyData} (h : Shp n t) (hn : n ≤ 64) : shapedD t = true := by
  simp [shapedD, h.1]; exact Nat.le_trans h.2 hn
theorem Shp.mono {m n : Nat} {t : PyData} (h : Shp m t) (l : m ≤ n) : Shp n t := ⟨h.1, Nat.le_trans h.2 l⟩
theorem shp_int (i : Int) : Shp 0 (.int i) := ⟨by simp [PyData.canLay0], by simp [PyData.depth]⟩
theorem shp_list {α : Type} {f : α → PyData} {n : Nat} {xs : List α} (h : ∀ x ∈ xs, Shp n (f x)) : Shp (n + 1) (.list (xs.map f)) := by
  refine ⟨by simp [PyData.canLay0, canLay_map xs fun x hx => (h x hx).1], ?_⟩
  have := depth_map (f := f) (n := n) xs fun x hx => (h x hx).2
  simp [PyData.depth]; omega
theorem shp_tuple {α : Type} {f : α → PyData} {n : Nat} {xs : List α} (h : ∀ x ∈ xs, Shp n (f x)) : Shp (n + 1) (.tuple (xs.map f)) := by
  refine ⟨by simp [PyData.canLay0, canLay_map xs fun x hx => (h x hx).1], ?_⟩
  have := depth_map (f := f) (n := n) xs fun x hx => (h x hx).2
  simp [PyData.depth]; omega
theorem shp_pair {n : Nat} {a b : PyData} (ha : Shp n a) (hb : Shp n b) : Shp (n + 1) (.tuple [a, b]) := by
  have := shp_tuple (f := id) (n := n) (xs := [a, b]) (by intro x hx; simp at hx; rcases hx with rfl | rfl <;> assumption)
  simpa using this
theorem shp_fr (q : Rat) : Shp 1 (fr q) := shp_pair (shp_int _) (shp_int _)
mutual
theorem eqv_refl : ∀ (t : PyData), t.canLay0 = true → t.eqv t = true
  | .none, _ => by simp [PyData.eqv]
  | .bool b, _ => by simp [PyData.eqv]
  | .int i, _ => by simp [PyData.eqv]
  | .str x, _ => by simp [PyData.eqv]
  | .list xs, h => by simp only [PyData.eqv]; exact eqvAll_refl xs (by simpa [PyData.canLay0] using h)
  | .tuple xs, h => by simp only [PyData.eqv]; exact eqvAll_refl xs (by simpa [PyData.canLay0] using h)
  | .dict _, h => by simp [PyData.canLay0] at h
theorem eqvAll_refl : ∀ (ts : List PyData), PyData.canLayAll0 ts = true → PyData.eqvAll ts ts = true
  | [], _ => by simp [PyData.eqvAll]
  | t :: ts, h => by
    simp only [PyData.canLayAll0, Bool.and_eq_true] at h
    simp [PyData.eqvAll, eqv_refl t h.1, eqvAll_refl ts h.2]
end
theorem fEq_refl {n : Nat} {t : PyData} (h : Shp n t) (hn : n ≤ 64) : fEq t t = .ok (.bool true) := by
  unfold fEq
  split
  · simp
  · simp [h.ok hn, eqv_refl t h.1]
theorem fNe_refl {n : Nat} {t : PyData} (h : Shp n t) (hn : n ≤ 64) : fNe t t = .ok (.bool false) := by
  unfold fNe
  split
  · simp
  · simp [h.ok hn, eqv_refl t h.1]
theorem eqv_fr (a b : Rat) : PyData.eqv (fr a) (fr b) = decide (a = b) := by
  have : (a = b) ↔ (a.num = b.num ∧ (a.den : Int) = b.den) := ⟨fun h => by subst h; exact ⟨rfl, rfl⟩, fun ⟨h1, h2⟩ => Rat.ext h1 (by exact_mod_cast h2)⟩
  by_cases h : a = b
  · subst h; rw [eqv_refl _ (shp_fr a).1]; simp
  · simp only [fr, PyData.eqv, PyData.eqvAll, Bool.and_true]
    rw [decide_eq_false h]
    have := fun z => h (this.mpr z)
    by_cases h1 : a.num = b.num
    · have h2 : (a.den : Int) ≠ b.den := fun z => this ⟨h1, z⟩
      simp [h1]; exact_mod_cast h2
    · simp [h1]
theorem fEq_fr (a b : Rat) : fEq (fr a) (fr b) = .ok (.bool (decide (a = b))) := by
  unfold fEq
  split
  · rename_i e1 e2; cases e1
  · simp [(shp_fr a).ok (by decide), (shp_fr b).ok (by decide), eqv_fr]
theorem fNe_fr (a b : Rat) : fNe (fr a) (fr b) = .ok (.bool (!decide (a = b))) := by
  unfold fNe
  split
  · rename_i e1 e2; cases e1
  · simp [(shp_fr a).ok (by decide), (shp_fr b).ok (by decide), eqv_fr]
end Fx

namespace Lw
open PySem Fx
abbrev u_common_divisor_1 : List Sl → Nat := uGcd
abbrev u_law_divisor_1 : List Sl → Nat := uGcd
def d_is_whole : DS :=
    (dRet (dAndV (d1 (fIs isInt) (dVar 0)) (dNotV (d1 (fIs isBool) (dVar 0)))))
def f_is_whole : DF := runQ 1 1 d_is_whole
def d_common_divisor_3 : DS :=
    (dRet (dVar 0))
def d_common_divisor_2 : DS :=
    dSeq (dWhile u_common_divisor_1 (tV (d2 fNe (dVar 1) (dC (.int 0))))
    (dSeq (dSet 2 [] (d2 fMod (dVar 0) (dVar 1)))
    (dSeq (dSet 0 [] (dVar 1))
    (dSet 1 [] (dVar 2)))))
    d_common_divisor_3
def d_common_divisor_1 : DS :=
    dSeq (dSet 1 [] (d1 fAbs (dVar 1)))
    d_common_divisor_2
def d_common_divisor : DS :=
    dSeq (dSet 0 [] (d1 fAbs (dVar 0)))
    d_common_divisor_1
def f_common_divisor : DF := runQ 3 2 d_common_divisor
def d_is_fraction_2 : DS :=
    (dRet (dAndV (d2 fGe (d2 fIx (dVar 0) (dC (.int 1))) (dC (.int 1))) (d2 fEq (dCall f_common_divisor (dCons (d2 fIx (dVar 0) (dC (.int 0))) (dCons (d2 fIx (dVar 0) (dC (.int 1))) dNil))) (dC (.int 1)))))
def d_is_fraction_1 : DS :=
    dSeq (dIf (tOr (tNot (tV (dCall f_is_whole (dCons (d2 fIx (dVar 0) (dC (.int 0))) dNil)))) (tNot (tV (dCall f_is_whole (dCons (d2 fIx (dVar 0) (dC (.int 1))) dNil)))))
    (dRet (dC (.bool false)))
    dPass)
    d_is_fraction_2
def d_is_fraction : DS :=
    dSeq (dIf (tOr (tNot (tV (d1 (fIs isTuple) (dVar 0)))) (tV (d2 fNe (d1 fLen (dVar 0)) (dC (.int 2)))))
    (dRet (dC (.bool false)))
    dPass)
    d_is_fraction_1
def f_is_fraction : DF := runQ 1 1 d_is_fraction
def d_frac_3 : DS :=
    (dRet (dTup (dCons (d2 fDiv (dVar 0) (dVar 2)) (dCons (d2 fDiv (dVar 1) (dVar 2)) dNil))))
def d_frac_2 : DS :=
    dSeq (dIf (tV (d2 fLt (dVar 1) (dC (.int 0))))
    (dSet 2 [] (d1 fNeg (dVar 2)))
    dPass)
    d_frac_3
def d_frac_1 : DS :=
    dSeq (dSet 2 [] (dCall f_common_divisor (dCons (dVar 0) (dCons (dVar 1) dNil))))
    d_frac_2
def d_frac : DS :=
    dSeq (dIf (tV (d2 fEq (dVar 1) (dC (.int 0))))
    dNev
    dPass)
    d_frac_1
def f_frac : DF := runQ 3 2 d_frac
def d_plus : DS :=
    (dRet (dCall f_frac (dCons (d2 fAdd (d2 fMul (d2 fIx (dVar 0) (dC (.int 0))) (d2 fIx (dVar 1) (dC (.int 1)))) (d2 fMul (d2 fIx (dVar 1) (dC (.int 0))) (d2 fIx (dVar 0) (dC (.int 1))))) (dCons (d2 fMul (d2 fIx (dVar 0) (dC (.int 1))) (d2 fIx (dVar 1) (dC (.int 1)))) dNil))))
def f_plus : DF := runQ 2 2 d_plus
def d_less : DS :=
    (dRet (dCall f_frac (dCons (d2 fSub (d2 fMul (d2 fIx (dVar 0) (dC (.int 0))) (d2 fIx (dVar 1) (dC (.int 1)))) (d2 fMul (d2 fIx (dVar 1) (dC (.int 0))) (d2 fIx (dVar 0) (dC (.int 1))))) (dCons (d2 fMul (d2 fIx (dVar 0) (dC (.int 1))) (d2 fIx (dVar 1) (dC (.int 1)))) dNil))))
def f_less : DF := runQ 2 2 d_less
def d_times : DS :=
    (dRet (dCall f_frac (dCons (d2 fMul (d2 fIx (dVar 0) (dC (.int 0))) (d2 fIx (dVar 1) (dC (.int 0)))) (dCons (d2 fMul (d2 fIx (dVar 0) (dC (.int 1))) (d2 fIx (dVar 1) (dC (.int 1)))) dNil))))
def f_times : DF := runQ 2 2 d_times
def d_over : DS :=
    (dRet (dCall f_frac (dCons (d2 fMul (d2 fIx (dVar 0) (dC (.int 0))) (d2 fIx (dVar 1) (dC (.int 1)))) (dCons (d2 fMul (d2 fIx (dVar 0) (dC (.int 1))) (d2 fIx (dVar 1) (dC (.int 0)))) dNil))))
def f_over : DF := runQ 2 2 d_over
def d_turned : DS :=
    (dRet (dTup (dCons (d1 fNeg (d2 fIx (dVar 0) (dC (.int 0)))) (dCons (d2 fIx (dVar 0) (dC (.int 1))) dNil))))
def f_turned : DF := runQ 1 1 d_turned
def d_below : DS :=
    (dRet (d2 fLt (d2 fMul (d2 fIx (dVar 0) (dC (.int 0))) (d2 fIx (dVar 1) (dC (.int 1)))) (d2 fMul (d2 fIx (dVar 1) (dC (.int 0))) (d2 fIx (dVar 0) (dC (.int 1))))))
def f_below : DF := runQ 2 2 d_below
def d_is_number : DS :=
    (dRet (dAndV (dCall f_is_whole (dCons (dVar 0) dNil)) (d2 fLe (d1 fAbs (dVar 0)) (dC (.int 999999999999)))))
def f_is_number : DF := runQ 1 1 d_is_number
def d_limit_of_6 : DS :=
    (dRet (dTup (dCons (d1 fTuple (dVar 2)) (dCons (dVar 3) dNil))))
def d_limit_of_5 : DS :=
    dSeq (dIf (tNot (tV (dCall f_is_number (dCons (dVar 3) dNil))))
    dNev
    dPass)
    d_limit_of_6
def d_limit_of_4 : DS :=
    dSeq (dIf (tNot (tV (d1 fAll (dL (dComp 1 [] (sName 0) (iSeq (dVar 2)) tT (dCall f_is_number (dCons (dVar 0) dNil)))))))
    dNev
    dPass)
    d_limit_of_5
def d_limit_of_3 : DS :=
    dSeq (dIf (tOr (tNot (tV (d1 (fIs isList) (dVar 2)))) (tV (d2 fNe (d1 fLen (dVar 2)) (dVar 0))))
    dNev
    dPass)
    d_limit_of_4
def d_limit_of_2 : DS :=
    dSeq (dSet 3 [] (d2 fIx (dVar 1) (dC (.int 1))))
    d_limit_of_3
def d_limit_of_1 : DS :=
    dSeq (dSet 2 [] (d2 fIx (dVar 1) (dC (.int 0))))
    d_limit_of_2
def d_limit_of : DS :=
    dSeq (dIf (tOr (tNot (tV (d1 (fIs isTuple) (dVar 1)))) (tV (d2 fNe (d1 fLen (dVar 1)) (dC (.int 2)))))
    dNev
    dPass)
    d_limit_of_1
def f_limit_of : DF := runQ 4 2 d_limit_of
def d_desk_of_2 : DS :=
    (dRet (dTup (dCons (dVar 0) (dCons (d1 fTuple (dL (dComp 1 [0] (sName 0) (iSeq (dVar 1)) tT (dCall f_limit_of (dCons (dVar 1) (dCons (dVar 0) dNil)))))) dNil))))
def d_desk_of_1 : DS :=
    dSeq (dIf (tOr (tNot (tV (d1 (fIs isList) (dVar 1)))) (tV (d2 fGt (d1 fLen (dVar 1)) (dC (.int 10)))))
    dNev
    dPass)
    d_desk_of_2
def d_desk_of : DS :=
    dSeq (dIf (tOr (tNot (tV (dCall f_is_whole (dCons (dVar 0) dNil)))) (tOr (tV (d2 fLt (dVar 0) (dC (.int 1)))) (tV (d2 fGt (dVar 0) (dC (.int 4))))))
    dNev
    dPass)
    d_desk_of_1
def f_desk_of : DF := runQ 2 2 d_desk_of
def d_check_point_1 : DS :=
    (dIf (tNot (tV (d1 fAll (dL (dComp 1 [] (sName 0) (iSeq (dVar 1)) tT (dCall f_is_fraction (dCons (dVar 0) dNil)))))))
    dNev
    dPass)
def d_check_point : DS :=
    dSeq (dIf (tOr (tNot (tV (d1 (fIs isList) (dVar 1)))) (tV (d2 fNe (d1 fLen (dVar 1)) (dVar 0))))
    dNev
    dPass)
    d_check_point_1
def f_check_point : DF := runQ 2 2 d_check_point
def d_weight_2 : DS :=
    (dRet (dVar 2))
def d_weight_1 : DS :=
    dSeq (dFor (sTup2 3 4) [] (iZip (iSeq (dVar 0)) (iSeq (dVar 1)))
    (dSet 2 [] (dCall f_plus (dCons (dVar 2) (dCons (dCall f_frac (dCons (d2 fMul (dVar 3) (d2 fIx (dVar 4) (dC (.int 0)))) (dCons (d2 fIx (dVar 4) (dC (.int 1))) dNil))) dNil)))))
    d_weight_2
def d_weight : DS :=
    dSeq (dSet 2 [] (dTup (dCons (dC (.int 0)) (dCons (dC (.int 1)) dNil))))
    d_weight_1
def f_weight : DF := runQ 5 2 d_weight
def d_broken_1 : DS :=
    (dRet (dL (dComp 2 [1] (sTup2 0 1) (iEnum (iSeq (d2 fIx (dVar 0) (dC (.int 1))))) (tV (dCall f_below (dCons (dTup (dCons (d2 fIx (dVar 1) (dC (.int 1))) (dCons (dC (.int 1)) dNil))) (dCons (dCall f_weight (dCons (d2 fIx (dVar 1) (dC (.int 0))) (dCons (dVar 2) dNil))) dNil)))) (dVar 0))))
def d_broken : DS :=
    dSeq (dDrop (dCall f_check_point (dCons (d2 fIx (dVar 0) (dC (.int 0))) (dCons (dVar 1) dNil))))
    d_broken_1
def f_broken : DF := runQ 2 2 d_broken
def d_just_1 : DS :=
    (dRet (dL (dComp 2 [1] (sTup2 0 1) (iEnum (iSeq (d2 fIx (dVar 0) (dC (.int 1))))) (tV (d2 fEq (dCall f_weight (dCons (d2 fIx (dVar 1) (dC (.int 0))) (dCons (dVar 2) dNil))) (dTup (dCons (d2 fIx (dVar 1) (dC (.int 1))) (dCons (dC (.int 1)) dNil))))) (dVar 0))))
def d_just : DS :=
    dSeq (dDrop (dCall f_check_point (dCons (d2 fIx (dVar 0) (dC (.int 0))) (dCons (dVar 1) dNil))))
    d_just_1
def f_just : DF := runQ 2 2 d_just
def d_law_cell_at_2 : DS :=
    (dRet (d2 fAdd (d2 fMul (d2 fIx (dVar 0) (d2 fMod (dVar 1) (d1 fLen (dVar 0)))) (dC (.int 31))) (dVar 1)))
def d_law_cell_at_1 : DS :=
    dSeq (dIf (tV (d2 fEq (dVar 0) (dLst dNil)))
    (dRet (dC (.int 0)))
    dPass)
    d_law_cell_at_2
def d_law_cell_at : DS :=
    dSeq (dIf (tV (d2 fLt (dVar 1) (d1 fLen (dVar 0))))
    (dRet (d2 fIx (dVar 0) (dVar 1)))
    dPass)
    d_law_cell_at_1
def f_law_cell_at : DF := runQ 2 2 d_law_cell_at
def d_law_number_2 : DS :=
    (dRet (dVar 2))
def d_law_number_1 : DS :=
    dSeq (dIf (tV (d2 fGt (dVar 2) (dVar 1)))
    (dRet (d2 fSub (d2 fSub (dVar 2) (d2 fMul (dC (.int 2)) (dVar 1))) (dC (.int 1))))
    dPass)
    d_law_number_2
def d_law_number : DS :=
    dSeq (dSet 2 [] (d2 fMod (dVar 0) (d2 fAdd (d2 fMul (dC (.int 2)) (dVar 1)) (dC (.int 1)))))
    d_law_number_1
def f_law_number : DF := runQ 3 2 d_law_number
def d_law_desk_7 : DS :=
    (dRet (dTup (dCons (dVar 1) (dCons (dVar 4) dNil))))
def d_law_desk_6 : DS :=
    dSeq (dFor (sName 5) [] (iRng (dVar 2))
    (dSeq (dSet 6 [] (d2 fAdd (dC (.int 8)) (d2 fMul (dVar 5) (d2 fAdd (dVar 1) (dC (.int 1))))))
    (dSeq (dSet 7 [] (dL (dComp 1 [0, 6, 3] (sName 0) (iRng (dVar 1)) tT (dCall f_law_number (dCons (dCall f_law_cell_at (dCons (dVar 1) (dCons (d2 fAdd (dVar 2) (dVar 0)) dNil))) (dCons (dVar 3) dNil))))))
    (dSeq (dSet 8 [] (dCall f_law_number (dCons (dCall f_law_cell_at (dCons (dVar 0) (dCons (d2 fAdd (dVar 6) (dVar 1)) dNil))) (dCons (dVar 3) dNil))))
    (dSeq (dIf (tV (d2 fEq (d2 fMod (dCall f_law_cell_at (dCons (dVar 0) (dCons (dC (.int 4)) dNil))) (dC (.int 2))) (dC (.int 1))))
    (dSet 8 [] (d1 fAbs (dVar 8)))
    dPass)
    (dApp 4 [] (dTup (dCons (dVar 7) (dCons (dVar 8) dNil)))))))))
    d_law_desk_7
def d_law_desk_5 : DS :=
    dSeq (dSetO 4 [] (oLst dNil))
    d_law_desk_6
def d_law_desk_4 : DS :=
    dSeq (dIf (tV (d2 fGt (dVar 3) (dC (.int 9))))
    (dSeq (dSet 1 [] (d2 fAdd (dC (.int 1)) (d2 fMod (dVar 1) (dC (.int 2)))))
    (dSet 2 [] (d2 fMod (dVar 2) (dC (.int 4)))))
    dPass)
    d_law_desk_5
def d_law_desk_3 : DS :=
    dSeq (dIf (tV (d2 fEq (d2 fMod (dCall f_law_cell_at (dCons (dVar 0) (dCons (dC (.int 3)) dNil))) (dC (.int 6))) (dC (.int 5))))
    (dSeq (dSet 1 [] (dC (.int 4)))
    (dSeq (dSet 2 [] (dC (.int 10)))
    (dSet 3 [] (dC (.int 2)))))
    dPass)
    d_law_desk_4
def d_law_desk_2 : DS :=
    dSeq (dSet 3 [] (d2 fIx (dLst (dCons (dC (.int 3)) (dCons (dC (.int 3)) (dCons (dC (.int 9)) (dCons (d2 fSub (d2 fPow (dC (.int 10)) (dC (.int 12))) (dC (.int 1))) dNil))))) (d2 fMod (dCall f_law_cell_at (dCons (dVar 0) (dCons (dC (.int 2)) dNil))) (dC (.int 4)))))
    d_law_desk_3
def d_law_desk_1 : DS :=
    dSeq (dSet 2 [] (d2 fMod (dCall f_law_cell_at (dCons (dVar 0) (dCons (dC (.int 1)) dNil))) (dC (.int 6))))
    d_law_desk_2
def d_law_desk : DS :=
    dSeq (dSet 1 [] (d2 fAdd (dC (.int 1)) (d2 fMod (dCall f_law_cell_at (dCons (dVar 0) (dCons (dC (.int 0)) dNil))) (dC (.int 3)))))
    d_law_desk_1
def f_law_desk : DF := runQ 9 1 d_law_desk
def d_law_copied : DS :=
    (dRet (dL (dComp 1 [] (sName 0) (iSeq (dVar 0)) tT (dTup (dCons (dL (oList (d2 fIx (dVar 0) (dC (.int 0))))) (dCons (d2 fIx (dVar 0) (dC (.int 1))) dNil))))))
def f_law_copied : DF := runQ 1 1 d_law_copied
def d_law_divisor_3 : DS :=
    (dRet (dVar 0))
def d_law_divisor_2 : DS :=
    dSeq (dWhile u_law_divisor_1 (tV (d2 fNe (dVar 1) (dC (.int 0))))
    (dSeq (dSet 2 [] (d2 fMod (dVar 0) (dVar 1)))
    (dSeq (dSet 0 [] (dVar 1))
    (dSet 1 [] (dVar 2)))))
    d_law_divisor_3
def d_law_divisor_1 : DS :=
    dSeq (dSet 1 [] (d1 fAbs (dVar 1)))
    d_law_divisor_2
def d_law_divisor : DS :=
    dSeq (dSet 0 [] (d1 fAbs (dVar 0)))
    d_law_divisor_1
def f_law_divisor : DF := runQ 3 2 d_law_divisor
def d_law_frac_2 : DS :=
    (dRet (dTup (dCons (d2 fDiv (dVar 0) (dVar 2)) (dCons (d2 fDiv (dVar 1) (dVar 2)) dNil))))
def d_law_frac_1 : DS :=
    dSeq (dIf (tV (d2 fLt (dVar 1) (dC (.int 0))))
    (dSet 2 [] (d1 fNeg (dVar 2)))
    dPass)
    d_law_frac_2
def d_law_frac : DS :=
    dSeq (dSet 2 [] (dCall f_law_divisor (dCons (dVar 0) (dCons (dVar 1) dNil))))
    d_law_frac_1
def f_law_frac : DF := runQ 3 2 d_law_frac
def d_law_point_2 : DS :=
    (dRet (dVar 2))
def d_law_point_1 : DS :=
    dSeq (dFor (sName 3) [] (iRng (dVar 1))
    (dSeq (dSet 4 [] (d2 fAdd (dC (.int 1)) (d2 fMod (dCall f_law_cell_at (dCons (dVar 0) (dCons (d2 fAdd (dC (.int 47)) (dVar 3)) dNil))) (dC (.int 5)))))
    (dApp 2 [] (dCall f_law_frac (dCons (dCall f_law_number (dCons (dCall f_law_cell_at (dCons (dVar 0) (dCons (d2 fAdd (dC (.int 43)) (dVar 3)) dNil))) (dCons (dC (.int 12)) dNil))) (dCons (dVar 4) dNil))))))
    d_law_point_2
def d_law_point : DS :=
    dSeq (dSetO 2 [] (oLst dNil))
    d_law_point_1
def f_law_point : DF := runQ 5 2 d_law_point
def d_law_add : DS :=
    (dRet (dCall f_law_frac (dCons (d2 fAdd (d2 fMul (d2 fMul (d2 fIx (dVar 0) (dC (.int 0))) (d2 fIx (dVar 1) (dC (.int 1)))) (d2 fIx (dVar 2) (dC (.int 1)))) (d2 fMul (d2 fMul (d2 fIx (dVar 2) (dC (.int 0))) (d2 fIx (dVar 1) (dC (.int 0)))) (d2 fIx (dVar 0) (dC (.int 1))))) (dCons (d2 fMul (d2 fMul (d2 fIx (dVar 0) (dC (.int 1))) (d2 fIx (dVar 1) (dC (.int 1)))) (d2 fIx (dVar 2) (dC (.int 1)))) dNil))))
def f_law_add : DF := runQ 3 3 d_law_add
def d_law_weigh_2 : DS :=
    (dRet (dVar 2))
def d_law_weigh_1 : DS :=
    dSeq (dFor (sName 3) [] (iRng (d1 fLen (dVar 1)))
    (dSet 2 [] (dCall f_law_add (dCons (dVar 2) (dCons (d2 fIx (dVar 1) (dVar 3)) (dCons (dTup (dCons (d2 fIx (dVar 0) (dVar 3)) (dCons (dC (.int 1)) dNil))) dNil))))))
    d_law_weigh_2
def d_law_weigh : DS :=
    dSeq (dSet 2 [] (dTup (dCons (dC (.int 0)) (dCons (dC (.int 1)) dNil))))
    d_law_weigh_1
def f_law_weigh : DF := runQ 4 2 d_law_weigh
def d_law_below : DS :=
    (dRet (d2 fLt (d2 fMul (d2 fIx (dVar 0) (dC (.int 0))) (d2 fIx (dVar 1) (dC (.int 1)))) (d2 fMul (d2 fIx (dVar 1) (dC (.int 0))) (d2 fIx (dVar 0) (dC (.int 1))))))
def f_law_below : DF := runQ 2 2 d_law_below
def d_law_whole : DS :=
    (dRet (dAndV (d1 (fIs isInt) (dVar 0)) (dNotV (d1 (fIs isBool) (dVar 0)))))
def f_law_whole : DF := runQ 1 1 d_law_whole
def d_law_is_fraction_2 : DS :=
    (dRet (d2 fEq (dCall f_law_divisor (dCons (d2 fIx (dVar 0) (dC (.int 0))) (dCons (d2 fIx (dVar 0) (dC (.int 1))) dNil))) (dC (.int 1))))
def d_law_is_fraction_1 : DS :=
    dSeq (dIf (tOr (tNot (tV (dCall f_law_whole (dCons (d2 fIx (dVar 0) (dC (.int 0))) dNil)))) (tOr (tNot (tV (dCall f_law_whole (dCons (d2 fIx (dVar 0) (dC (.int 1))) dNil)))) (tV (d2 fLt (d2 fIx (dVar 0) (dC (.int 1))) (dC (.int 1))))))
    (dRet (dC (.bool false)))
    dPass)
    d_law_is_fraction_2
def d_law_is_fraction : DS :=
    dSeq (dIf (tOr (tNot (tV (d1 (fIs isTuple) (dVar 0)))) (tV (d2 fNe (d1 fLen (dVar 0)) (dC (.int 2)))))
    (dRet (dC (.bool false)))
    dPass)
    d_law_is_fraction_1
def f_law_is_fraction : DF := runQ 1 1 d_law_is_fraction
end Lw

namespace Lw
open PySem Fx
/-! ### the mathematics -/
theorem cd_ok (a b : Int) : f_common_divisor [.int a, .int b] = .ok (.int (Int.gcd a b)) := by show noX (runF 3 2 dGcd [.int a, .int b]) = _; rw [gcd_ok]; rfl
theorem ld_ok (a b : Int) : f_law_divisor [.int a, .int b] = .ok (.int (Int.gcd a b)) := by show noX (runF 3 2 dGcd [.int a, .int b]) = _; rw [gcd_ok]; rfl
theorem fdiv_pos {u : Int} {g : Nat} : u.fdiv (g : Int) = u / (g : Int) := Int.fdiv_eq_ediv_of_nonneg _ (Int.natCast_nonneg _)
theorem frac_ok {u l : Int} {n : Nat} (hl : l ≠ 0) (h2 : l.natAbs < 2 ^ n) (hn : n < 9000) : f_frac [.int u, .int l] = .ok (fr (Rat.divInt u l)) := by
  have hg : 0 < Int.gcd u l := Nat.pos_of_ne_zero (by simp [hl])
  have hgl : Int.gcd u l ≤ l.natAbs := Nat.le_of_dvd (by omega) (Int.gcd_dvd_natAbs_right u l)
  have d1 : divOk (Int.gcd u l : Int) = true := divOk_of (m := n) (by omega) (by rw [Int.natAbs_natCast]; omega) hn
  have d2 : divOk (-(Int.gcd u l : Int)) = true := divOk_of (m := n) (by omega) (by rw [Int.natAbs_neg, Int.natAbs_natCast]; omega) hn
  have hd1 : (Int.gcd u l : Int) ∣ u := Int.gcd_dvd_left ..
  have hd2 : (Int.gcd u l : Int) ∣ l := Int.gcd_dvd_right ..
  by_cases c : l < 0
  · have e1 : u.fdiv (-(Int.gcd u l : Int)) = (Rat.divInt u l).num := by
      rw [Rat.num_divInt, Int.sign_eq_neg_one_of_neg c, Int.gcd_comm l u, Int.neg_one_mul]
      obtain ⟨k, hk⟩ := hd1
      generalize hG : (Int.gcd u l : Int) = G at *
      have hG0 : 0 < G := by omega
      rw [hk, Int.fdiv_eq_ediv_of_dvd ⟨-k, by rw [Int.neg_mul_neg]⟩]
      rw [Int.ediv_neg, ← Int.mul_neg, Int.mul_ediv_cancel_left _ (by omega), Int.mul_ediv_cancel_left _ (by omega)]
    have e2 : l.fdiv (-(Int.gcd u l : Int)) = ((Rat.divInt u l).den : Int) := by
      rw [Rat.den_divInt, if_neg hl, Int.gcd_comm l u]
      obtain ⟨k, hk⟩ := hd2
      have hna : ((l.natAbs / Int.gcd u l : Nat) : Int) = -l / (Int.gcd u l : Int) := by
        rw [Int.natCast_ediv]
        have : (l.natAbs : Int) = -l := by omega
        rw [this]
      rw [hna]
      generalize hG : (Int.gcd u l : Int) = G at *
      have hG0 : 0 < G := by omega
      rw [hk, Int.fdiv_eq_ediv_of_dvd ⟨-k, by rw [Int.neg_mul_neg]⟩]
      rw [Int.ediv_neg, ← Int.mul_neg, Int.mul_ediv_cancel_left _ (by omega), Int.mul_ediv_cancel_left _ (by omega)]
    simp [f_frac, runQ, runF, d_frac, d_frac_1, d_frac_2, d_frac_3, fEq, cd_ok, hl, c, d2, e1, e2, fr]
  · have e1 : u.fdiv (Int.gcd u l : Int) = (Rat.divInt u l).num := by
      rw [Rat.num_divInt, Int.sign_eq_one_of_pos (by omega), Int.gcd_comm l u, Int.one_mul, fdiv_pos]
    have e2 : l.fdiv (Int.gcd u l : Int) = ((Rat.divInt u l).den : Int) := by
      rw [Rat.den_divInt, if_neg hl, Int.gcd_comm l u, fdiv_pos, Int.natCast_ediv]
      have : (l.natAbs : Int) = l := by omega
      rw [this]
    simp [f_frac, runQ, runF, d_frac, d_frac_1, d_frac_2, d_frac_3, fEq, cd_ok, hl, c, d1, e1, e2, fr]
theorem at0 (x y : PyData) : atP [x, y] 0 = some x := rfl
theorem at1 (x y : PyData) : atP [x, y] 1 = some y := rfl
section
variable {a b : Rat} {m n : Nat}
theorem plus_ok (ha : Sz m a) (hb : Sz n b) (h : m + n < 8999) : f_plus [fr a, fr b] = .ok (fr (a + b)) := by
  have o1 : mulOk a.num b.den = true := mulOk_of ha.num hb.denI (by omega)
  have o2 : mulOk b.num a.den = true := mulOk_of hb.num ha.denI (by omega)
  have o3 : mulOk a.den b.den = true := mulOk_of ha.denI hb.denI (by omega)
  have z : (a.den : Int) * b.den ≠ 0 := Int.mul_ne_zero (den_ne a) (den_ne b)
  have e := frac_ok (u := a.num * b.den + b.num * a.den) (n := m + n) z (natAbs_mul_lt ha.denI hb.denI) (by omega)
  have q : a + b = Rat.divInt (a.num * b.den + b.num * a.den) (a.den * b.den) := by
    have := Rat.divInt_add_divInt a.num b.num (den_ne a) (den_ne b)
    rw [Rat.num_divInt_den, Rat.num_divInt_den] at this
    exact this
  rw [q]
  simp [f_plus, runQ, runF, d_plus, at0, at1, o1, o2, o3, e, fr]
theorem less_ok (ha : Sz m a) (hb : Sz n b) (h : m + n < 8999) : f_less [fr a, fr b] = .ok (fr (a - b)) := by
  have o1 : mulOk a.num b.den = true := mulOk_of ha.num hb.denI (by omega)
  have o2 : mulOk b.num a.den = true := mulOk_of hb.num ha.denI (by omega)
  have o3 : mulOk a.den b.den = true := mulOk_of ha.denI hb.denI (by omega)
  have z : (a.den : Int) * b.den ≠ 0 := Int.mul_ne_zero (den_ne a) (den_ne b)
  have e := frac_ok (u := a.num * b.den - b.num * a.den) (n := m + n) z (natAbs_mul_lt ha.denI hb.denI) (by omega)
  have q : a - b = Rat.divInt (a.num * b.den - b.num * a.den) (a.den * b.den) := by
    have := Rat.divInt_sub_divInt a.num b.num (den_ne a) (den_ne b)
    rw [Rat.num_divInt_den, Rat.num_divInt_den] at this
    exact this
  rw [q]
  simp [f_less, runQ, runF, d_less, at0, at1, o1, o2, o3, e, fr]
theorem times_ok (ha : Sz m a) (hb : Sz n b) (h : m + n < 8999) : f_times [fr a, fr b] = .ok (fr (a * b)) := by
  have o1 : mulOk a.num b.num = true := mulOk_of ha.num hb.num (by omega)
  have o3 : mulOk a.den b.den = true := mulOk_of ha.denI hb.denI (by omega)
  have z : (a.den : Int) * b.den ≠ 0 := Int.mul_ne_zero (den_ne a) (den_ne b)
  have e := frac_ok (u := a.num * b.num) (n := m + n) z (natAbs_mul_lt ha.denI hb.denI) (by omega)
  have q : a * b = Rat.divInt (a.num * b.num) (a.den * b.den) := by
    have := Rat.divInt_mul_divInt a.num b.num (d₁ := a.den) (d₂ := b.den)
    rw [Rat.num_divInt_den, Rat.num_divInt_den] at this
    exact this
  rw [q]
  simp [f_times, runQ, runF, d_times, at0, at1, o1, o3, e, fr]
theorem over_ok (ha : Sz m a) (hb : Sz n b) (h : m + n < 8999) (hz : b ≠ 0) : f_over [fr a, fr b] = .ok (fr (a / b)) := by
  have o1 : mulOk a.num b.den = true := mulOk_of ha.num hb.denI (by omega)
  have o3 : mulOk a.den b.num = true := mulOk_of ha.denI hb.num (by omega)
  have hz' : b.num ≠ 0 := fun z => hz (Rat.num_eq_zero.mp z)
  have z : (a.den : Int) * b.num ≠ 0 := Int.mul_ne_zero (den_ne a) hz'
  have e := frac_ok (u := a.num * b.den) (n := m + n) z (natAbs_mul_lt ha.denI hb.num) (by omega)
  have q : a / b = Rat.divInt (a.num * b.den) (a.den * b.num) := by
    have := Rat.divInt_mul_divInt a.num b.den (d₁ := a.den) (d₂ := b.num)
    rw [Rat.num_divInt_den, ← Rat.inv_def] at this
    rw [Rat.div_def]
    exact this
  rw [q]
  simp [f_over, runQ, runF, d_over, at0, at1, o1, o3, e, fr]
theorem turned_ok : f_turned [fr a] = .ok (fr (-a)) := by
  simp [f_turned, runQ, runF, d_turned, at0, at1, fr]
theorem below_ok (ha : Sz m a) (hb : Sz n b) (h : m + n < 8999) : f_below [fr a, fr b] = .ok (.bool (decide (a < b))) := by
  have o1 : mulOk a.num b.den = true := mulOk_of ha.num hb.denI (by omega)
  have o2 : mulOk b.num a.den = true := mulOk_of hb.num ha.denI (by omega)
  simp [f_below, runQ, runF, d_below, at0, at1, o1, o2, fr, Rat.lt_iff]
end
theorem isfr_ok (q : Rat) : f_law_is_fraction [fr q] = .ok (.bool true) := by
  have w : ∀ i : Int, f_law_whole [.int i] = .ok (.bool true) := fun i => by simp [f_law_whole, runQ, runF, d_law_whole]
  have hd : ¬ ((q.den : Int) < 1) := by have := q.den_nz; omega
  simp [f_law_is_fraction, runQ, runF, d_law_is_fraction, d_law_is_fraction_1, d_law_is_fraction_2, fr, at0, at1, w, ld_ok, hd, fNe, fEq, gcd_num_den]
theorem at_lt {ns : List Int} {k : Int} (h0 : 0 ≤ k) (h : k < ns.length) : ∃ c : Int, atP (ns.map .int) k = some (.int c) := by
  have hk : k.toNat < ns.length := by omega
  refine ⟨ns[k.toNat], ?_⟩
  simp [atP, ixP, h0, h, hk]
theorem shaped_ints : ∀ ns : List Int, shapedD (.list (ns.map .int)) = true := by
  intro ns
  have h1 : ∀ ns : List Int, PyData.canLayAll0 (ns.map .int) = true := by
    intro ns
    induction ns with
    | nil => simp [PyData.canLayAll0]
    | cons n ns ih => simp [PyData.canLayAll0, PyData.canLay0, ih]
  have h2 : ∀ ns : List Int, PyData.depthAll (ns.map .int) = 0 := by
    intro ns
    induction ns with
    | nil => simp [PyData.depthAll]
    | cons n ns ih => simp [PyData.depthAll, PyData.depth, ih]
  simp [shapedD, PyData.canLay0, PyData.depth, h1, h2]
theorem eqv_nil (ns : List Int) : PyData.eqv (.list (ns.map .int)) (.list []) = ns.isEmpty := by
  cases ns <;> simp [PyData.eqv, PyData.eqvAll]
theorem shaped_nil : shapedD (.list []) = true := shaped_ints []
theorem cell_ok (ns : List Int) (k : Int) (h0 : 0 ≤ k) : ∃ c : Int, f_law_cell_at [.list (ns.map .int), .int k] = .ok (.int c) := by
  by_cases h : k < ns.length
  · obtain ⟨c, e⟩ := at_lt h0 h
    exact ⟨c, by simp [f_law_cell_at, runQ, runF, d_law_cell_at, d_law_cell_at_1, d_law_cell_at_2, h, e]⟩
  · by_cases hz : ns = []
    · subst hz
      exact ⟨0, by
        have z := shaped_nil
        have hk : ¬ k < 0 := by omega
        simp [f_law_cell_at, runQ, runF, d_law_cell_at, d_law_cell_at_1, fEq, z, hk, PyData.eqv, PyData.eqvAll]⟩
    · have hl : (0 : Int) < ns.length := by
        have : ns.length ≠ 0 := by simpa using hz
        omega
      have hf : Int.fmod k ns.length = k % ns.length := Int.fmod_eq_emod_of_nonneg _ (by omega)
      obtain ⟨c, e⟩ := at_lt (ns := ns) (k := k % ns.length) (Int.emod_nonneg _ (by omega)) (Int.emod_lt_of_pos _ hl)
      have hE : ns.isEmpty = false := by simpa using hz
      have o : mulOk c 31 = true := mulOk_r (by decide)
      refine ⟨c * 31 + k, ?_⟩
      simp [f_law_cell_at, runQ, runF, d_law_cell_at, d_law_cell_at_1, d_law_cell_at_2, h, fEq, shaped_ints, shaped_nil, eqv_nil, hE, hz, hf, e, o]
theorem number_ok (c w : Int) (hw : 0 ≤ w) (hs : w.natAbs < 2 ^ 67) : ∃ r : Int, f_law_number [.int c, .int w] = .ok (.int r) ∧ -w ≤ r ∧ r ≤ w := by
  have o : mulOk 2 w = true := mulOk_l (by decide)
  have hm : 2 * w + 1 ≠ 0 := by omega
  have hf : Int.fmod c (2 * w + 1) = c % (2 * w + 1) := Int.fmod_eq_emod_of_nonneg _ (by omega)
  have h1 : 0 ≤ c % (2 * w + 1) := Int.emod_nonneg _ hm
  have h2 : c % (2 * w + 1) < 2 * w + 1 := Int.emod_lt_of_pos _ (by omega)
  by_cases h : w < c % (2 * w + 1)
  · refine ⟨c % (2 * w + 1) - 2 * w - 1, ?_, by omega, by omega⟩
    simp [f_law_number, runQ, runF, d_law_number, d_law_number_1, d_law_number_2, o, hm, hf, h]
  · refine ⟨c % (2 * w + 1), ?_, by omega, by omega⟩
    simp [f_law_number, runQ, runF, d_law_number, d_law_number_1, d_law_number_2, o, hm, hf, h]

theorem lfrac_ok {u l : Int} {n : Nat} (hl : l ≠ 0) (h2 : l.natAbs < 2 ^ n) (hn : n < 9000) : f_law_frac [.int u, .int l] = .ok (fr (Rat.divInt u l)) := by
  have e := frac_ok (u := u) hl h2 hn
  rw [← e]
  by_cases c : l < 0 <;> simp [f_law_frac, f_frac, runQ, runF, d_law_frac, d_law_frac_1, d_law_frac_2, d_frac, d_frac_1, d_frac_2, d_frac_3, fEq, hl, c, cd_ok, ld_ok]
@[simp] def noD : PyData → Bool
  | .dict _ => false
  | _ => true
theorem whole_ok (t : PyData) (h : noD t = true) : f_is_whole [t] = .ok (.bool (match t with | .int _ => true | _ => false)) := by
  cases t <;> simp [f_is_whole, runQ, runF, d_is_whole] at h ⊢
theorem whole_int (i : Int) : f_is_whole [.int i] = .ok (.bool true) := whole_ok (.int i) rfl
theorem lwhole_ok (t : PyData) (h : noD t = true) : f_law_whole [t] = .ok (.bool (match t with | .int _ => true | _ => false)) := by
  cases t <;> simp [f_law_whole, runQ, runF, d_law_whole] at h ⊢
theorem isfrac_ok (q : Rat) : f_is_fraction [fr q] = .ok (.bool true) := by
  have hd : (1 : Int) ≤ (q.den : Int) := by have := q.den_nz; omega
  simp [f_is_fraction, runQ, runF, d_is_fraction, d_is_fraction_1, d_is_fraction_2, fr, at0, at1, whole_int, cd_ok, hd, fNe, fEq, gcd_num_den]
theorem fr_int (w : Int) : (PyData.tuple [.int w, .int 1]) = fr (w : Rat) := by simp [fr]
theorem fr_zero : (PyData.tuple [.int 0, .int 1]) = fr 0 := by simp [fr]
theorem lbelow_ok {a b : Rat} {m n : Nat} (ha : Sz m a) (hb : Sz n b) (h : m + n < 8999) : f_law_below [fr a, fr b] = .ok (.bool (decide (a < b))) := below_ok ha hb h
theorem add_ok {a b c : Rat} {m n k : Nat} (ha : Sz m a) (hb : Sz n b) (hc : Sz k c) (h : m + n + k < 8999) : f_law_add [fr a, fr b, fr c] = .ok (fr (a + c * b)) := by
  have o1 : mulOk a.num b.den = true := mulOk_of ha.num hb.denI (by omega)
  have o2 : mulOk (a.num * b.den) c.den = true := mulOk_of (natAbs_mul_lt ha.num hb.denI) hc.denI (by omega)
  have o3 : mulOk c.num b.num = true := mulOk_of hc.num hb.num (by omega)
  have o4 : mulOk (c.num * b.num) a.den = true := mulOk_of (natAbs_mul_lt hc.num hb.num) ha.denI (by omega)
  have o5 : mulOk a.den b.den = true := mulOk_of ha.denI hb.denI (by omega)
  have o6 : mulOk (a.den * b.den) c.den = true := mulOk_of (natAbs_mul_lt ha.denI hb.denI) hc.denI (by omega)
  have z : (a.den : Int) * b.den * c.den ≠ 0 := Int.mul_ne_zero (Int.mul_ne_zero (den_ne a) (den_ne b)) (den_ne c)
  have e := lfrac_ok (u := a.num * b.den * c.den + c.num * b.num * a.den) (n := m + n + k) z (natAbs_mul_lt (natAbs_mul_lt ha.denI hb.denI) hc.denI) (by omega)
  have q : a + c * b = Rat.divInt (a.num * b.den * c.den + c.num * b.num * a.den) (a.den * b.den * c.den) := by
    have e1 : c * b = Rat.divInt (c.num * b.num) (c.den * b.den) := mul_divInt c b
    have e2 : a = Rat.divInt a.num a.den := (Rat.num_divInt_den a).symm
    have e3 := Rat.divInt_add_divInt a.num (c.num * b.num) (den_ne a) (Int.mul_ne_zero (den_ne c) (den_ne b))
    rw [e1]
    conv => lhs; rw [e2]
    rw [e3]
    congr 1
    · rw [Int.mul_assoc a.num, Int.mul_comm (b.den : Int)]
    · rw [Int.mul_assoc, Int.mul_comm (b.den : Int)]
  rw [q]
  simp [f_law_add, runQ, runF, d_law_add, at0, at1, atP, ixP, o1, o2, o3, o4, o5, o6, e, fr]
/-! ### weights -/
def dot : List Int → List Rat → Rat
  | w :: ws, p :: ps => (w : Rat) * p + dot ws ps
  | _, _ => 0
theorem dot_take : ∀ (ws : List Int) (ps : List Rat) (i : Nat) (w : Int) (p : Rat), ws[i]? = some w → ps[i]? = some p → dot (ws.take (i + 1)) (ps.take (i + 1)) = dot (ws.take i) (ps.take i) + (w : Rat) * p
  | w :: ws, p :: ps, 0, w', p', h1, h2 => by
    simp at h1 h2; subst h1; subst h2
    simp [dot, Rat.add_comm]
  | w :: ws, p :: ps, i + 1, w', p', h1, h2 => by
    simp at h1 h2
    have ih := dot_take ws ps i w' p' h1 h2
    simp only [List.take_succ_cons, dot]
    rw [ih, Rat.add_assoc]
  | [], _, i, w', p', h1, h2 => by simp at h1
  | _ :: _, [], i, w', p', h1, h2 => by simp at h2
structure WP (m n : Nat) (ws : List Int) (ps : List Rat) : Prop where
  w : ∀ x ∈ ws, x.natAbs < 2 ^ m
  p : ∀ x ∈ ps, Sz n x
  m1 : 0 < m
  len : ws.length = ps.length
def wSz (m n i : Nat) : Nat := 1 + i * (m + n + 1)
theorem WP.sz {m n : Nat} {ws : List Int} {ps : List Rat} (h : WP m n ws ps) : ∀ i, i ≤ ps.length → Sz (wSz m n i) (dot (ws.take i) (ps.take i))
  | 0, _ => by simpa [dot, wSz] using Sz.zero
  | i + 1, hi => by
    have hw : i < ws.length := by rw [h.len]; exact hi
    have hp : i < ps.length := hi
    rw [dot_take ws ps i ws[i] ps[i] (by simp [hw]) (by simp [hp])]
    have s1 := h.sz i (Nat.le_of_succ_le hi)
    have s2 := (Sz.ofInt (h.w _ (List.getElem_mem hw)) h.m1).mul (h.p _ (List.getElem_mem hp))
    have := s1.add s2
    refine this.mono ?_
    simp only [wSz, Nat.succ_mul]; omega
theorem atP_map {α : Type} {f : α → PyData} {xs : List α} {i : Nat} (h : i < xs.length) : atP (xs.map f) (i : Int) = some (f xs[i]) := by
  simp [atP, ixP, h]
theorem wSz_le {m n i j : Nat} (h : i ≤ j) : wSz m n i ≤ wSz m n j := by
  unfold wSz
  have := Nat.mul_le_mul_right (m + n + 1) h
  omega
def isSeq (t : PyData) (xs : List PyData) : Prop := t = .list xs ∨ t = .tuple xs
def bWeigh : DS := dSet 2 [] (dCall f_law_add (dCons (dVar 2) (dCons (d2 fIx (dVar 1) (dVar 3)) (dCons (dTup (dCons (d2 fIx (dVar 0) (dVar 3)) (dCons (dC (.int 1)) dNil))) dNil))))
theorem weigh_step {m n : Nat} {ws : List Int} {ps : List Rat} {t : PyData} (ht : isSeq t (ws.map .int)) (h : WP m n ws ps) (hb : wSz m n ps.length + m + n < 8000) (i : Nat) (hi : i < ps.length) :
    bWeigh [.val t, .val (.list (ps.map fr)), .val (fr (dot (ws.take i) (ps.take i))), .val (.int i)] = .ok (.nx [.val t, .val (.list (ps.map fr)), .val (fr (dot (ws.take (i + 1)) (ps.take (i + 1)))), .val (.int i)]) := by
  have hw : i < ws.length := by rw [h.len]; exact hi
  have s1 := h.sz i (Nat.le_of_lt hi)
  have s2 := h.p _ (List.getElem_mem hi)
  have s3 := Sz.ofInt (h.w _ (List.getElem_mem hw)) h.m1
  have l1 := wSz_le (m := m) (n := n) (Nat.le_of_lt hi)
  have a := add_ok s1 s2 s3 (by omega)
  have i1 : atP (ps.map fr) (i : Int) = some (fr ps[i]) := atP_map hi
  have i2 : atP (ws.map .int) (i : Int) = some (.int ws[i]) := atP_map hw
  rw [dot_take ws ps i ws[i] ps[i] (by simp [hw]) (by simp [hi])]
  rcases ht with rfl | rfl <;> simp [bWeigh, i1, i2, fr_int, a]
theorem weigh_loop {m n : Nat} {ws : List Int} {ps : List Rat} {t : PyData} (ht : isSeq t (ws.map .int)) (h : WP m n ws ps) (hb : wSz m n ps.length + m + n < 8000) :
    ∃ s, forL (sName 3) bWeigh (rngT 0 ps.length) [.val t, .val (.list (ps.map fr)), .val (fr 0), .emp] = .ok (.nx [.val t, .val (.list (ps.map fr)), .val (fr (dot ws ps)), s]) := by
  obtain ⟨G', e, hG⟩ := for_rng (st := sName 3) (b := bWeigh) (n := ps.length) (G := [.val t, .val (.list (ps.map fr)), .val (fr 0), .emp]) (fun i G => ∃ s, G = [.val t, .val (.list (ps.map fr)), .val (fr (dot (ws.take i) (ps.take i))), s]) ⟨.emp, by simp [dot]⟩ fun i G hi ⟨s, hG⟩ => by
      subst hG
      exact ⟨_, rfl, _, .inl (weigh_step ht h hb i hi), ⟨_, rfl⟩⟩
  obtain ⟨s, rfl⟩ := hG
  have e1 : dot (ws.take ps.length) (ps.take ps.length) = dot ws ps := by rw [List.take_length, ← h.len, List.take_length]
  rw [e1] at e
  exact ⟨s, e⟩
theorem weigh_ok {m n : Nat} {ws : List Int} {ps : List Rat} {t : PyData} (ht : isSeq t (ws.map .int)) (h : WP m n ws ps) (hb : wSz m n ps.length + m + n < 8000) (hl : ps.length < 1000) : f_law_weigh [t, .list (ps.map fr)] = .ok (fr (dot ws ps)) := by
  obtain ⟨s, e⟩ := weigh_loop ht h hb
  have hl2 := rngOk_nat (n := ps.length) (by omega)
  simp only [bWeigh] at e
  simp [f_law_weigh, runQ, runF, d_law_weigh, d_law_weigh_1, d_law_weigh_2, fr_zero, hl2, e]
theorem zipT_map {α β : Type} {f : α → PyData} {g : β → PyData} : ∀ (xs : List α) (ys : List β), zipT (xs.map f) (ys.map g) = (xs.zip ys).map fun p => .tuple [f p.1, g p.2]
  | [], ys => by simp [zipT]
  | x :: xs, [] => by simp [zipT]
  | x :: xs, y :: ys => by simp [zipT, zipT_map xs ys]
theorem weight_ok {m n : Nat} {ws : List Int} {ps : List Rat} {t : PyData} (ht : isSeq t (ws.map .int)) (h : WP m n ws ps) (hb : wSz m n ps.length + m + n < 8000) : f_weight [t, .list (ps.map fr)] = .ok (fr (dot ws ps)) := by
  obtain ⟨G', e, hG⟩ := forL_inv (st := sTup2 3 4) (b := dSet 2 [] (dCall f_plus (dCons (dVar 2) (dCons (dCall f_frac (dCons (d2 fMul (dVar 3) (d2 fIx (dVar 4) (dC (.int 0)))) (dCons (d2 fIx (dVar 4) (dC (.int 1))) dNil))) dNil))))
    (fun i G => ∃ s s', G = [.val t, .val (.list (ps.map fr)), .val (fr (dot (ws.take i) (ps.take i))), s, s']) (zipT (ws.map .int) (ps.map fr)) 0 [.val t, .val (.list (ps.map fr)), .val (fr 0), .emp, .emp] ⟨.emp, .emp, by simp [dot]⟩ fun i x G hx ⟨s, s', hG⟩ => by
      rw [Nat.zero_add] at *
      subst hG
      rw [zipT_map, List.getElem?_map] at hx
      cases hz : (ws.zip ps)[i]? with
      | none => rw [hz] at hx; cases hx
      | some p =>
        rw [hz] at hx
        simp at hx
        subst hx
        obtain ⟨w1, p1⟩ := p
        obtain ⟨h1, h2⟩ := List.getElem?_zip_eq_some.mp hz
        have hi : i < ps.length := (List.getElem?_eq_some_iff.mp h2).1
        have s1 := h.sz i (Nat.le_of_lt hi)
        have s2 := h.p _ (List.mem_of_getElem? h2)
        have s3 := h.w _ (List.mem_of_getElem? h1)
        have l1 := wSz_le (m := m) (n := n) (Nat.le_of_lt hi)
        have o1 : mulOk w1 p1.num = true := mulOk_of s3 s2.num (by omega)
        have e1 := frac_ok (u := w1 * p1.num) (l := p1.den) (n := n) (den_ne p1) s2.denI (by omega)
        have q1 : Rat.divInt (w1 * p1.num) p1.den = (w1 : Rat) * p1 := by
          rw [mul_divInt]; simp
        rw [q1] at e1
        have e2 := plus_ok s1 ((Sz.ofInt s3 h.m1).mul s2) (by omega)
        refine ⟨_, rfl, [.val t, .val (.list (ps.map fr)), .val (fr (dot (ws.take (i + 1)) (ps.take (i + 1)))), .val (.int w1), .val (fr p1)], .inl ?_, ⟨_, _, rfl⟩⟩
        rw [dot_take ws ps i w1 p1 h1 h2]
        have f1 : fr p1 = .tuple [.int p1.num, .int p1.den] := rfl
        simp [f1, at0, at1, o1, e1, e2]
  obtain ⟨s, s', rfl⟩ := hG
  have el : (zipT (ws.map PyData.int) (ps.map fr)).length = ps.length := by rw [zipT_map]; simp [h.len]
  have e1 : dot (ws.take ps.length) (ps.take ps.length) = dot ws ps := by rw [List.take_length, ← h.len, List.take_length]
  rw [Nat.zero_add, el, e1] at e
  rcases ht with rfl | rfl <;> simp [f_weight, runQ, runF, d_weight, d_weight_1, d_weight_2, fr_zero, e]
end Lw

namespace Lw
open PySem Fx
/-! ### the drawn desk -/
abbrev Lim := List Int × Int
def limL (l : Lim) : PyData := .tuple [.list (l.1.map .int), .int l.2]
def limT (l : Lim) : PyData := .tuple [.tuple (l.1.map .int), .int l.2]
/-- what is drawn: kinds, the numbers' width, the limits -/
structure DeskOk (k w : Nat) (ls : List Lim) : Prop where
  k1 : 1 ≤ k
  k4 : k ≤ 4
  len : ls.length ≤ 10
  ws : ∀ l ∈ ls, l.1.length = k ∧ (∀ x ∈ l.1, x.natAbs ≤ w) ∧ l.2.natAbs ≤ w
  small : (k = 4 ∧ ls.length = 10 ∧ w = 2) ∨ (k ≤ 3 ∧ ls.length ≤ 5 ∧ w ≤ 9) ∨ (k ≤ 2 ∧ ls.length ≤ 3 ∧ w = 999999999999)
theorem mod_ok {c : Int} {n : Nat} (h : 0 < n) : ∃ r : Nat, Int.fmod c (n : Int) = (r : Int) ∧ r < n := by
  rw [Int.fmod_eq_emod_of_nonneg _ (by omega)]
  have h1 := Int.emod_nonneg c (b := (n : Int)) (by omega)
  have h2 := Int.emod_lt_of_pos c (b := (n : Int)) (by omega)
  exact ⟨(c % n).toNat, by omega, by omega⟩
def bDesk : DS := (dSeq (dSet 6 [] (d2 fAdd (dC (.int 8)) (d2 fMul (dVar 5) (d2 fAdd (dVar 1) (dC (.int 1))))))
    (dSeq (dSet 7 [] (dL (dComp 1 [0, 6, 3] (sName 0) (iRng (dVar 1)) tT (dCall f_law_number (dCons (dCall f_law_cell_at (dCons (dVar 1) (dCons (d2 fAdd (dVar 2) (dVar 0)) dNil))) (dCons (dVar 3) dNil))))))
    (dSeq (dSet 8 [] (dCall f_law_number (dCons (dCall f_law_cell_at (dCons (dVar 0) (dCons (d2 fAdd (dVar 6) (dVar 1)) dNil))) (dCons (dVar 3) dNil))))
    (dSeq (dIf (tV (d2 fEq (d2 fMod (dCall f_law_cell_at (dCons (dVar 0) (dCons (dC (.int 4)) dNil))) (dC (.int 2))) (dC (.int 1))))
    (dSet 8 [] (d1 fAbs (dVar 8)))
    dPass)
    (dApp 4 [] (dTup (dCons (dVar 7) (dCons (dVar 8) dNil))))))))
theorem number_at (ns : List Int) (k w : Nat) (hw : w ≤ 999999999999) : ∃ r : Int, (dCall f_law_number (dCons (dCall f_law_cell_at (dCons (dC (.list (ns.map .int))) (dCons (dC (.int k)) dNil))) (dCons (dC (.int w)) dNil))) [] = .ok (.int r) ∧ r.natAbs ≤ w := by
  obtain ⟨c, e⟩ := cell_ok ns k (by omega)
  obtain ⟨r, e2, h1, h2⟩ := number_ok c w (by omega) (by omega)
  exact ⟨r, by simp [e, e2], by omega⟩
theorem comp_nums (ns : List Int) (at_ w : Nat) (hw : w ≤ 999999999999) : ∀ (ks : List Nat), ∃ rs : List Int, compL (sName 0) tT (dCall f_law_number (dCons (dCall f_law_cell_at (dCons (dVar 1) (dCons (d2 fAdd (dVar 2) (dVar 0)) dNil))) (dCons (dVar 3) dNil)))
    [.emp, .val (.list (ns.map .int)), .val (.int at_), .val (.int w)] (ks.map fun (k : Nat) => PyData.int (k : Int)) = .ok (rs.map .int) ∧ rs.length = ks.length ∧ ∀ x ∈ rs, x.natAbs ≤ w
  | [] => ⟨[], rfl, rfl, by simp⟩
  | k :: ks => by
    obtain ⟨rs, e, hl, hb⟩ := comp_nums ns at_ w hw ks
    obtain ⟨c, e1⟩ := cell_ok ns ((at_ : Int) + (k : Int)) (by omega)
    obtain ⟨r, e2, h1, h2⟩ := number_ok c w (by omega) (by omega)
    refine ⟨r :: rs, ?_, by simp [hl], ?_⟩
    · rw [List.map_cons]
      unfold compL
      simp [e1, e2, e]
    · intro x hx
      rcases List.mem_cons.mp hx with rfl | hx
      · omega
      · exact hb x hx
theorem desk_step (ns : List Int) (k many w i : Nat) (hk : 1 ≤ k ∧ k ≤ 4) (hi : i < 100) (hw : w ≤ 999999999999) (xs : List PyData) (hx : xs.length < 100) (s6 s7 s8 : Sl) : ∃ (l : Lim) (s6' s7' s8' : Sl), (l.1.length = k ∧ (∀ x ∈ l.1, x.natAbs ≤ w) ∧ l.2.natAbs ≤ w) ∧
    bDesk [.val (.list (ns.map .int)), .val (.int k), .val (.int many), .val (.int w), .own xs, .val (.int i), s6, s7, s8] = .ok (.nx [.val (.list (ns.map .int)), .val (.int k), .val (.int many), .val (.int w), .own (xs ++ [limL l]), .val (.int i), s6', s7', s8']) := by
  obtain ⟨a, e1'⟩ : ∃ a : Nat, (8 : Int) + (i : Int) * ((k : Int) + 1) = (a : Int) := ⟨8 + i * (k + 1), by simp⟩
  obtain ⟨rs, e1, hl, hb⟩ := comp_nums ns a w hw (List.range k)
  have hk2 := rngOk_nat (n := k) (by omega)
  obtain ⟨c, e2⟩ := cell_ok ns ((a : Int) + (k : Int)) (by omega)
  obtain ⟨r, e3, h1, h2⟩ := number_ok c w (by omega) (by omega)
  obtain ⟨c4, e4⟩ := cell_ok ns 4 (by omega)
  have m1 : mulOk (i : Int) ((k : Int) + 1) = true := mulOk_l (by omega)
  have hxl : xs.length < 16777216 := by omega
  have hk3 : k ≤ 16777216 := by omega
  rw [← rngT_map] at e1
  have e1k : (if (rngT 0 k).length ≤ 16777216 then compL (sName 0) tT (dCall f_law_number (dCons (dCall f_law_cell_at (dCons (dVar 1) (dCons (d2 fAdd (dVar 2) (dVar 0)) dNil))) (dCons (dVar 3) dNil)))
    [.emp, .val (.list (ns.map .int)), .val (.int a), .val (.int w)] (rngT 0 k) else .stuck) = .ok (rs.map .int) := by rw [rngT_len, if_pos hk3, e1]
  have step : ∀ G, bDesk [.val (.list (ns.map .int)), .val (.int k), .val (.int many), .val (.int w), .own xs, .val (.int i), s6, s7, s8] = .ok (.nx G) ↔
      (dSeq (dIf (tV (d2 fEq (d2 fMod (dCall f_law_cell_at (dCons (dVar 0) (dCons (dC (.int 4)) dNil))) (dC (.int 2))) (dC (.int 1)))) (dSet 8 [] (d1 fAbs (dVar 8))) dPass) (dApp 4 [] (dTup (dCons (dVar 7) (dCons (dVar 8) dNil)))))
        [.val (.list (ns.map .int)), .val (.int k), .val (.int many), .val (.int w), .own xs, .val (.int i), .val (.int a), .val (.list (rs.map .int)), .val (.int r)] = .ok (.nx G) := fun G => by
    unfold bDesk
    simp only [dSeq, dSet_nil, d2, dC, dVar, Res.bind_ok, dL, dComp, iRng, capS, List.map_cons, List.map_nil, dCall, dCons, dNil]
    simp [m1, e1', hk2, e1k, e2, e3]
  by_cases h4 : Int.fmod c4 2 = 1
  · refine ⟨(rs, (r.natAbs : Int)), .val (.int a), .val (.list (rs.map .int)), .val (.int (r.natAbs : Int)), ⟨by simpa using hl, hb, by simp; omega⟩, (step _).mpr ?_⟩
    have ha : (if r < 0 then -r else r) = (r.natAbs : Int) := abs_if r
    simp [e4, fEq, h4, ha, hxl, limL]
  · refine ⟨(rs, r), .val (.int a), .val (.list (rs.map .int)), .val (.int r), ⟨by simpa using hl, hb, by omega⟩, (step _).mpr ?_⟩
    simp [e4, fEq, h4, hxl, limL]
theorem desk_loop (ns : List Int) (k many w : Nat) (hk : 1 ≤ k ∧ k ≤ 4) (hm : many ≤ 10) (hw : w ≤ 999999999999) : ∃ (ls : List Lim) (G' : List Sl), ls.length = many ∧ (∀ l ∈ ls, l.1.length = k ∧ (∀ x ∈ l.1, x.natAbs ≤ w) ∧ l.2.natAbs ≤ w) ∧
    (∃ s5 s6 s7 s8, G' = [.val (.list (ns.map .int)), .val (.int k), .val (.int many), .val (.int w), .own (ls.map limL), s5, s6, s7, s8]) ∧
    forL (sName 5) bDesk (rngT 0 many) [.val (.list (ns.map .int)), .val (.int k), .val (.int many), .val (.int w), .own [], .emp, .emp, .emp, .emp] = .ok (.nx G') := by
  obtain ⟨G', e, ls, s5, s6, s7, s8, hl, hb, rfl⟩ := for_rng (st := sName 5) (b := bDesk) (n := many) (G := [.val (.list (ns.map .int)), .val (.int k), .val (.int many), .val (.int w), .own [], .emp, .emp, .emp, .emp])
    (fun i G => ∃ (ls : List Lim) (s5 s6 s7 s8 : Sl), ls.length = i ∧ (∀ l ∈ ls, l.1.length = k ∧ (∀ x ∈ l.1, x.natAbs ≤ w) ∧ l.2.natAbs ≤ w) ∧ G = [.val (.list (ns.map .int)), .val (.int k), .val (.int many), .val (.int w), .own (ls.map limL), s5, s6, s7, s8])
    ⟨[], .emp, .emp, .emp, .emp, rfl, by simp, rfl⟩ fun i G hi ⟨ls, s5, s6, s7, s8, hl, hb, hG⟩ => by
      subst hG
      obtain ⟨l, s6', s7', s8', hlk, e⟩ := desk_step ns k many w i hk (by omega) hw (ls.map limL) (by rw [List.length_map]; omega) s6 s7 s8
      refine ⟨_, rfl, _, .inl e, ls ++ [l], .val (.int i), s6', s7', s8', by simp [hl], ?_, by simp⟩
      intro l' hl'
      rcases List.mem_append.mp hl' with h | h
      · exact hb l' h
      · simp at h; subst h; exact hlk
  exact ⟨ls, _, hl, hb, ⟨s5, s6, s7, s8, rfl⟩, e⟩
theorem at4 {a b c d : PyData} {r : Nat} (h : r < 4) : atP [a, b, c, d] (r : Int) = some (if r = 0 then a else if r = 1 then b else if r = 2 then c else d) := by
  match r, h with
  | 0, _ => rfl
  | 1, _ => rfl
  | 2, _ => rfl
  | 3, _ => rfl
theorem big12 : (10 : Int) ^ 12 - 1 = 999999999999 := by decide
theorem big12' : (10 : Int) ^ 12 = 1000000000000 := by decide
theorem desk_tail (ns : List Int) (k many w : Nat) (hk : 1 ≤ k ∧ k ≤ 4) (hm : many ≤ 10) (hw : w ≤ 999999999999) (hs : (k = 4 ∧ many = 10 ∧ w = 2) ∨ (k ≤ 3 ∧ many ≤ 5 ∧ w ≤ 9) ∨ (k ≤ 2 ∧ many ≤ 3 ∧ w = 999999999999)) :
    ∃ (ls : List Lim), DeskOk k w ls ∧ d_law_desk_5 [.val (.list (ns.map .int)), .val (.int k), .val (.int many), .val (.int w), .emp, .emp, .emp, .emp, .emp] = .ok (.rt (.tuple [.int k, .list (ls.map limL)])) := by
  obtain ⟨ls, G', hl, hb, ⟨s5, s6, s7, s8, rfl⟩, e⟩ := desk_loop ns k many w hk hm hw
  have h2 := rngOk_nat (n := many) (by omega)
  refine ⟨ls, ⟨hk.1, hk.2, by omega, hb, by rw [hl]; exact hs⟩, ?_⟩
  simp only [bDesk] at e
  simp [d_law_desk_5, d_law_desk_6, d_law_desk_7, h2, e]
theorem desk_ok (ns : List Int) : ∃ (k w : Nat) (ls : List Lim), DeskOk k w ls ∧ f_law_desk [.list (ns.map .int)] = .ok (.tuple [.int k, .list (ls.map limL)]) := by
  obtain ⟨c0, e0⟩ := cell_ok ns 0 (by omega)
  obtain ⟨c1, e1⟩ := cell_ok ns 1 (by omega)
  obtain ⟨c2, e2⟩ := cell_ok ns 2 (by omega)
  obtain ⟨c3, e3⟩ := cell_ok ns 3 (by omega)
  obtain ⟨r0, m0, h0⟩ : ∃ r : Nat, Int.fmod c0 3 = (r : Int) ∧ r < 3 := mod_ok (n := 3) (by decide)
  obtain ⟨r1, m1, h1⟩ : ∃ r : Nat, Int.fmod c1 6 = (r : Int) ∧ r < 6 := mod_ok (n := 6) (by decide)
  obtain ⟨r2, m2, h2⟩ : ∃ r : Nat, Int.fmod c2 4 = (r : Int) ∧ r < 4 := mod_ok (n := 4) (by decide)
  obtain ⟨r3, m3, h3⟩ : ∃ r : Nat, Int.fmod c3 6 = (r : Int) ∧ r < 6 := mod_ok (n := 6) (by decide)
  have a4 := at4 (a := .int 3) (b := .int 3) (c := .int 9) (d := .int 999999999999) h2
  obtain ⟨w, aw, hw⟩ : ∃ w : Nat, atP [.int 3, .int 3, .int 9, .int 999999999999] (r2 : Int) = some (.int w) ∧ (w ≤ 9 ∨ w = 999999999999) := by
    rw [a4]
    by_cases q0 : r2 = 0
    · exact ⟨3, by simp [q0], .inl (by decide)⟩
    · by_cases q1 : r2 = 1
      · exact ⟨3, by simp [q1], .inl (by decide)⟩
      · by_cases q2 : r2 = 2
        · exact ⟨9, by simp [q2], .inl (by decide)⟩
        · exact ⟨999999999999, by simp [q0, q1, q2], .inr rfl⟩
  -- the three ways
  have top : ∀ (G : List Sl) (t : PyData), d_law_desk_3 [.val (.list (ns.map .int)), .val (.int (1 + (r0 : Int))), .val (.int r1), .val (.int w), .emp, .emp, .emp, .emp, .emp] = .ok (.rt t) → f_law_desk [.list (ns.map .int)] = .ok t := fun _ t h => by
    simp [f_law_desk, runQ, runF, d_law_desk, d_law_desk_1, d_law_desk_2, e0, e1, e2, m0, m1, m2, big12', aw, h]
  by_cases h35 : r3 = 5
  · obtain ⟨ls, ok, e⟩ := desk_tail ns 4 10 2 (by decide) (by decide) (by decide) (.inl (by decide))
    refine ⟨_, _, ls, ok, top [] _ ?_⟩
    simp [d_law_desk_3, d_law_desk_4, e3, m3, h35, fEq]
    exact e
  · have h35' : ¬ ((r3 : Int) = 5) := by omega
    rcases hw with hw | hw
    · obtain ⟨ls, ok, e⟩ := desk_tail ns (1 + r0) r1 w (by omega) (by omega) (by omega) (.inr (.inl (by omega)))
      refine ⟨_, _, ls, ok, top [] _ ?_⟩
      have hw9 : ¬ (9 < (w : Int)) := by omega
      simp [d_law_desk_3, d_law_desk_4, e3, m3, h35', fEq, hw9]
      exact e
    · obtain ⟨rk, mk, hk⟩ : ∃ r : Nat, Int.fmod (1 + (r0 : Int)) 2 = (r : Int) ∧ r < 2 := mod_ok (n := 2) (by decide)
      obtain ⟨rm, mm, hm⟩ : ∃ r : Nat, Int.fmod (r1 : Int) 4 = (r : Int) ∧ r < 4 := mod_ok (n := 4) (by decide)
      obtain ⟨ls, ok, e⟩ := desk_tail ns (1 + rk) rm w (by omega) (by omega) (by omega) (.inr (.inr (by omega)))
      refine ⟨_, _, ls, ok, top [] _ ?_⟩
      have hw9 : 9 < (w : Int) := by omega
      simp [d_law_desk_3, d_law_desk_4, e3, m3, h35', fEq, hw9, mk, mm]
      exact e
end Lw

namespace Lw
open PySem Fx
theorem copied_ok (ls : List Lim) (h : ls.length ≤ 1000) : f_law_copied [.list (ls.map limL)] = .ok (.list (ls.map limL)) := by
  have e := compL_of (st := sName 0) (e := (dTup (dCons (dL (oList (d2 fIx (dVar 0) (dC (.int 0))))) (dCons (d2 fIx (dVar 0) (dC (.int 1))) dNil)))) (C := [.emp]) limL limL ls fun l _ => ⟨[.val (limL l)], rfl, by simp [limL, at0, at1]⟩
  have hl : ls.length ≤ 16777216 := by omega
  simp [f_law_copied, runQ, runF, d_law_copied, hl, e]
theorem isnum_ok {i : Int} (h : i.natAbs ≤ 999999999999) : f_is_number [.int i] = .ok (.bool true) := by
  have : (if i < 0 then -i else i) ≤ 999999999999 := by split <;> omega
  simp [f_is_number, runQ, runF, d_is_number, whole_int, this]
theorem allT_true {α : Type} : ∀ (xs : List α), allT (xs.map fun _ => PyData.bool true) = .ok true
  | [] => rfl
  | _ :: xs => by simp [allT, allT_true xs]
structure LimOk (k w : Nat) (l : Lim) : Prop where
  len : l.1.length = k
  ws : ∀ x ∈ l.1, x.natAbs ≤ w
  bd : l.2.natAbs ≤ w
theorem limit_ok {k w : Nat} {l : Lim} (h : LimOk k w l) (hw : w ≤ 999999999999) (hk : k ≤ 1000) : f_limit_of [.int k, limL l] = .ok (limT l) := by
  have e := compL_of (st := sName 0) (e := (dCall f_is_number (dCons (dVar 0) dNil))) (C := [.emp]) PyData.int (fun _ => PyData.bool true) l.1 fun x hx => ⟨[.val (.int x)], rfl, by simp [isnum_ok (Nat.le_trans (h.ws x hx) hw)]⟩
  have hl : l.1.length ≤ 16777216 := by rw [h.len]; omega
  have hb := isnum_ok (Nat.le_trans h.bd hw)
  have a := allT_true l.1
  obtain rfl := h.len
  simp [f_limit_of, runQ, runF, d_limit_of, d_limit_of_1, d_limit_of_2, d_limit_of_3, d_limit_of_4, d_limit_of_5, d_limit_of_6, limL, limT, at0, at1, fNe, hl, e, hb, a]
theorem DeskOk.lim {k w : Nat} {ls : List Lim} (h : DeskOk k w ls) : ∀ l ∈ ls, LimOk k w l := fun l hl => ⟨(h.ws l hl).1, (h.ws l hl).2.1, (h.ws l hl).2.2⟩
theorem DeskOk.wb {k w : Nat} {ls : List Lim} (h : DeskOk k w ls) : w ≤ 999999999999 := by rcases h.small with h | h | h <;> omega
theorem desk_of_ok {k w : Nat} {ls : List Lim} (h : ∀ l ∈ ls, LimOk k w l) (hw : w ≤ 999999999999) (hk : 1 ≤ k ∧ k ≤ 4) (hl : ls.length ≤ 10) : f_desk_of [.int k, .list (ls.map limL)] = .ok (.tuple [.int k, .tuple (ls.map limT)]) := by
  have e := compL_of (st := sName 0) (e := (dCall f_limit_of (dCons (dVar 1) (dCons (dVar 0) dNil)))) (C := [.emp, .val (.int k)]) limL limT ls fun l hm => ⟨[.val (limL l), .val (.int k)], rfl, by simp [limit_ok (h l hm) hw (by omega)]⟩
  have h1 : ¬ ((k : Int) < 1) := by omega
  have h2 : ¬ (4 < (k : Int)) := by omega
  have h3 : ¬ (10 < (ls.length : Int)) := by omega
  have h4 : ls.length ≤ 16777216 := by omega
  simp [f_desk_of, runQ, runF, d_desk_of, d_desk_of_1, d_desk_of_2, whole_int, h1, h2, h3, h4, e]
theorem check_ok {k : Nat} {ps : List Rat} (h : ps.length = k) (hk : k ≤ 1000) : f_check_point [.int k, .list (ps.map fr)] = .ok .none := by
  have e := compL_of (st := sName 0) (e := (dCall f_is_fraction (dCons (dVar 0) dNil))) (C := [.emp]) fr (fun _ => PyData.bool true) ps fun x hx => ⟨[.val (fr x)], rfl, by simp [isfrac_ok]⟩
  have hl : ps.length ≤ 16777216 := by omega
  have a := allT_true ps
  subst h
  simp [f_check_point, runQ, runF, d_check_point, d_check_point_1, fNe, hl, e, a]
theorem point_step (ns : List Int) (k i : Nat) (xs : List PyData) (hx : xs.length < 100) (s4 : Sl) : ∃ (q : Rat) (s4' : Sl), Sz 4 q ∧
    (dSeq (dSet 4 [] (d2 fAdd (dC (.int 1)) (d2 fMod (dCall f_law_cell_at (dCons (dVar 0) (dCons (d2 fAdd (dC (.int 47)) (dVar 3)) dNil))) (dC (.int 5)))))
    (dApp 2 [] (dCall f_law_frac (dCons (dCall f_law_number (dCons (dCall f_law_cell_at (dCons (dVar 0) (dCons (d2 fAdd (dC (.int 43)) (dVar 3)) dNil))) (dCons (dC (.int 12)) dNil))) (dCons (dVar 4) dNil)))))
    [.val (.list (ns.map .int)), .val (.int k), .own xs, .val (.int i), s4] = .ok (.nx [.val (.list (ns.map .int)), .val (.int k), .own (xs ++ [fr q]), .val (.int i), s4']) := by
  obtain ⟨c, e1⟩ := cell_ok ns (47 + (i : Int)) (by omega)
  obtain ⟨c', e2⟩ := cell_ok ns (43 + (i : Int)) (by omega)
  obtain ⟨r, e3, h1, h2⟩ := number_ok c' 12 (by omega) (by omega)
  obtain ⟨m, e4, h4⟩ : ∃ r : Nat, Int.fmod c 5 = (r : Int) ∧ r < 5 := mod_ok (n := 5) (by decide)
  have z : (1 : Int) + (m : Int) ≠ 0 := by omega
  have hm : ((1 : Int) + (m : Int)).natAbs < 2 ^ 4 := by omega
  have e5 := lfrac_ok (u := r) z hm (by decide)
  have hxl : xs.length < 16777216 := by omega
  exact ⟨Rat.divInt r (1 + (m : Int)), .val (.int (1 + (m : Int))), divInt_sz z (by omega) hm, by simp [e1, e2, e3, e4, e5, hxl]⟩
theorem point_ok (ns : List Int) (k : Nat) (hk : k ≤ 4) : ∃ ps : List Rat, ps.length = k ∧ (∀ q ∈ ps, Sz 4 q) ∧ f_law_point [.list (ns.map .int), .int k] = .ok (.list (ps.map fr)) := by
  obtain ⟨G', e, ps, s3, s4, hl, hb, rfl⟩ := for_rng (st := sName 3) (b := (dSeq (dSet 4 [] (d2 fAdd (dC (.int 1)) (d2 fMod (dCall f_law_cell_at (dCons (dVar 0) (dCons (d2 fAdd (dC (.int 47)) (dVar 3)) dNil))) (dC (.int 5)))))
      (dApp 2 [] (dCall f_law_frac (dCons (dCall f_law_number (dCons (dCall f_law_cell_at (dCons (dVar 0) (dCons (d2 fAdd (dC (.int 43)) (dVar 3)) dNil))) (dCons (dC (.int 12)) dNil))) (dCons (dVar 4) dNil))))))
    (n := k) (G := [.val (.list (ns.map .int)), .val (.int k), .own [], .emp, .emp])
    (fun i G => ∃ (ps : List Rat) (s3 s4 : Sl), ps.length = i ∧ (∀ q ∈ ps, Sz 4 q) ∧ G = [.val (.list (ns.map .int)), .val (.int k), .own (ps.map fr), s3, s4]) ⟨[], .emp, .emp, rfl, by simp, rfl⟩ fun i G hi ⟨ps, s3, s4, hl, hb, hG⟩ => by
      subst hG
      obtain ⟨q, s4', hq, e⟩ := point_step ns k i (ps.map fr) (by rw [List.length_map]; omega) s4
      refine ⟨_, rfl, _, .inl e, ps ++ [q], .val (.int i), s4', by simp [hl], ?_, by simp⟩
      intro x hx
      rcases List.mem_append.mp hx with h | h
      · exact hb x h
      · simp at h; subst h; exact hq
  have h2 := rngOk_nat (n := k) (by omega)
  exact ⟨ps, hl, hb, by simp [f_law_point, runQ, runF, d_law_point, d_law_point_1, d_law_point_2, h2, e]⟩
theorem enumT_map {α : Type} {f : α → PyData} : ∀ (xs : List α) (n : Nat), enumT n (xs.map f) = (xs.zipIdx n).map fun p => .tuple [.int (p.2 : Int), f p.1]
  | [], n => rfl
  | x :: xs, n => by simp [enumT, enumT_map xs (n + 1)]
theorem pow40 : (999999999999 : Nat) < 2 ^ 40 := by decide
theorem wp_of {k w : Nat} {l : Lim} {ps : List Rat} (h : LimOk k w l) (hw : w ≤ 999999999999) (hp : ps.length = k) (hs : ∀ q ∈ ps, Sz 4 q) : WP 40 4 l.1 ps :=
  ⟨fun x hx => Nat.lt_of_le_of_lt (Nat.le_trans (h.ws x hx) hw) pow40, hs, by decide, by rw [h.len, hp]⟩
def overs (ls : List Lim) (ps : List Rat) : List PyData := ((ls.zipIdx).filter fun p => decide ((p.1.2 : Rat) < dot p.1.1 ps)).map fun p => .int (p.2 : Int)
def levels (ls : List Lim) (ps : List Rat) : List PyData := ((ls.zipIdx).filter fun p => decide (dot p.1.1 ps = (p.1.2 : Rat))).map fun p => .int (p.2 : Int)
section
variable {k w : Nat} {ls : List Lim} {ps : List Rat}
theorem mem_zipIdx {α : Type} {xs : List α} {n : Nat} {p : α × Nat} (h : p ∈ xs.zipIdx n) : p.1 ∈ xs := by
  have := List.mem_zipIdx h
  rw [this.2.2]
  exact List.getElem_mem _
theorem wt_ok {l : Lim} (h : LimOk k w l) (hw : w ≤ 999999999999) (hk : k ≤ 4) (hp : ps.length = k) (hs : ∀ q ∈ ps, Sz 4 q) : f_weight [.tuple (l.1.map .int), .list (ps.map fr)] = .ok (fr (dot l.1 ps)) ∧ f_weight [.list (l.1.map .int), .list (ps.map fr)] = .ok (fr (dot l.1 ps)) ∧
    f_law_weigh [.list (l.1.map .int), .list (ps.map fr)] = .ok (fr (dot l.1 ps)) ∧ Sz 200 (dot l.1 ps) ∧ Sz 40 (l.2 : Rat) := by
  have wp := wp_of h hw hp hs
  have hz : wSz 40 4 ps.length ≤ 200 := by
    have := wSz_le (m := 40) (n := 4) (i := ps.length) (j := 4) (by omega)
    exact Nat.le_trans this (by decide)
  refine ⟨weight_ok (.inr rfl) wp (by omega), weight_ok (.inl rfl) wp (by omega), weigh_ok (.inl rfl) wp (by omega) (by omega), ?_, Sz.ofInt (Nat.lt_of_le_of_lt (Nat.le_trans h.bd hw) pow40) (by decide)⟩
  have s := wp.sz ps.length (Nat.le_refl _)
  have e1 : dot (l.1.take ps.length) (ps.take ps.length) = dot l.1 ps := by rw [List.take_length, ← wp.len, List.take_length]
  rw [e1] at s
  exact s.mono hz
theorem broken_ok (h : ∀ l ∈ ls, LimOk k w l) (hw : w ≤ 999999999999) (hk : k ≤ 4) (hl : ls.length ≤ 10) (hp : ps.length = k) (hs : ∀ q ∈ ps, Sz 4 q) : f_broken [.tuple [.int k, .tuple (ls.map limT)], .list (ps.map fr)] = .ok (.list (overs ls ps)) := by
  have c := check_ok hp (by omega)
  have e := compL_filt (st := sTup2 0 1) (c := (tV (dCall f_below (dCons (dTup (dCons (d2 fIx (dVar 1) (dC (.int 1))) (dCons (dC (.int 1)) dNil))) (dCons (dCall f_weight (dCons (d2 fIx (dVar 1) (dC (.int 0))) (dCons (dVar 2) dNil))) dNil))))) (e := (dVar 0)) (C := [.emp, .emp, .val (.list (ps.map fr))])
    (fun (p : Lim × Nat) => PyData.tuple [.int (p.2 : Int), limT p.1]) (fun p => .int (p.2 : Int)) (fun p => decide ((p.1.2 : Rat) < dot p.1.1 ps)) (ls.zipIdx) fun p hm => by
      obtain ⟨w1, _, _, s1, s2⟩ := wt_ok (h p.1 (mem_zipIdx hm)) hw hk hp hs
      have b := below_ok s2 s1 (by decide)
      exact ⟨[.val (.int (p.2 : Int)), .val (limT p.1), .val (.list (ps.map fr))], rfl, by simp [limT, at0, at1, w1, fr_int, b], fun _ => rfl⟩
  have hl' : ls.length ≤ 16777216 := by omega
  simp [f_broken, runQ, runF, d_broken, d_broken_1, at0, at1, c, enumT_map, hl', e, overs]
theorem just_ok (h : ∀ l ∈ ls, LimOk k w l) (hw : w ≤ 999999999999) (hk : k ≤ 4) (hl : ls.length ≤ 10) (hp : ps.length = k) (hs : ∀ q ∈ ps, Sz 4 q) : f_just [.tuple [.int k, .tuple (ls.map limT)], .list (ps.map fr)] = .ok (.list (levels ls ps)) := by
  have c := check_ok hp (by omega)
  have e := compL_filt (st := sTup2 0 1) (c := (tV (d2 fEq (dCall f_weight (dCons (d2 fIx (dVar 1) (dC (.int 0))) (dCons (dVar 2) dNil))) (dTup (dCons (d2 fIx (dVar 1) (dC (.int 1))) (dCons (dC (.int 1)) dNil)))))) (e := (dVar 0)) (C := [.emp, .emp, .val (.list (ps.map fr))])
    (fun (p : Lim × Nat) => PyData.tuple [.int (p.2 : Int), limT p.1]) (fun p => .int (p.2 : Int)) (fun p => decide (dot p.1.1 ps = (p.1.2 : Rat))) (ls.zipIdx) fun p hm => by
      obtain ⟨w1, _, _, s1, s2⟩ := wt_ok (h p.1 (mem_zipIdx hm)) hw hk hp hs
      exact ⟨[.val (.int (p.2 : Int)), .val (limT p.1), .val (.list (ps.map fr))], rfl, by simp [limT, at0, at1, w1, fr_int, fEq_fr], fun _ => rfl⟩
  have hl' : ls.length ≤ 16777216 := by omega
  simp [f_just, runQ, runF, d_just, d_just_1, at0, at1, c, enumT_map, hl', e, levels]
end
end Lw

namespace K03
open PySem Fx Lw
def d_limit_of_6 : DS :=
    (dRet (dTup (dCons (d1 fTuple (dVar 2)) (dCons (dVar 3) dNil))))
def d_limit_of_5 : DS :=
    dSeq (dIf (tNot (tV (dCall f_is_number (dCons (dVar 3) dNil))))
    (dRaise "NoDesk" (dCons (dC (.str (PySem.Str.ofString "a bound is a whole number of at most 12 figures"))) dNil))
    dPass)
    d_limit_of_6
def d_limit_of_4 : DS :=
    dSeq (dIf (tNot (tV (d1 fAll (dL (dComp 1 [] (sName 0) (iSeq (dVar 2)) tT (dCall f_is_number (dCons (dVar 0) dNil)))))))
    (dRaise "NoDesk" (dCons (dC (.str (PySem.Str.ofString "a weight is a whole number of at most 12 figures"))) dNil))
    dPass)
    d_limit_of_5
def d_limit_of_3 : DS :=
    dSeq (dIf (tOr (tNot (tV (d1 (fIs isList) (dVar 2)))) (tV (d2 fNe (d1 fLen (dVar 2)) (dVar 0))))
    (dRaise "NoDesk" (dCons (dC (.str (PySem.Str.ofString "weights are a list with one number for each kind"))) dNil))
    dPass)
    d_limit_of_4
def d_limit_of_2 : DS :=
    dSeq (dSet 3 [] (d2 fIx (dVar 1) (dC (.int 1))))
    d_limit_of_3
def d_limit_of_1 : DS :=
    dSeq (dSet 2 [] (d2 fIx (dVar 1) (dC (.int 0))))
    d_limit_of_2
def d_limit_of : DS :=
    dSeq (dIf (tOr (tNot (tV (d1 (fIs isTuple) (dVar 1)))) (tV (d2 fNe (d1 fLen (dVar 1)) (dC (.int 2)))))
    (dRaise "NoDesk" (dCons (dC (.str (PySem.Str.ofString "a limit is a tuple of weights and a bound"))) dNil))
    dPass)
    d_limit_of_1
def f_limit_of : DF := runF 4 2 d_limit_of
def d_desk_of_2 : DS :=
    (dRet (dTup (dCons (dVar 0) (dCons (d1 fTuple (dL (dComp 1 [0] (sName 0) (iSeq (dVar 1)) tT (dCall f_limit_of (dCons (dVar 1) (dCons (dVar 0) dNil)))))) dNil))))
def d_desk_of_1 : DS :=
    dSeq (dIf (tOr (tNot (tV (d1 (fIs isList) (dVar 1)))) (tV (d2 fGt (d1 fLen (dVar 1)) (dC (.int 10)))))
    (dRaise "NoDesk" (dCons (dC (.str (PySem.Str.ofString "limits are a list of at most 10"))) dNil))
    dPass)
    d_desk_of_2
def d_desk_of : DS :=
    dSeq (dIf (tOr (tNot (tV (dCall f_is_whole (dCons (dVar 0) dNil)))) (tOr (tV (d2 fLt (dVar 0) (dC (.int 1)))) (tV (d2 fGt (dVar 0) (dC (.int 4))))))
    (dRaise "NoDesk" (dCons (dC (.str (PySem.Str.ofString "kinds are a whole number from 1 to 4"))) dNil))
    dPass)
    d_desk_of_1
def f_desk_of : DF := runF 2 2 d_desk_of
def d_law_refused_3 : DS :=
    (dRet (d2 fEq (dVar 2) (dC (.int 2))))
def d_law_refused_2 : DS :=
    dSeq (dTryA 3 (dDrop (dCallN f_desk_of (dCons (dVar 0) (dCons (dVar 1) dNil)))) (subs ["NoDesk"])
    (dSet 2 [] (d2 fAdd (dVar 2) (d1 fInt (d1 fIsX (dVar 3))))))
    d_law_refused_3
def d_law_refused_1 : DS :=
    dSeq (dTry (dDrop (dCallN f_desk_of (dCons (dVar 0) (dCons (dVar 1) dNil)))) (subs ["NoDesk"])
    (dSet 2 [] (d2 fAdd (dVar 2) (dC (.int 1)))))
    d_law_refused_2
def d_law_refused : DS :=
    dSeq (dSet 2 [] (dC (.int 0)))
    d_law_refused_1
def f_law_refused : DF := runQ 4 2 d_law_refused
def d_law_odd_number : DS :=
    (dRet (d2 fIx (dLst (dCons (dC (.bool true)) (dCons (dC (.str (PySem.Str.ofString "1"))) (dCons (dC .none) (dCons (d2 fPow (dC (.int 10)) (dC (.int 12))) (dCons (d1 fNeg (d2 fPow (dC (.int 10)) (dC (.int 12)))) (dCons (d2 fAdd (d2 fPow (dC (.int 10)) (dC (.int 12))) (d2 fMod (dVar 0) (d2 fPow (dC (.int 10)) (dC (.int 9))))) dNil))))))) (d2 fMod (dVar 0) (dC (.int 6)))))
def f_law_odd_number : DF := runQ 1 1 d_law_odd_number
def d_law_spoilt_4 : DS :=
    (dRet (dTup (dCons (dVar 3) (dCons (dCall f_law_odd_number (dCons (dVar 2) dNil)) dNil))))
def d_law_spoilt_3 : DS :=
    dSeq (dIf (tV (d2 fLt (dVar 1) (dC (.int 9))))
    (dSeq (dSetIt 3 [] (d2 fMod (d2 fDiv (dVar 2) (dC (.int 6))) (dLenN 3)) (dCall f_law_odd_number (dCons (dVar 2) dNil)))
    (dRet (dTup (dCons (dVar 3) (dCons (d2 fIx (dVar 0) (dC (.int 1))) dNil)))))
    dPass)
    d_law_spoilt_4
def d_law_spoilt_2 : DS :=
    dSeq (dIf (tV (d2 fEq (dVar 1) (dC (.int 6))))
    (dRet (d2 fIx (dLst (dCons (dTup (dCons (d1 fTuple (dVar 3)) (dCons (d2 fIx (dVar 0) (dC (.int 1))) dNil))) (dCons (dTup (dCons (d2 fAdd (dVar 3) (dLst (dCons (dC (.int 1)) dNil))) (dCons (d2 fIx (dVar 0) (dC (.int 1))) dNil))) (dCons (dTup (dCons (dL (oCut (dVar 3) (pAt (dC (.int 1))) pNo)) (dCons (d2 fIx (dVar 0) (dC (.int 1))) dNil))) dNil)))) (d2 fMod (dVar 2) (dC (.int 3)))))
    dPass)
    d_law_spoilt_3
def d_law_spoilt_1 : DS :=
    dSeq (dIf (tV (d2 fEq (dVar 1) (dC (.int 5))))
    (dRet (d2 fIx (dLst (dCons (dLst (dCons (dVar 3) (dCons (d2 fIx (dVar 0) (dC (.int 1))) dNil))) (dCons (dTup (dCons (dVar 3) (dCons (d2 fIx (dVar 0) (dC (.int 1))) (dCons (dC (.int 0)) dNil)))) (dCons (dTup (dCons (dVar 3) dNil)) dNil)))) (d2 fMod (dVar 2) (dC (.int 3)))))
    dPass)
    d_law_spoilt_2
def d_law_spoilt : DS :=
    dSeq (dSetO 3 [] (oList (d2 fIx (dVar 0) (dC (.int 0)))))
    d_law_spoilt_1
def f_law_spoilt : DF := runQ 4 3 d_law_spoilt
def d_law_11 : DS :=
    (dRet (dCall f_law_refused (dCons (dVar 2) (dCons (dVar 5) dNil))))
def d_law_10 : DS :=
    dSeq (dSetIt 5 [] (dVar 6) (dCall f_law_spoilt (dCons (dIxN 5 (dVar 6)) (dCons (dVar 3) (dCons (dVar 4) dNil)))))
    d_law_11
def d_law_9 : DS :=
    dSeq (dSet 6 [] (d2 fMod (dCall f_law_cell_at (dCons (dVar 0) (dCons (dC (.int 7)) dNil))) (dLenN 5)))
    d_law_10
def d_law_8 : DS :=
    dSeq (dIf (tV (d2 fEq (dVar 3) (dC (.int 4))))
    (dRet (dCall f_law_refused (dCons (dVar 2) (dCons (dL (dComp 1 [2, 4] (sName 0) (iRng (dC (.int 11))) tT (dTup (dCons (dL (dComp 1 [2] (sName 0) (iRng (dVar 1)) tT (d2 fMod (dVar 1) (dC (.int 4))))) (dCons (dVar 0) dNil))))) dNil))))
    dPass)
    d_law_9
def d_law_7 : DS :=
    dSeq (dIf (tV (d2 fEq (dVar 3) (dC (.int 3))))
    (dRet (dCall f_law_refused (dCons (dVar 2) (dCons (d2 fIx (dLst (dCons (dC .none) (dCons (d1 fTuple (dVar 5)) dNil))) (d2 fMod (dVar 4) (dC (.int 2)))) dNil))))
    dPass)
    d_law_8
def d_law_6 : DS :=
    dSeq (dIf (tV (d2 fLt (dVar 3) (dC (.int 3))))
    (dRet (dCall f_law_refused (dCons (d2 fIx (dLst (dCons (dC (.int 0)) (dCons (dC (.int 5)) (dCons (d1 fNeg (dC (.int 1))) (dCons (dC (.bool true)) (dCons (dC (.str (PySem.Str.ofString "2"))) (dCons (dC .none) (dCons (d2 fAdd (dC (.int 5)) (d2 fMod (dVar 4) (d2 fPow (dC (.int 10)) (dC (.int 9))))) dNil)))))))) (d2 fMod (dVar 4) (dC (.int 7)))) (dCons (dLst dNil) dNil))))
    dPass)
    d_law_7
def d_law_5 : DS :=
    dSeq (dIf (tV (d2 fEq (dVar 3) (dC (.int 10))))
    (dSeq (dSetIt 5 [] (d1 fNeg (dC (.int 1))) (dTup (dCons (dL (dComp 1 [] (sName 0) (iRng (dVar 2)) tT (d2 fSub (d2 fPow (dC (.int 10)) (dC (.int 12))) (dC (.int 1))))) (dCons (d2 fSub (dC (.int 1)) (d2 fPow (dC (.int 10)) (dC (.int 12)))) dNil))))
    (dRet (d2 fEq (dCall f_desk_of (dCons (dVar 2) (dCons (dVar 5) dNil))) (dTup (dCons (dVar 2) (dCons (d1 fTuple (dL (dComp 1 [] (sName 0) (iSeq (dVar 5)) tT (dTup (dCons (d1 fTuple (d2 fIx (dVar 0) (dC (.int 0)))) (dCons (d2 fIx (dVar 0) (dC (.int 1))) dNil)))))) dNil))))))
    dPass)
    d_law_6
def d_law_4 : DS :=
    dSeq (dSetO 5 [] (oCat (dL (oCut (dCall f_law_copied (dCons (d2 fIx (dVar 1) (dC (.int 1))) dNil)) pNo (pAt (dC (.int 9))))) (dLst (dCons (dTup (dCons (dL (dComp 1 [] (sName 0) (iRng (dVar 2)) tT (dC (.int 1)))) (dCons (dC (.int 1)) dNil))) dNil))))
    d_law_5
def d_law_3 : DS :=
    dSeq (dSet 4 [] (dCall f_law_cell_at (dCons (dVar 0) (dCons (dC (.int 6)) dNil))))
    d_law_4
def d_law_2 : DS :=
    dSeq (dSet 3 [] (d2 fMod (dCall f_law_cell_at (dCons (dVar 0) (dCons (dC (.int 5)) dNil))) (dC (.int 11))))
    d_law_3
def d_law_1 : DS :=
    dSeq (dSet 2 [] (d2 fIx (dVar 1) (dC (.int 0))))
    d_law_2
def d_law : DS :=
    dSeq (dSet 1 [] (dCall f_law_desk (dCons (dVar 0) dNil)))
    d_law_1
def f_law : DF := runQ 7 1 d_law

/-! ### exceptions in comprehensions -/
theorem compL_exc {α : Type} {st : PyData → List Sl → Res (List Sl)} {e : DE} {C : List Sl} {c : Str} (inj f : α → PyData) (bad : PyData) (post : List PyData) (hb : ∃ G1, st bad C = .ok G1 ∧ e G1 = .exc c) : ∀ (pre : List α), (∀ x ∈ pre, ∃ G1, st (inj x) C = .ok G1 ∧ e G1 = .ok (f x)) →
    compL st tT e C (pre.map inj ++ bad :: post) = .exc c
  | [], _ => by
    obtain ⟨G1, e1, e2⟩ := hb
    show compL st tT e C (bad :: post) = _
    unfold compL
    simp [e1, e2]
  | x :: pre, h => by
    obtain ⟨G1, e1, e2⟩ := h x List.mem_cons_self
    have ih := compL_exc inj f bad post hb pre fun y hy => h y (List.mem_cons_of_mem _ hy)
    rw [List.map_cons, List.cons_append]
    unfold compL
    simp [e1, e2, ih]
def numOk : PyData → Bool
  | .int i => decide (i.natAbs ≤ 999999999999)
  | _ => false
theorem isnum (t : PyData) (h : noD t = true) : f_is_number [t] = .ok (.bool (numOk t)) := by
  cases t with
  | int i =>
    have : (decide ((if i < 0 then -i else i) ≤ 999999999999)) = decide (i.natAbs ≤ 999999999999) := by
      congr 1
      apply propext
      split <;> omega
    simp [f_is_number, runQ, runF, d_is_number, whole_int, numOk, this]
  | dict _ => simp at h
  | none => simp [f_is_number, runQ, runF, d_is_number, whole_ok .none rfl, numOk]
  | bool b => simp [f_is_number, runQ, runF, d_is_number, whole_ok (.bool b) rfl, numOk]
  | str b => simp [f_is_number, runQ, runF, d_is_number, whole_ok (.str b) rfl, numOk]
  | list b => simp [f_is_number, runQ, runF, d_is_number, whole_ok (.list b) rfl, numOk]
  | tuple b => simp [f_is_number, runQ, runF, d_is_number, whole_ok (.tuple b) rfl, numOk]
theorem allT_map : ∀ (xs : List PyData), allT (xs.map fun x => PyData.bool (numOk x)) = .ok (xs.all numOk)
  | [] => rfl
  | x :: xs => by simp [allT, allT_map xs]
section
variable {k : Nat} {w b : PyData} {xs : List PyData}
/-- no tuple of two -/
theorem lim_a {t : PyData} (h : noD t = true) (ht : ∀ x y, t ≠ .tuple [x, y]) : f_limit_of [.int k, t] = .exc "NoDesk" := by
  cases t with
  | tuple ys =>
    have hl : ys.length ≠ 2 := fun z => by
      match ys, z with
      | [x, y], _ => exact ht x y rfl
    have hl' : ¬ ((ys.length : Int) = 2) := by omega
    simp [f_limit_of, runF, d_limit_of, fNe, hl']
  | dict _ => simp at h
  | none => simp [f_limit_of, runF, d_limit_of]
  | bool b => simp [f_limit_of, runF, d_limit_of]
  | str b => simp [f_limit_of, runF, d_limit_of]
  | list b => simp [f_limit_of, runF, d_limit_of]
  | int b => simp [f_limit_of, runF, d_limit_of]
/-- weights as a tuple -/
theorem lim_b {ys : List PyData} : f_limit_of [.int k, .tuple [.tuple ys, b]] = .exc "NoDesk" := by
  simp [f_limit_of, runF, d_limit_of, d_limit_of_1, d_limit_of_2, d_limit_of_3, fNe, at0, at1]
/-- too many or too few weights -/
theorem lim_c (h : xs.length ≠ k) : f_limit_of [.int k, .tuple [.list xs, b]] = .exc "NoDesk" := by
  have h' : ¬ ((xs.length : Int) = (k : Int)) := by omega
  simp [f_limit_of, runF, d_limit_of, d_limit_of_1, d_limit_of_2, d_limit_of_3, fNe, at0, at1, h']
theorem lim_d (hl : xs.length = k) (hk : k ≤ 1000) (hx : ∀ x ∈ xs, noD x = true) (hb : noD b = true) (h : xs.all numOk = false ∨ numOk b = false) : f_limit_of [.int k, .tuple [.list xs, b]] = .exc "NoDesk" := by
  have e := compL_map (st := sName 0) (e := (dCall f_is_number (dCons (dVar 0) dNil))) (C := [.emp]) (fun x => PyData.bool (numOk x)) xs fun x hm => ⟨[.val x], rfl, by simp [isnum x (hx x hm)]⟩
  have a := allT_map xs
  have hl2 : xs.length ≤ 16777216 := by omega
  have nb := isnum b hb
  subst hl
  cases ha : xs.all numOk with
  | false =>
    rw [ha] at a
    simp [f_limit_of, runF, d_limit_of, d_limit_of_1, d_limit_of_2, d_limit_of_3, d_limit_of_4, fNe, at0, at1, hl2, e, a]
  | true =>
    rw [ha] at a
    have hb' : numOk b = false := h.resolve_left (by rw [ha]; simp)
    rw [hb'] at nb
    simp [f_limit_of, runF, d_limit_of, d_limit_of_1, d_limit_of_2, d_limit_of_3, d_limit_of_4, d_limit_of_5, fNe, at0, at1, hl2, e, a, nb]
end
theorem limit_good {k w : Nat} {l : Lim} (h : LimOk k w l) (hw : w ≤ 999999999999) (hk : k ≤ 1000) : f_limit_of [.int k, limL l] = .ok (limT l) := by
  have e := compL_of (st := sName 0) (e := (dCall f_is_number (dCons (dVar 0) dNil))) (C := [.emp]) PyData.int (fun _ => PyData.bool true) l.1 fun x hx => ⟨[.val (.int x)], rfl, by simp [isnum_ok (Nat.le_trans (h.ws x hx) hw)]⟩
  have hl : l.1.length ≤ 16777216 := by rw [h.len]; omega
  have hb := isnum_ok (Nat.le_trans h.bd hw)
  have a := allT_true l.1
  obtain rfl := h.len
  simp [f_limit_of, runF, d_limit_of, d_limit_of_1, d_limit_of_2, d_limit_of_3, d_limit_of_4, d_limit_of_5, d_limit_of_6, limL, limT, at0, at1, fNe, hl, e, hb, a]
theorem desk_good {k w : Nat} {ls : List Lim} (h : ∀ l ∈ ls, LimOk k w l) (hw : w ≤ 999999999999) (hk : 1 ≤ k ∧ k ≤ 4) (hl : ls.length ≤ 10) : f_desk_of [.int k, .list (ls.map limL)] = .ok (.tuple [.int k, .tuple (ls.map limT)]) := by
  have e := compL_of (st := sName 0) (e := (dCall f_limit_of (dCons (dVar 1) (dCons (dVar 0) dNil)))) (C := [.emp, .val (.int k)]) limL limT ls fun l hm => ⟨[.val (limL l), .val (.int k)], rfl, by simp [limit_good (h l hm) hw (by omega)]⟩
  have h1 : ¬ ((k : Int) < 1) := by omega
  have h2 : ¬ (4 < (k : Int)) := by omega
  have h3 : ¬ (10 < (ls.length : Int)) := by omega
  have h4 : ls.length ≤ 16777216 := by omega
  simp [f_desk_of, runF, d_desk_of, d_desk_of_1, d_desk_of_2, whole_int, h1, h2, h3, h4, e]
/-- a bad limit at some place -/
theorem desk_bad {k w : Nat} {pre : List Lim} {t : PyData} {post : List PyData} (h : ∀ l ∈ pre, LimOk k w l) (hw : w ≤ 999999999999) (hk : 1 ≤ k ∧ k ≤ 4) (hl : pre.length + post.length < 10) (hb : f_limit_of [.int k, t] = .exc "NoDesk") :
    f_desk_of [.int k, .list (pre.map limL ++ t :: post)] = .exc "NoDesk" := by
  have e := compL_exc (st := sName 0) (e := (dCall f_limit_of (dCons (dVar 1) (dCons (dVar 0) dNil)))) (C := [.emp, .val (.int k)]) (c := "NoDesk") limL limT t post ⟨[.val t, .val (.int k)], rfl, by simp [hb]⟩ pre fun l hm => ⟨[.val (limL l), .val (.int k)], rfl, by simp [limit_good (h l hm) hw (by omega)]⟩
  have h1 : ¬ ((k : Int) < 1) := by omega
  have h2 : ¬ (4 < (k : Int)) := by omega
  have h3 : ¬ (10 < ((pre.length : Int) + ((post.length : Int) + 1))) := by omega
  have h4 : pre.length + (post.length + 1) ≤ 16777216 := by omega
  simp [f_desk_of, runF, d_desk_of, d_desk_of_1, d_desk_of_2, whole_int, h1, h2, h3, h4, e]
theorem refused_ok {a b : PyData} (h : f_desk_of [a, b] = .exc "NoDesk") : f_law_refused [a, b] = .ok (.bool true) := by
  simp [f_law_refused, runQ, runF, d_law_refused, d_law_refused_1, d_law_refused_2, d_law_refused_3, h, fEq]
theorem odd_ok (c : Int) : ∃ o, f_law_odd_number [.int c] = .ok o ∧ numOk o = false ∧ noD o = true ∧ scalT o = true := by
  obtain ⟨r, e, h⟩ : ∃ r : Nat, Int.fmod c 6 = (r : Int) ∧ r < 6 := mod_ok (n := 6) (by decide)
  obtain ⟨m, e9, h9⟩ : ∃ r : Nat, Int.fmod c 1000000000 = (r : Int) ∧ r < 1000000000 := mod_ok (n := 1000000000) (by decide)
  have b9 : (10 : Int) ^ 9 = 1000000000 := by decide
  have ev : ∀ o, atP [.bool true, .str (PySem.Str.ofString "1"), .none, .int 1000000000000, .int (-1000000000000), .int (1000000000000 + (m : Int))] (r : Int) = some o → f_law_odd_number [.int c] = .ok o := fun o ho => by
    simp [f_law_odd_number, runQ, runF, d_law_odd_number, big12', e, b9, e9, ho]
  match r, h with
  | 0, _ => exact ⟨_, ev _ rfl, rfl, rfl, by simp⟩
  | 1, _ => exact ⟨_, ev _ rfl, rfl, rfl, by simp⟩
  | 2, _ => exact ⟨_, ev _ rfl, rfl, rfl, by simp⟩
  | 3, _ => exact ⟨_, ev _ rfl, by decide, rfl, by simp⟩
  | 4, _ => exact ⟨_, ev _ rfl, by decide, rfl, by simp⟩
  | 5, _ => exact ⟨_, ev _ rfl, by simp [numOk]; omega, rfl, by simp⟩
theorem at3 {a b c : PyData} {r : Nat} (h : r < 3) : atP [a, b, c] (r : Int) = some (if r = 0 then a else if r = 1 then b else c) := by
  match r, h with
  | 0, _ => rfl
  | 1, _ => rfl
  | 2, _ => rfl
theorem ints_noD (ws : List Int) : ∀ x ∈ ws.map PyData.int, noD x = true := by
  intro x hx
  obtain ⟨i, _, rfl⟩ := List.mem_map.mp hx
  rfl
theorem cut1 (xs : List PyData) : cutT xs (some 1) none = xs.drop 1 := by
  unfold cutT sIxT
  simp
  cases xs with
  | nil => simp
  | cons x xs => simp [List.take_of_length_le]
theorem spoilt_ok {k w : Nat} {l : Lim} (h : LimOk k w l) (hk : 1 ≤ k ∧ k ≤ 4) (way : Nat) (hw : 5 ≤ way ∧ way ≤ 9) (c : Int) : ∃ t, f_law_spoilt [limL l, .int way, .int c] = .ok t ∧ f_limit_of [.int k, t] = .exc "NoDesk" := by
  obtain ⟨r, e3, h3⟩ : ∃ r : Nat, Int.fmod c 3 = (r : Int) ∧ r < 3 := mod_ok (n := 3) (by decide)
  obtain ⟨o, eo, o1, o2, o3⟩ := odd_ok c
  have hl := h.len
  by_cases w5 : way = 5
  · subst w5
    have a := at3 (a := .list [.list (l.1.map .int), .int l.2]) (b := .tuple [.list (l.1.map .int), .int l.2, .int 0]) (c := .tuple [.list (l.1.map .int)]) h3
    refine ⟨_, by simp [f_law_spoilt, runQ, runF, d_law_spoilt, d_law_spoilt_1, limL, at0, at1, fEq, e3, a]; rfl, ?_⟩
    match r, h3 with
    | 0, _ => exact lim_a rfl (fun x y z => by simp at z)
    | 1, _ => exact lim_a rfl (fun x y z => by simp at z)
    | 2, _ => exact lim_a rfl (fun x y z => by simp at z)
  · have w5' : ¬ ((way : Int) = 5) := by omega
    by_cases w6 : way = 6
    · subst w6
      have a := at3 (a := .tuple [.tuple (l.1.map .int), .int l.2]) (b := .tuple [.list (l.1.map .int ++ [.int 1]), .int l.2]) (c := .tuple [.list ((l.1.map PyData.int).drop 1), .int l.2]) h3
      have z1 : l.1.length + 1 ≤ 16777216 := by omega
      refine ⟨_, by simp [f_law_spoilt, runQ, runF, d_law_spoilt, d_law_spoilt_1, d_law_spoilt_2, limL, at0, at1, fEq, e3, z1, cut1]; simp at a; rw [a]; rfl, ?_⟩
      match r, h3 with
      | 0, _ => exact lim_b
      | 1, _ => exact lim_c (by simp; omega)
      | 2, _ => exact lim_c (by simp; omega)
    · have w6' : ¬ ((way : Int) = 6) := by omega
      by_cases w9 : way < 9
      · have w9' : (way : Int) < 9 := by omega
        obtain ⟨m, em, hm⟩ : ∃ r : Nat, Int.fmod (c.fdiv 6) (l.1.length : Int) = (r : Int) ∧ r < l.1.length := mod_ok (by omega)
        have d6 : divOk 6 = true := by decide
        have nz : ¬ ((l.1.length : Int) = 0) := by omega
        have nz' : l.1 ≠ [] := by intro z; rw [z] at nz; simp at nz
        have ix : ixP l.1.length (m : Int) = some m := by simp [ixP, hm]
        refine ⟨.tuple [.list ((l.1.map .int).set m o), .int l.2], ?_, lim_d (by simp [hl]) (by omega) (fun x hx => ?_) rfl (.inl ?_)⟩
        · simp [f_law_spoilt, runQ, runF, d_law_spoilt, d_law_spoilt_1, d_law_spoilt_2, d_law_spoilt_3, limL, at0, at1, fEq, w5', w6', w9', eo, d6, nz', em, ix]
        · rcases List.mem_or_eq_of_mem_set hx with z | z
          · exact ints_noD l.1 x z
          · rw [z]; exact o2
        · rw [List.all_eq_false]
          refine ⟨o, ?_, by simp [o1]⟩
          exact List.mem_set (l := l.1.map PyData.int) (by simpa using hm) o
      · have w9' : ¬ ((way : Int) < 9) := by omega
        refine ⟨.tuple [.list (l.1.map .int), o], ?_, lim_d (by simp [hl]) (by omega) (ints_noD l.1) o2 (.inr o1)⟩
        simp [f_law_spoilt, runQ, runF, d_law_spoilt, d_law_spoilt_1, d_law_spoilt_2, d_law_spoilt_3, d_law_spoilt_4, limL, at0, at1, fEq, w5', w6', w9', eo]
theorem mod2 (c : Int) : Int.fmod c 2 = 0 ∨ Int.fmod c 2 = 1 := by
  rw [Int.fmod_eq_emod_of_nonneg _ (by decide)]; omega
/-! ### the law -/
theorem ones (k : Nat) (i : Int) : compL (sName 0) tT (dC (.int i)) [.emp] (rngT 0 k) = .ok ((List.replicate k i).map .int) := by
  have e := compL_map (st := sName 0) (e := (dC (.int i))) (C := [.emp]) (fun _ => PyData.int i) (rngT 0 k) fun t _ => ⟨[.val t], rfl, rfl⟩
  rw [e, rngT_map, List.map_map]
  congr 1
  apply List.ext_getElem
  · simp
  · intro n h1 h2; simp
theorem bigs (k : Nat) : compL (sName 0) tT (d2 fSub (d2 fPow (dC (.int 10)) (dC (.int 12))) (dC (.int 1))) [.emp] (rngT 0 k) = .ok ((List.replicate k (999999999999 : Int)).map .int) := by
  have e := compL_map (st := sName 0) (e := (d2 fSub (d2 fPow (dC (.int 10)) (dC (.int 12))) (dC (.int 1)))) (C := [.emp]) (fun _ => PyData.int 999999999999) (rngT 0 k) fun t _ => ⟨[.val t], rfl, by simp [big12']⟩
  rw [e, rngT_map, List.map_map]
  congr 1
  apply List.ext_getElem
  · simp
  · intro n h1 h2; simp
def lastL (k : Nat) : Lim := (List.replicate k 1, 1)
def lastB (k : Nat) : Lim := (List.replicate k 999999999999, -999999999999)
theorem cut9 (xs : List PyData) : cutT xs none (some 9) = xs.take 9 := by
  unfold cutT sIxT
  simp
theorem lim_last (k : Nat) : LimOk k 999999999999 (lastL k) := ⟨by simp [lastL], fun x hx => by simp [lastL] at hx; rw [hx.2]; decide, show (1 : Int).natAbs ≤ 999999999999 by decide⟩
theorem lim_lastB (k : Nat) : LimOk k 999999999999 (lastB k) := ⟨by simp [lastB], fun x hx => by simp [lastB] at hx; rw [hx.2]; decide, show (-999999999999 : Int).natAbs ≤ 999999999999 by decide⟩
theorem kinds_bad (c : Int) : ∃ K, atP [.int 0, .int 5, .int (-1), .bool true, .str (PySem.Str.ofString "2"), .none, .int (5 + Int.fmod c 1000000000)] (Int.fmod c 7) = some K ∧ f_desk_of [K, .list []] = .exc "NoDesk" := by
  obtain ⟨r, e, h⟩ : ∃ r : Nat, Int.fmod c 7 = (r : Int) ∧ r < 7 := mod_ok (n := 7) (by decide)
  obtain ⟨m, e9, h9⟩ : ∃ r : Nat, Int.fmod c 1000000000 = (r : Int) ∧ r < 1000000000 := mod_ok (n := 1000000000) (by decide)
  rw [e, e9]
  have big : ∀ i : Int, (i < 1 ∨ 4 < i) → f_desk_of [.int i, .list []] = .exc "NoDesk" := fun i hi => by
    by_cases h1 : i < 1
    · simp [f_desk_of, runF, d_desk_of, whole_int, h1]
    · have h2 : 4 < i := by omega
      simp [f_desk_of, runF, d_desk_of, whole_int, h1, h2]
  match r, h with
  | 0, _ => exact ⟨_, rfl, big _ (by omega)⟩
  | 1, _ => exact ⟨_, rfl, big _ (by omega)⟩
  | 2, _ => exact ⟨_, rfl, big _ (by omega)⟩
  | 3, _ => exact ⟨_, rfl, by simp [f_desk_of, runF, d_desk_of, whole_ok (.bool true) rfl]⟩
  | 4, _ => exact ⟨_, rfl, by simp [f_desk_of, runF, d_desk_of, whole_ok (.str (PySem.Str.ofString "2")) rfl]⟩
  | 5, _ => exact ⟨_, rfl, by simp [f_desk_of, runF, d_desk_of, whole_ok .none rfl]⟩
  | 6, _ => exact ⟨_, rfl, big _ (by omega)⟩
theorem limits_bad {k : Nat} (hk : 1 ≤ k ∧ k ≤ 4) : f_desk_of [.int k, .none] = .exc "NoDesk" ∧ (∀ ys, f_desk_of [.int k, .tuple ys] = .exc "NoDesk") ∧ ∀ ys : List PyData, 10 < ys.length → f_desk_of [.int k, .list ys] = .exc "NoDesk" := by
  have h1 : ¬ ((k : Int) < 1) := by omega
  have h2 : ¬ (4 < (k : Int)) := by omega
  refine ⟨by simp [f_desk_of, runF, d_desk_of, d_desk_of_1, whole_int, h1, h2], fun ys => by simp [f_desk_of, runF, d_desk_of, d_desk_of_1, whole_int, h1, h2], fun ys hy => ?_⟩
  have h3 : 10 < (ys.length : Int) := by omega
  simp [f_desk_of, runF, d_desk_of, d_desk_of_1, whole_int, h1, h2, h3]
theorem eleven (k : Nat) (c : Int) (hk : k ≤ 4) : ∃ ys, ys.length = 11 ∧ compL (sName 0) tT (dTup (dCons (dL (dComp 1 [2] (sName 0) (iRng (dVar 1)) tT (d2 fMod (dVar 1) (dC (.int 4))))) (dCons (dVar 0) dNil))) [.emp, .val (.int k), .val (.int c)] (rngT 0 11) = .ok ys := by
  have hr := rngOk_nat (n := k) (by omega)
  have hl : k ≤ 16777216 := by omega
  have inner := compL_map (st := sName 0) (e := (d2 fMod (dVar 1) (dC (.int 4)))) (C := [.emp, .val (.int c)]) (fun _ => PyData.int (Int.fmod c 4)) (rngT 0 k) fun t _ => ⟨[.val t, .val (.int c)], rfl, by simp⟩
  have e := compL_map (st := sName 0) (e := (dTup (dCons (dL (dComp 1 [2] (sName 0) (iRng (dVar 1)) tT (d2 fMod (dVar 1) (dC (.int 4))))) (dCons (dVar 0) dNil)))) (C := [.emp, .val (.int k), .val (.int c)])
    (fun t => PyData.tuple [.list ((rngT 0 k).map fun _ => PyData.int (Int.fmod c 4)), t]) (rngT 0 11) fun t _ => ⟨[.val t, .val (.int k), .val (.int c)], rfl, by simp [hr, rngT_len, hl, inner]⟩
  exact ⟨_, by simp [rngT_len], e⟩
theorem set_last {α : Type} (xs : List α) (y z : α) : (xs ++ [y]).set xs.length z = xs ++ [z] := by
  induction xs with
  | nil => rfl
  | cons x xs ih => simpa using ih
theorem split_at {α : Type} {xs : List α} {i : Nat} (h : i < xs.length) (z : α) : xs.set i z = xs.take i ++ z :: xs.drop (i + 1) := by
  rw [List.set_eq_take_append_cons_drop]
  simp [h]
theorem law_ok (ns : List Int) (_hl : ns.length ≤ 63) : f_law [.list (ns.map .int)] = .ok (.bool true) := by
  obtain ⟨k, w, ls, ok, e1⟩ := desk_ok ns
  have hk : 1 ≤ k ∧ k ≤ 4 := ⟨ok.k1, ok.k4⟩
  obtain ⟨c5, ec5⟩ := cell_ok ns 5 (by omega)
  obtain ⟨c, ec6⟩ := cell_ok ns 6 (by omega)
  obtain ⟨c7, ec7⟩ := cell_ok ns 7 (by omega)
  obtain ⟨way, ew, hw⟩ : ∃ r : Nat, Int.fmod c5 11 = (r : Int) ∧ r < 11 := mod_ok (n := 11) (by decide)
  have hlen := ok.len
  have e2 := copied_ok ls (by omega)
  have on := ones k 1
  have hr := rngOk_nat (n := k) (by omega)
  have hk2 : k ≤ 16777216 := by omega
  obtain ⟨ms, hms⟩ : ∃ ms : List Lim, ms = ls.take 9 ++ [lastL k] := ⟨_, rfl⟩
  have hml : ms.length ≤ 10 ∧ 1 ≤ ms.length := by rw [hms]; simp; omega
  have hmo : ∀ l ∈ ms, LimOk k 999999999999 l := fun l hl => by
    rw [hms] at hl
    rcases List.mem_append.mp hl with z | z
    · have o := ok.lim l (List.mem_of_mem_take z)
      exact ⟨o.len, fun x hx => Nat.le_trans (o.ws x hx) ok.wb, Nat.le_trans o.bd ok.wb⟩
    · simp at z; rw [z]; exact lim_last k
  have emap : ms.map limL = (ls.map limL).take 9 ++ [limL (lastL k)] := by rw [hms]; simp
  have hcat : min 9 ls.length + 1 ≤ 16777216 := by omega
  -- up to the ways
  have start : ∀ t, d_law_5 [.val (.list (ns.map .int)), .val (.tuple [.int k, .list (ls.map limL)]), .val (.int k), .val (.int way), .val (.int c), .own (ms.map limL), .emp] = .ok (.rt t) → f_law [.list (ns.map .int)] = .ok t := fun t ht => by
    rw [emap] at ht
    have el : limL (lastL k) = .tuple [.list ((List.replicate k (1 : Int)).map .int), .int 1] := rfl
    rw [el] at ht
    simp [f_law, runQ, runF, d_law, d_law_1, d_law_2, d_law_3, d_law_4, e1, at0, at1, ec5, ew, ec6, e2, cut9, hr, rngT_len, hk2, on, hcat] at ht ⊢
    simp [ht]
  obtain ⟨b1, b2, b3⟩ := limits_bad hk
  apply start
  by_cases w10 : way = 10
  · subst w10
    have bg := bigs k
    have ix : ixP ms.length (-1) = some (ms.length - 1) := by
      have : ¬ ((0 : Int) ≤ -1) := by decide
      have h2 : -(ms.length : Int) ≤ -1 := by omega
      simp [ixP, h2]
      omega
    have eset : (ms.map limL).set (ms.length - 1) (limL (lastB k)) = (ls.take 9 ++ [lastB k]).map limL := by
      have : ms.length - 1 = (ls.take 9).length := by rw [hms]; simp
      rw [this, hms, List.map_append, List.map_append]
      have := set_last ((ls.take 9).map limL) (limL (lastL k)) (limL (lastB k))
      simpa using this
    obtain ⟨ns', hn'⟩ : ∃ ns', ns' = ls.take 9 ++ [lastB k] := ⟨_, rfl⟩
    rw [← hn'] at eset
    have hno : ∀ l ∈ ns', LimOk k 999999999999 l := fun l hl => by
      rw [hn'] at hl
      rcases List.mem_append.mp hl with z | z
      · have o := ok.lim l (List.mem_of_mem_take z)
        exact ⟨o.len, fun x hx => Nat.le_trans (o.ws x hx) ok.wb, Nat.le_trans o.bd ok.wb⟩
      · simp at z; rw [z]; exact lim_lastB k
    have hnl : ns'.length ≤ 10 := by rw [hn']; simp; omega
    have dg := desk_good hno (by decide) hk hnl
    have tc := compL_of (st := sName 0) (e := (dTup (dCons (d1 fTuple (d2 fIx (dVar 0) (dC (.int 0)))) (dCons (d2 fIx (dVar 0) (dC (.int 1))) dNil)))) (C := [.emp]) limL limT ns' fun l _ => ⟨[.val (limL l)], rfl, by simp [limL, limT, at0, at1]⟩
    have eqd : fEq (.tuple [.int k, .tuple (ns'.map limT)]) (.tuple [.int k, .tuple (ns'.map limT)]) = .ok (.bool true) := fEq_refl (shp_pair ((shp_int _).mono (by decide)) (shp_tuple fun l _ => shp_pair (n := 1) (shp_tuple fun x _ => shp_int x) ((shp_int _).mono (by decide)))) (by decide)
    have hnl2 : ns'.length ≤ 16777216 := by omega
    have el : limL (lastB k) = .tuple [.list ((List.replicate k (999999999999 : Int)).map .int), .int (-999999999999)] := rfl
    rw [el] at eset
    have b12 : (1 : Int) - 10 ^ 12 = -999999999999 := by decide
    have hml2 : ms.length ≤ 16777216 := by omega
    have f10 : fEq (.int 10) (.int 10) = .ok (.bool true) := by simp [fEq]
    simp only [d_law_5]
    simp [f10, hr, rngT_len, hk2, bg, big12', ix]
    simp at eset
    rw [eset]
    simp [dg, tc, hnl2, hml2]
    rw [eqd]
    simp
  · have w10' : ¬ ((way : Int) = 10) := by omega
    by_cases w3 : way < 3
    · have w3' : (way : Int) < 3 := by omega
      obtain ⟨K, eK, hK⟩ := kinds_bad c
      have b9 : (10 : Int) ^ 9 = 1000000000 := by decide
      simp [d_law_5, d_law_6, fEq, w10', w3', b9, eK, refused_ok hK]
    · have w3' : ¬ ((way : Int) < 3) := by omega
      by_cases q3 : way = 3
      · subst q3
        rcases mod2 c with z | z
        · simp [d_law_5, d_law_6, d_law_7, fEq, z, atP, ixP, refused_ok b1]
        · simp [d_law_5, d_law_6, d_law_7, fEq, z, atP, ixP, refused_ok (b2 _)]
      · have q3' : ¬ ((way : Int) = 3) := by omega
        by_cases q4 : way = 4
        · subst q4
          obtain ⟨ys, hy, ey⟩ := eleven k c ok.k4
          have r11 : rngOk 11 = true := by decide
          simp [d_law_5, d_law_6, d_law_7, d_law_8, fEq, r11, rngT_len, ey, refused_ok (b3 ys (by omega))]
        · have q4' : ¬ ((way : Int) = 4) := by omega
          obtain ⟨at_, ea, ha⟩ : ∃ r : Nat, Int.fmod c7 (ms.length : Int) = (r : Int) ∧ r < ms.length := mod_ok (by omega)
          have nz : ms ≠ [] := by intro z; rw [z] at hml; simp at hml
          have i1 : atP (ms.map limL) (at_ : Int) = some (limL ms[at_]) := atP_map ha
          obtain ⟨t, es, et⟩ := spoilt_ok (hmo ms[at_] (List.getElem_mem ha)) hk way (by omega) c
          have ix : ixP ms.length (at_ : Int) = some at_ := by simp [ixP, ha]
          have hset : (ms.map limL).set at_ t = (ms.take at_).map limL ++ t :: (ms.map limL).drop (at_ + 1) := by
            rw [split_at (by simpa using ha), List.map_take]
          have db := desk_bad (pre := ms.take at_) (post := (ms.map limL).drop (at_ + 1)) (fun l hl => hmo l (List.mem_of_mem_take hl)) (by decide) hk (by simp; omega) et
          rw [← hset] at db
          simp [d_law_5, d_law_6, d_law_7, d_law_8, d_law_9, d_law_10, d_law_11, fEq, w10', w3', q3', q4', ec7, nz, ea, i1, es, ix, refused_ok db]
end K03

namespace Fx
open PySem PySem.Spec PyProof.Rows L2

/-- the addresses that no other datum may hold: those of the names' own lists, and those of the callers -/
structure Pv where
  own : Nat → Option Addr
  fb : Addr → Prop
def Off (P : Pv) (a : Addr) : Prop := (∀ i, P.own i ≠ some a) ∧ ¬ P.fb a
/-- the step from one abstract heap to another: what no own list is stays -/
def Tr (H : Hp) (P : Pv) (H' : Hp) (P' : Pv) : Prop := ∀ a o, H a = some o → Off P a → H' a = some o ∧ Off P' a
theorem Tr.refl (H : Hp) (P : Pv) : Tr H P H P := fun _ _ h o => ⟨h, o⟩
theorem Tr.trans {H H1 H2 : Hp} {P P1 P2 : Pv} (a : Tr H P H1 P1) (b : Tr H1 P1 H2 P2) : Tr H P H2 P2 := fun c o h q =>
  let ⟨h1, q1⟩ := a c o h q
  b c o h1 q1
theorem Tr.same {H H' : Hp} {P : Pv} (e : Same H H') : Tr H P H' P := fun a o h q => ⟨e a o h, q⟩
/-- a def's own steps: all but its names' own lists stays -/
def Go (H : Hp) (P : Pv) (H' : Hp) (P' : Pv) : Prop := (∀ a o, H a = some o → (∀ i, P.own i ≠ some a) → H' a = some o ∧ ∀ i, P'.own i ≠ some a) ∧ P'.fb = P.fb
theorem Go.refl (H : Hp) (P : Pv) : Go H P H P := ⟨fun _ _ h o => ⟨h, o⟩, rfl⟩
theorem Go.trans {H H1 H2 : Hp} {P P1 P2 : Pv} (a : Go H P H1 P1) (b : Go H1 P1 H2 P2) : Go H P H2 P2 := ⟨fun c o h q =>
  let ⟨h1, q1⟩ := a.1 c o h q
  b.1 c o h1 q1, b.2.trans a.2⟩
theorem Go.same {H H' : Hp} {P : Pv} (e : Same H H') : Go H P H' P := ⟨fun a o h q => ⟨e a o h, q⟩, rfl⟩
theorem Go.tr {H H' : Hp} {P P' : Pv} (g : Go H P H' P') : Tr H P H' P' := fun a o h q => ⟨(g.1 a o h q.1).1, (g.1 a o h q.1).2, by rw [g.2]; exact q.2⟩

def ModL (K : PySem.W.Frag) (a : Addr) (xs : List V) : Prop :=
  ∃ (o : Obj) (its : Array Value) (n : Nat), K.lookup a = some o ∧ o.cls = .type "list" ∧ o.dict = none ∧ o.data = .seq its n ∧ its.size ≤ sizeLine ∧ Vals xs its.toList
def ModT (K : PySem.W.Frag) (a : Addr) (xs : List V) : Prop :=
  ∃ (o : Obj) (its : Array Value) (n : Nat), K.lookup a = some o ∧ o.cls = .type "tuple" ∧ o.data = .seq its n ∧ its.size ≤ sizeLine ∧ Vals xs its.toList
def SL (K : PySem.W.Frag) (H : Hp) (P : Pv) (a : Addr) (xs : List V) : Prop := (Rd H a (.lst xs) ∧ Off P a) ∨ ModL K a xs
def ST (K : PySem.W.Frag) (H : Hp) (P : Pv) (a : Addr) (xs : List V) : Prop := (Rd H a (.tup xs) ∧ Off P a) ∨ ModT K a xs
theorem SL.sq {K : PySem.W.Frag} {H : Hp} {P : Pv} {a : Addr} {xs : List V} (h : SL K H P a xs) : SqL K H a xs := by
  rcases h with ⟨h, _⟩ | h
  · exact .inl h
  · exact .inr h
theorem ST.sq {K : PySem.W.Frag} {H : Hp} {P : Pv} {a : Addr} {xs : List V} (h : ST K H P a xs) : SqT K H a xs := by
  rcases h with ⟨h, _⟩ | h
  · exact .inl h
  · exact .inr h
theorem Rd.go {H H' : Hp} {P P' : Pv} {a : Addr} {u : HO} (g : Tr H P H' P') (h : Rd H a u) (o : Off P a) : Rd H' a u ∧ Off P' a := by
  rcases h with h | ⟨ob, h⟩
  · exact ⟨.inl (g _ _ h o).1, (g _ _ h o).2⟩
  · exact ⟨.inr ⟨ob, (g _ _ h o).1⟩, (g _ _ h o).2⟩
theorem SL.go {K : PySem.W.Frag} {H H' : Hp} {P P' : Pv} {a : Addr} {xs : List V} (g : Tr H P H' P') (h : SL K H P a xs) : SL K H' P' a xs := by
  rcases h with ⟨h, o⟩ | h
  · exact .inl (Fx.Rd.go g h o)
  · exact .inr h
theorem ST.go {K : PySem.W.Frag} {H H' : Hp} {P P' : Pv} {a : Addr} {xs : List V} (g : Tr H P H' P') (h : ST K H P a xs) : ST K H' P' a xs := by
  rcases h with ⟨h, o⟩ | h
  · exact .inl (Fx.Rd.go g h o)
  · exact .inr h

/-- an exception's object that is a ValueError's -/
def XO (K : PySem.W.Frag) (a : Addr) : HO := .ext fun h => ∃ ob C, h.get? a = some ob ∧ ob.cls = .ref C ∧ PySem.W.subIn K (.ref C) (.type "ValueError") = some true
mutual
/-- the value v is the datum, at the abstract heap H (the empty dict stands for an exception) -/
def Rl (K : PySem.W.Frag) (H : Hp) (P : Pv) : PyData → V → Prop
  | .none, v => v = .non
  | .bool b, v => v = .bl b
  | .int i, v => v = .int i
  | .str x, v => v = .str x
  | .list xs, v => ∃ a vs, v = .ref a ∧ SL K H P a vs ∧ Rls K H P xs vs
  | .tuple xs, v => ∃ a vs, v = .ref a ∧ ST K H P a vs ∧ Rls K H P xs vs
  | .dict xs, v => xs = [] ∧ ∃ a, v = .ref a ∧ H a = some (XO K a) ∧ Off P a
def Rls (K : PySem.W.Frag) (H : Hp) (P : Pv) : List PyData → List V → Prop
  | [], vs => vs = []
  | x :: xs, vs => ∃ v r, vs = v :: r ∧ Rl K H P x v ∧ Rls K H P xs r
end

mutual
theorem Rl.go {K : PySem.W.Frag} {H H' : Hp} {P P' : Pv} (g : Tr H P H' P') : ∀ (t : PyData) (v : V), Rl K H P t v → Rl K H' P' t v
  | .none, v, h => by simpa only [Rl] using h
  | .bool b, v, h => by simpa only [Rl] using h
  | .int i, v, h => by simpa only [Rl] using h
  | .str x, v, h => by simpa only [Rl] using h
  | .list xs, v, h => by
    simp only [Rl] at h ⊢
    obtain ⟨a, vs, e, s, r⟩ := h
    exact ⟨a, vs, e, s.go g, Rls.go g xs vs r⟩
  | .tuple xs, v, h => by
    simp only [Rl] at h ⊢
    obtain ⟨a, vs, e, s, r⟩ := h
    exact ⟨a, vs, e, s.go g, Rls.go g xs vs r⟩
  | .dict _, v, h => by
    simp only [Rl] at h ⊢
    obtain ⟨e, a, e2, s, o⟩ := h
    exact ⟨e, a, e2, g a _ s o⟩
theorem Rls.go {K : PySem.W.Frag} {H H' : Hp} {P P' : Pv} (g : Tr H P H' P') : ∀ (ts : List PyData) (vs : List V), Rls K H P ts vs → Rls K H' P' ts vs
  | [], vs, h => by simpa only [Rls] using h
  | x :: xs, vs, h => by
    simp only [Rls] at h ⊢
    obtain ⟨v, r, e, q, t⟩ := h
    exact ⟨v, r, e, Rl.go g x v q, Rls.go g xs r t⟩
end
section
variable {K : PySem.W.Frag} {H H' : Hp} {P P' : Pv}
theorem rl_none {v : V} : Rl K H P .none v ↔ v = .non := by simp only [Rl]
theorem rl_bool {b : Bool} {v : V} : Rl K H P (.bool b) v ↔ v = .bl b := by simp only [Rl]
theorem rl_int {i : Int} {v : V} : Rl K H P (.int i) v ↔ v = .int i := by simp only [Rl]
theorem rl_str {x : Str} {v : V} : Rl K H P (.str x) v ↔ v = .str x := by simp only [Rl]
theorem rl_list {xs : List PyData} {v : V} : Rl K H P (.list xs) v ↔ ∃ a vs, v = .ref a ∧ SL K H P a vs ∧ Rls K H P xs vs := by simp only [Rl]
theorem rl_tuple {xs : List PyData} {v : V} : Rl K H P (.tuple xs) v ↔ ∃ a vs, v = .ref a ∧ ST K H P a vs ∧ Rls K H P xs vs := by simp only [Rl]
theorem rl_dict {xs : List (PyData × PyData)} {v : V} : Rl K H P (.dict xs) v ↔ xs = [] ∧ ∃ a, v = .ref a ∧ H a = some (XO K a) ∧ Off P a := by simp only [Rl]
theorem rls_nil {vs : List V} : Rls K H P [] vs ↔ vs = [] := by simp only [Rls]
theorem rls_cons {x : PyData} {xs : List PyData} {vs : List V} : Rls K H P (x :: xs) vs ↔ ∃ v r, vs = v :: r ∧ Rl K H P x v ∧ Rls K H P xs r := by simp only [Rls]
theorem Rls.length : ∀ {ts : List PyData} {vs : List V}, Rls K H P ts vs → ts.length = vs.length
  | [], vs, h => by rw [rls_nil.mp h]; rfl
  | t :: ts, vs, h => by
    obtain ⟨v, r, rfl, _, q⟩ := rls_cons.mp h
    simp only [List.length_cons, Rls.length q]
theorem Rls.get : ∀ {ts : List PyData} {vs : List V} {i : Nat} {v : V}, Rls K H P ts vs → vs[i]? = some v → ∃ t, ts[i]? = some t ∧ Rl K H P t v
  | [], vs, i, v, h, e => by rw [rls_nil.mp h] at e; simp at e
  | t :: ts, vs, 0, v, h, e => by
    obtain ⟨v', r, rfl, q, _⟩ := rls_cons.mp h
    simp at e; subst e
    exact ⟨t, rfl, q⟩
  | t :: ts, vs, i + 1, v, h, e => by
    obtain ⟨v', r, rfl, _, q⟩ := rls_cons.mp h
    exact Rls.get (i := i) q (by simpa using e)
theorem Rls.getT : ∀ {ts : List PyData} {vs : List V} {i : Nat} {t : PyData}, Rls K H P ts vs → ts[i]? = some t → ∃ v, vs[i]? = some v ∧ Rl K H P t v
  | [], vs, i, v, h, e => by simp at e
  | t :: ts, vs, 0, t', h, e => by
    obtain ⟨v', r, rfl, q, _⟩ := rls_cons.mp h
    simp at e; subst e
    exact ⟨v', rfl, q⟩
  | t :: ts, vs, i + 1, t', h, e => by
    obtain ⟨v', r, rfl, _, q⟩ := rls_cons.mp h
    exact Rls.getT (i := i) q (by simpa using e)
theorem Rls.append : ∀ {ts us : List PyData} {vs ws : List V}, Rls K H P ts vs → Rls K H P us ws → Rls K H P (ts ++ us) (vs ++ ws)
  | [], us, vs, ws, h, q => by rw [rls_nil.mp h]; exact q
  | t :: ts, us, vs, ws, h, q => by
    obtain ⟨v, r, rfl, a, b⟩ := rls_cons.mp h
    exact rls_cons.mpr ⟨v, r ++ ws, rfl, a, Rls.append b q⟩
theorem Rls.set : ∀ {ts : List PyData} {vs : List V} {t : PyData} {v : V} (i : Nat), Rls K H P ts vs → Rl K H P t v → Rls K H P (ts.set i t) (vs.set i v)
  | [], vs, t, v, i, h, q => by rw [rls_nil.mp h]; exact rls_nil.mpr rfl
  | t' :: ts, vs, t, v, 0, h, q => by
    obtain ⟨v', r, rfl, a, b⟩ := rls_cons.mp h
    exact rls_cons.mpr ⟨v, r, rfl, q, b⟩
  | t' :: ts, vs, t, v, i + 1, h, q => by
    obtain ⟨v', r, rfl, a, b⟩ := rls_cons.mp h
    exact rls_cons.mpr ⟨v', r.set i v, rfl, a, Rls.set i b q⟩
theorem Rls.drop : ∀ {ts : List PyData} {vs : List V} (n : Nat), Rls K H P ts vs → Rls K H P (ts.drop n) (vs.drop n)
  | ts, vs, 0, h => h
  | [], vs, n + 1, h => by rw [rls_nil.mp h]; exact rls_nil.mpr rfl
  | t :: ts, vs, n + 1, h => by
    obtain ⟨v', r, rfl, a, b⟩ := rls_cons.mp h
    exact Rls.drop n b
theorem Rls.take : ∀ {ts : List PyData} {vs : List V} (n : Nat), Rls K H P ts vs → Rls K H P (ts.take n) (vs.take n)
  | ts, vs, 0, h => rls_nil.mpr rfl
  | [], vs, n + 1, h => by rw [rls_nil.mp h]; exact rls_nil.mpr rfl
  | t :: ts, vs, n + 1, h => by
    obtain ⟨v', r, rfl, a, b⟩ := rls_cons.mp h
    exact rls_cons.mpr ⟨v', r.take n, rfl, a, Rls.take n b⟩
theorem rls_ints (ns : List Int) : Rls K H P (ns.map .int) (ns.map V.int) := by
  induction ns with
  | nil => exact rls_nil.mpr rfl
  | cons n ns ih => exact rls_cons.mpr ⟨.int n, _, rfl, rl_int.mpr rfl, ih⟩
end

/-! ### what the names hold -/
def SlOk (K : PySem.W.Frag) (H : Hp) (P : Pv) (i : Nat) (x : Option V) : Sl → Prop
  | .emp => True
  | .val t => ∃ v, x = some v ∧ Rl K H P t v
  | .own xs => ∃ p vs, x = some (.ref p) ∧ P.own i = some p ∧ H p = some (.lst vs) ∧ Rls K H P xs vs
structure Hol (K : PySem.W.Frag) (H : Hp) (P : Pv) (σ : L2.St) (G : List Sl) : Prop where
  sl : ∀ i s, G[i]? = some s → SlOk K H P i (σ.getD i none) s
  inj : ∀ i j a, P.own i = some a → P.own j = some a → i = j
  only : ∀ i a, P.own i = some a → ∃ xs, G[i]? = some (.own xs)
  fbd : ∀ a, P.fb a → H a ≠ none
  nfb : ∀ i a, P.own i = some a → ¬ P.fb a
  len : σ.length = G.length
theorem getD_some {σ : L2.St} {i : Nat} {v : V} (h : σ.getD i none = some v) : σ[i]? = some (some v) := by
  rw [List.getD_eq_getElem?_getD] at h
  cases e : σ[i]? with
  | none => rw [e] at h; cases h
  | some x => rw [e] at h; simp at h; rw [h]
section
variable {K : PySem.W.Frag} {H H' : Hp} {P P' : Pv} {σ : L2.St} {G : List Sl}
theorem Hol.dom (h : Hol K H P σ G) {i : Nat} {a : Addr} (e : P.own i = some a) : ∃ vs, H a = some (.lst vs) := by
  obtain ⟨xs, q⟩ := h.only i a e
  obtain ⟨p, vs, _, e', q', _⟩ := h.sl i _ q
  rw [e] at e'; cases e'
  exact ⟨vs, q'⟩
theorem Hol.nofb (h : Hol K H P σ G) {p : Addr} (e : H p = none) : ¬ P.fb p := fun z => h.fbd p z e
theorem Hol.off_new (h : Hol K H P σ G) {p : Addr} (e : H p = none) : Off P p := by
  refine ⟨fun i z => ?_, h.nofb e⟩
  obtain ⟨vs, q⟩ := h.dom z
  rw [e] at q
  cases q
/-- the heap grows -/
theorem Hol.same (h : Hol K H P σ G) (e : Same H H') : Hol K H' P σ G where
  sl := fun i s q => by
    have z := h.sl i s q
    cases s with
    | emp => trivial
    | val t => obtain ⟨v, e1, r⟩ := z; exact ⟨v, e1, Rl.go (.same e) t v r⟩
    | own xs => obtain ⟨p, vs, e1, e2, e3, r⟩ := z; exact ⟨p, vs, e1, e2, e _ _ e3, Rls.go (.same e) xs vs r⟩
  inj := h.inj
  only := h.only
  fbd := fun a z => by
    cases q : H a with
    | none => exact absurd q (h.fbd a z)
    | some o => rw [e a o q]; simp
  nfb := h.nfb
  len := h.len
def Pv.del (P : Pv) (i : Nat) : Pv := ⟨fun j => if j = i then none else P.own j, P.fb⟩
def Pv.put (P : Pv) (i : Nat) (p : Addr) : Pv := ⟨fun j => if j = i then some p else P.own j, P.fb⟩
theorem Tr.del {i : Nat} : Tr H P H (P.del i) := fun a o h q => ⟨h, fun j z => by
  have z' : (if j = i then none else P.own j) = some a := z
  split at z'
  · cases z'
  · exact q.1 j z', q.2⟩
theorem Go.del {i : Nat} : Go H P H (P.del i) := ⟨fun a o h q => ⟨h, fun j z => by
  have z' : (if j = i then none else P.own j) = some a := z
  split at z'
  · cases z'
  · exact q j z'⟩, rfl⟩
theorem Go.put {i : Nat} {p : Addr} (hp : H p = none) : Go H P H (P.put i p) := ⟨fun a o h q => ⟨h, fun j z => by
  have z' : (if j = i then some p else P.own j) = some a := z
  split at z'
  · cases z'; rw [hp] at h; cases h
  · exact q j z'⟩, rfl⟩
theorem getD_set_self {σ : L2.St} {i : Nat} {x : Option V} (h : i < σ.length) : (σ.set i x).getD i none = x := by
  rw [List.getD_eq_getElem?_getD, List.getElem?_set_self h]; rfl
theorem getD_set_ne {σ : L2.St} {i j : Nat} {x : Option V} (h : j ≠ i) : (σ.set i x).getD j none = σ.getD j none := by
  rw [List.getD_eq_getElem?_getD, List.getD_eq_getElem?_getD, List.getElem?_set_ne (Ne.symm h)]
/-- a name is given a datum -/
theorem Hol.setVal (h : Hol K H P σ G) (i : Nat) {t : PyData} {v : V} (r : Rl K H P t v) : Hol K H (P.del i) (σ.set i (some v)) (G.set i (.val t)) where
  sl := fun j s q => by
    by_cases e : j = i
    · subst e
      have hl : j < G.length := by
        have := (List.getElem?_eq_some_iff.mp q).1
        simpa using this
      rw [List.getElem?_set_self hl] at q
      cases q
      refine ⟨v, ?_, Rl.go .del t v r⟩
      exact getD_set_self (by rw [h.len]; exact hl)
    · rw [List.getElem?_set_ne (Ne.symm e)] at q
      have z := h.sl j s q
      rw [getD_set_ne e]
      cases s with
      | emp => trivial
      | val t' => obtain ⟨v', e1, r'⟩ := z; exact ⟨v', e1, Rl.go .del t' v' r'⟩
      | own xs => obtain ⟨p, vs, e1, e2, e3, r'⟩ := z; exact ⟨p, vs, e1, (by show (if j = i then none else P.own j) = _; rw [if_neg e]; exact e2), e3, Rls.go .del xs vs r'⟩
  inj := fun a b c h1 h2 => by
    have h1' : (if a = i then none else P.own a) = some c := h1
    have h2' : (if b = i then none else P.own b) = some c := h2
    split at h1'
    · cases h1'
    · split at h2'
      · cases h2'
      · exact h.inj a b c h1' h2'
  only := fun j a z => by
    have z' : (if j = i then none else P.own j) = some a := z
    split at z'
    · cases z'
    · rename_i ne
      obtain ⟨xs, q⟩ := h.only j a z'
      exact ⟨xs, by rw [List.getElem?_set_ne (Ne.symm ne)]; exact q⟩
  fbd := h.fbd
  nfb := fun j a z => by
    have z' : (if j = i then none else P.own j) = some a := z
    split at z'
    · cases z'
    · exact h.nfb j a z'
  len := by rw [List.length_set, List.length_set]; exact h.len
theorem Tr.put {i : Nat} {p : Addr} (hp : H p = none) : Tr H P H (P.put i p) := fun a o h q => ⟨h, fun j z => by
  have z' : (if j = i then some p else P.own j) = some a := z
  split at z'
  · cases z'; rw [hp] at h; cases h
  · exact q.1 j z', q.2⟩
theorem same_new {p : Addr} {o : HO} (h : H p = none) : Same H (upd H p o) := fun b u q => by rw [upd_ne (ne_of_none q h)]; exact q
/-- a name is given a list of its own -/
theorem Hol.setOwn (h : Hol K H P σ G) {i : Nat} (hi : i < G.length) {xs : List PyData} {vs : List V} {p : Addr} (hp : H p = none) (r : Rls K H P xs vs) : Hol K (upd H p (.lst vs)) (P.put i p) (σ.set i (some (.ref p))) (G.set i (.own xs)) where
  sl := fun j s q => by
    have gg : Tr H P (upd H p (.lst vs)) (P.put i p) := (Tr.put hp).trans (.same (same_new hp))
    by_cases e : j = i
    · subst e
      rw [List.getElem?_set_self hi] at q
      cases q
      exact ⟨p, vs, getD_set_self (by rw [h.len]; exact hi), if_pos rfl, upd_same, Rls.go gg xs vs r⟩
    · rw [List.getElem?_set_ne (Ne.symm e)] at q
      have z := h.sl j s q
      rw [getD_set_ne e]
      cases s with
      | emp => trivial
      | val t' => obtain ⟨v', e1, r'⟩ := z; exact ⟨v', e1, Rl.go gg t' v' r'⟩
      | own xs' =>
        obtain ⟨p', vs', e1, e2, e3, r'⟩ := z
        exact ⟨p', vs', e1, (by show (if j = i then some p else P.own j) = _; rw [if_neg e]; exact e2), same_new hp _ _ e3, Rls.go gg xs' vs' r'⟩
  inj := fun a b c h1 h2 => by
    have h1' : (if a = i then some p else P.own a) = some c := h1
    have h2' : (if b = i then some p else P.own b) = some c := h2
    split at h1'
    · split at h2'
      · rename_i z1 z2; rw [z1, z2]
      · cases h1'; obtain ⟨ws, q⟩ := h.dom h2'; rw [hp] at q; cases q
    · split at h2'
      · cases h2'; obtain ⟨ws, q⟩ := h.dom h1'; rw [hp] at q; cases q
      · exact h.inj a b c h1' h2'
  only := fun j a z => by
    have z' : (if j = i then some p else P.own j) = some a := z
    split at z'
    · rename_i e; subst e; exact ⟨xs, List.getElem?_set_self hi⟩
    · rename_i ne
      obtain ⟨xs, q⟩ := h.only j a z'
      exact ⟨xs, by rw [List.getElem?_set_ne (Ne.symm ne)]; exact q⟩
  fbd := fun a z => by
    have ne : a ≠ p := fun e => h.nofb hp (by rw [← e]; exact z)
    rw [upd_ne ne]
    exact h.fbd a z
  nfb := fun j a z => by
    have z' : (if j = i then some p else P.own j) = some a := z
    split at z'
    · cases z'; exact h.nofb hp
    · exact h.nfb j a z'
  len := by rw [List.length_set, List.length_set]; exact h.len
/-- a name's own list is changed -/
theorem Hol.upOwn (h : Hol K H P σ G) {i : Nat} {ys xs : List PyData} {vs : List V} {p : Addr} (hi : G[i]? = some (.own ys)) (hp : P.own i = some p) (r : Rls K H P xs vs) : Hol K (upd H p (.lst vs)) P σ (G.set i (.own xs)) ∧ Go H P (upd H p (.lst vs)) P := by
  have g0 : Go H P (upd H p (.lst vs)) P := ⟨fun a o e q => ⟨by rw [upd_ne (fun z => q i (by rw [z]; exact hp))]; exact e, q⟩, rfl⟩
  have gg := g0.tr
  have hl : i < G.length := (List.getElem?_eq_some_iff.mp hi).1
  refine ⟨⟨fun j s q => ?_, h.inj, fun j a z => ?_, fun a z => ?_, h.nfb, by rw [List.length_set]; exact h.len⟩, g0⟩
  · by_cases e : j = i
    · subst e
      rw [List.getElem?_set_self hl] at q
      cases q
      obtain ⟨p', vs', e1, e2, _, _⟩ := h.sl j _ hi
      rw [hp] at e2; cases e2
      exact ⟨p, vs, e1, hp, upd_same, Rls.go gg xs vs r⟩
    · rw [List.getElem?_set_ne (Ne.symm e)] at q
      have z := h.sl j s q
      cases s with
      | emp => trivial
      | val t' => obtain ⟨v', e1, r'⟩ := z; exact ⟨v', e1, Rl.go gg t' v' r'⟩
      | own xs' =>
        obtain ⟨p', vs', e1, e2, e3, r'⟩ := z
        refine ⟨p', vs', e1, e2, ?_, Rls.go gg xs' vs' r'⟩
        rw [upd_ne (fun z => e (h.inj j i p' e2 (by rw [z]; exact hp)))]
        exact e3
  · by_cases e : j = i
    · subst e; exact ⟨xs, List.getElem?_set_self hl⟩
    · obtain ⟨xs', q⟩ := h.only j a z
      exact ⟨xs', by rw [List.getElem?_set_ne (Ne.symm e)]; exact q⟩
  · rw [upd_ne (fun e => h.nfb i p hp (by rw [← e]; exact z))]
    exact h.fbd a z
end

/-! ### a name's own list is handed on: from there on it is a datum -/
section
variable {K : PySem.W.Frag} {H H' : Hp} {P P' : Pv} {σ : L2.St} {G : List Sl}
theorem Hol.frz1 (h : Hol K H P σ G) (i : Nat) : ∃ P', Hol K H P' σ (Fx.frz1 G i) ∧ Go H P H P' := by
  unfold Fx.frz1
  split
  · rename_i xs q
    obtain ⟨p, vs, e1, e2, e3, r⟩ := h.sl i _ q
    have off : Off (P.del i) p := ⟨fun j z => by
      have z' : (if j = i then none else P.own j) = some p := z
      split at z'
      · cases z'
      · rename_i ne; exact ne (h.inj j i p z' e2), h.nfb i p e2⟩
    have r0 : Rl K H (P.del i) (.list xs) (.ref p) := rl_list.mpr ⟨p, vs, rfl, .inl ⟨.inl e3, off⟩, Rls.go .del xs vs r⟩
    refine ⟨P.del i, ⟨fun j s z => ?_, ?_, ?_, h.fbd, ?_, by rw [List.length_set]; exact h.len⟩, .del⟩
    · by_cases e : j = i
      · subst e
        rw [List.getElem?_set_self (List.getElem?_eq_some_iff.mp q).1] at z
        cases z
        exact ⟨.ref p, e1, r0⟩
      · rw [List.getElem?_set_ne (Ne.symm e)] at z
        have z := h.sl j s z
        cases s with
        | emp => trivial
        | val t' => obtain ⟨v', e1, r'⟩ := z; exact ⟨v', e1, Rl.go .del t' v' r'⟩
        | own xs => obtain ⟨p, vs, e1, e2, e3, r'⟩ := z; exact ⟨p, vs, e1, (by show (if j = i then none else P.own j) = _; rw [if_neg e]; exact e2), e3, Rls.go .del xs vs r'⟩
    · intro a b c h1 h2
      have h1' : (if a = i then none else P.own a) = some c := h1
      have h2' : (if b = i then none else P.own b) = some c := h2
      split at h1'
      · cases h1'
      · split at h2'
        · cases h2'
        · exact h.inj a b c h1' h2'
    · intro j a z
      have z' : (if j = i then none else P.own j) = some a := z
      split at z'
      · cases z'
      · rename_i ne
        obtain ⟨xs, q⟩ := h.only j a z'
        exact ⟨xs, by rw [List.getElem?_set_ne (Ne.symm ne)]; exact q⟩
    · intro j a z
      have z' : (if j = i then none else P.own j) = some a := z
      split at z'
      · cases z'
      · exact h.nfb j a z'
  · exact ⟨P, h, .refl _ _⟩
theorem Hol.frz (is : List Nat) : ∀ {P : Pv} {G : List Sl}, Hol K H P σ G → ∃ P', Hol K H P' σ (Fx.frz is G) ∧ Go H P H P' := by
  induction is with
  | nil => exact fun {P G} h => ⟨P, h, .refl _ _⟩
  | cons i is ih =>
    intro P G h
    obtain ⟨P1, h1, g1⟩ := h.frz1 i
    obtain ⟨P2, h2, g2⟩ := ih h1
    exact ⟨P2, h2, g1.trans g2⟩
theorem frzA_get : ∀ (G : List Sl) (i : Nat), (frzA G)[i]? = (G[i]?).map fun s => match s with | .own xs => .val (.list xs) | s => s
  | [], i => by simp [frzA]
  | .own xs :: r, 0 => by simp [frzA]
  | .emp :: r, 0 => by simp [frzA]
  | .val t :: r, 0 => by simp [frzA]
  | .own xs :: r, i + 1 => by simp [frzA, frzA_get r i]
  | .emp :: r, i + 1 => by simp [frzA, frzA_get r i]
  | .val t :: r, i + 1 => by simp [frzA, frzA_get r i]
theorem frzA_length : ∀ (G : List Sl), (frzA G).length = G.length
  | [] => rfl
  | .own xs :: r => by simp [frzA, frzA_length r]
  | .emp :: r => by simp [frzA, frzA_length r]
  | .val t :: r => by simp [frzA, frzA_length r]
def Pv.bare (P : Pv) : Pv := ⟨fun _ => none, P.fb⟩
theorem Hol.frzA (h : Hol K H P σ G) : Hol K H P.bare σ (Fx.frzA G) ∧ Go H P H P.bare := by
  have g0 : Go H P H P.bare := ⟨fun a o e q => ⟨e, fun _ z => (by cases z)⟩, rfl⟩
  have gg := g0.tr
  refine ⟨⟨fun j s z => ?_, fun _ _ _ z => (by cases z), fun _ _ z => (by cases z), h.fbd, fun _ _ z => (by cases z), by rw [frzA_length]; exact h.len⟩, g0⟩
  rw [frzA_get] at z
  cases q : G[j]? with
  | none => rw [q] at z; cases z
  | some s' =>
    rw [q] at z
    have w := h.sl j s' q
    cases s' with
    | emp => cases z; trivial
    | val t => cases z; obtain ⟨v, e, r⟩ := w; exact ⟨v, e, Rl.go gg t v r⟩
    | own xs =>
      cases z
      obtain ⟨p, vs, e1, e2, e3, r⟩ := w
      exact ⟨.ref p, e1, rl_list.mpr ⟨p, vs, rfl, .inl ⟨.inl e3, fun _ z => (by cases z), h.nfb j p e2⟩, Rls.go gg xs vs r⟩⟩
end
end Fx

namespace Fx
open PySem PySem.Spec PyProof.Rows L2

/-! ### readings -/
def PostE (K : PySem.W.Frag) (W : Str → Hp → Prop) (H : Hp) (P : Pv) (r : Res PyData) (Q : VK) : Prop :=
  match r with
  | .ok t => ∀ v H', Same H H' → Rl K H' P t v → Q v H'
  | .exc c => ∀ H', Same H H' → W c H'
  | .stuck => False
def tF (K : PySem.W.Frag) (W : Str → Hp → Prop) (d : DE) : TE := fun σ H Q => ∃ G P, Hol K H P σ G ∧ PostE K W H P (d G) Q
def PostA (K : PySem.W.Frag) (W : Str → Hp → Prop) (H : Hp) (P : Pv) (r : Res (List PyData)) (Q : List V → Hp → Prop) : Prop :=
  match r with
  | .ok ts => ∀ vs H', Same H H' → Rls K H' P ts vs → Q vs H'
  | .exc c => ∀ H', Same H H' → W c H'
  | .stuck => False
def tFA (K : PySem.W.Frag) (W : Str → Hp → Prop) (d : DA) : TA := fun σ H Q => ∃ G P, Hol K H P σ G ∧ PostA K W H P (d G) Q
def PostT (W : Str → Hp → Prop) (H : Hp) (r : Res Bool) (Q : Bool → Hp → Prop) : Prop :=
  match r with
  | .ok b => ∀ H', Same H H' → Q b H'
  | .exc c => ∀ H', Same H H' → W c H'
  | .stuck => False
def tFT (K : PySem.W.Frag) (W : Str → Hp → Prop) (d : DT) : TT := fun σ H Q => ∃ G P, Hol K H P σ G ∧ PostT W H (d G) Q
def PostS (K : PySem.W.Frag) (W : Str → Hp → Prop) (H : Hp) (P : Pv) (r : Res Out) (D : Ends) : Prop :=
  match r with
  | .ok (.nx G') => ∀ σ' H' P', Go H P H' P' → Hol K H' P' σ' G' → D.nx σ' H'
  | .ok (.bk G') => ∀ σ' H' P', Go H P H' P' → Hol K H' P' σ' G' → D.bk σ' H'
  | .ok (.ct G') => ∀ σ' H' P', Go H P H' P' → Hol K H' P' σ' G' → D.ct σ' H'
  | .ok (.rt t) => ∀ v H' P', Go H P H' P' → Rl K H' P' t v → D.rt v H'
  | .exc c => ∀ H' P', Go H P H' P' → W c H'
  | .stuck => False
def tFS (K : PySem.W.Frag) (W : Str → Hp → Prop) (d : DS) : TS := fun D σ H => ∃ G P, Hol K H P σ G ∧ PostS K W H P (d G) D

def EV (X : Cx) (W : Str → Hp → Prop) (e : Expr) (d : DE) : Prop := PE X e (tF X.K W d)
def AV (X : Cx) (W : Str → Hp → Prop) (es : List Expr) (d : DA) : Prop := PA X es (tFA X.K W d)
def TV (X : Cx) (W : Str → Hp → Prop) (e : Expr) (d : DT) : Prop := PT X e (tFT X.K W d)
def TW (X : Cx) (W : Str → Hp → Prop) (e : Expr) (d : DT) : Prop := PW X e (tFT X.K W d)
def SV (X : Cx) (W : Str → Hp → Prop) (st : Stmt) (d : DS) : Prop := PS X st (tFS X.K W d)
def SVs (X : Cx) (W : Str → Hp → Prop) (st : List Stmt) (d : DS) : Prop := PSs X st (tFS X.K W d)

theorem pe_weak {X : Cx} {e : Expr} {t t' : TE} (h : PE X e t) (w : ∀ σ H Q, t' σ H Q → t σ H Q) : PE X e t' := fun pins s σ H Q I q => h pins s σ H Q I (w σ H Q q)
theorem pa_weak {X : Cx} {e : List Expr} {t t' : TA} (h : PA X e t) (w : ∀ σ H Q, t' σ H Q → t σ H Q) : PA X e t' := fun pos pins s σ H Q I q => h pos pins s σ H Q I (w σ H Q q)
theorem pt_weak {X : Cx} {e : Expr} {t t' : TT} (h : PT X e t) (w : ∀ σ H Q, t' σ H Q → t σ H Q) : PT X e t' := fun pins s σ H Q I q => h pins s σ H Q I (w σ H Q q)
theorem pw_weak {X : Cx} {e : Expr} {t t' : TT} (h : PW X e t) (w : ∀ σ H Q, t' σ H Q → t σ H Q) : PW X e t' := fun wh pins s σ H Q I q => h wh pins s σ H Q I (w σ H Q q)
theorem ps_weak {X : Cx} {e : Stmt} {t t' : TS} (h : PS X e t) (w : ∀ D σ H, t' D σ H → t D σ H) : PS X e t' := fun pins s σ H D I q => h pins s σ H D I (w D σ H q)
theorem pss_weak {X : Cx} {e : List Stmt} {t t' : TS} (h : PSs X e t) (w : ∀ D σ H, t' D σ H → t D σ H) : PSs X e t' := fun pins s σ H D I q => h pins s σ H D I (w D σ H q)

/-- the datum of a part, then what is made of it -/
theorem tF_bind {K : PySem.W.Frag} {W : Str → Hp → Prop} {σ : L2.St} {G : List Sl} {H : Hp} {P : Pv} {a : DE} (h : Hol K H P σ G) {Q : VK}
    (hx : ∀ c, a G = .exc c → ∀ H', Same H H' → W c H') (hs : a G ≠ .stuck)
    (q : ∀ t v H', a G = .ok t → Same H H' → Hol K H' P σ G → Rl K H' P t v → Q v H') : tF K W a σ H Q := by
  refine ⟨G, P, h, ?_⟩
  unfold PostE
  cases e : a G with
  | ok t => exact fun v H' s r => q t v H' e s (h.same s) r
  | exc c => exact hx c e
  | stuck => exact hs e
theorem tFT_bind {K : PySem.W.Frag} {W : Str → Hp → Prop} {σ : L2.St} {G : List Sl} {H : Hp} {P : Pv} {a : DT} (h : Hol K H P σ G) {Q : Bool → Hp → Prop}
    (hx : ∀ c, a G = .exc c → ∀ H', Same H H' → W c H') (hs : a G ≠ .stuck)
    (q : ∀ t H', a G = .ok t → Same H H' → Hol K H' P σ G → Q t H') : tFT K W a σ H Q := by
  refine ⟨G, P, h, ?_⟩
  unfold PostT
  cases e : a G with
  | ok t => exact fun H' s => q t H' e s (h.same s)
  | exc c => exact hx c e
  | stuck => exact hs e
theorem tFA_bind {K : PySem.W.Frag} {W : Str → Hp → Prop} {σ : L2.St} {G : List Sl} {H : Hp} {P : Pv} {a : DA} (h : Hol K H P σ G) {Q : List V → Hp → Prop}
    (hx : ∀ c, a G = .exc c → ∀ H', Same H H' → W c H') (hs : a G ≠ .stuck)
    (q : ∀ t v H', a G = .ok t → Same H H' → Hol K H' P σ G → Rls K H' P t v → Q v H') : tFA K W a σ H Q := by
  refine ⟨G, P, h, ?_⟩
  unfold PostA
  cases e : a G with
  | ok t => exact fun v H' s r => q t v H' e s (h.same s) r
  | exc c => exact hx c e
  | stuck => exact hs e

section
variable {X : Cx} {W : Str → Hp → Prop} {a b c e : Expr} {es : List Expr} {da db : DE} {pos : Pos}

/-! ### names and constants -/
theorem ev_var (i : Nat) {x : Str} {pos : Pos} (hN : X.N[i]? = some x := by rfl) (hv : Vis X.env.scope x := by first | exact Or.inl rfl | exact Or.inr (Or.inl rfl) | exact Or.inr (Or.inr rfl)) (hd : (x == ("__debug__" : Str)) = false := by decide)
    (hcd : (x == ("__classdict__" : Str)) = false := by decide) : EV X W (.Name x pos) (dVar i) :=
  pe_weak (pe_var hN hv hd hcd) fun σ H Q ⟨G, P, h, q⟩ => by
    unfold dVar at q
    cases e : G[i]? with
    | none => rw [e] at q; exact q.elim
    | some s =>
      rw [e] at q
      cases s with
      | emp => exact q.elim
      | own xs => exact q.elim
      | val t =>
        obtain ⟨v, e1, r⟩ := h.sl i _ e
        exact ⟨v, getD_some e1, q v H (Same.refl H) r⟩
theorem ev_int {i j pos} : EV X W (.Constant (.int i) j pos) (dC (.int i)) := pe_weak pe_int fun σ H Q ⟨G, P, h, q⟩ => q _ H (Same.refl H) (rl_int.mpr rfl)
theorem ev_bl {b j pos} : EV X W (.Constant (.bool b) j pos) (dC (.bool b)) := pe_weak pe_bl fun σ H Q ⟨G, P, h, q⟩ => q _ H (Same.refl H) (rl_bool.mpr rfl)
theorem ev_non {j pos} : EV X W (.Constant .none j pos) (dC .none) := pe_weak pe_non fun σ H Q ⟨G, P, h, q⟩ => q _ H (Same.refl H) (rl_none.mpr rfl)
theorem ev_str {x j pos} : EV X W (.Constant (.str x) j pos) (dC (.str x)) := pe_weak pe_str fun σ H Q ⟨G, P, h, q⟩ => q _ H (Same.refl H) (rl_str.mpr rfl)
theorem ev_globI {x : Str} {i : Int} {t : Tok} {pos : Pos} (hg : Gl X x) (hm : X.mg x = some (.int i t)) (hd : (x == ("__debug__" : Str)) = false := by decide) : EV X W (.Name x pos) (dC (.int i)) :=
  pe_weak (pe_glob (v := .int i) hg hm ⟨t, rfl⟩ hd) fun σ H Q ⟨G, P, h, q⟩ => q _ H (Same.refl H) (rl_int.mpr rfl)

/-! ### operations -/
/-- f is what the operation r does with data -/
def Fop (X : Cx) (W : Str → Hp → Prop) (r : R2) (f : PyData → PyData → Res PyData) : Prop :=
  ∀ (H : Hp) (P : Pv) (σ : L2.St) (G : List Sl) (x y : V) (tx ty : PyData) (Q : VK), Hol X.K H P σ G → Rl X.K H P tx x → Rl X.K H P ty y → PostE X.K W H P (f tx ty) Q → r x y H Q
theorem bindE {a : Res PyData} {f : PyData → Res PyData} {K : PySem.W.Frag} {H : Hp} {P : Pv} {Q : VK} (q : PostE K W H P (a.bind f) Q) :
    (∀ c, a = .exc c → ∀ H', Same H H' → W c H') ∧ a ≠ .stuck ∧ ∀ t, a = .ok t → PostE K W H P (f t) Q := by
  cases a with
  | ok t => exact ⟨fun c e => (by cases e), (by intro e; cases e), fun t' e => by cases e; exact q⟩
  | exc c => exact ⟨fun c' e => by cases e; exact q, (by intro e; cases e), fun t e => by cases e⟩
  | stuck => exact q.elim
theorem PostE.up {K : PySem.W.Frag} {H H' : Hp} {P : Pv} {r : Res PyData} {Q : VK} (q : PostE K W H P r Q) (s : Same H H') : PostE K W H' P r Q := by
  cases r with
  | ok t => exact fun v H2 s2 r2 => q v H2 (s.trans s2) r2
  | exc c => exact fun H2 s2 => q H2 (s.trans s2)
  | stuck => exact q
theorem tOp_of {r : R2} {f : PyData → PyData → Res PyData} (hf : Fop X W r f) {σ : L2.St} {H : Hp} {Q : VK} (h : tF X.K W (d2 f da db) σ H Q) : tOp r (tF X.K W da) (tF X.K W db) σ H Q := by
  obtain ⟨G, P, h, q⟩ := h
  unfold d2 at q
  obtain ⟨q1, q2, q3⟩ := bindE q
  refine tF_bind h q1 q2 fun tx x H1 ex s1 h1 rx => ?_
  obtain ⟨q4, q5, q6⟩ := bindE (q3 tx ex)
  refine tF_bind h1 (fun c e H' s => q4 c e H' (s1.trans s)) q5 fun ty y H2 ey s2 h2 ry => ?_
  exact hf H2 P σ G x y tx ty Q h2 (Rl.go (.same s2) tx x rx) ry ((q6 ty ey).up (s1.trans s2))
theorem ev_op {op : Operator} {r : R2} {f : PyData → PyData → Res PyData} (ho : OpR X (binaryOp op) r ∧ Fop X W r f) (ha : EV X W a da) (hb : EV X W b db) : EV X W (.BinOp a op b pos) (d2 f da db) :=
  pe_weak (pe_op ho.1 ha hb) fun σ H Q h => tOp_of ho.2 h
theorem ev_cmp {op : CmpOp} {r : R2} {f : PyData → PyData → Res PyData} (ho : OpR X (compareOp op) r ∧ Fop X W r f) (ha : EV X W a da) (hb : EV X W b db) (hm : behindInMarks op b = false) : EV X W (.Compare a [op] [b] pos) (d2 f da db) :=
  pe_weak (pe_cmpR ho.1 ha hb hm) fun σ H Q h => tOp_of ho.2 h

/-- the ints' operations -/
theorem fop_rI {C : Int → Int → Prop} {g : Int → Int → V} {f : PyData → PyData → Res PyData}
    (h : ∀ (H : Hp) (P : Pv) (tx ty : PyData) (Q : VK), PostE X.K W H P (f tx ty) Q → ∃ i j, tx = .int i ∧ ty = .int j ∧ C i j ∧ Q (g i j) H) : Fop X W (rI C g) f := fun H P σ G x y tx ty Q hh rx ry q => by
  obtain ⟨i, j, rfl, rfl, c, q'⟩ := h H P tx ty Q q
  exact ⟨i, j, rl_int.mp rx, rl_int.mp ry, c, q'⟩
theorem fop_rI0 {g : Int → Int → V} {f : PyData → PyData → Res PyData}
    (h : ∀ (H : Hp) (P : Pv) (tx ty : PyData) (Q : VK), PostE X.K W H P (f tx ty) Q → ∃ i j, tx = .int i ∧ ty = .int j ∧ Q (g i j) H) : Fop X W (rI0 g) f := fun H P σ G x y tx ty Q hh rx ry q => by
  obtain ⟨i, j, rfl, rfl, q'⟩ := h H P tx ty Q q
  exact ⟨i, j, rl_int.mp rx, rl_int.mp ry, q'⟩
theorem post_int {K : PySem.W.Frag} {H : Hp} {P : Pv} {Q : VK} {i : Int} (q : PostE K W H P (.ok (.int i)) Q) : Q (.int i) H := q _ H (Same.refl H) (rl_int.mpr rfl)
theorem post_bl {K : PySem.W.Frag} {H : Hp} {P : Pv} {Q : VK} {i : Bool} (q : PostE K W H P (.ok (.bool i)) Q) : Q (.bl i) H := q _ H (Same.refl H) (rl_bool.mpr rfl)

theorem SL.off {K : PySem.W.Frag} {H : Hp} {P : Pv} {a : Addr} {xs : List V} (h : H a = some (.lst xs)) (o : Off P a) : SL K H P a xs := .inl ⟨.inl h, o⟩
/-- lists: both read, a new one -/
def rCatS (K : PySem.W.Frag) : R2 := fun x y H Q => ∃ l b xs zs, x = .ref l ∧ y = .ref b ∧ SqL K H l xs ∧ SqL K H b zs ∧ xs.length + zs.length ≤ sizeLine ∧ ∀ p, H p = none → Q (.ref p) (upd H p (.lst (xs ++ zs)))
theorem op_catS : OpR X (binaryOp .Add) (rCatS X.K) := by
  intro pins s σ H x y v u Q I rx ry h
  obtain ⟨l, b, xs, zs, rfl, rfl, hH, hB, hz, q⟩ := h
  cases rx
  cases ry
  obtain ⟨its, r, ⟨o, n, e, hc, hd, hs⟩, z⟩ := I.list hH
  obtain ⟨its2, r2, ⟨o2, n2, e2, hc2, hd2, hs2⟩, z2⟩ := I.list hB
  obtain ⟨c1, c2, c3, c4⟩ := o
  obtain ⟨k1, k2, k3, k4⟩ := o2
  simp only at hc hd hs hc2 hd2 hs2
  subst hc hd hs hc2 hd2 hs2
  have l1 := r.length
  have l2 := r2.length
  refine concat_meets ⟨_, e, rfl⟩ ⟨_, e2, rfl⟩ noFill_list_add seq_list_add PySem.F.slot_list_add PySem.F.entry_list_add (PySem.F.args_list_add_2 _ _) (list_addW l b its.toArray its2.toArray n n2 none none c4 k4 (by simp; omega)) ⟨e, e2, ?_⟩
  have ea : its.toArray ++ its2.toArray = (its ++ its2).toArray := by simp
  rw [ea]
  exact ⟨.ref _, _, I.lnew (t' := s.toks) (r.append r2) (by rw [List.length_append]; omega), rfl, q _ I.fresh⟩
theorem op_addF : OpR X (binaryOp .Add) (fun x y H Q => rI0 (fun i j => .int (i + j)) x y H Q ∨ rCatS X.K x y H Q) ∧ Fop X W (fun x y H Q => rI0 (fun i j => .int (i + j)) x y H Q ∨ rCatS X.K x y H Q) fAdd :=
  ⟨op_add.or op_catS, fun H P σ G x y tx ty Q h rx ry q => by
    cases tx <;> cases ty <;> try exact q.elim
    · exact .inl ⟨_, _, rl_int.mp rx, rl_int.mp ry, post_int q⟩
    · rename_i xs ys
      refine .inr ?_
      obtain ⟨l, us, rfl, s1, r1⟩ := rl_list.mp rx
      obtain ⟨m, ws, rfl, s2, r2⟩ := rl_list.mp ry
      simp only [fAdd] at q
      split at q
      · rename_i hz
        have e1 := r1.length
        have e2 := r2.length
        refine ⟨l, m, us, ws, rfl, rfl, s1.sq, s2.sq, by rw [sizeLine_eq]; omega, fun p hp => q _ _ (same_new hp) (rl_list.mpr ⟨p, us ++ ws, rfl, .off upd_same (h.off_new hp), ?_⟩)⟩
        exact (Rls.go (.same (same_new hp)) xs us r1).append (Rls.go (.same (same_new hp)) ys ws r2)
      · exact q.elim⟩
theorem op_subF : OpR X (binaryOp .Sub) (rI0 fun i j => .int (i - j)) ∧ Fop X W (rI0 fun i j => .int (i - j)) fSub :=
  ⟨op_sub, fop_rI0 fun H P tx ty Q q => by
    cases tx <;> cases ty <;> try exact q.elim
    exact ⟨_, _, rfl, rfl, post_int q⟩⟩
theorem mulOk_ok {i j : Int} (h : mulOk i j = true) : IntMulOk i j := by
  have bits : ∀ k : Int, Builtin.Int.intBits k ≤ k.natAbs.log2 + 1 := fun k => by
    unfold Builtin.Int.intBits
    split <;> omega
  simp only [mulOk, Bool.or_eq_true, decide_eq_true_eq] at h
  rcases h with (h | h) | h
  · have h1 := bits i
    have h2 := bits j
    unfold IntMulOk
    intro z
    simp only [Bool.and_eq_true, decide_eq_true_eq, Builtin.Int.intTooBig] at z
    have := z.2
    simp only [bitsLine] at this
    omega
  · exact .of_left (intBits_le_64 (by omega) (by omega))
  · exact .of_right (intBits_le_64 (by omega) (by omega))
theorem op_mulF : OpR X (binaryOp .Mult) (rI (fun i j => mulOk i j = true) fun i j => .int (i * j)) ∧ Fop X W (rI (fun i j => mulOk i j = true) fun i j => .int (i * j)) fMul :=
  ⟨opI fun _ _ _ _ _ _ _ hc q => mul_int q (mulOk_ok hc), fop_rI fun H P tx ty Q q => by
    cases tx <;> cases ty <;> try exact q.elim
    simp only [fMul] at q
    split at q
    · rename_i hc; exact ⟨_, _, rfl, rfl, hc, post_int q⟩
    · exact q.elim⟩
theorem divOk_ok {i j : Int} (h : divOk j = true) : j ≠ 0 ∧ Builtin.divisionGoesByPylong i j = false := by
  simp only [divOk, Bool.and_eq_true, decide_eq_true_eq] at h
  refine ⟨h.1, ?_⟩
  unfold Builtin.divisionGoesByPylong
  have e : (j == 0) = false := by simpa using h.1
  simp only [e]
  have : ¬ (j.natAbs.log2 / 30 + 1 > 300) := by omega
  simp [this]
theorem op_divF : OpR X (binaryOp .FloorDiv) (rI (fun _ j => divOk j = true) fun i j => .int (i.fdiv j)) ∧ Fop X W (rI (fun _ j => divOk j = true) fun i j => .int (i.fdiv j)) fDiv :=
  ⟨opI fun _ _ _ _ _ _ _ hc q => floordiv_int (divOk_ok (i := 0) hc).1 q (.inl (divOk_ok hc).2), fop_rI fun H P tx ty Q q => by
    cases tx <;> cases ty <;> try exact q.elim
    simp only [fDiv] at q
    split at q
    · rename_i hc; exact ⟨_, _, rfl, rfl, hc, post_int q⟩
    · exact q.elim⟩
theorem op_modF : OpR X (binaryOp .Mod) (rI (fun _ j => j ≠ 0) fun i j => .int (i.fmod j)) ∧ Fop X W (rI (fun _ j => j ≠ 0) fun i j => .int (i.fmod j)) fMod :=
  ⟨op_modN, fop_rI fun H P tx ty Q q => by
    cases tx <;> cases ty <;> try exact q.elim
    simp only [fMod] at q
    split at q
    · exact q.elim
    · rename_i hc; exact ⟨_, _, rfl, rfl, hc, post_int q⟩⟩
theorem op_powF : OpR X (binaryOp .Pow) (rI CPow fun i j => .int (i ^ j.toNat)) ∧ Fop X W (rI CPow fun i j => .int (i ^ j.toNat)) fPow :=
  ⟨op_pow, fop_rI fun H P tx ty Q q => by
    cases tx <;> cases ty <;> try exact q.elim
    simp only [fPow] at q
    split at q
    · rename_i hc; exact ⟨_, _, rfl, rfl, hc, post_int q⟩
    · exact q.elim⟩
theorem op_ltF : OpR X (compareOp .Lt) (rI0 fun i j => .bl (decide (i < j))) ∧ Fop X W (rI0 fun i j => .bl (decide (i < j))) fLt :=
  ⟨op_lt, fop_rI0 fun H P tx ty Q q => by
    cases tx <;> cases ty <;> try exact q.elim
    exact ⟨_, _, rfl, rfl, post_bl q⟩⟩
theorem op_leF : OpR X (compareOp .LtE) (rI0 fun i j => .bl (decide (i ≤ j))) ∧ Fop X W (rI0 fun i j => .bl (decide (i ≤ j))) fLe :=
  ⟨op_le, fop_rI0 fun H P tx ty Q q => by
    cases tx <;> cases ty <;> try exact q.elim
    exact ⟨_, _, rfl, rfl, post_bl q⟩⟩
theorem op_gtF : OpR X (compareOp .Gt) (rI0 fun i j => .bl (decide (j < i))) ∧ Fop X W (rI0 fun i j => .bl (decide (j < i))) fGt :=
  ⟨op_gt, fop_rI0 fun H P tx ty Q q => by
    cases tx <;> cases ty <;> try exact q.elim
    exact ⟨_, _, rfl, rfl, post_bl q⟩⟩
theorem op_geF : OpR X (compareOp .GtE) (rI0 fun i j => .bl (decide (j ≤ i))) ∧ Fop X W (rI0 fun i j => .bl (decide (j ≤ i))) fGe :=
  ⟨op_ge, fop_rI0 fun H P tx ty Q q => by
    cases tx <;> cases ty <;> try exact q.elim
    exact ⟨_, _, rfl, rfl, post_bl q⟩⟩

/-! ### == of any data -/
mutual
theorem Rl.reads {pins : List (Addr × Obj)} {σ : L2.St} {H : Hp} {s : Shared} {P : Pv} (I : Inv X pins σ H s) : ∀ (t : PyData) (v : V) (u : Value), t.canLay0 = true → Rl X.K H P t v → RelV v u → ∃ as, Reads s.heap u t as
  | .none, v, u, _, h, r => by rw [rl_none.mp h] at r; cases r; exact ⟨_, .none⟩
  | .bool b, v, u, hl, h, r => by rw [rl_bool.mp h] at r; cases r; exact ⟨_, .bool b⟩
  | .int i, v, u, hl, h, r => by rw [rl_int.mp h] at r; obtain ⟨t, rfl⟩ := r; exact ⟨_, .int i t⟩
  | .str x, v, u, hl, h, r => by rw [rl_str.mp h] at r; obtain ⟨t, rfl⟩ := r; exact ⟨_, .str x t⟩
  | .list xs, v, u, hl, h, r => by
    obtain ⟨a, vs, rfl, sl, rs⟩ := rl_list.mp h
    cases r
    obtain ⟨its, rv, ⟨o, n, e, hc, hd, hs⟩, z⟩ := I.list sl.sq
    obtain ⟨as, ra⟩ := Rls.reads I xs vs its (by simpa [PyData.canLay0] using hl) rs rv
    exact ⟨_, .list e hc hs (by simpa using ra)⟩
  | .tuple xs, v, u, hl, h, r => by
    obtain ⟨a, vs, rfl, sl, rs⟩ := rl_tuple.mp h
    cases r
    obtain ⟨its, rv, ⟨o, e, hc, n, hs⟩, z⟩ := I.tuple sl.sq
    obtain ⟨as, ra⟩ := Rls.reads I xs vs its (by simpa [PyData.canLay0] using hl) rs rv
    exact ⟨_, .tuple e hc hs (by simpa using ra)⟩
  | .dict _, v, u, hl, h, r => by simp [PyData.canLay0] at hl
theorem Rls.reads {pins : List (Addr × Obj)} {σ : L2.St} {H : Hp} {s : Shared} {P : Pv} (I : Inv X pins σ H s) : ∀ (ts : List PyData) (vs : List V) (us : List Value), PyData.canLayAll0 ts = true → Rls X.K H P ts vs → Vals vs us → ∃ as, ReadsAll s.heap us ts as
  | [], vs, us, _, h, r => by rw [rls_nil.mp h] at r; cases r; exact ⟨_, .nil⟩
  | t :: ts, vs, us, hl, h, r => by
    simp only [PyData.canLayAll0, Bool.and_eq_true] at hl
    obtain ⟨v, vs', rfl, h1, h2⟩ := rls_cons.mp h
    cases r with
    | cons r1 r2 =>
      obtain ⟨as, ra⟩ := Rl.reads I t v _ hl.1 h1 r1
      obtain ⟨bs, rb⟩ := Rls.reads I ts vs' _ hl.2 h2 r2
      exact ⟨_, .cons ra rb⟩
end
theorem shaped_lay {t : PyData} (h : shapedD t = true) : t.canLay0 = true := by
  unfold shapedD at h
  rw [Bool.and_eq_true] at h
  exact h.1
def rEqD (K : PySem.W.Frag) (k : Bool → Bool) : R2 := fun x y H Q => ∃ P tx ty, Rl K H P tx x ∧ Rl K H P ty y ∧ shapedD tx = true ∧ shapedD ty = true ∧ Q (.bl (k (tx.eqv ty))) H
theorem op_eqD (hu : X.A.units + 64 < cLine) : OpR X (compareOp .Eq) (rEqD X.K fun k => k) := by
  intro pins s σ H x y v u Q I rx ry h
  obtain ⟨P, tx, ty, hx, hy, sx, sy, q⟩ := h
  obtain ⟨as, ra⟩ := Rl.reads I tx x v (shaped_lay sx) hx rx
  obtain ⟨bs, rb⟩ := Rl.reads I ty y u (shaped_lay sy) hy ry
  exact SeqAt.compareEq_shaped ra rb sx sy hu ⟨.bl _, H, I, rfl, q⟩
theorem op_neD (hu : X.A.units + 64 < cLine) : OpR X (compareOp .NotEq) (rEqD X.K fun k => !k) := by
  intro pins s σ H x y v u Q I rx ry h
  obtain ⟨P, tx, ty, hx, hy, sx, sy, q⟩ := h
  obtain ⟨as, ra⟩ := Rl.reads I tx x v (shaped_lay sx) hx rx
  obtain ⟨bs, rb⟩ := Rl.reads I ty y u (shaped_lay sy) hy ry
  exact SeqAt.compareNe_shaped ra rb sx sy hu ⟨.bl _, H, I, rfl, q⟩
def rEqI (k : Bool → Bool) : R2 := rI0 fun i j => .bl (k (decide (i = j)))
theorem op_eqI : OpR X (compareOp .Eq) (rEqI fun k => k) := opB0 fun i j _ _ _ _ _ q => eq_int (by rw [Bool.beq_eq_decide_eq]; exact q)
theorem op_neI : OpR X (compareOp .NotEq) (rEqI fun k => !k) := opB0 fun i j _ _ _ _ _ q => ne_int (by rw [bne, Bool.beq_eq_decide_eq]; exact q)
theorem op_eqF (hu : X.A.units + 64 < cLine) : OpR X (compareOp .Eq) (fun x y H Q => rEqI (fun k => k) x y H Q ∨ rEqD X.K (fun k => k) x y H Q) ∧ Fop X W (fun x y H Q => rEqI (fun k => k) x y H Q ∨ rEqD X.K (fun k => k) x y H Q) fEq :=
  ⟨op_eqI.or (op_eqD hu), fun H P σ G x y tx ty Q h rx ry q => by
    unfold fEq at q
    split at q
    · exact .inl ⟨_, _, rl_int.mp rx, rl_int.mp ry, post_bl q⟩
    · split at q
      · rename_i hc
        rw [Bool.and_eq_true] at hc
        exact .inr ⟨P, tx, ty, rx, ry, hc.1, hc.2, post_bl q⟩
      · exact q.elim⟩
theorem op_neF (hu : X.A.units + 64 < cLine) : OpR X (compareOp .NotEq) (fun x y H Q => rEqI (fun k => !k) x y H Q ∨ rEqD X.K (fun k => !k) x y H Q) ∧ Fop X W (fun x y H Q => rEqI (fun k => !k) x y H Q ∨ rEqD X.K (fun k => !k) x y H Q) fNe :=
  ⟨op_neI.or (op_neD hu), fun H P σ G x y tx ty Q h rx ry q => by
    unfold fNe at q
    split at q
    · exact .inl ⟨_, _, rl_int.mp rx, rl_int.mp ry, post_bl q⟩
    · split at q
      · rename_i hc
        rw [Bool.and_eq_true] at hc
        exact .inr ⟨P, tx, ty, rx, ry, hc.1, hc.2, post_bl q⟩
      · exact q.elim⟩

/-! ### one part -/
theorem tUn_of {r : V → Hp → VK → Prop} {f : PyData → Res PyData} (hf : ∀ (H : Hp) (P : Pv) (x : V) (tx : PyData) (Q : VK), Rl X.K H P tx x → PostE X.K W H P (f tx) Q → r x H Q) {σ : L2.St} {H : Hp} {Q : VK} (h : tF X.K W (d1 f da) σ H Q) :
    tUn r (tF X.K W da) σ H Q := by
  obtain ⟨G, P, h, q⟩ := h
  unfold d1 at q
  obtain ⟨q1, q2, q3⟩ := bindE q
  exact tF_bind h q1 q2 fun tx x H1 ex s1 h1 rx => hf H1 P x tx Q rx ((q3 tx ex).up s1)
theorem ev_neg (ha : EV X W a da) : EV X W (.UnaryOp .USub a pos) (d1 fNeg da) :=
  pe_weak (pe_un un_neg ha) fun σ H Q h => tUn_of (r := rU fun i => .int (-i)) (fun H P x tx Q rx q => by
    cases tx <;> try exact q.elim
    exact ⟨_, rl_int.mp rx, post_int q⟩) h

/-! ### arguments, displays -/
theorem bindA {a : Res PyData} {f : PyData → Res (List PyData)} {K : PySem.W.Frag} {H : Hp} {P : Pv} {Q : List V → Hp → Prop} (q : PostA K W H P (a.bind f) Q) :
    (∀ c, a = .exc c → ∀ H', Same H H' → W c H') ∧ a ≠ .stuck ∧ ∀ t, a = .ok t → PostA K W H P (f t) Q := by
  cases a with
  | ok t => exact ⟨fun c e => (by cases e), (by intro e; cases e), fun t' e => by cases e; exact q⟩
  | exc c => exact ⟨fun c' e => by cases e; exact q, (by intro e; cases e), fun t e => by cases e⟩
  | stuck => exact q.elim
theorem bindAA {a : Res (List PyData)} {f : List PyData → Res (List PyData)} {K : PySem.W.Frag} {H : Hp} {P : Pv} {Q : List V → Hp → Prop} (q : PostA K W H P (a.bind f) Q) :
    (∀ c, a = .exc c → ∀ H', Same H H' → W c H') ∧ a ≠ .stuck ∧ ∀ t, a = .ok t → PostA K W H P (f t) Q := by
  cases a with
  | ok t => exact ⟨fun c e => (by cases e), (by intro e; cases e), fun t' e => by cases e; exact q⟩
  | exc c => exact ⟨fun c' e => by cases e; exact q, (by intro e; cases e), fun t e => by cases e⟩
  | stuck => exact q.elim
theorem bindAE {a : Res (List PyData)} {f : List PyData → Res PyData} {K : PySem.W.Frag} {H : Hp} {P : Pv} {Q : VK} (q : PostE K W H P (a.bind f) Q) :
    (∀ c, a = .exc c → ∀ H', Same H H' → W c H') ∧ a ≠ .stuck ∧ ∀ t, a = .ok t → PostE K W H P (f t) Q := by
  cases a with
  | ok t => exact ⟨fun c e => (by cases e), (by intro e; cases e), fun t' e => by cases e; exact q⟩
  | exc c => exact ⟨fun c' e => by cases e; exact q, (by intro e; cases e), fun t e => by cases e⟩
  | stuck => exact q.elim
theorem bindTE {a : Res Bool} {f : Bool → Res PyData} {K : PySem.W.Frag} {H : Hp} {P : Pv} {Q : VK} (q : PostE K W H P (a.bind f) Q) :
    (∀ c, a = .exc c → ∀ H', Same H H' → W c H') ∧ a ≠ .stuck ∧ ∀ t, a = .ok t → PostE K W H P (f t) Q := by
  cases a with
  | ok t => exact ⟨fun c e => (by cases e), (by intro e; cases e), fun t' e => by cases e; exact q⟩
  | exc c => exact ⟨fun c' e => by cases e; exact q, (by intro e; cases e), fun t e => by cases e⟩
  | stuck => exact q.elim
theorem bindT {a : Res Bool} {f : Bool → Res Bool} {H : Hp} {Q : Bool → Hp → Prop} (q : PostT W H (a.bind f) Q) :
    (∀ c, a = .exc c → ∀ H', Same H H' → W c H') ∧ a ≠ .stuck ∧ ∀ t, a = .ok t → PostT W H (f t) Q := by
  cases a with
  | ok t => exact ⟨fun c e => (by cases e), (by intro e; cases e), fun t' e => by cases e; exact q⟩
  | exc c => exact ⟨fun c' e => by cases e; exact q, (by intro e; cases e), fun t e => by cases e⟩
  | stuck => exact q.elim
theorem bindET {a : Res PyData} {f : PyData → Res Bool} {H : Hp} {Q : Bool → Hp → Prop} (q : PostT W H (a.bind f) Q) :
    (∀ c, a = .exc c → ∀ H', Same H H' → W c H') ∧ a ≠ .stuck ∧ ∀ t, a = .ok t → PostT W H (f t) Q := by
  cases a with
  | ok t => exact ⟨fun c e => (by cases e), (by intro e; cases e), fun t' e => by cases e; exact q⟩
  | exc c => exact ⟨fun c' e => by cases e; exact q, (by intro e; cases e), fun t e => by cases e⟩
  | stuck => exact q.elim
theorem PostT.up {H H' : Hp} {r : Res Bool} {Q : Bool → Hp → Prop} (q : PostT W H r Q) (s : Same H H') : PostT W H' r Q := by
  cases r with
  | ok t => exact fun H2 s2 => q H2 (s.trans s2)
  | exc c => exact fun H2 s2 => q H2 (s.trans s2)
  | stuck => exact q
theorem PostA.up {K : PySem.W.Frag} {H H' : Hp} {P : Pv} {r : Res (List PyData)} {Q : List V → Hp → Prop} (q : PostA K W H P r Q) (s : Same H H') : PostA K W H' P r Q := by
  cases r with
  | ok t => exact fun v H2 s2 r2 => q v H2 (s.trans s2) r2
  | exc c => exact fun H2 s2 => q H2 (s.trans s2)
  | stuck => exact q
theorem av_nil : AV X W [] dNil := pa_weak pa_nil fun σ H Q ⟨G, P, h, q⟩ => q [] H (Same.refl H) (rls_nil.mpr rfl)
theorem av_cons {dr : DA} (ha : EV X W e da) (hr : AV X W es dr) (hs : starEach (e :: es) X.env = (false, eval e X.env) :: starEach es X.env := by rfl) : AV X W (e :: es) (dCons da dr) :=
  pa_weak (pa_cons ha hr hs) fun σ H Q ⟨G, P, h, q⟩ => by
    unfold dCons at q
    obtain ⟨q1, q2, q3⟩ := bindA q
    refine tF_bind h q1 q2 fun tx x H1 ex s1 h1 rx => ?_
    obtain ⟨q4, q5, q6⟩ := bindAA (q3 tx ex)
    refine tFA_bind h1 (fun c e H' s => q4 c e H' (s1.trans s)) q5 fun ts vs H2 es' s2 h2 rs => ?_
    exact (q6 ts es') (x :: vs) H2 (s1.trans s2) (rls_cons.mpr ⟨x, vs, rfl, Rl.go (.same s2) tx x rx, rs⟩)
theorem lenOk_ok {xs : List PyData} {vs : List V} {K : PySem.W.Frag} {H : Hp} {P : Pv} (h : lenOk xs = true) (r : Rls K H P xs vs) : vs.length ≤ sizeLine := by
  have := r.length
  have h' : xs.length ≤ 16777216 := of_decide_eq_true h
  rw [sizeLine_eq]; omega
theorem ST.off {K : PySem.W.Frag} {H : Hp} {P : Pv} {a : Addr} {xs : List V} (h : H a = some (.tup xs)) (o : Off P a) : ST K H P a xs := .inl ⟨.inl h, o⟩
theorem ev_tup {da : DA} {x1} (h : AV X W es da) : EV X W (.Tuple es x1 pos) (dTup da) :=
  pe_weak (pe_tup h) fun σ H Q ⟨G, P, h, q⟩ => by
    unfold dTup at q
    obtain ⟨q1, q2, q3⟩ := bindAE q
    refine tFA_bind h q1 q2 fun ts vs H1 es' s1 h1 rs => ?_
    have q4 := q3 ts es'
    split at q4
    · rename_i hl
      exact ⟨lenOk_ok hl rs, fun p hp => q4 _ _ (s1.trans (same_new hp)) (rl_tuple.mpr ⟨p, vs, rfl, .off upd_same (h1.off_new hp), Rls.go (.same (same_new hp)) ts vs rs⟩)⟩
    · exact q4.elim
theorem ev_lst {da : DA} (h : AV X W es da) : EV X W (.List es pos) (dLst da) :=
  pe_weak (pe_lst h) fun σ H Q ⟨G, P, h, q⟩ => by
    unfold dLst at q
    obtain ⟨q1, q2, q3⟩ := bindAE q
    refine tFA_bind h q1 q2 fun ts vs H1 es' s1 h1 rs => ?_
    have q4 := q3 ts es'
    split at q4
    · rename_i hl
      exact ⟨lenOk_ok hl rs, fun p hp => q4 _ _ (s1.trans (same_new hp)) (rl_list.mpr ⟨p, vs, rfl, .off upd_same (h1.off_new hp), Rls.go (.same (same_new hp)) ts vs rs⟩)⟩
    · exact q4.elim

/-! ### subscripts -/
theorem ixP_eq (n : Nat) (i : Int) : ixP n i = ixN n i := rfl
theorem atP_rl {K : PySem.W.Frag} {H : Hp} {P : Pv} {ts : List PyData} {vs : List V} {i : Int} {t : PyData} (r : Rls K H P ts vs) (h : atP ts i = some t) : ∃ v, atI vs i = some v ∧ Rl K H P t v := by
  unfold atP at h
  unfold atI
  rw [← r.length, ← ixP_eq]
  cases e : ixP ts.length i with
  | none => rw [e] at h; cases h
  | some j =>
    rw [e] at h
    exact r.getT (i := j) h
theorem ev_ix (ha : EV X W a da) (hb : EV X W b db) (hs : PlainIx b) : EV X W (.Subscript a b pos) (d2 fIx da db) :=
  pe_weak (pe_ix (ix_list.or ix_tup) ha hb hs) fun σ H Q h => tOp_of (r := fun x y H Q => rIxL X.K x y H Q ∨ rIxT X.K x y H Q) (fun H P σ G x y tx ty Q h rx ry q => by
    cases tx <;> cases ty <;> try exact q.elim
    · rename_i xs i
      obtain ⟨l, us, rfl, s1, r1⟩ := rl_list.mp rx
      simp only [fIx] at q
      cases e : atP xs i with
      | none => rw [e] at q; exact q.elim
      | some t =>
        rw [e] at q
        obtain ⟨v, e1, r⟩ := atP_rl r1 e
        exact .inl ⟨l, us, i, v, rfl, rl_int.mp ry, s1.sq, e1, q v H (Same.refl H) r⟩
    · rename_i xs i
      obtain ⟨l, us, rfl, s1, r1⟩ := rl_tuple.mp rx
      simp only [fIx] at q
      cases e : atP xs i with
      | none => rw [e] at q; exact q.elim
      | some t =>
        rw [e] at q
        obtain ⟨v, e1, r⟩ := atP_rl r1 e
        exact .inr ⟨l, us, i, v, rfl, rl_int.mp ry, s1.sq, e1, q v H (Same.refl H) r⟩) h

/-! ### built-ins of one argument -/
theorem tCB_of {r : List V → Hp → VK → Prop} {f : PyData → Res PyData} (hf : ∀ (H : Hp) (P : Pv) (σ : L2.St) (G : List Sl) (x : V) (tx : PyData) (Q : VK), Hol X.K H P σ G → Rl X.K H P tx x → PostE X.K W H P (f tx) Q → r [x] H Q) {σ : L2.St} {H : Hp} {Q : VK} (h : tF X.K W (d1 f da) σ H Q) :
    tCB r (tCons (tF X.K W da) tNil) σ H Q := by
  obtain ⟨G, P, h, q⟩ := h
  unfold d1 at q
  obtain ⟨q1, q2, q3⟩ := bindE q
  exact tF_bind h q1 q2 fun tx x H1 ex s1 h1 rx => hf H1 P σ G x tx Q h1 rx ((q3 tx ex).up s1)
theorem ev_len {p : Pos} (hg : Gl X "len") (hm : X.mg "len" = none) (ha : EV X W a da) (hs : starEach [a] X.env = (false, eval a X.env) :: starEach [] X.env := by rfl) : EV X W (.Call (.Name "len" p) [a] [] pos) (d1 fLen da) :=
  pe_weak (pe_callB call_len_seq hg hm PySem.boot_len (pa_cons ha pa_nil hs) (he := hs)) fun σ H Q h => tCB_of (fun H P σ G x tx Q h rx q => by
    cases tx <;> try exact q.elim
    · obtain ⟨l, us, rfl, s1, r1⟩ := rl_list.mp rx
      have e := r1.length
      refine ⟨l, us, rfl, .inl s1.sq, ?_⟩
      rw [← e]; exact post_int q
    · obtain ⟨l, us, rfl, s1, r1⟩ := rl_tuple.mp rx
      have e := r1.length
      refine ⟨l, us, rfl, .inr s1.sq, ?_⟩
      rw [← e]; exact post_int q) h
theorem ev_abs {p : Pos} (hg : Gl X "abs") (hm : X.mg "abs" = none) (ha : EV X W a da) (hs : starEach [a] X.env = (false, eval a X.env) :: starEach [] X.env := by rfl) : EV X W (.Call (.Name "abs" p) [a] [] pos) (d1 fAbs da) :=
  pe_weak (pe_callB call_abs hg hm (show bootBuiltins "abs" = some (.builtin "abs") by decide +kernel) (pa_cons ha pa_nil hs) (he := hs)) fun σ H Q h => tCB_of (fun H P σ G x tx Q h rx q => by
    cases tx <;> try exact q.elim
    exact ⟨_, by rw [rl_int.mp rx], post_int q⟩) h

/-! ### isinstance(x, T), T a built-in type -/
def tyN : PyData → String
  | .none => "NoneType"
  | .bool _ => "bool"
  | .int _ => "int"
  | .str _ => "str"
  | .list _ => "list"
  | .tuple _ => "tuple"
  | .dict _ => "dict"
def Kit (T : String) (p : PyData → Bool) : Prop := ∀ (K : PySem.W.Frag) (t : PyData), PySem.W.kitOne K (.type (tyN t)) (.type T) = some (p t)
theorem kit_int : Kit "int" isInt := fun K t => by cases t <;> rfl
theorem kit_bool : Kit "bool" isBool := fun K t => by cases t <;> rfl
theorem kit_tuple : Kit "tuple" isTuple := fun K t => by cases t <;> rfl
theorem kit_list : Kit "list" isList := fun K t => by cases t <;> rfl
theorem kit_str : Kit "str" isStr := fun K t => by cases t <;> rfl
theorem call_isi {T : String} {p : PyData → Bool} (hk : Kit T p) : CallR X (.builtin "isinstance") (fun xs H Q => ∃ x t P, xs = [x, .ty T] ∧ (∀ ys, t ≠ .dict ys) ∧ Rl X.K H P t x ∧ Q (.bl (p t)) H) := by
  intro pins s σ H xs us Q I r h
  obtain ⟨x, t, P, rfl, nd, rx, q⟩ := h
  obtain ⟨u, w', rfl, ru, rw'⟩ := vals2 r
  cases rw'
  have e := hk X.K t
  have fin : ∀ tk, EP X pins σ Q (.bool (p t)) { s with toks := tk } := fun tk => ⟨.bl (p t), H, I.tok tk, rfl, q⟩
  cases t with
  | none => rw [rl_none.mp rx] at ru; cases ru; exact PySem.W.kia_one PySem.W.kitx_none I.kIn True.intro e (fun z => nomatch z) fin
  | bool b => rw [rl_bool.mp rx] at ru; cases ru; exact PySem.W.kia_one PySem.W.kitx_bool I.kIn True.intro e (fun z => nomatch z) fin
  | int i => rw [rl_int.mp rx] at ru; obtain ⟨t, rfl⟩ := ru; exact PySem.W.kia_one PySem.W.kitx_int I.kIn True.intro e (fun z => nomatch z) fin
  | str y => rw [rl_str.mp rx] at ru; obtain ⟨t, rfl⟩ := ru; exact PySem.W.kia_one PySem.W.kitx_str I.kIn True.intro e (fun z => nomatch z) fin
  | list ys =>
    obtain ⟨l, vs, rfl, s1, r1⟩ := rl_list.mp rx
    cases ru
    obtain ⟨its, rv, ⟨o, n, e1, hc, hd, hs⟩, z⟩ := I.list s1.sq
    exact PySem.W.kia_one PySem.W.kitx_list I.kIn ⟨o, e1, hc⟩ e (fun z => nomatch z) fin
  | tuple ys =>
    obtain ⟨l, vs, rfl, s1, r1⟩ := rl_tuple.mp rx
    cases ru
    obtain ⟨its, rv, ⟨o, e1, hc, n, hs⟩, z⟩ := I.tuple s1.sq
    exact PySem.W.kia_one PySem.W.kitx_tuple I.kIn ⟨o, e1, hc⟩ e (fun z => nomatch z) fin
  | dict ys => exact absurd rfl (nd ys)
theorem ev_isinst {T : String} {x : Str} {f : PyData → Bool} {p p2 : Pos} (hk : Kit T f) (hv : bootBuiltins x = some (.type T)) (hg : Gl X "isinstance") (hm : X.mg "isinstance" = none) (hg2 : Gl X x) (hm2 : X.mg x = none) (ha : EV X W a da)
    (hs : starEach [a, .Name x p2] X.env = (false, eval a X.env) :: starEach [.Name x p2] X.env := by rfl) (hs2 : starEach [.Name x p2] X.env = (false, eval (.Name x p2) X.env) :: starEach [] X.env := by rfl)
    (hpl : (backTo pos (starEach [.Name x p2] X.env)).any (·.1) = false := by rfl) (hn : x ≠ "__name__" := by decide) (hdb : (x == ("__debug__" : Str)) = false := by decide) :
    EV X W (.Call (.Name "isinstance" p) [a, .Name x p2] [] pos) (d1 (fIs f) da) :=
  pe_weak (pe_callB (call_isi hk) hg hm (show bootBuiltins "isinstance" = some (.builtin "isinstance") by decide +kernel) (pa_cons ha (pa_cons (pe_bltn (v := .ty T) hg2 hm2 hv rfl hn hdb) pa_nil hs2) hs) (he := hs) (hpl := hpl)) fun σ H Q ⟨G, P, h, q⟩ => by
    unfold d1 at q
    obtain ⟨q1, q2, q3⟩ := bindE q
    refine tF_bind h q1 q2 fun tx x H1 ex s1 h1 rx => ?_
    have q4 := PostE.up (q3 tx ex) s1
    refine ⟨x, tx, P, rfl, fun ys z => (by subst z; exact q4.elim), rx, ?_⟩
    cases tx <;> first | exact post_bl q4 | exact q4.elim

/-! ### and, or, not, a if c else b, as values -/
theorem ev_one {op} (h : EV X W a da) : EV X W (.BoolOp op [a] pos) da := pe_one h
theorem ev_and {rest : List Expr} (ha : EV X W a da) (hb : EV X W (.BoolOp .And (b :: rest) pos) db) : EV X W (.BoolOp .And (a :: b :: rest) pos) (dAndV da db) :=
  pe_weak (pe_and ha hb) fun σ H Q ⟨G, P, h, q⟩ => by
    unfold dAndV at q
    obtain ⟨q1, q2, q3⟩ := bindE q
    refine tF_bind h q1 q2 fun tx x H1 ex s1 h1 rx => ?_
    have q4 := q3 tx ex
    cases tx <;> try exact q4.elim
    rename_i k
    refine ⟨k, rl_bool.mp rx, ?_⟩
    cases k with
    | true => exact iteT ⟨G, P, h1, PostE.up q4 s1⟩
    | false => exact iteF (post_bl (PostE.up q4 s1))
theorem ev_or {rest : List Expr} (ha : EV X W a da) (hb : EV X W (.BoolOp .Or (b :: rest) pos) db) : EV X W (.BoolOp .Or (a :: b :: rest) pos) (dOrV da db) :=
  pe_weak (pe_or ha hb) fun σ H Q ⟨G, P, h, q⟩ => by
    unfold dOrV at q
    obtain ⟨q1, q2, q3⟩ := bindE q
    refine tF_bind h q1 q2 fun tx x H1 ex s1 h1 rx => ?_
    have q4 := q3 tx ex
    cases tx <;> try exact q4.elim
    rename_i k
    refine ⟨k, rl_bool.mp rx, ?_⟩
    cases k with
    | true => exact iteT (post_bl (PostE.up q4 s1))
    | false => exact iteF ⟨G, P, h1, PostE.up q4 s1⟩
theorem ev_not (ha : EV X W a da) : EV X W (.UnaryOp .Not a pos) (dNotV da) :=
  pe_weak (pe_not ha) fun σ H Q ⟨G, P, h, q⟩ => by
    unfold dNotV at q
    obtain ⟨q1, q2, q3⟩ := bindE q
    refine tF_bind h q1 q2 fun tx x H1 ex s1 h1 rx => ?_
    have q4 := q3 tx ex
    cases tx <;> try exact q4.elim
    exact ⟨_, rl_bool.mp rx, post_bl (PostE.up q4 s1)⟩
theorem ev_ifExp {dc : DT} (hc : TV X W c dc) (ha : EV X W a da) (hb : EV X W b db) : EV X W (.IfExp c a b pos) (dIfE dc da db) :=
  pe_weak (pe_ifExp hc ha hb) fun σ H Q ⟨G, P, h, q⟩ => by
    unfold dIfE at q
    obtain ⟨q1, q2, q3⟩ := bindTE q
    refine tFT_bind h q1 q2 fun k H1 ek s1 h1 => ?_
    have q4 := q3 k ek
    cases k with
    | true => exact iteT ⟨G, P, h1, PostE.up q4 s1⟩
    | false => exact iteF ⟨G, P, h1, PostE.up q4 s1⟩
theorem ev_isN {j pos'} (ha : EV X W a da) : EV X W (.Compare a [.Is] [.Constant .none j pos'] pos) (d1 fIsN da) :=
  pe_weak (pe_cmp (pc_isN ha)) fun σ H Q ⟨G, P, h, q⟩ => by
    unfold d1 at q
    obtain ⟨q1, q2, q3⟩ := bindE q
    refine tF_bind h q1 q2 fun tx x H1 ex s1 h1 rx => ?_
    have q4 := PostE.up (q3 tx ex) s1
    cases tx with
    | none => rw [rl_none.mp rx]; exact post_bl q4
    | bool b => rw [rl_bool.mp rx]; exact post_bl q4
    | int b => rw [rl_int.mp rx]; exact post_bl q4
    | str b => rw [rl_str.mp rx]; exact post_bl q4
    | list b => obtain ⟨l, us, rfl, _⟩ := rl_list.mp rx; exact post_bl q4
    | tuple b => obtain ⟨l, us, rfl, _⟩ := rl_tuple.mp rx; exact post_bl q4
    | dict b => obtain ⟨_, l, rfl, _⟩ := rl_dict.mp rx; exact post_bl q4

/-! ### tests -/
theorem truth_ok {H : Hp} {P : Pv} {x : V} {tx : PyData} {k : Bool} (r : Rl X.K H P tx x) (e : truth tx = .ok k) : TruV X.K x H k := by
  cases tx with
  | none => rw [rl_none.mp r]; cases e; rfl
  | bool b => rw [rl_bool.mp r]; cases e; rfl
  | int i => rw [rl_int.mp r]; cases e; rfl
  | str x => cases e
  | list xs =>
    obtain ⟨l, us, rfl, s1, r1⟩ := rl_list.mp r
    cases e
    refine .inl ⟨us, s1.sq, ?_⟩
    have := r1.length
    cases xs <;> cases us <;> first | rfl | simp at this
  | tuple xs =>
    obtain ⟨l, us, rfl, s1, r1⟩ := rl_tuple.mp r
    cases e
    refine .inr (.inl ⟨us, s1.sq, ?_⟩)
    have := r1.length
    cases xs <;> cases us <;> first | rfl | simp at this
  | dict _ => cases e
theorem tv_val (ha : EV X W a da) (he : ∀ whole, isTrue a X.env whole = (do let v ← whole; standAt a.pos; holding [v] (truthy v))) : TV X W a (tV da) :=
  pt_weak (pt_truth ha he) fun σ H Q ⟨G, P, h, q⟩ => by
    unfold Fx.tV at q
    obtain ⟨q1, q2, q3⟩ := bindET q
    refine tF_bind h q1 q2 fun tx x H1 ex s1 h1 rx => ?_
    have q4 := q3 tx ex
    cases e : truth tx with
    | stuck => rw [e] at q4; exact q4.elim
    | exc c => cases tx <;> cases e
    | ok k => rw [e] at q4; exact ⟨k, truth_ok rx e, q4 H1 s1⟩
theorem tv_cmp {op : CmpOp} {r : R2} {f : PyData → PyData → Res PyData} (ho : OpR X (compareOp op) r ∧ Fop X W r f) (ha : EV X W a da) (hb : EV X W b db) (hm : behindInMarks op b = false)
    (hf : ∀ x y, (∃ k, f x y = .ok (.bool k)) ∨ f x y = .stuck := by first | exact fLt_b | exact fLe_b | exact fGt_b | exact fGe_b | exact fEq_b | exact fNe_b) : TV X W (.Compare a [op] [b] pos) (tV (d2 f da db)) :=
  pt_weak (pt_cmpR ho.1 ha hb hm) fun σ H Q ⟨G, P, h, q⟩ => by
    refine tOp_of ho.2 ⟨G, P, h, ?_⟩
    unfold Fx.tV at q
    cases e : d2 f da db G with
    | stuck => rw [e] at q; exact q
    | exc c => rw [e] at q; exact q
    | ok t =>
      rw [e] at q
      have hb : ∃ k, t = .bool k := by
        unfold d2 at e
        cases e1 : da G with
        | stuck => rw [e1] at e; cases e
        | exc c => rw [e1] at e; cases e
        | ok tx =>
          rw [e1, Res.bind_ok] at e
          cases e2 : db G with
          | stuck => rw [e2] at e; cases e
          | exc c => rw [e2] at e; cases e
          | ok ty =>
            rw [e2, Res.bind_ok] at e
            rcases hf tx ty with ⟨k, e3⟩ | e3
            · rw [e3] at e; cases e; exact ⟨k, rfl⟩
            · rw [e3] at e; cases e
      obtain ⟨k, rfl⟩ := hb
      exact fun v H' s r => ⟨k, rl_bool.mp r, q H' s⟩
theorem tw_and1 {dt : DT} (ha : TV X W a dt) : TW X W (.BoolOp .And [a] pos) dt := pw_and1 ha
theorem tw_or1 {dt : DT} (ha : TV X W a dt) : TW X W (.BoolOp .Or [a] pos) dt := pw_or1 ha
theorem tw_and {dt du : DT} {rest : List Expr} (ha : TV X W a dt) (hb : TW X W (.BoolOp .And (b :: rest) pos) du) : TW X W (.BoolOp .And (a :: b :: rest) pos) (tAnd dt du) :=
  pw_weak (pw_and ha hb) fun σ H Q ⟨G, P, h, q⟩ => by
    unfold Fx.tAnd at q
    obtain ⟨q1, q2, q3⟩ := bindT q
    refine tFT_bind h q1 q2 fun k H1 ek s1 h1 => ?_
    have q4 := q3 k ek
    cases k with
    | true => exact iteT ⟨G, P, h1, PostT.up q4 s1⟩
    | false => exact iteF (q4 H1 s1)
theorem tw_or {dt du : DT} {rest : List Expr} (ha : TV X W a dt) (hb : TW X W (.BoolOp .Or (b :: rest) pos) du) : TW X W (.BoolOp .Or (a :: b :: rest) pos) (tOr dt du) :=
  pw_weak (pw_or ha hb) fun σ H Q ⟨G, P, h, q⟩ => by
    unfold Fx.tOr at q
    obtain ⟨q1, q2, q3⟩ := bindT q
    refine tFT_bind h q1 q2 fun k H1 ek s1 h1 => ?_
    have q4 := q3 k ek
    cases k with
    | true => exact iteT (q4 H1 s1)
    | false => exact iteF ⟨G, P, h1, PostT.up q4 s1⟩
theorem tv_w {dt : DT} (h : TW X W a dt) : TV X W a dt := PW.pt h
theorem tv_not {dt : DT} (ha : TV X W a dt) : TV X W (.UnaryOp .Not a pos) (tNot dt) :=
  pt_weak (pt_not ha) fun σ H Q ⟨G, P, h, q⟩ => by
    unfold Fx.tNot at q
    obtain ⟨q1, q2, q3⟩ := bindT q
    exact tFT_bind h q1 q2 fun k H1 ek s1 h1 => (q3 k ek) H1 s1
end
end Fx

namespace Fx
open PySem PySem.Spec PyProof.Rows L2

section
variable {X : Cx} {W : Str → Hp → Prop} {a b c e : Expr} {es : List Expr} {da db : DE} {pos : Pos}
theorem PostS.up {K : PySem.W.Frag} {H H' : Hp} {P P' : Pv} {r : Res Out} {D : Ends} (q : PostS K W H P r D) (g : Go H P H' P') : PostS K W H' P' r D := by
  cases r with
  | ok o =>
    cases o with
    | nx G => exact fun σ2 H2 P2 g2 h2 => q σ2 H2 P2 (g.trans g2) h2
    | bk G => exact fun σ2 H2 P2 g2 h2 => q σ2 H2 P2 (g.trans g2) h2
    | ct G => exact fun σ2 H2 P2 g2 h2 => q σ2 H2 P2 (g.trans g2) h2
    | rt t => exact fun v H2 P2 g2 h2 => q v H2 P2 (g.trans g2) h2
  | exc c => exact fun H2 P2 g2 => q H2 P2 (g.trans g2)
  | stuck => exact q
theorem bindES {a : Res PyData} {f : PyData → Res Out} {K : PySem.W.Frag} {H : Hp} {P : Pv} {D : Ends} (q : PostS K W H P (a.bind f) D) :
    (∀ c, a = .exc c → ∀ H' P', Go H P H' P' → W c H') ∧ a ≠ .stuck ∧ ∀ t, a = .ok t → PostS K W H P (f t) D := by
  cases a with
  | ok t => exact ⟨fun c e => (by cases e), (by intro e; cases e), fun t' e => by cases e; exact q⟩
  | exc c => exact ⟨fun c' e => by cases e; exact q, (by intro e; cases e), fun t e => by cases e⟩
  | stuck => exact q.elim
theorem bindTS {a : Res Bool} {f : Bool → Res Out} {K : PySem.W.Frag} {H : Hp} {P : Pv} {D : Ends} (q : PostS K W H P (a.bind f) D) :
    (∀ c, a = .exc c → ∀ H' P', Go H P H' P' → W c H') ∧ a ≠ .stuck ∧ ∀ t, a = .ok t → PostS K W H P (f t) D := by
  cases a with
  | ok t => exact ⟨fun c e => (by cases e), (by intro e; cases e), fun t' e => by cases e; exact q⟩
  | exc c => exact ⟨fun c' e => by cases e; exact q, (by intro e; cases e), fun t e => by cases e⟩
  | stuck => exact q.elim
theorem bindAS {a : Res (List PyData)} {f : List PyData → Res Out} {K : PySem.W.Frag} {H : Hp} {P : Pv} {D : Ends} (q : PostS K W H P (a.bind f) D) :
    (∀ c, a = .exc c → ∀ H' P', Go H P H' P' → W c H') ∧ a ≠ .stuck ∧ ∀ t, a = .ok t → PostS K W H P (f t) D := by
  cases a with
  | ok t => exact ⟨fun c e => (by cases e), (by intro e; cases e), fun t' e => by cases e; exact q⟩
  | exc c => exact ⟨fun c' e => by cases e; exact q, (by intro e; cases e), fun t e => by cases e⟩
  | stuck => exact q.elim
theorem bindSS {a : Res Out} {f : Out → Res Out} {K : PySem.W.Frag} {H : Hp} {P : Pv} {D : Ends} (q : PostS K W H P (a.bind f) D) :
    (∀ c, a = .exc c → ∀ H' P', Go H P H' P' → W c H') ∧ a ≠ .stuck ∧ ∀ t, a = .ok t → PostS K W H P (f t) D := by
  cases a with
  | ok t => exact ⟨fun c e => (by cases e), (by intro e; cases e), fun t' e => by cases e; exact q⟩
  | exc c => exact ⟨fun c' e => by cases e; exact q, (by intro e; cases e), fun t e => by cases e⟩
  | stuck => exact q.elim

/-! ### blocks -/
theorem sv_nil : SVs X W [] dPass := pss_weak pss_nil fun D σ H ⟨G, P, h, q⟩ => q σ H P (.refl H P) h
theorem sv_one {st : Stmt} {d : DS} (h : SV X W st d) : SVs X W [st] d := pss_one h
theorem sv_cons {st : Stmt} {rest : List Stmt} {d1 d2 : DS} (h1 : SV X W st d1) (h2 : SVs X W rest d2) : SVs X W (st :: rest) (dSeq d1 d2) :=
  pss_weak (pss_cons h1 h2) fun D σ H ⟨G, P, h, q⟩ => by
    refine ⟨G, P, h, ?_⟩
    unfold dSeq at q
    cases e : d1 G with
    | stuck => rw [e] at q; exact q.elim
    | exc c => rw [e] at q; exact q
    | ok o =>
      rw [e, Res.bind_ok] at q
      cases o with
      | nx G1 => exact fun σ' H' P' g h' => ⟨G1, P', h', PostS.up q g⟩
      | rt t => exact q
      | bk G1 => exact q
      | ct G1 => exact q
theorem ss_pass : SV X W (.Pass pos) dPass := ps_weak ps_pass fun D σ H ⟨G, P, h, q⟩ => q σ H P (.refl H P) h
theorem ss_brk : SV X W (.Break pos) dBrk := ps_weak ps_break fun D σ H ⟨G, P, h, q⟩ => q σ H P (.refl H P) h
theorem ss_cnt : SV X W (.Continue pos) dCnt := ps_weak ps_continue fun D σ H ⟨G, P, h, q⟩ => q σ H P (.refl H P) h
theorem ss_never {st : Stmt} : SV X W st dNev := ps_weak ps_never fun D σ H ⟨G, P, h, q⟩ => q
theorem ss_ret (he : EV X W e da) : SV X W (.Return (some e) pos) (dRet da) :=
  ps_weak (ps_ret he) fun D σ H ⟨G, P, h, q⟩ => by
    unfold dRet at q
    obtain ⟨h', g⟩ := h.frzA
    obtain ⟨q1, q2, q3⟩ := bindES q
    exact tF_bind h' (fun c e H' s => q1 c e H' P.bare (g.trans (.same s))) q2 fun t v H1 et s1 h1 r => (q3 t et) v H1 P.bare (g.trans (.same s1)) r
theorem ss_retN : SV X W (.Return none pos) dRetN := ps_weak ps_retN fun D σ H ⟨G, P, h, q⟩ => q .non H P (.refl H P) (rl_none.mpr rfl)
theorem ss_if {x y : List Stmt} {dc : DT} {dx dy : DS} (hc : TV X W c dc) (hx : SVs X W x dx) (hy : SVs X W y dy) : SV X W (.If c x y pos) (dIf dc dx dy) :=
  ps_weak (ps_if hc hx hy) fun D σ H ⟨G, P, h, q⟩ => by
    unfold dIf at q
    obtain ⟨h', g⟩ := h.frzA
    obtain ⟨q1, q2, q3⟩ := bindTS q
    refine tFT_bind h' (fun c e H' s => q1 c e H' P.bare (g.trans (.same s))) q2 fun k H1 ek s1 _ => ?_
    have q4 := q3 k ek
    cases k with
    | true => exact iteT ⟨G, P, h.same s1, PostS.up q4 (.same s1)⟩
    | false => exact iteF ⟨G, P, h.same s1, PostS.up q4 (.same s1)⟩
theorem ss_drop (he : EV X W e da) (hs : swapsWith e none pos.line X.env = pure false := by rfl) : SV X W (.Expr e pos) (dDrop da) :=
  ps_weak (ps_expr he hs) fun D σ H ⟨G, P, h, q⟩ => by
    unfold dDrop at q
    obtain ⟨h', g⟩ := h.frzA
    obtain ⟨q1, q2, q3⟩ := bindES q
    exact tF_bind h' (fun c e H' s => q1 c e H' P.bare (g.trans (.same s))) q2 fun t v H1 et s1 h1 r => (q3 t et) σ H1 P (.same s1) (h.same s1)

/-! ### name = value -/
mutual
/-- a datum without lists holds no address of a list -/
theorem rl_scal {K : PySem.W.Frag} {H : Hp} {P P' : Pv} (hd : ∀ i a, P'.own i = some a → ∃ vs, H a = some (.lst vs)) (hf : P'.fb = P.fb) : ∀ (t : PyData) (v : V), scalT t = true → Rl K H P t v → Rl K H P' t v
  | .none, v, _, r => rl_none.mpr (rl_none.mp r)
  | .bool b, v, _, r => rl_bool.mpr (rl_bool.mp r)
  | .int i, v, _, r => rl_int.mpr (rl_int.mp r)
  | .str x, v, _, r => rl_str.mpr (rl_str.mp r)
  | .list _, v, h, r => by simp at h
  | .dict _, v, h, r => by simp at h
  | .tuple xs, v, h, r => by
    obtain ⟨a, vs, e, s, rs⟩ := rl_tuple.mp r
    refine rl_tuple.mpr ⟨a, vs, e, ?_, rls_scal hd hf xs vs (by simpa using h) rs⟩
    rcases s with ⟨s, o⟩ | s
    · refine .inl ⟨s, fun i z => ?_, by rw [hf]; exact o.2⟩
      obtain ⟨ws, q⟩ := hd i a z
      rcases s with s | ⟨ob, s⟩
      · rw [q] at s; cases s
      · rw [q] at s; cases s
    · exact .inr s
theorem rls_scal {K : PySem.W.Frag} {H : Hp} {P P' : Pv} (hd : ∀ i a, P'.own i = some a → ∃ vs, H a = some (.lst vs)) (hf : P'.fb = P.fb) : ∀ (ts : List PyData) (vs : List V), scalAll ts = true → Rls K H P ts vs → Rls K H P' ts vs
  | [], vs, _, r => rls_nil.mpr (rls_nil.mp r)
  | t :: ts, vs, h, r => by
    obtain ⟨v, r', e, a, b⟩ := rls_cons.mp r
    simp only [scalAll_cons, Bool.and_eq_true] at h
    exact rls_cons.mpr ⟨v, r', e, rl_scal hd hf t v h.1 a, rls_scal hd hf ts r' h.2 b⟩
end
/-- behind an expression that was read with some own lists handed on: they stay own if the datum holds no list -/
theorem after {K : PySem.W.Frag} {H H1 : Hp} {P P1 : Pv} {σ : L2.St} {G : List Sl} {is : List Nat} {t : PyData} {v : V} (h : Hol K H P σ G) (h1 : Hol K H P1 σ (frz is G)) (g : Go H P H P1) (s : Same H H1) (r : Rl K H1 P1 t v) :
    ∃ P2, Hol K H1 P2 σ (if scalT t then G else frz is G) ∧ Rl K H1 P2 t v ∧ Go H P H1 P2 := by
  cases e : scalT t with
  | true => exact ⟨P, by rw [if_pos rfl]; exact h.same s, rl_scal (fun i a z => (h.same s).dom z) g.2.symm t v e r, .same s⟩
  | false => exact ⟨P1, by rw [if_neg Bool.false_ne_true]; exact h1.same s, r, g.trans (.same s)⟩
theorem ss_set {i : Nat} {x : Str} {is : List Nat} {pos' : Pos} (hN : X.N.Nodup) (hi : X.N[i]? = some x) (hx : Loc X.env.scope x) (he : EV X W e da) (hs : swapsWith e (some (.Name x pos')) pos.line X.env = pure false := by rfl)
    (hf : X.fn x = true ∨ X.env.scope.names.lookup x = some .local := by first | exact .inl rfl | exact .inr rfl | assumption) : SV X W (.Assign [.Name x pos'] e pos) (dSet i is da) :=
  ps_weak (ps_set hN hi hx he hs hf) fun D σ H ⟨G, P, h, q⟩ => by
    unfold dSet at q
    obtain ⟨P1, h1, g⟩ := h.frz is
    obtain ⟨q1, q2, q3⟩ := bindES q
    refine tF_bind h1 (fun c e H' s => q1 c e H' P1 (g.trans (.same s))) q2 fun t v H1 et s1 h2 r => ?_
    obtain ⟨P2, h3, r3, g3⟩ := after h h1 g s1 r
    exact (q3 t et) _ H1 (P2.del i) (g3.trans .del) (h3.setVal i r3)

/-! ### while -/
theorem ss_while {body : List Stmt} {fuel : List Sl → Nat} {dc : DT} {d : DS} (hp : PassesOwn (model X.prog X.w) X.A X.env X.xe) (hc : TV X W c dc) (hb : SVs X W body d) : SV X W (.While c body [] pos) (dWhile fuel dc d) :=
  ps_weak (ps_while hp hc hb) fun D σ H ⟨G, P, h, q⟩ => by
    refine ⟨fun m σ' H' => ∃ G' P', Go H P H' P' ∧ Hol X.K H' P' σ' G' ∧ PostS X.K W H P (whileN dc d m G') D, ⟨fuel G, G, P, .refl H P, h, q⟩, ?_⟩
    rintro m σ' H' ⟨G', P', g', h', q'⟩
    cases m with
    | zero => exact q'.elim
    | succ m =>
      unfold whileN at q'
      obtain ⟨h2, g2⟩ := h'.frzA
      obtain ⟨q1, q2, q3⟩ := bindTS q'
      refine tFT_bind h2 (fun c e H1 s => q1 c e H1 P'.bare (g'.trans (g2.trans (.same s)))) q2 fun k H1 ek s1 _ => ?_
      have q4 := q3 k ek
      cases k with
      | false => exact iteF (q4 σ' H1 P' (g'.trans (.same s1)) (h'.same s1))
      | true =>
        refine iteT ⟨fun σ2 H2 => ∃ m', m' < m + 1 ∧ ∃ G' P', Go H P H2 P' ∧ Hol X.K H2 P' σ2 G' ∧ PostS X.K W H P (whileN dc d m' G') D, fun σ2 H2 z => z, ?_⟩
        refine ⟨G', P', h'.same s1, ?_⟩
        have q5 : PostS X.K W H P ((d G').bind fun o => match o with
          | .nx G' => whileN dc d m G'
          | .ct G' => whileN dc d m G'
          | .bk G' => .ok (.nx G')
          | .rt t => .ok (.rt t)) D := q4
        cases e : d G' with
        | stuck => rw [e] at q5; exact q5.elim
        | exc c => rw [e] at q5; exact PostS.up (r := .exc c) q5 (g'.trans (.same s1))
        | ok o =>
          rw [e, Res.bind_ok] at q5
          cases o with
          | nx G1 => exact fun σ2 H2 P2 g3 h3 => ⟨m, Nat.lt_succ_self m, G1, P2, g'.trans ((Go.same s1).trans g3), h3, q5⟩
          | ct G1 => exact fun σ2 H2 P2 g3 h3 => ⟨m, Nat.lt_succ_self m, G1, P2, g'.trans ((Go.same s1).trans g3), h3, q5⟩
          | bk G1 => exact fun σ2 H2 P2 g3 h3 => q5 σ2 H2 P2 (g'.trans ((Go.same s1).trans g3)) h3
          | rt t => exact fun v H2 P2 g3 h3 => q5 v H2 P2 (g'.trans ((Go.same s1).trans g3)) h3
end

theorem len_c1 {a : DE} : ∀ G ts, dCons a dNil G = .ok ts → ts.length = 1 := fun G ts h => by
  unfold dCons dNil at h
  cases e : a G <;> rw [e] at h <;> first | (cases h; done) | (cases h; rfl)
theorem len_cs {a : DE} {r : DA} {n : Nat} (hr : ∀ G ts, r G = .ok ts → ts.length = n) : ∀ G ts, dCons a r G = .ok ts → ts.length = n + 1 := fun G ts h => by
  unfold dCons at h
  cases e : a G with
  | stuck => rw [e] at h; cases h
  | exc c => rw [e] at h; cases h
  | ok x =>
    rw [e, Res.bind_ok] at h
    cases e2 : r G with
    | stuck => rw [e2] at h; cases h
    | exc c => rw [e2] at h; cases h
    | ok xs => rw [e2] at h; cases h; simp [hr G xs e2]
theorem len_c2 {a b : DE} : ∀ G ts, dCons a (dCons b dNil) G = .ok ts → ts.length = 2 := len_cs len_c1
theorem len_c3 {a b c : DE} : ∀ G ts, dCons a (dCons b (dCons c dNil)) G = .ok ts → ts.length = 3 := len_cs len_c2
theorem len_c4 {a b c d : DE} : ∀ G ts, dCons a (dCons b (dCons c (dCons d dNil))) G = .ok ts → ts.length = 4 := len_cs len_c3
/-! ### what a def promises: its data's function -/
def spX (E : XK) (H : Hp) (c : Str) : Option (Str → Value) → Prop
  | none => False
  | some cl => ∀ dx H', Same H H' → E (cl c) dx H'
def spF (K : PySem.W.Frag) (cl : Option (Str → Value)) (np : Nat) (f : DF) : Sp := fun vs H Q E => vs.length = np ∧ ∃ ts P, Rls K H P ts vs ∧ (∀ i, P.own i = none) ∧ (∀ a, P.fb a → H a ≠ none) ∧
  match f ts with
  | .ok t => ∀ v H', Same H H' → Rl K H' P t v → Q v H'
  | .exc c => spX E H c cl
  | .stuck => False
/-- the wish about exceptions, by the classes' names -/
def EX (cl : Option (Str → Value)) (W : Str → Hp → Prop) : XK := fun v _ H => ∃ c f, cl = some f ∧ v = f c ∧ W c H
/-- a def that is called by its name -/
structure Cal (X : Cx) (W : Str → Hp → Prop) (cl : Option (Str → Value)) (k : Nat) (x : Str) (np : Nat) (f : DF) : Prop where
  ex : ∃ (CX : CXT) (fa : Addr) (fd : FuncData) (ps : List Str), FnOk X.prog X.w X.K X.mg X.base CX k fa fd ps (spF X.K cl np f) ∧ X.mg x = some (.ref fa) ∧ PySem.W.keepIn X.K (.ref fa) = true ∧ Binds X.K fd ps [] ∧ Passes CX X (EX cl W)
  nox : cl = none → ∀ ts c, f ts ≠ .exc c
section
variable {X : Cx} {W : Str → Hp → Prop} {a b c e : Expr} {es : List Expr} {da db : DE} {pos : Pos}
theorem ev_call {cl : Option (Str → Value)} {k np : Nat} {x : Str} {f : DF} {d : DA} {p : Pos} (C : Cal X W cl k x np f) (hr : Room k X.A) (hg : Gl X x) (ha : AV X W (e :: es) d) (hL : ∀ G ts, d G = .ok ts → ts.length = np := by first | exact len_c1 | exact len_c2 | exact len_c3 | exact len_c4) (hdb : (x == ("__debug__" : Str)) = false := by decide)
    (he : starEach (e :: es) X.env = (false, eval e X.env) :: starEach es X.env := by rfl) (hpl : (backTo pos (starEach es X.env)).any (·.1) = false := by rfl) : EV X W (.Call (.Name x p) (e :: es) [] pos) (dCall f d) := by
  obtain ⟨CX, fa, fd, ps, F, hm, hk, hb, hx⟩ := C.ex
  refine pe_weak (pe_call (x := x) (p := p) F hr hg hm hk hb .nil hx ha (hdb := hdb) (he := he) (hpl := hpl)) fun σ H Q ⟨G, P, h, q⟩ => ?_
  unfold dCall at q
  obtain ⟨q1, q2, q3⟩ := bindAE q
  refine tFA_bind h q1 q2 fun ts vs H1 es' s1 h1 rs => ?_
  have q4 := PostE.up (q3 ts es') s1
  have el : (vs ++ []) = vs := List.append_nil vs
  rw [el]
  -- the callee sees all that the caller may not hand on as forbidden
  have gg : Tr H1 P H1 ⟨fun _ => none, fun a => ¬ Off P a⟩ := fun a o e1 o1 => ⟨e1, fun _ z => (by cases z), fun z => z o1⟩
  have back : ∀ H2, Tr H2 ⟨fun _ => none, fun a => ¬ Off P a⟩ H2 P := fun H2 a o e1 o1 => ⟨e1, Classical.byContradiction fun z => o1.2 z⟩
  refine ⟨by rw [← rs.length]; exact hL G ts es', ts, ⟨fun _ => none, fun a => ¬ Off P a⟩, Rls.go gg ts vs rs, fun _ => rfl, fun a z => ?_, ?_⟩
  · intro hn
    exact z (h1.off_new hn)
  · cases e : f ts with
    | ok t => rw [e] at q4; exact fun v H' s r => q4 v H' s (Rl.go (back H') t v r)
    | exc c =>
      rw [e] at q4
      cases ec : cl with
      | none => exact absurd e (C.nox ec ts c)
      | some g => exact fun dx H' s => ⟨c, g, rfl, rfl, q4 H' s⟩
    | stuck => rw [e] at q4; exact q4
end
theorem hol_start {K : PySem.W.Frag} {H : Hp} {P : Pv} {ts : List PyData} {vs : List V} {N : List Str} (r : Rls K H P ts vs) (ho : ∀ i, P.own i = none) (hf : ∀ a, P.fb a → H a ≠ none) :
    Hol K H P (L2.start N vs) (ts.map .val ++ List.replicate (N.length - ts.length) .emp) where
  sl := fun i s e => by
    by_cases hi : i < ts.length
    · rw [List.getElem?_append_left (by simpa using hi), List.getElem?_map] at e
      cases et : ts[i]? with
      | none => rw [et] at e; cases e
      | some t =>
        rw [et] at e
        cases e
        obtain ⟨v, ev, rv⟩ := r.getT et
        refine ⟨v, ?_, rv⟩
        have hl := r.length
        unfold L2.start
        rw [List.getD_eq_getElem?_getD, List.getElem?_append_left (by simp; omega), List.getElem?_map, ev]
        rfl
    · rw [List.getElem?_append_right (by simpa using hi)] at e
      rw [List.getElem?_replicate] at e
      split at e
      · cases e; trivial
      · cases e
  inj := fun i j a h _ => by rw [ho i] at h; cases h
  only := fun i a h => by rw [ho i] at h; cases h
  fbd := hf
  nfb := fun i a h => by rw [ho i] at h; cases h
  len := by
    have hl := r.length
    unfold L2.start
    simp [hl]
/-- THE RULE for a def whose exceptions are none -/
theorem fn_ok {P : Program} {w : World} {K : PySem.W.Frag} {mg : Str → Option Value} {base : Heap} {x qual : Str} {st : Stmt} {f : Addr} {fd : FuncData} {N ps : List Str} {k np : Nat} {d : DS} (F : Fun K x qual st f fd) (S : FnScope N ps (defScope st)) (hnp : ps.length = np)
    (hb : ∀ (cdv : Value) (A : Around) (outer : List Env) (s : Shared) (H : Hp) (E : XK), Room k (A.deeper (envOfC qual (defScope st) s.heap.objs.size f cdv)) →
      SVs (cxOf CX0 P w K mg base N qual (defScope st) f cdv A outer s H E).nox (fun _ _ => False) (defBody st) d) : FnOk P w K mg base CX0 (k + 1) f fd ps (spF K none np (runQ N.length np d)) := by
  refine F.ok S (fun vs H Q E h => by rw [hnp]; exact h.1) fun cdv A outer s H vs Q E hr h => ⟨_, hb cdv A outer s H E hr, ?_⟩
  obtain ⟨hl, ts, P', rs, ho, hf, q⟩ := h
  have hlt : ts.length = np := by rw [rs.length]; exact hl
  refine ⟨_, P', hol_start rs ho hf, ?_⟩
  unfold runQ runF at q
  rw [if_pos hlt] at q
  have en : N.length - np = N.length - ts.length := by rw [hlt]
  rw [en] at q
  have sm : ∀ H' P2, Go H P' H' P2 → Same H H' := fun H' P2 g b o e => (g.1 b o e fun i => by rw [ho i]; exact fun z => by cases z).1
  have bk : ∀ H' P2, Go H P' H' P2 → Tr H' P2 H' P' := fun H' P2 g b o e z => ⟨e, fun i => by rw [ho i]; exact fun z => (by cases z), by rw [← g.2]; exact z.2⟩
  cases e : d (ts.map .val ++ List.replicate (N.length - ts.length) .emp) with
  | stuck => rw [e] at q; exact q.elim
  | exc c => rw [e] at q; exact q.elim
  | ok o =>
    rw [e, Res.bind_ok] at q
    cases o with
    | nx G => exact fun σ' H' P2 g h' => q .non H' (sm H' P2 g) (rl_none.mpr rfl)
    | rt t => exact fun v H' P2 g r => q v H' (sm H' P2 g) (Rl.go (bk H' P2 g) t v r)
    | bk G => exact q.elim
    | ct G => exact q.elim
/-- such a def, called -/
theorem cal_of {X : Cx} {W : Str → Hp → Prop} {k n np : Nat} {x : Str} {fa : Addr} {fd : FuncData} {ps : List Str} {d : DS} (F : FnOk X.prog X.w X.K X.mg X.base CX0 k fa fd ps (spF X.K none np (runQ n np d))) (hm : X.mg x = some (.ref fa)) (hk : PySem.W.keepIn X.K (.ref fa) = true)
    (hb : Binds X.K fd ps []) : Cal X W none k x np (runQ n np d) := ⟨⟨CX0, fa, fd, ps, F, hm, hk, hb, fun _ _ _ _ _ _ _ h => h.elim⟩, fun _ ts c => runQ_nox n np d ts c⟩
end Fx

namespace Fx
open PySem PySem.Spec PyProof.Rows L2
/-- a def that raises nothing, by its name -/
structure Cle (P : Program) (w : World) (K : PySem.W.Frag) (mg : Str → Option Value) (base : Heap) (k : Nat) (x : Str) (np : Nat) (f : DF) : Prop where
  ex : ∃ (fa : Addr) (fd : FuncData) (ps : List Str), FnOk P w K mg base CX0 k fa fd ps (spF K none np f) ∧ mg x = some (.ref fa) ∧ PySem.W.keepIn K (.ref fa) = true ∧ Binds K fd ps []
  nox : ∀ ts c, f ts ≠ .exc c
section
variable {P : Program} {w : World} {K : PySem.W.Frag} {mg : Str → Option Value} {base : Heap}
theorem Cle.cal {X : Cx} {W : Str → Hp → Prop} {k np : Nat} {x : Str} {f : DF} (C : Cle X.prog X.w X.K X.mg X.base k x np f) : Cal X W none k x np f := by
  obtain ⟨fa, fd, ps, F, hm, hk, hb⟩ := C.ex
  exact ⟨⟨CX0, fa, fd, ps, F, hm, hk, hb, fun _ _ _ _ _ _ _ h => h.elim⟩, fun _ => C.nox⟩
theorem Cle.mono {j k np : Nat} {x : Str} {f : DF} (C : Cle P w K mg base j x np f) (h : j ≤ k) : Cle P w K mg base k x np f := by
  obtain ⟨fa, fd, ps, F, r⟩ := C.ex
  exact ⟨⟨fa, fd, ps, F.mono h, r⟩, C.nox⟩
theorem cle_of {x : Str} {st : Stmt} {fa : Addr} {fd : FuncData} {N ps : List Str} {k n np : Nat} {d : DS} (F : Fun K x x st fa fd) (hm : mg x = some (.ref fa)) (b : Binds K fd ps []) (S : FnScope N ps (defScope st)) (hnp : ps.length = np) (hN : N.length = n)
    (hb : ∀ (cdv : Value) (A : Around) (outer : List Env) (s : Shared) (H : Hp) (E : XK), Room k (A.deeper (envOfC x (defScope st) s.heap.objs.size fa cdv)) →
      SVs (cxOf CX0 P w K mg base N x (defScope st) fa cdv A outer s H E).nox (fun _ _ => False) (defBody st) d) : Cle P w K mg base (k + 1) x np (runQ n np d) := by
  subst hN
  exact ⟨⟨fa, fd, ps, fn_ok F S hnp hb, hm, F.kp, b⟩, fun ts c => runQ_nox _ _ _ ts c⟩
/-- the law's own promise, from its data's function -/
theorem law_sp {f : DF} {ns : List Int} (h : f [.list (ns.map .int)] = .ok (.bool true)) {H : Hp} {a : Addr} (hO : Only H) (hS : SqL K H a (ns.map V.int)) : spF K none 1 f [.ref a] H (fun v _ => v = .bl true) (fun _ _ _ => False) := by
  refine ⟨rfl, [.list (ns.map .int)], ⟨fun _ => none, fun _ => False⟩, rls_cons.mpr ⟨.ref a, [], rfl, rl_list.mpr ⟨a, ns.map V.int, rfl, ?_, rls_ints ns⟩, rls_nil.mpr rfl⟩, fun _ => rfl, fun _ z => z.elim, ?_⟩
  · rcases hS with h | h
    · exact .inl ⟨h, fun _ z => (by cases z), fun z => z⟩
    · exact .inr h
  · rw [h]
    exact fun v H' _ r => rl_bool.mp r
end
end Fx

namespace Fx
open PySem PySem.Spec PyProof.Rows L2

/-! ### what a loop walks, as data -/
def Yld (K : PySem.W.Frag) (J : It) (ts : List PyData) (H : Hp) (P : Pv) : Prop := ∀ H' P', Tr H P H' P' → (∀ p, H' p = none → Off P' p) → ∀ i,
  (∀ t, ts[i]? = some t → J.go i H' ∧ ∀ x H'', J.yld i H' x H'' → Same H' H'' ∧ Rl K H'' P' t x) ∧ (ts.length ≤ i → J.stop i H')
def PostI (K : PySem.W.Frag) (W : Str → Hp → Prop) (H : Hp) (P : Pv) (r : Res (List PyData)) (R : It → Hp → Prop) : Prop :=
  match r with
  | .ok ts => ∀ J H', Same H H' → Yld K J ts H' P → R J H'
  | .exc c => ∀ H', Same H H' → W c H'
  | .stuck => False
def tFI (K : PySem.W.Frag) (W : Str → Hp → Prop) (d : DA) : TI := fun σ H R => ∃ G P, Hol K H P σ G ∧ PostI K W H P (d G) R
def IV (X : Cx) (W : Str → Hp → Prop) (tg iter : Expr) (d : DA) : Prop := PI X tg iter (tFI X.K W d)
theorem pi_weak {X : Cx} {tg e : Expr} {t t' : TI} (h : PI X tg e t) (w : ∀ σ H Q, t' σ H Q → t σ H Q) : PI X tg e t' := fun pins s σ H Q I q => h pins s σ H Q I (w σ H Q q)
theorem bindEI {a : Res PyData} {f : PyData → Res (List PyData)} {K : PySem.W.Frag} {W : Str → Hp → Prop} {H : Hp} {P : Pv} {Q : It → Hp → Prop} (q : PostI K W H P (a.bind f) Q) :
    (∀ c, a = .exc c → ∀ H', Same H H' → W c H') ∧ a ≠ .stuck ∧ ∀ t, a = .ok t → PostI K W H P (f t) Q := by
  cases a with
  | ok t => exact ⟨fun c e => (by cases e), (by intro e; cases e), fun t' e => by cases e; exact q⟩
  | exc c => exact ⟨fun c' e => by cases e; exact q, (by intro e; cases e), fun t e => by cases e⟩
  | stuck => exact q.elim
section
variable {X : Cx} {W : Str → Hp → Prop} {tg a b c e : Expr} {da db : DE} {pos : Pos}
/-- a list or a tuple -/
def iSq (K : PySem.W.Frag) (tl : TE) : TI := fun σ H R => tl σ H fun x H1 => (∃ a, x = .ref a ∧ (∃ xs, SqL K H1 a xs) ∧ R (Itl K a) H1) ∨ (∃ a, x = .ref a ∧ (∃ xs, SqT K H1 a xs) ∧ R (Itt K a) H1)
theorem pi_sq {l : Expr} {tl : TE} (hl : PE X l tl) : PI X tg l (iSq X.K tl) := by
  intro pins s σ H R I h
  refine thn (hl pins s σ H _ I h) fun v s1 ⟨x, H1, I1, r1, q1⟩ => ?_
  rcases q1 with ⟨a, e, ⟨xs, hq⟩, q⟩ | ⟨a, e, ⟨xs, hq⟩, q⟩
  · subst e
    cases r1
    obtain ⟨its, rv, p, hz⟩ := I1.list hq
    refine wpAny_pyIter_list p.isList ?_
    refine ⟨s1.heap.objs.size, [s1.heap.objs.size], _, _, H1, rfl, I1.kept (t' := s1.toks) fun b o e => Heap.get?_push_of_some _ e, turn_list a _, ⟨_, Heap.get?_push_size _ rfl, rfl, rfl⟩, fun b hb => ?_, q⟩
    have e : b = s1.heap.objs.size := by simpa using hb
    subst e
    exact I1.fpOk (Nat.le_refl _) (I1.hok.fresh (Nat.le_refl _))
  · subst e
    cases r1
    obtain ⟨its, rv, p, hz⟩ := I1.tuple hq
    refine wpAny_pyIter_tuple (show s1.heap.IsTuple a its.toArray from p) ?_
    refine ⟨s1.heap.objs.size, [s1.heap.objs.size], _, _, H1, rfl, I1.kept (t' := s1.toks) fun b o e => Heap.get?_push_of_some _ e, turn_tuple a _, ⟨_, Heap.get?_push_size _ rfl, rfl, rfl⟩, fun b hb => ?_, q⟩
    have e : b = s1.heap.objs.size := by simpa using hb
    subst e
    exact I1.fpOk (Nat.le_refl _) (I1.hok.fresh (Nat.le_refl _))
theorem yld_list {H : Hp} {P : Pv} {l : Addr} {xs : List PyData} {vs : List V} (s : SL X.K H P l vs) (r : Rls X.K H P xs vs) : Yld X.K (Itl X.K l) xs H P := fun H' P' tr nf i =>
  ⟨fun t e => by
    have r' := Rls.go tr xs vs r
    have s' := (s.go tr).sq
    obtain ⟨v, ev, rv⟩ := r'.getT e
    refine ⟨⟨vs, v, s', ev⟩, fun x H'' y => ?_⟩
    obtain ⟨rfl, y⟩ := y
    have := y vs s'
    rw [ev] at this
    cases this
    exact ⟨Same.refl _, rv⟩, fun hl => ⟨vs, (s.go tr).sq, by rw [← r.length]; exact hl⟩⟩
theorem yld_tuple {H : Hp} {P : Pv} {l : Addr} {xs : List PyData} {vs : List V} (s : ST X.K H P l vs) (r : Rls X.K H P xs vs) : Yld X.K (Itt X.K l) xs H P := fun H' P' tr nf i =>
  ⟨fun t e => by
    have r' := Rls.go tr xs vs r
    have s' := (s.go tr).sq
    obtain ⟨v, ev, rv⟩ := r'.getT e
    refine ⟨⟨vs, v, s', ev⟩, fun x H'' y => ?_⟩
    obtain ⟨rfl, y⟩ := y
    have := y vs s'
    rw [ev] at this
    cases this
    exact ⟨Same.refl _, rv⟩, fun hl => ⟨vs, (s.go tr).sq, by rw [← r.length]; exact hl⟩⟩
theorem iv_seq (ha : EV X W a da) : IV X W tg a (iSeq da) :=
  pi_weak (pi_sq ha) fun σ H R ⟨G, P, h, q⟩ => by
    unfold iSeq at q
    obtain ⟨q1, q2, q3⟩ := bindEI q
    refine tF_bind h q1 q2 fun tx x H1 ex s1 h1 rx => ?_
    have q4 := q3 tx ex
    cases tx <;> try exact q4.elim
    · obtain ⟨l, vs, rfl, sl, rs⟩ := rl_list.mp rx
      exact .inl ⟨l, rfl, ⟨vs, sl.sq⟩, q4 _ H1 s1 (yld_list sl rs)⟩
    · obtain ⟨l, vs, rfl, sl, rs⟩ := rl_tuple.mp rx
      exact .inr ⟨l, rfl, ⟨vs, sl.sq⟩, q4 _ H1 s1 (yld_tuple sl rs)⟩
theorem rngT_get (lo : Int) (n i : Nat) : (rngT lo n)[i]? = if i < n then some (.int (lo + (i : Int))) else none := by
  unfold rngT
  rw [List.getElem?_map]
  by_cases h : i < n
  · rw [if_pos h, List.getElem?_eq_getElem (by simpa using h)]
    simp
  · rw [if_neg h, List.getElem?_eq_none (by simpa using h)]
    rfl
theorem yld_range {H : Hp} {P : Pv} (lo : Int) (n : Nat) : Yld X.K (Itr lo n) (rngT lo n) H P := by
  intro H' P' tr nf i
  refine ⟨fun t e => ?_, fun hl => ?_⟩
  · rw [rngT_get] at e
    split at e
    · rename_i hi
      cases e
      refine ⟨hi, fun x H'' y => ?_⟩
      obtain ⟨rfl, rfl⟩ := y
      exact ⟨Same.refl _, rl_int.mpr rfl⟩
    · cases e
  · have : (rngT lo n).length = n := by simp [rngT]
    rw [this] at hl
    exact hl
theorem iv_range {p : Pos} (hg : Gl X "range") (hm : X.mg "range" = none) (ha : EV X W a da) (hs : starEach [a] X.env = [(false, eval a X.env)] := by rfl) (hs' : starEach [a] X.env = (false, eval a X.env) :: starEach [] X.env := by rfl) : IV X W tg (.Call (.Name "range" p) [a] [] pos) (iRng da) :=
  pi_weak (pi_range1 hg hm (pa_cons ha pa_nil hs') hs) fun σ H R ⟨G, P, h, q⟩ => by
    unfold Fx.iRng at q
    obtain ⟨q1, q2, q3⟩ := bindEI q
    refine tF_bind h q1 q2 fun tx x H1 ex s1 h1 rx => ?_
    have q4 := q3 tx ex
    cases tx <;> try exact q4.elim
    rename_i j
    simp only at q4
    split at q4
    · rename_i hj
      exact ⟨j, by rw [rl_int.mp rx], (rngOk_ok hj).1, (rngOk_ok hj).2, q4 _ H1 s1 (yld_range 0 j.toNat)⟩
    · exact q4.elim
theorem iv_range2 {p : Pos} (hg : Gl X "range") (hm : X.mg "range" = none) (ha : EV X W a da) (hb : EV X W b db) (hs : starEach [a, b] X.env = [(false, eval a X.env), (false, eval b X.env)] := by rfl) (hs2 : starEach [b] X.env = [(false, eval b X.env)] := by rfl)
    (hs3 : starEach [a, b] X.env = (false, eval a X.env) :: starEach [b] X.env := by rfl) (hs4 : starEach [b] X.env = (false, eval b X.env) :: starEach [] X.env := by rfl) : IV X W tg (.Call (.Name "range" p) [a, b] [] pos) (Fx.iRng2 da db) :=
  pi_weak (pi_range2 hg hm (pa_cons ha (pa_cons hb pa_nil hs4) hs3) hs hs2) fun σ H R ⟨G, P, h, q⟩ => by
    unfold Fx.iRng2 at q
    obtain ⟨q1, q2, q3⟩ := bindEI q
    refine tF_bind h q1 q2 fun tx x H1 ex s1 h1 rx => ?_
    obtain ⟨q4, q5, q6⟩ := bindEI (q3 tx ex)
    refine tF_bind h1 (fun c e H' s => q4 c e H' (s1.trans s)) q5 fun ty y H2 ey s2 h2 ry => ?_
    have q7 := q6 ty ey
    cases tx <;> cases ty <;> try exact q7.elim
    rename_i i j
    simp only at q7
    split at q7
    · rename_i hj
      exact ⟨i, j, by rw [rl_int.mp rx, rl_int.mp ry], ⟨(rngOk_ok hj.1).1, (rngOk_ok hj.1).2, (rngOk_ok hj.2).1, (rngOk_ok hj.2).2⟩, q7 _ H2 (s1.trans s2) (yld_range i (j - i).toNat)⟩
    · exact q7.elim

/-! ### targets -/
def GV (X : Cx) (tg : Expr) (st : PyData → List Sl → Res (List Sl)) : Prop :=
  ∃ g, PG X tg g ∧ ∀ (t : PyData) (v : V) (σ : L2.St) (H : Hp) (P : Pv) (G : List Sl) (Q : L2.St → Hp → Prop), Hol X.K H P σ G → Rl X.K H P t v →
    (∃ G', st t G = .ok G' ∧ ∀ σ' P', Go H P H P' → Hol X.K H P' σ' G' → Q σ' H) → g v σ H Q
theorem gv_name {i : Nat} {x : Str} (hN : X.N.Nodup) (hi : X.N[i]? = some x) (hx : Loc X.env.scope x) (hf : X.fn x = true ∨ X.env.scope.names.lookup x = some .local := by first | exact .inl rfl | exact .inr rfl | assumption) : GV X (.Name x pos) (sName i) :=
  ⟨gName i, pg_name hN hi hx hf, fun t v σ H P G Q h r ⟨G', e, q⟩ => by
    cases e
    exact q _ (P.del i) .del (h.setVal i r)⟩
theorem gv_pair {i j : Nat} {x y : Str} {p1 p2 : Pos} {k : Nat} (hc : X.calm = true) (hN : X.N.Nodup) (hi : X.N[i]? = some x) (hx : Loc X.env.scope x) (hj : X.N[j]? = some y) (hy : Loc X.env.scope y)
    (hf : X.fn x = true ∨ X.env.scope.names.lookup x = some .local := by first | exact .inl rfl | exact .inr rfl | assumption) (hf2 : X.fn y = true ∨ X.env.scope.names.lookup y = some .local := by first | exact .inl rfl | exact .inr rfl | assumption)
    (hs : (assignEach [.Name x p1, .Name y p2] X.env).map (·.2) = assign (.Name x p1) X.env :: (assignEach [.Name y p2] X.env).map (·.2) := by rfl)
    (hs2 : (assignEach [.Name y p2] X.env).map (·.2) = assign (.Name y p2) X.env :: (assignEach [] X.env).map (·.2) := by rfl)
    (hn : (assignEach [.Name x p1, .Name y p2] X.env).length = 2 := by rfl) (hst : (assignEach [.Name x p1, .Name y p2] X.env).findIdx? (·.1) = none := by rfl) : GV X (.Tuple [.Name x p1, .Name y p2] k pos) (sTup2 i j) :=
  ⟨_, pg_tup hc (pgs_cons (pg_name hN hi hx hf) (pgs_cons (pg_name hN hj hy hf2) pgs_nil hs2) hs) hn hst, fun t v σ H P G Q h r ⟨G', e, q⟩ => by
    unfold sTup2 at e
    split at e
    · rename_i tx ty G0
      cases e
      obtain ⟨l, vs, rfl, s1, rs⟩ := rl_tuple.mp r
      obtain ⟨v1, r1, rfl, a1, b1⟩ := rls_cons.mp rs
      obtain ⟨v2, r2, rfl, a2, b2⟩ := rls_cons.mp b1
      cases rls_nil.mp b2
      have h1 := h.setVal i a1
      have h2 := h1.setVal j (Rl.go .del ty v2 a2)
      exact ⟨l, [v1, v2], rfl, s1.sq, rfl, v1, [v2], rfl, v2, [], rfl, rfl, q _ _ (Go.del.trans .del) h2⟩
    · cases e⟩

/-! ### for -/
theorem Hol.offn {K : PySem.W.Frag} {H : Hp} {P : Pv} {σ : L2.St} {G : List Sl} (h : Hol K H P σ G) : ∀ p, H p = none → Off P p := fun p e => h.off_new e
theorem ss_for {body : List Stmt} {is : List Nat} {st : PyData → List Sl → Res (List Sl)} {it : DA} {d : DS} {iter : Expr} (hp : PassesOwn (model X.prog X.w) X.A X.env X.xe) (hc : X.calm = true) (hi : IV X W tg iter it) (hg : GV X tg st) (hb : SVs X W body d)
    (hst : ∀ t G c, st t G ≠ .exc c := by first | exact sName_nox | exact sTup2_nox) (hs : ∀ x, foldedSetIterable iter X.env x = pure x := by intro _; rfl) : SV X W (.For tg iter body [] pos) (dFor st is it d) := by
  obtain ⟨g, pg, gp⟩ := hg
  refine ps_weak (ps_for hp hc hi pg hb hs) fun D σ H ⟨G, P, h, q⟩ => ?_
  unfold dFor at q
  obtain ⟨P1, h1, g1⟩ := h.frz is
  obtain ⟨q1, q2, q3⟩ := bindAS q
  refine ⟨frz is G, P1, h1, ?_⟩
  cases e : it (frz is G) with
  | stuck => exact absurd e q2
  | exc c => exact fun H' s => q1 c e H' P1 (g1.trans (.same s))
  | ok ts =>
    intro J H1 s1 y
    have q4 := q3 ts e
    have g2 : Go H P H1 P1 := g1.trans (.same s1)
    refine ⟨fun i m σ' H' => m = ts.length - i ∧ i ≤ ts.length ∧ ∃ G' P', Go H1 P1 H' P' ∧ Hol X.K H' P' σ' G' ∧ PostS X.K W H P (forL st d (ts.drop i) G') D, ⟨ts.length, by simp, Nat.zero_le _, frz is G, P1, .refl _ _, h1.same s1, q4⟩, ?_⟩
    rintro i m σ' H' ⟨rfl, hi, G', P', g', h', q'⟩
    obtain ⟨y1, y2⟩ := y H' P' g'.tr h'.offn i
    by_cases hlt : i < ts.length
    · have et : ts[i]? = some ts[i] := by simp [hlt]
      obtain ⟨go, yl⟩ := y1 _ et
      rw [List.drop_eq_getElem_cons hlt] at q'
      unfold forL at q'
      refine .inr ⟨go, fun σ2 H2 => ∃ G2 P2, Go H1 P1 H2 P2 ∧ Hol X.K H2 P2 σ2 G2 ∧ PostS X.K W H P (forL st d (ts.drop (i + 1)) G2) D, fun σ2 H2 z => ⟨_, by omega, rfl, hlt, z⟩, fun x H2 yy => ?_⟩
      obtain ⟨s2, r2⟩ := yl x H2 yy
      have h2 := h'.same s2
      cases es : st ts[i] G' with
      | stuck => rw [es] at q'; exact q'.elim
      | exc c => exact absurd es (hst _ _ c)
      | ok G1 =>
        rw [es, Res.bind_ok] at q'
        refine gp ts[i] x σ' H2 P' G' _ h2 r2 ⟨G1, es, fun σ3 P3 g3 h3 => ⟨G1, P3, h3, ?_⟩⟩
        have gg : Go H1 P1 H2 P3 := g'.trans ((Go.same s2).trans g3)
        cases ed : d G1 with
        | stuck => rw [ed] at q'; exact q'.elim
        | exc c => rw [ed] at q'; exact PostS.up (r := .exc c) q' (g2.trans gg)
        | ok o =>
          rw [ed, Res.bind_ok] at q'
          cases o with
          | nx G4 => exact fun σ4 H4 P4 g4 h4 => ⟨G4, P4, gg.trans g4, h4, q'⟩
          | ct G4 => exact fun σ4 H4 P4 g4 h4 => ⟨G4, P4, gg.trans g4, h4, q'⟩
          | bk G4 => exact fun σ4 H4 P4 g4 h4 => q' σ4 H4 P4 (g2.trans (gg.trans g4)) h4
          | rt t => exact fun v H4 P4 g4 h4 => q' v H4 P4 (g2.trans (gg.trans g4)) h4
    · have ei : i = ts.length := by omega
      subst ei
      rw [List.drop_length] at q'
      exact .inl ⟨y2 (Nat.le_refl _), q' σ' H' P' (g2.trans g') h'⟩
end
end Fx

namespace Fx
open PySem PySem.Spec PyProof.Rows L2

/-! ### a new list -/
def Pv.fbd (P : Pv) (p : Addr) : Pv := ⟨P.own, fun a => P.fb a ∨ a = p⟩
def PostO (K : PySem.W.Frag) (W : Str → Hp → Prop) (H : Hp) (P : Pv) (r : Res (List PyData)) (Q : VK) : Prop :=
  match r with
  | .ok xs => ∀ p vs H', Same H H' → H p = none → H' p = some (.lst vs) → Rls K H' (P.fbd p) xs vs → Q (.ref p) H'
  | .exc c => ∀ H', Same H H' → W c H'
  | .stuck => False
def tFO (K : PySem.W.Frag) (W : Str → Hp → Prop) (d : DA) : TE := fun σ H Q => ∃ G P, Hol K H P σ G ∧ PostO K W H P (d G) Q
def OV (X : Cx) (W : Str → Hp → Prop) (e : Expr) (d : DA) : Prop := PE X e (tFO X.K W d)
theorem Tr.fbd {H : Hp} {P : Pv} {p : Addr} : Tr H (P.fbd p) H P := fun a o e q => ⟨e, q.1, fun z => q.2 (.inl z)⟩
theorem Tr.tofbd {H : Hp} {P : Pv} {p : Addr} (hp : H p = none) : Tr H P H (P.fbd p) := fun a o e q => ⟨e, q.1, fun z => z.elim q.2 fun z => by rw [z, hp] at e; cases e⟩
theorem rl_new {K : PySem.W.Frag} {H H' : Hp} {P : Pv} {σ : L2.St} {G : List Sl} {p : Addr} {vs : List V} {xs : List PyData} (h : Hol K H P σ G) (s : Same H H') (hp : H p = none) (hl : H' p = some (.lst vs)) (r : Rls K H' (P.fbd p) xs vs) : Rl K H' P (.list xs) (.ref p) :=
  rl_list.mpr ⟨p, vs, rfl, .off hl (h.off_new hp), Rls.go .fbd xs vs r⟩
theorem Hol.own' {K : PySem.W.Frag} {H H' : Hp} {P : Pv} {σ : L2.St} {G : List Sl} {p : Addr} {vs : List V} {xs : List PyData} {i : Nat} (h : Hol K H P σ G) (hi : i < G.length) (s : Same H H') (hp : H p = none) (hl : H' p = some (.lst vs)) (r : Rls K H' (P.fbd p) xs vs) :
    Hol K H' (P.put i p) (σ.set i (some (.ref p))) (G.set i (.own xs)) ∧ Go H P H' (P.put i p) := by
  have g0 : Go H P H' (P.put i p) := (Go.put hp).trans (.same s)
  have gg := g0.tr
  have tt : Tr H' (P.fbd p) H' (P.put i p) := fun a o e q => ⟨e, fun j z => by
    have z' : (if j = i then some p else P.own j) = some a := z
    split at z'
    · cases z'; exact q.2 (Or.inr rfl)
    · exact q.1 j z', fun z => q.2 (Or.inl z)⟩
  have rr : Rls K H' (P.put i p) xs vs := Rls.go tt xs vs r
  refine ⟨⟨fun j s' q => ?_, ?_, ?_, ?_, ?_, ?_⟩, g0⟩
  · by_cases e : j = i
    · subst e
      rw [List.getElem?_set_self hi] at q
      cases q
      exact ⟨p, vs, getD_set_self (by rw [h.len]; exact hi), if_pos rfl, hl, rr⟩
    · rw [List.getElem?_set_ne (Ne.symm e)] at q
      have z := h.sl j s' q
      rw [getD_set_ne e]
      cases s' with
      | emp => trivial
      | val t' => obtain ⟨v', e1, r'⟩ := z; exact ⟨v', e1, Rl.go gg t' v' r'⟩
      | own xs' =>
        obtain ⟨p', vs', e1, e2, e3, r'⟩ := z
        exact ⟨p', vs', e1, (by show (if j = i then some p else P.own j) = _; rw [if_neg e]; exact e2), s _ _ e3, Rls.go gg xs' vs' r'⟩
  · intro a b c h1 h2
    have h1' : (if a = i then some p else P.own a) = some c := h1
    have h2' : (if b = i then some p else P.own b) = some c := h2
    split at h1'
    · split at h2'
      · rename_i z1 z2; rw [z1, z2]
      · cases h1'; obtain ⟨ws, q⟩ := h.dom h2'; rw [hp] at q; cases q
    · split at h2'
      · cases h2'; obtain ⟨ws, q⟩ := h.dom h1'; rw [hp] at q; cases q
      · exact h.inj a b c h1' h2'
  · intro j a z
    have z' : (if j = i then some p else P.own j) = some a := z
    split at z'
    · rename_i e; subst e; exact ⟨xs, List.getElem?_set_self hi⟩
    · rename_i ne
      obtain ⟨xs, q⟩ := h.only j a z'
      exact ⟨xs, by rw [List.getElem?_set_ne (Ne.symm ne)]; exact q⟩
  · intro a z
    cases q : H a with
    | none => exact absurd q (h.fbd a z)
    | some o => rw [s a o q]; simp
  · intro j a z
    have z' : (if j = i then some p else P.own j) = some a := z
    split at z'
    · cases z'; exact h.nofb hp
    · exact h.nfb j a z'
  · rw [List.length_set, List.length_set]; exact h.len

/-! ### the closure of a comprehension -/
def closOf (env : Env) : List (Str × NameKind) → List (Str × Addr) → List (Str × Addr)
  | [], cs => cs
  | (n, k) :: r, cs => closOf env r (if (k == NameKind.free) = true then (n, (env.cells.lookup n).getD 0) :: cs else cs)
theorem clos_loop (env : Env) (f : Str × NameKind → List (Str × Addr) → Sem (ForInStep (List (Str × Addr))))
    (hf : ∀ n k cs, f (n, k) cs = if (k == NameKind.free) = true then (cellOf env n >>= fun a => pure (.yield ((n, a) :: cs))) else pure (.yield cs)) :
    ∀ (names : List (Str × NameKind)) (cs : List (Str × Addr)), (∀ y ∈ names, y.2 = .free → ∃ c, env.cells.lookup y.1 = some c) → (forIn names cs f : Sem (List (Str × Addr))) = pure (closOf env names cs)
  | [], cs, h => rfl
  | (n, k) :: r, cs, h => by
    rw [List.forIn_cons, hf]
    have ih := fun cs => clos_loop env f hf r cs fun y hy => h y (List.mem_cons_of_mem _ hy)
    by_cases hk : (k == NameKind.free) = true
    · obtain ⟨c, e⟩ := h (n, k) List.mem_cons_self (by simpa using hk)
      have e2 : cellOf env n = pure c := by unfold cellOf; rw [e]
      rw [if_pos hk, e2, pure_bind, pure_bind]
      show forIn r _ f = _
      rw [ih]
      have ec : closOf env ((n, k) :: r) cs = closOf env r (if (k == NameKind.free) = true then (n, (env.cells.lookup n).getD 0) :: cs else cs) := rfl
      rw [ec, if_pos hk, e]
      rfl
    · rw [if_neg hk, pure_bind]
      show forIn r _ f = _
      rw [ih]
      have ec : closOf env ((n, k) :: r) cs = closOf env r (if (k == NameKind.free) = true then (n, (env.cells.lookup n).getD 0) :: cs else cs) := rfl
      rw [ec, if_neg hk]
theorem closureFor_eq {scope : Scope} {env : Env} (h : ∀ y ∈ scope.names, y.2 = .free → ∃ c, env.cells.lookup y.1 = some c) : closureFor scope env = pure (closOf env scope.names []) := by
  unfold closureFor
  have := clos_loop env (fun x r => match x with
    | (name, kind) => if (kind == NameKind.free) = true then (cellOf env name >>= fun a => pure (.yield ((name, a) :: r))) else pure (.yield r)) (fun _ _ _ => rfl) scope.names [] h
  simp only [bind_pure]
  exact this
theorem closOf_sub (env : Env) : ∀ (names : List (Str × NameKind)) (cs : List (Str × Addr)), (∀ y ∈ names, y.2 = .free → ∃ c, env.cells.lookup y.1 = some c) → (∀ x c, cs.lookup x = some c → env.cells.lookup x = some c) →
    ∀ x c, (closOf env names cs).lookup x = some c → env.cells.lookup x = some c
  | [], cs, h, hc, x, c, e => hc x c e
  | (n, k) :: r, cs, h, hc, x, c, e => by
    unfold closOf at e
    refine closOf_sub env r _ (fun y hy => h y (List.mem_cons_of_mem _ hy)) (fun y d ey => ?_) x c e
    by_cases hk : (k == NameKind.free) = true
    · rw [if_pos hk] at ey
      obtain ⟨c', e'⟩ := h (n, k) List.mem_cons_self (by simpa using hk)
      rw [List.lookup_cons] at ey
      split at ey
      · rename_i q
        have : y = n := by simpa using q
        subst this
        rw [e'] at ey ⊢
        exact ey
      · exact hc y d ey
    · rw [if_neg hk] at ey
      exact hc y d ey
theorem lookup_some_of {α : Type} {x : Str} {a : α} : ∀ {cs : List (Str × α)}, (x, a) ∈ cs → ∃ b, cs.lookup x = some b
  | (y, b) :: r, h => by
    rw [List.lookup_cons]
    split
    · exact ⟨b, rfl⟩
    · rename_i q
      rcases List.mem_cons.mp h with e | e
      · cases e; simp at q
      · exact lookup_some_of e
theorem closOf_mem (env : Env) : ∀ (names : List (Str × NameKind)) (cs : List (Str × Addr)) (x : Str), ((∃ c, (x, c) ∈ cs) ∨ (x, NameKind.free) ∈ names) → ∃ c, (x, c) ∈ closOf env names cs
  | [], cs, x, h => by
    rcases h with h | h
    · exact h
    · cases h
  | (n, k) :: r, cs, x, h => by
    unfold closOf
    refine closOf_mem env r _ x ?_
    rcases h with ⟨c, h⟩ | h
    · left
      split
      · exact ⟨c, List.mem_cons_of_mem _ h⟩
      · exact ⟨c, h⟩
    · rcases List.mem_cons.mp h with e | e
      · cases e
        left
        exact ⟨_, by rw [if_pos (by rfl)]; exact List.mem_cons_self⟩
      · exact .inr e
theorem mem_of_lookup' {α : Type} {x : Str} {a : α} : ∀ {cs : List (Str × α)}, cs.lookup x = some a → (x, a) ∈ cs
  | (y, b) :: r, h => by
    rw [List.lookup_cons] at h
    split at h
    · rename_i q
      have : x = y := by simpa using q
      cases h; subst this
      exact List.mem_cons_self
    · exact List.mem_cons_of_mem _ (mem_of_lookup' h)
theorem relabel_free {scope : Scope} {env : Env} {x : Str} (hcell : ∀ y ∈ scope.names, y.2 ≠ .cell) : (relabel scope env).names.lookup x = some .cell ∨ (relabel scope env).names.lookup x = some .free → (x, NameKind.free) ∈ scope.names := by
  intro h
  have : ∃ k, (x, k) ∈ (relabel scope env).names ∧ (k = .cell ∨ k = .free) := by
    rcases h with h | h
    · exact ⟨_, mem_of_lookup' h, .inl rfl⟩
    · exact ⟨_, mem_of_lookup' h, .inr rfl⟩
  obtain ⟨k, hm, hk⟩ := this
  unfold relabel at hm
  obtain ⟨⟨n, k0⟩, hm0, e⟩ := List.mem_map.mp hm
  simp only at e
  split at e
  · rename_i q
    cases e
    simp only [Bool.and_eq_true, beq_iff_eq] at q
    rw [q.1.1] at hm0
    exact hm0
  · cases e
    rcases hk with rfl | rfl
    · exact absurd rfl (hcell _ hm0)
    · exact hm0

/-! ### the block of a comprehension -/
/-- its context: the names N, at the state s₀ (the new list laid), the iterator's records ex -/
def cxC (X : Cx) (scope : Scope) (N : List Str) (s₀ : Shared) (H₀ : Hp) (ex : List Addr) (pn : List (Addr × Obj) := []) : Cx :=
  { X with env := compEnvC scope (closOf X.env scope.names []) s₀.heap.objs.size X.env, N := N, s₀ := s₀, H₀ := H₀, outer := X.stack, ex := ex, fn := fun _ => false, pn := pn, xe := fun _ _ => False }
/-- what of the text a comprehension must have: nv names of its own, the others (cap: their slots outside) by cells -/
structure CompOk (X : Cx) (scope : Scope) (N : List Str) (nv : Nat) (cap : List Nat) : Prop where
  cell : ∀ y ∈ scope.names, y.2 ≠ .cell
  kind : scope.kind = .function
  names : ∀ y ∈ scope.names, y.2 = .local → scope.names.lookup y.1 = some .local
  free : ∀ y ∈ scope.names, y.2 = .free → X.env.kindOf y.1 = some .cell ∨ X.env.kindOf y.1 = some .free
  len : N.length = nv + cap.length
  caps : ∀ (i j : Nat) (x : Str), cap[i]? = some j → N[nv + i]? = some x → X.N[j]? = some x ∧ ((relabel scope X.env).names.lookup x = some .cell ∨ (relabel scope X.env).names.lookup x = some .free) ∧ (X.env.kindOf x = some .cell ∨ X.env.kindOf x = some .free)
def sig (nv : Nat) (cap : List Nat) (σ : L2.St) : L2.St := List.replicate nv none ++ cap.map fun j => σ.getD j none

section
variable {X : Cx} {scope : Scope} {N : List Str} {nv : Nat} {cap : List Nat} {pins : List (Addr × Obj)} {σ : L2.St} {H : Hp} {s : Shared} {ex : List Addr}
theorem CompOk.has (C : CompOk X scope N nv cap) (ok : X.Ok) : ∀ y ∈ scope.names, y.2 = .free → ∃ c, X.env.cells.lookup y.1 = some c := fun y hy e => ok.has y.1 (C.free y hy e)
/-- the block begins: its frame's names stand at h', nothing else has changed -/
theorem CompOk.start (C : CompOk X scope N nv cap) (I : Inv X pins σ H s) (hex : ∀ b ∈ ex, FpOk X pins H b ∧ b < s.heap.objs.size) {h' : Heap} {t : Nat} {m : Str → Option Value} (hn : h'.Ns s.heap.objs.size m) (hk : ∀ b o, s.heap.get? b = some o → h'.get? b = some o) :
    Inv (cxC X scope N s H ex) [] (sig nv cap σ) H { s with heap := h', toks := t } := by
  have hh := C.has I.ok
  have sub := closOf_sub X.env scope.names [] hh (fun x c e => by cases e)
  have hL : s.heap.objs.size ≤ (cxC X scope N s H ex).env.locals := Nat.le_refl _
  have stk : ∀ b ∈ frs X.stack, b < s.heap.objs.size := fun b hb => by
    obtain ⟨_, o, ho, _⟩ := I.stack.mem hb
    exact Heap.lt_size ho
  refine ⟨⟨I.ok.mod, C.kind, I.ok.glob, I.ok.blt, hL, fun x y c h1 h2 => I.ok.inj x y c (sub x c h1) (sub y c h2), fun x hx => ?_, fun x c h => ?_, I.ok.hd, I.ok.frames, .inl rfl, fun b hb => ?_, fun b o e => I.bs b o e, ?_, fun b o e hb => ?_, fun b hb => ?_, I.stack, I.stkFree⟩,
    rfl, I.bare, Un.kept hk, ⟨m, hn, fun i x v e1 e2 e3 => ?_⟩, fun x c e => ?_, I.hok.fresh (Nat.le_refl _), fun x c e => I.freeC x c (sub x c e), fun p hp => ?_, I.hok.kept hk, ?_⟩
  · have hx' : (relabel scope X.env).names.lookup x = some .cell ∨ (relabel scope X.env).names.lookup x = some .free := hx
    obtain ⟨c, hc⟩ := closOf_mem X.env scope.names [] x (.inr (relabel_free C.cell hx'))
    exact lookup_some_of hc
  · cases h
  · obtain ⟨f, lt⟩ := hex b hb
    refine ⟨Nat.ne_of_lt lt, fun x c e => f.2.2.2.2.1 x c (sub x c e)⟩
  · exact Nat.le_trans I.ok.bsz I.sz
  · obtain ⟨f, lt⟩ := hex b hb
    rcases f.2.2.2.1 with z | z
    · exact I.ok.noex b o e z
    · exact absurd (Nat.lt_of_lt_of_le (Heap.lt_size e) (Nat.le_trans I.ok.bsz z)) (Nat.lt_irrefl _)
  · obtain ⟨f, lt⟩ := hex b hb
    intro z
    rcases List.mem_cons.mp (I.stkSub b z) with e | e
    · exact f.2.1 e
    · exact f.2.2.1 e
  · -- the names
    have hi : nv ≤ i := by
      rcases Nat.lt_or_ge i nv with z | z
      · unfold sig at e2
        rw [List.getElem?_append_left (by simpa using z), List.getElem?_replicate] at e2
        split at e2 <;> cases e2
      · exact z
    obtain ⟨k, rfl⟩ := Nat.exists_eq_add_of_le hi
    unfold sig at e2
    rw [List.getElem?_append_right (by simp), List.getElem?_map] at e2
    have ek : nv + k - (List.replicate nv (none : Option V)).length = k := by simp
    rw [ek] at e2
    cases ec : cap[k]? with
    | none => rw [ec] at e2; cases e2
    | some j =>
      rw [ec] at e2
      have e2' : σ.getD j none = some v := by simpa using e2
      obtain ⟨c1, c2, c3⟩ := C.caps k j x ec e1
      obtain ⟨m0, _, hl⟩ := I.loc
      have vis : Vis X.env.scope x := c3.elim (fun z => .inr (.inl z)) fun z => .inr (.inr z)
      obtain ⟨u, ru, lk⟩ := hl j x v c1 (getD_some e2') vis
      refine ⟨u, ru, .inr ⟨c2, ?_⟩⟩
      rcases lk with ⟨z, _⟩ | ⟨_, c, ec', o, ho, hd⟩
      · rcases c3 with c3 | c3 <;> (rw [c3] at z; cases z)
      · obtain ⟨c', hc'⟩ := closOf_mem X.env scope.names [] x (.inr (relabel_free C.cell c2))
        obtain ⟨c'', hc''⟩ := lookup_some_of hc'
        have := sub x c'' hc''
        rw [ec'] at this
        cases this
        exact ⟨c, hc'', o, hk c o ho, hd⟩
  · obtain ⟨v, o, ho, hd⟩ := I.cell x c (sub x c e)
    exact ⟨v, o, hk c o ho, hd⟩
  · exact absurd (show p ∈ ([] : List (Addr × Obj)) from hp) (by simp)
  · show (sig nv cap σ).length = N.length
    unfold sig
    rw [C.len]
    simp
/-- the block ends: back outside -/
theorem CompOk.stop {H' : Hp} {s' : Shared} {σ' : L2.St} {pl : List (Addr × Obj)} (I : Inv X pins σ H s) (hex : ∀ b ∈ ex, FpOk X pins H b) (J : Inv (cxC X scope N s H ex) pl σ' H' s') : Inv X pins σ H' s' :=
  I.call' J.os J.base J.hok J.bare fun b hb => by
    obtain ⟨f0, f1, f2, f3, f4, f5⟩ := hex b hb
    exact ⟨f3, f1, f4, f5⟩
/-- the records' pins lie in the context -/
theorem inv_pn {s₀ : Shared} {H₀ : Hp} {E : Value → Shared → Prop} (I : Inv (cxC X scope N s₀ H₀ ex) pins σ H s) : Inv ((cxC X scope N s₀ H₀ ex pins).wish E) [] σ H s :=
  ⟨⟨I.ok.mod, I.ok.kind, I.ok.glob, I.ok.blt, I.ok.above, I.ok.inj, I.ok.has, I.ok.cab, I.ok.hd, I.ok.frames, I.ok.stk, I.ok.exf, I.ok.bs, I.ok.bsz, I.ok.noex, I.ok.exfs, I.ok.funs, I.ok.frf⟩, I.os, I.bare, I.base, I.loc, I.cell, I.free, I.freeC,
    fun p hp => I.pin p (show p ∈ [] ++ pins by simpa using (show p ∈ pins ++ [] from hp)), I.hok, I.len⟩
theorem inv_np {s₀ : Shared} {H₀ : Hp} {pn : List (Addr × Obj)} {E : Value → Shared → Prop} (I : Inv ((cxC X scope N s₀ H₀ ex pn).wish E) pins σ H s) : Inv (cxC X scope N s₀ H₀ ex) (pn ++ pins) σ H s :=
  ⟨⟨I.ok.mod, I.ok.kind, I.ok.glob, I.ok.blt, I.ok.above, I.ok.inj, I.ok.has, I.ok.cab, I.ok.hd, I.ok.frames, I.ok.stk, I.ok.exf, I.ok.bs, I.ok.bsz, I.ok.noex, I.ok.exfs, I.ok.funs, I.ok.frf⟩, I.os, I.bare, I.base, I.loc, I.cell, I.free, I.freeC,
    fun p hp => I.pin p (show p ∈ pn ++ pins from by simpa using (show p ∈ [] ++ (pn ++ pins) from hp)), I.hok, I.len⟩
end
end Fx

namespace Fx
open PySem PySem.Spec PyProof.Rows L2

/-- the loop of a comprehension, any target -/
theorem compLoop_g {prog : Program} {w : World} {A : Around} {R : Result → Shared → Prop} {s : Shared} {elt target iter : Expr} {ifs : List Expr} {scope : Scope} {pos : Pos} {it acc : Value} {env : Env} (I : Nat → Shared → Prop)
    (turn : ∀ n s, I n s → wpAny (model prog w) A (pyNext it) (fun r s₁ => match r with
      | none => R (.ok .next) s₁
      | some v => wpAny (model prog w) A (letOwnedTupleGo target it v) (fun _ s₀ => wpAny (model prog w) A (assign target env v) (fun _ s₂ =>
          wpAny (model prog w) A (forIn ifs true fun c r => if r = true then do let ok ← isTrue c env (eval c env); pure (ForInStep.yield ok) else pure (ForInStep.yield r)) (fun ok s₃ =>
            if ok = true then wpAny (model prog w) A (eval elt env) (fun x s₄ =>
              wpAny (model prog w) A (call (.builtin "list.append") [acc, x]) (fun _ s₅ => ∃ m, m < n ∧ I m s₅) (notedBy (model prog w) A env fun e s' => R (.error e) s') s₄) (notedBy (model prog w) A env fun e s' => R (.error e) s') s₃
            else ∃ m, m < n ∧ I m s₃) (notedBy (model prog w) A env fun e s' => R (.error e) s') s₂) (notedBy (model prog w) A env fun e s' => R (.error e) s') s₀) (notedBy (model prog w) A env fun e s' => R (.error e) s') s₁) (notedBy (model prog w) A env fun e s' => R (.error e) s') s)
    (n : Nat) (h : I n s) :
    codeAny (model prog w) A (.compLoop (.ListComp elt [⟨target, iter, ifs, 0⟩] scope pos) 0 it acc env) R s := by
  refine codeAny_loop rfl I (fun n s hI => ?_) n h
  show wpAny _ A ((compTurn (.ListComp elt [⟨target, iter, ifs, 0⟩] scope pos) 0 it acc env).onRaise (fun x => do noteFrame x env; theTreesLotGoes x)) _ _ s
  refine wpAny_noted ?_
  rw [compTurn_list]
  refine wpAny_bind (wpAny_standAt (wpAny_bind (wpAny_mono (turn n s hI) (fun r s₁ h₁ => ?_) fun _ _ h' => h')))
  cases r with
  | none => exact wpAny_pure h₁
  | some v =>
    refine wpAny_bind (wpAny_mono h₁ (fun _ s₀ h₀ => ?_) fun _ _ h' => h')
    refine wpAny_bind (wpAny_mono h₀ (fun _ s₂ h₂ => wpAny_bind (wpAny_mono h₂ (fun ok s₃ h₃ => ?_) fun _ _ h' => h')) fun _ _ h' => h')
    cases ok with
    | false => exact wpAny_pure ⟨rfl, h₃⟩
    | true =>
      exact wpAny_bind (wpAny_bind (wpAny_mono h₃ (fun x s₄ h₄ => wpAny_bind (wpAny_mono h₄ (fun _ s₅ h₅ => wpAny_pure (wpAny_pure ⟨rfl, h₅⟩)) fun _ _ h' => h')) fun _ _ h' => h'))

/-- the tests of a comprehension -/
def CT (X : Cx) (W : Str → Hp → Prop) (ifs : List Expr) (dc : DT) : Prop := (ifs = [] ∧ dc = tT) ∨ ∃ c, ifs = [c] ∧ TV X W c dc
theorem ct_none {X : Cx} {W : Str → Hp → Prop} : CT X W [] tT := .inl ⟨rfl, rfl⟩
theorem ct_one {X : Cx} {W : Str → Hp → Prop} {c : Expr} {dc : DT} (h : TV X W c dc) : CT X W [c] dc := .inr ⟨c, rfl, h⟩
section
variable {X : Cx} {scope : Scope} {N : List Str} {nv : Nat} {cap : List Nat}
theorem hol_cap {K : PySem.W.Frag} {H H' : Hp} {P P' : Pv} {σ : L2.St} {G : List Sl} (h : Hol K H P σ G) (tr : Tr H P H' P') (ho : ∀ i, P'.own i = none) (hf : ∀ a, P'.fb a → H' a ≠ none) : Hol K H' P' (sig nv cap σ) (List.replicate nv .emp ++ capS cap G) where
  sl := fun i s e => by
    by_cases hi : i < nv
    · rw [List.getElem?_append_left (by simpa using hi), List.getElem?_replicate, if_pos hi] at e
      cases e
      trivial
    · rw [List.getElem?_append_right (by simpa using hi)] at e
      have el : i - (List.replicate nv Sl.emp).length = i - nv := by simp
      rw [el] at e
      unfold capS at e
      rw [List.getElem?_map] at e
      cases ec : cap[i - nv]? with
      | none => rw [ec] at e; cases e
      | some j =>
        rw [ec] at e
        have es : (sig nv cap σ).getD i none = σ.getD j none := by
          unfold sig
          rw [List.getD_eq_getElem?_getD, List.getElem?_append_right (by simpa using hi)]
          have el2 : i - (List.replicate nv (none : Option V)).length = i - nv := by simp
          rw [el2, List.getElem?_map, ec]
          rfl
        rw [es]
        simp only [Option.map_some, Option.some.injEq] at e
        cases eg : G[j]? with
        | none => rw [eg] at e; subst e; trivial
        | some x =>
          rw [eg] at e
          cases x with
          | emp => subst e; trivial
          | own xs => subst e; trivial
          | val t =>
            subst e
            obtain ⟨v, ev, rv⟩ := h.sl j _ eg
            exact ⟨v, ev, Rl.go tr t v rv⟩
  inj := fun i j a z _ => by rw [ho i] at z; cases z
  only := fun i a z => by rw [ho i] at z; cases z
  fbd := hf
  nfb := fun i a z => by rw [ho i] at z; cases z
  len := by simp [sig]
/-- from one turn to the next: the target's names are forgotten -/
theorem hol_forget {K : PySem.W.Frag} {H : Hp} {P : Pv} {σ : L2.St} {G1 : List Sl} {C : List Sl} (hC : ∀ i, i < nv → ∀ s, C[i]? = some s → s = .emp) (hC2 : ∀ (i : Nat) xs, C[i]? ≠ some (.own xs)) (h : Hol K H P σ G1) (hl : G1.length = C.length) (he : ∀ i, nv ≤ i → G1[i]? = C[i]?) :
    Hol K H P.bare σ C := by
  obtain ⟨h', g⟩ := h.frzA
  refine ⟨fun i s e => ?_, fun _ _ _ z => (by cases z), fun _ _ z => (by cases z), h'.fbd, fun _ _ z => (by cases z), by rw [h.len, hl]⟩
  by_cases hi : i < nv
  · rw [hC i hi s e]; trivial
  · have e1 : G1[i]? = some s := by rw [he i (by omega)]; exact e
    cases s with
    | emp => trivial
    | own xs => exact absurd e (hC2 i xs)
    | val t =>
      refine h'.sl i (.val t) ?_
      rw [frzA_get, e1]; rfl
/-- a block's context, with what is wanted of exceptions in it -/
abbrev cxT (xz : Cx → Value → Shared → Prop) (X : Cx) (scope : Scope) (N : List Str) (s₀ : Shared) (H₀ : Hp) (ex : List Addr) (pn : List (Addr × Obj)) : Cx := (cxC X scope N s₀ H₀ ex pn).wish (xz (cxC X scope N s₀ H₀ ex pn))
theorem comp_block {xz : Cx → Value → Shared → Prop} {W : Str → Hp → Prop} {tg elt iter : Expr} {ifs : List Expr} {pos : Pos} {st : PyData → List Sl → Res (List Sl)} {dc : DT} {de : DE} {pins : List (Addr × Obj)} {σ : L2.St} {H2 : Hp} {s3 s4 : Shared} {P : Pv} {G : List Sl} {J : It} {fp : List Addr} {itA D : Addr} {tn : Nat → Heap → Prop} {ts : List PyData} {r : Res (List PyData)} {R : Result → Shared → Prop} {m : Str → Option Value}
    (C : CompOk X scope N nv cap) (hc : X.calm = true) (hk : KeepS nv st)
    (hg : ∀ s₀ H₀ ex pn, GV (cxT xz X scope N s₀ H₀ ex pn) tg st) (ht : ∀ s₀ H₀ ex pn, (∀ b ∈ ex, ∃ o, (b, o) ∈ pn) → CT (cxT xz X scope N s₀ H₀ ex pn) W ifs dc) (he : ∀ s₀ H₀ ex pn, (∀ b ∈ ex, ∃ o, (b, o) ∈ pn) → EV (cxT xz X scope N s₀ H₀ ex pn) W elt de)
    (h2 : Hol X.K H2 P σ G) (hD : H2 D = none) (I3 : Inv X pins σ (upd H2 D (.lst [])) s3) (T : Turn X.prog X.w X.K tg J fp itA tn) (hf : ∀ b ∈ fp, FpOk X pins (upd H2 D (.lst [])) b ∧ b < s3.heap.objs.size) (y : Yld X.K J ts H2 P) (hlen : ts.length ≤ 16777216)
    (hall : compL st dc de (List.replicate nv .emp ++ capS cap G) ts = r) (hr : r ≠ .stuck) (hW : ∀ c, r = .exc c → ∀ H', Same H2 H' → W c H')
    (hn : s4.heap.Ns s3.heap.objs.size m) (hkp : ∀ b o, s3.heap.get? b = some o → s4.heap.get? b = some o) (e4 : ∃ h' t, s4 = { s3 with heap := h', toks := t }) (tn0 : tn 0 s4.heap)
    (fin : ∀ s' H' σ' vs all, r = .ok all → Inv (cxC X scope N s3 (upd H2 D (.lst [])) fp) [] σ' H' s' → H' D = some (.lst vs) → Same H2 H' → Rls X.K H' (P.fbd D) all vs → R (.ok .next) s')
    (finx : ∀ pn e s', (∀ b ∈ fp, ∃ o, (b, o) ∈ pn) → xz (cxC X scope N s3 (upd H2 D (.lst [])) fp pn) e s' → notedBy (model X.prog X.w) X.A (compEnvC scope (closOf X.env scope.names []) s3.heap.objs.size X.env) (fun e s' => R (.error e) s') e s') :
    codeAny (model X.prog X.w) X.A (.compStart (.ListComp elt [⟨tg, iter, ifs, 0⟩] scope pos) 0 (.ref itA) (.ref D) (compEnvC scope (closOf X.env scope.names []) s3.heap.objs.size X.env)) R s4 := by
  obtain ⟨h4, t4, rfl⟩ := e4
  have J4 := C.start (t := t4) I3 hf hn hkp
  -- what no element may hold
  have trc : ∀ H', Same H2 H' → (∃ vs, H' D = some (.lst vs)) → Tr H2 P H' ⟨fun _ => none, fun a => ¬ Off P a ∨ a = D⟩ := fun H' s _ a o e q => ⟨s a o e, fun _ z => (by cases z), fun z => z.elim (fun z => z q) fun z => by rw [z, hD] at e; cases e⟩
  have offc : ∀ H', Same H2 H' → (∃ vs, H' D = some (.lst vs)) → ∀ p, H' p = none → Off ⟨fun _ => none, fun a => ¬ Off P a ∨ a = D⟩ p := fun H' s ⟨vs, hv⟩ p hp => ⟨fun _ z => (by cases z), fun z => z.elim (fun z => z (h2.off_new (s.free hp))) fun z => by rw [z, hv] at hp; cases hp⟩
  have fbc : ∀ H', Same H2 H' → (∃ vs, H' D = some (.lst vs)) → ∀ a, (¬ Off P a ∨ a = D) → H' a ≠ none := fun H' s hv a z hn => (offc H' s hv a hn).2 z
  have hCe : ∀ i, i < nv → ∀ x, (List.replicate nv Sl.emp ++ capS cap G)[i]? = some x → x = .emp := fun i hi x e => by
    rw [List.getElem?_append_left (by simpa using hi), List.getElem?_replicate, if_pos hi] at e
    cases e
    rfl
  have hCo : ∀ (i : Nat) xs, (List.replicate nv Sl.emp ++ capS cap G)[i]? ≠ some (.own xs) := fun i xs e => by
    by_cases hi : i < nv
    · have := hCe i hi _ e; cases this
    · rw [List.getElem?_append_right (by simpa using hi)] at e
      unfold capS at e
      rw [List.getElem?_map] at e
      cases ec : cap[i - (List.replicate nv Sl.emp).length]? with
      | none => rw [ec] at e; cases e
      | some j =>
        rw [ec] at e
        simp only [Option.map_some, Option.some.injEq] at e
        cases eg : G[j]? with
        | none => rw [eg] at e; cases e
        | some x => rw [eg] at e; cases x <;> cases e
  have fpo : ∀ H', (∀ b ∈ fp, H' b = none) → ∀ b ∈ fp, FpOk (cxC X scope N s3 (upd H2 D (.lst [])) fp) [] H' b := fun H' hz b hb => by
    obtain ⟨f, lt⟩ := hf b hb
    refine ⟨hz b hb, Nat.ne_of_lt lt, fun z => ?_, .inl hb, fun x c e => f.2.2.2.2.1 x c (closOf_sub X.env scope.names [] (C.has I3.ok) (fun x c e => by cases e) x c e), fun p hp => absurd (show p ∈ ([] : List (Addr × Obj)) from hp) (by simp)⟩
    rcases List.mem_cons.mp (I3.stkSub b z) with e | e
    · exact f.2.1 e
    · exact f.2.2.1 e
  have up0 : Same H2 (upd H2 D (.lst [])) := same_new hD
  -- the loop
  have loop : ∀ s5 : Shared, s5 = { s3 with heap := h4, toks := t4 } → codeAny (model X.prog X.w) X.A (.compLoop (.ListComp elt [⟨tg, iter, ifs, 0⟩] scope pos) 0 (.ref itA) (.ref D) (compEnvC scope (closOf X.env scope.names []) s3.heap.objs.size X.env)) R s5 := by
    rintro s5 rfl
    refine compLoop_g (fun n s => ∃ i σ' H' vs ys, n = ts.length - i ∧ i ≤ ts.length ∧ Inv (cxC X scope N s3 (upd H2 D (.lst [])) fp) [] σ' H' s ∧ tn i s.heap ∧ (∀ b ∈ fp, H' b = none) ∧ Same H2 H' ∧ H' D = some (.lst vs) ∧
      Rls X.K H' ⟨fun _ => none, fun a => ¬ Off P a ∨ a = D⟩ ys vs ∧ Hol X.K H' ⟨fun _ => none, fun a => ¬ Off P a ∨ a = D⟩ σ' (List.replicate nv .emp ++ capS cap G) ∧ ((compL st dc de (List.replicate nv .emp ++ capS cap G) (ts.drop i)).bind fun zs => .ok (ys ++ zs)) = r ∧ ys.length ≤ i) ?_ ts.length
      ⟨0, _, _, [], [], rfl, Nat.zero_le _, J4, tn0, fun b hb => (hf b hb).1.1, up0, upd_same, rls_nil.mpr rfl, hol_cap h2 (trc _ up0 ⟨_, upd_same⟩) (fun _ => rfl) (fbc _ up0 ⟨_, upd_same⟩), by rw [List.drop_zero, hall]; cases r <;> rfl, Nat.le_refl _⟩
    rintro n s ⟨i, σ', H', vs, ys, rfl, hi, Ji, tni, fpn, sm, hDv, rys, hol, ecl, hyl⟩
    obtain ⟨y1, y2⟩ := y H' ⟨fun _ => none, fun a => ¬ Off P a ∨ a = D⟩ (trc H' sm ⟨vs, hDv⟩) (offc H' sm ⟨vs, hDv⟩) i
    by_cases hlt : i < ts.length
    · have et : ts[i]? = some ts[i] := by simp [hlt]
      obtain ⟨go, yl⟩ := y1 _ et
      rw [List.drop_eq_getElem_cons hlt] at ecl
      unfold compL at ecl
      -- the turn's own data
      obtain ⟨G1, eG⟩ : ∃ G1, st ts[i] (List.replicate nv .emp ++ capS cap G) = .ok G1 := by
        rcases noX_cases (st ts[i] (List.replicate nv .emp ++ capS cap G)) with ⟨G1, h⟩ | h
        · exact ⟨G1, noX_ok h⟩
        · rw [h] at ecl; exact absurd ecl.symm hr
      rw [eG, show noX (Res.ok G1 : Res (List Sl)) = .ok G1 from rfl, Res.bind_ok] at ecl
      obtain ⟨kl, ke⟩ := hk _ _ _ eG
      refine wpAny_mono (T.item (cxC X scope N s3 (upd H2 D (.lst [])) fp) rfl rfl rfl hc i [] s σ' H' (fun _ _ => False) Ji (fpo H' fpn) tni go) (fun r' s1 hr' => ?_) fun _ _ z => z.elim
      obtain ⟨u, rfl, hr'⟩ := hr'
      refine wpAny_mono hr' (fun _ s2 hr2 => ?_) fun _ _ z => z.elim
      obtain ⟨x, H5, J5, r5, y5, tn5, fr5⟩ := hr2
      obtain ⟨sm5, rl5⟩ := yl x H5 y5
      have J5' : Inv (cxT xz X scope N s3 (upd H2 D (.lst [])) fp (pinsAt fp s2.heap)) [] σ' H5 s2 := inv_pn (J5.pinned (fpo H5 fr5) (T.obj _ _ tn5))
      have pnn : ∀ b ∈ fp, ∃ o, (b, o) ∈ pinsAt fp s2.heap := fun b hb => by
        obtain ⟨o, e, _⟩ := T.obj _ _ tn5 b hb
        exact ⟨o, mem_pinsAt hb e⟩
      have finx' := fun e s' => finx (pinsAt fp s2.heap) e s' pnn
      obtain ⟨g, pg, gp⟩ := hg s3 (upd H2 D (.lst [])) fp (pinsAt fp s2.heap)
      have hol5 := hol.same sm5
      refine wpAny_mono (pg _ s2 σ' H5 x u (fun σ6 H6 => H6 = H5 ∧ ∃ P6, Go H5 ⟨fun _ => none, fun a => ¬ Off P a ∨ a = D⟩ H5 P6 ∧ Hol X.K H5 P6 σ6 G1) J5' r5 (gp ts[i] x σ' H5 _ _ _ hol5 rl5 ⟨G1, eG, fun σ6 P6 g6 h6 => ⟨rfl, P6, g6, h6⟩⟩)) (fun _ s6 h6 => ?_) finx'
      obtain ⟨σ6, H6, J6, rfl, P6, g6, hol6⟩ := h6
      -- on to the next turn
      have fr6 : ∀ {H8 : Hp} {s8 : Shared}, Inv (cxT xz X scope N s3 (upd H2 D (.lst [])) fp (pinsAt fp s2.heap)) [] σ6 H8 s8 → ∀ b ∈ fp, H8 b = none := fun {H8 s8} J8 b hb => by
        obtain ⟨o, e⟩ := pnn b hb
        exact (J8.pin (b, o) (List.mem_append_left _ e)).2.1
      have next : ∀ {H8 : Hp} {s8 : Shared} {ys' : List PyData} {vs' : List V}, Inv (cxT xz X scope N s3 (upd H2 D (.lst [])) fp (pinsAt fp s2.heap)) [] σ6 H8 s8 → Same H2 H8 → H8 D = some (.lst vs') → (∀ b, b ≠ D → ∀ o, H6 b = some o → H8 b = some o) →
          Rls X.K H8 ⟨fun _ => none, fun a => ¬ Off P a ∨ a = D⟩ ys' vs' → ((compL st dc de (List.replicate nv .emp ++ capS cap G) (ts.drop (i + 1))).bind fun zs => .ok (ys' ++ zs)) = r → ys'.length ≤ i + 1 →
          ∃ m, m < ts.length - i ∧ ∃ i σ' H' vs ys, m = ts.length - i ∧ i ≤ ts.length ∧ Inv (cxC X scope N s3 (upd H2 D (.lst [])) fp) [] σ' H' s8 ∧ tn i s8.heap ∧ (∀ b ∈ fp, H' b = none) ∧ Same H2 H' ∧ H' D = some (.lst vs) ∧
            Rls X.K H' ⟨fun _ => none, fun a => ¬ Off P a ∨ a = D⟩ ys vs ∧ Hol X.K H' ⟨fun _ => none, fun a => ¬ Off P a ∨ a = D⟩ σ' (List.replicate nv .emp ++ capS cap G) ∧ ((compL st dc de (List.replicate nv .emp ++ capS cap G) (ts.drop i)).bind fun zs => .ok (ys ++ zs)) = r ∧ ys.length ≤ i := by
        intro H8 s8 ys' vs' J8 sm8 hD8 kp8 rys8 ecl8 hyl8
        refine ⟨ts.length - (i + 1), by omega, i + 1, σ6, H8, vs', ys', rfl, hlt, Inv.unpinned (pins := []) (pl := pinsAt fp s2.heap) (by simpa using inv_np J8), ?_, fr6 J8, sm8, hD8, rys8, ?_, ecl8, hyl8⟩
        · exact T.keep _ _ _ tn5 fun b hb o e => (J8.pin (b, o) (List.mem_append_left _ (mem_pinsAt hb e))).1
        · have hF : Hol X.K H6 P6.bare σ6 (List.replicate nv .emp ++ capS cap G) := hol_forget hCe hCo hol6 kl ke
          have ep : P6.bare = ⟨fun _ => none, fun a => ¬ Off P a ∨ a = D⟩ := by
            unfold Pv.bare
            rw [g6.2]
          rw [ep] at hF
          have tr8 : Tr H6 ⟨fun _ => none, fun a => ¬ Off P a ∨ a = D⟩ H8 ⟨fun _ => none, fun a => ¬ Off P a ∨ a = D⟩ := fun a o e q => ⟨kp8 a (fun z => q.2 (Or.inr z)) o e, q⟩
          refine ⟨fun j x e => ?_, fun _ _ _ z => (by cases z), fun _ _ z => (by cases z), fbc H8 sm8 ⟨vs', hD8⟩, fun _ _ z => (by cases z), hF.len⟩
          have z := hF.sl j x e
          cases x with
          | emp => trivial
          | val t => obtain ⟨v, e1, r1⟩ := z; exact ⟨v, e1, Rl.go tr8 t v r1⟩
          | own xs => exact absurd e (hCo j xs)
      have sm6 : Same H2 H6 := sm.trans sm5
      -- behind the test
      have after : ∀ k s7 H7, Inv (cxT xz X scope N s3 (upd H2 D (.lst [])) fp (pinsAt fp s2.heap)) [] σ6 H7 s7 → Same H6 H7 → dc G1 = .ok k → (if k = true then wpAny (model X.prog X.w) X.A (eval elt (compEnvC scope (closOf X.env scope.names []) s3.heap.objs.size X.env)) (fun x s₄ =>
            wpAny (model X.prog X.w) X.A (call (.builtin "list.append") [.ref D, x]) (fun _ s₅ => ∃ m, m < ts.length - i ∧ ∃ i σ' H' vs ys, m = ts.length - i ∧ i ≤ ts.length ∧ Inv (cxC X scope N s3 (upd H2 D (.lst [])) fp) [] σ' H' s₅ ∧ tn i s₅.heap ∧ (∀ b ∈ fp, H' b = none) ∧ Same H2 H' ∧ H' D = some (.lst vs) ∧
            Rls X.K H' ⟨fun _ => none, fun a => ¬ Off P a ∨ a = D⟩ ys vs ∧ Hol X.K H' ⟨fun _ => none, fun a => ¬ Off P a ∨ a = D⟩ σ' (List.replicate nv .emp ++ capS cap G) ∧ ((compL st dc de (List.replicate nv .emp ++ capS cap G) (ts.drop i)).bind fun zs => .ok (ys ++ zs)) = r ∧ ys.length ≤ i) (notedBy (model X.prog X.w) X.A (compEnvC scope (closOf X.env scope.names []) s3.heap.objs.size X.env) fun e s' => R (.error e) s') s₄) (notedBy (model X.prog X.w) X.A (compEnvC scope (closOf X.env scope.names []) s3.heap.objs.size X.env) fun e s' => R (.error e) s') s7
          else ∃ m, m < ts.length - i ∧ ∃ i σ' H' vs ys, m = ts.length - i ∧ i ≤ ts.length ∧ Inv (cxC X scope N s3 (upd H2 D (.lst [])) fp) [] σ' H' s7 ∧ tn i s7.heap ∧ (∀ b ∈ fp, H' b = none) ∧ Same H2 H' ∧ H' D = some (.lst vs) ∧
            Rls X.K H' ⟨fun _ => none, fun a => ¬ Off P a ∨ a = D⟩ ys vs ∧ Hol X.K H' ⟨fun _ => none, fun a => ¬ Off P a ∨ a = D⟩ σ' (List.replicate nv .emp ++ capS cap G) ∧ ((compL st dc de (List.replicate nv .emp ++ capS cap G) (ts.drop i)).bind fun zs => .ok (ys ++ zs)) = r ∧ ys.length ≤ i) := by
        intro k s7 H7 J7 sm7 eK
        rw [eK, Res.bind_ok] at ecl
        have sm27 : Same H2 H7 := sm6.trans sm7
        have hD7 : H7 D = some (.lst vs) := sm7 _ _ (sm5 _ _ hDv)
        have r7 : Rls X.K H7 ⟨fun _ => none, fun a => ¬ Off P a ∨ a = D⟩ ys vs := Rls.go (.same (sm5.trans sm7)) ys vs rys
        cases k with
        | false =>
          rw [if_neg Bool.false_ne_true] at ecl ⊢
          exact next J7 sm27 hD7 (fun b _ o e => sm7 b o e) r7 ecl (by omega)
        | true =>
          rw [if_pos rfl] at ecl ⊢
          cases eY : de G1 with
          | stuck => rw [eY] at ecl; exact absurd ecl.symm hr
          | exc c =>
            rw [eY] at ecl
            refine wpAny_mono (he s3 (upd H2 D (.lst [])) fp (pinsAt fp s2.heap) pnn _ s7 σ6 H7 (fun _ _ => False) J7 ⟨G1, P6, hol6.same sm7, by rw [eY]; exact fun H8 s8 => hW c ecl.symm H8 (sm27.trans s8)⟩) (fun xv s8 h8 => ?_) finx'
            obtain ⟨_, _, _, _, z⟩ := h8
            exact z.elim
          | ok yv =>
            rw [eY, Res.bind_ok] at ecl
            refine wpAny_mono (he s3 (upd H2 D (.lst [])) fp (pinsAt fp s2.heap) pnn _ s7 σ6 H7 (fun v H8 => Same H7 H8 ∧ Rl X.K H8 P6 yv v) J7 ⟨G1, P6, hol6.same sm7, by rw [eY]; exact fun v H8 s r => ⟨s, r⟩⟩) (fun xv s8 h8 => ?_) finx'
            obtain ⟨v8, H8, J8, r8, sm8, rl8⟩ := h8
            have hD8 : H8 D = some (.lst vs) := sm8 _ _ hD7
            have lv := rys.length
            have tr6 : Tr H8 P6 H8 ⟨fun _ => none, fun a => ¬ Off P a ∨ a = D⟩ := fun a o e q => ⟨e, fun _ z => (by cases z), by rw [← g6.2]; exact q.2⟩
            refine wpAny_mono (mt_append (X := cxT xz X scope N s3 (upd H2 D (.lst [])) fp (pinsAt fp s2.heap)) _ s8 σ6 H8 (.ref D) [v8] (.ref D) [xv] (fun w H9 => H9 = upd H8 D (.lst (vs ++ [v8]))) J8 rfl (.cons r8 .nil) ⟨D, vs, v8, rfl, rfl, hD8, by rw [sizeLine_eq]; omega, rfl⟩) (fun _ s9 h9 => ?_) finx'
            obtain ⟨_, H9, J9, _, rfl⟩ := h9
            have trD : Tr H8 ⟨fun _ => none, fun a => ¬ Off P a ∨ a = D⟩ (upd H8 D (.lst (vs ++ [v8]))) ⟨fun _ => none, fun a => ¬ Off P a ∨ a = D⟩ := fun a o e q => ⟨by rw [upd_ne (fun z => q.2 (Or.inr z))]; exact e, q⟩
            have smD : Same H2 (upd H8 D (.lst (vs ++ [v8]))) := fun b o e => by
              rw [upd_ne (ne_of_none e hD)]
              exact sm8 b o (sm27 b o e)
            refine next J9 smD upd_same (fun b hb o e => by rw [upd_ne hb]; exact sm8 b o (sm7 b o e)) (Rls.append (Rls.go trD ys vs (Rls.go (.same sm8) ys vs r7)) (rls_cons.mpr ⟨v8, [], rfl, Rl.go trD yv v8 (Rl.go tr6 yv v8 rl8), rls_nil.mpr rfl⟩)) ?_ (by simp; omega)
            rw [← ecl]
            cases compL st dc de (List.replicate nv .emp ++ capS cap G) (ts.drop (i + 1)) <;> simp
      rcases ht s3 (upd H2 D (.lst [])) fp (pinsAt fp s2.heap) pnn with ⟨rfl, rfl⟩ | ⟨cx, rfl, tvc⟩
      · exact wpAny_tests_nil (after true s6 H6 J6 (Same.refl _) rfl)
      · cases eK : dc G1 with
        | stuck => rw [eK] at ecl; exact absurd ecl.symm hr
        | exc c =>
          rw [eK] at ecl
          refine wpAny_tests_one (wpAny_mono (tvc _ s6 σ6 H6 (fun _ _ => False) J6 ⟨G1, P6, hol6, by rw [eK]; exact fun H7 s => hW c ecl.symm H7 (sm6.trans s)⟩) (fun b s7 h7 => ?_) finx')
          obtain ⟨_, _, z⟩ := h7
          exact z.elim
        | ok k =>
          refine wpAny_tests_one (wpAny_mono (tvc _ s6 σ6 H6 (fun b H7 => b = k ∧ Same H6 H7) J6 ⟨G1, P6, hol6, by rw [eK]; exact fun H7 s => ⟨rfl, s⟩⟩) (fun b s7 h7 => ?_) finx')
          obtain ⟨H7, J7, rfl, sm7⟩ := h7
          exact after b s7 H7 J7 sm7 eK
    · have ei : i = ts.length := by omega
      subst ei
      rw [List.drop_length] at ecl
      have ecl' : r = .ok ys := by rw [← ecl]; simp [compL]
      refine wpAny_mono (T.done (cxC X scope N s3 (upd H2 D (.lst [])) fp) rfl rfl rfl hc _ [] s σ' H' (fun _ _ => False) Ji (fpo H' fpn) tni (y2 (Nat.le_refl _))) (fun r' s1 hr' => ?_) fun _ _ z => z.elim
      obtain ⟨rfl, J1⟩ := hr'
      have trf : Tr H' ⟨fun _ => none, fun a => ¬ Off P a ∨ a = D⟩ H' (P.fbd D) := fun a o e q => by
        have o1 : Off P a := Classical.byContradiction fun z => q.2 (Or.inl z)
        exact ⟨e, o1.1, fun z => z.elim o1.2 fun z => q.2 (Or.inr z)⟩
      exact fin s1 H' σ' vs ys ecl' J1 hDv sm (Rls.go trf ys vs rys)
  exact codeAny_compStart_list (loop _ rfl) (T.self _ 0 _ _ _ tn0 (loop _ rfl))
end
end Fx

namespace Fx
open PySem PySem.Spec PyProof.Rows L2
theorem bindAO {a : Res (List PyData)} {f : List PyData → Res (List PyData)} {K : PySem.W.Frag} {W : Str → Hp → Prop} {H : Hp} {P : Pv} {Q : VK} (q : PostO K W H P (a.bind f) Q) :
    (∀ c, a = .exc c → ∀ H', Same H H' → W c H') ∧ a ≠ .stuck ∧ ∀ t, a = .ok t → PostO K W H P (f t) Q := by
  cases a with
  | ok t => exact ⟨fun c e => (by cases e), (by intro e; cases e), fun t' e => by cases e; exact q⟩
  | exc c => exact ⟨fun c' e => by cases e; exact q, (by intro e; cases e), fun t e => by cases e⟩
  | stuck => exact q.elim
theorem bindEO {a : Res PyData} {f : PyData → Res (List PyData)} {K : PySem.W.Frag} {W : Str → Hp → Prop} {H : Hp} {P : Pv} {Q : VK} (q : PostO K W H P (a.bind f) Q) :
    (∀ c, a = .exc c → ∀ H', Same H H' → W c H') ∧ a ≠ .stuck ∧ ∀ t, a = .ok t → PostO K W H P (f t) Q := by
  cases a with
  | ok t => exact ⟨fun c e => (by cases e), (by intro e; cases e), fun t' e => by cases e; exact q⟩
  | exc c => exact ⟨fun c' e => by cases e; exact q, (by intro e; cases e), fun t e => by cases e⟩
  | stuck => exact q.elim
theorem PostO.up {K : PySem.W.Frag} {W : Str → Hp → Prop} {H H' : Hp} {P : Pv} {r : Res (List PyData)} {Q : VK} (q : PostO K W H P r Q) (s : Same H H') : PostO K W H' P r Q := by
  cases r with
  | ok t => exact fun p vs H2 s2 hp hl r2 => q p vs H2 (s.trans s2) (s.free hp) hl r2
  | exc c => exact fun H2 s2 => q H2 (s.trans s2)
  | stuck => exact q
/-- what becomes of an exception in a comprehension's block -/
def CompX (X : Cx) (scope : Scope) (N : List Str) (xz : Cx → Value → Shared → Prop) : Prop :=
  ∀ (pins : List (Addr × Obj)) (σ : L2.St) (H3 : Hp) (s3 : Shared) (fp : List Addr) (pn : List (Addr × Obj)) (e : Value) (s' : Shared), Inv X pins σ H3 s3 → (∀ b ∈ fp, FpOk X pins H3 b ∧ b < s3.heap.objs.size) → (∀ b ∈ fp, ∃ o, (b, o) ∈ pn) →
    xz (cxC X scope N s3 H3 fp pn) e s' → notedBy (model X.prog X.w) X.A (compEnvC scope (closOf X.env scope.names []) s3.heap.objs.size X.env) (fun x s' => ∃ m, s'.heap.Ns s3.heap.objs.size m ∧ ∀ h', Heap.SameBut s3.heap.objs.size s'.heap h' → ∀ cenv : Env, cenv.locals = s3.heap.objs.size →
      wpAny (model X.prog X.w) X.A (PySem.passOn "comprehension.variables-let-go" x cenv : Sem Value) (fun _ _ => False) X.xe { s' with heap := h' }) e s'
theorem compx_no {X : Cx} {scope : Scope} {N : List Str} : CompX X scope N (fun _ _ _ => False) := fun _ _ _ _ _ _ _ _ _ _ _ h => h.elim
section
variable {X : Cx} {W : Str → Hp → Prop} {scope : Scope} {N : List Str} {nv : Nat} {cap : List Nat} {tg elt iter : Expr} {ifs : List Expr} {pos : Pos} {st : PyData → List Sl → Res (List Sl)} {it : DA} {dc : DT} {de : DE} {xz : Cx → Value → Shared → Prop}
/-- a comprehension, whatever is done with its list -/
theorem comp_any {pins : List (Addr × Obj)} {σ : L2.St} {H : Hp} {s : Shared} {P : Pv} {G : List Sl} {use : Option (Value → Sem Unit)} {Q : Value → Shared → Prop} {pos' : Pos}
    (C : CompOk X scope N nv cap) (hc : X.calm = true) (hk : KeepS nv st) (hi : IV X W tg iter it)
    (hX : CompX X scope N xz) (hg : ∀ s₀ H₀ ex pn, GV (cxT xz X scope N s₀ H₀ ex pn) tg st) (ht : ∀ s₀ H₀ ex pn, (∀ b ∈ ex, ∃ o, (b, o) ∈ pn) → CT (cxT xz X scope N s₀ H₀ ex pn) W ifs dc) (he : ∀ s₀ H₀ ex pn, (∀ b ∈ ex, ∃ o, (b, o) ∈ pn) → EV (cxT xz X scope N s₀ H₀ ex pn) W elt de)
    (I : Inv X pins σ H s) (h : Hol X.K H P σ G)
    (hx : ∀ c, it G = .exc c → ∀ H', Same H H' → W c H') (hs0 : it G ≠ .stuck)
    (fin : ∀ ts, it G = .ok ts → ts.length ≤ 16777216 ∧ compL st dc de (List.replicate nv .emp ++ capS cap G) ts ≠ .stuck ∧ (∀ c, compL st dc de (List.replicate nv .emp ++ capS cap G) ts = .exc c → ∀ H', Same H H' → W c H') ∧ ∀ all, compL st dc de (List.replicate nv .emp ++ capS cap G) ts = .ok all →
      ∀ D vs H' s' c, Inv X pins σ H' s' → FpOk X pins H' c → (∃ m, s'.heap.Ns c m) → (X.env.locals ≠ c ∧ ∀ x a, X.env.cells.lookup x = some a → a ≠ c) → Same H H' → H D = none → H' D = some (.lst vs) → Rls X.K H' (P.fbd D) all vs →
        compPost (model X.prog X.w) X.A X.xe use Q (.ref D) c (.ok .next) s')
    (hs : ∀ x, foldedSetIterable iter X.env x = pure x := by intro _; rfl) :
    wpAny (model X.prog X.w) X.A (comprehension (.ListComp elt [⟨tg, iter, ifs, 0⟩] scope pos) scope X.env pos' (newList []) false (eval iter X.env) use) Q X.xe s := by
  refine wpAny_comprehension_free rfl hs (closureFor_eq (C.has I.ok)) C.kind C.names (wpAny_mono (hi pins s σ H (fun J H' => Same H H' ∧ ∃ ts, it G = .ok ts ∧ Yld X.K J ts H' P) I ⟨G, P, h, ?_⟩) (fun v s1 h1 => wpAny_mono h1 (fun itv s2 h2 => ?_) fun _ _ z => z) fun _ _ z => z)
  · cases e : it G with
    | ok ts => exact fun J H' s y => ⟨s, ts, rfl, y⟩
    | exc c => exact hx c e
    | stuck => exact absurd e hs0
  obtain ⟨itA, fp, tn, J, H2, rfl, I2, T, tn0, f2, sm2, ts, ets, y⟩ := h2
  obtain ⟨hlen, hns, hex, fin⟩ := fin ts ets
  have hD : H2 s2.heap.objs.size = none := I2.hok.fresh (Nat.le_refl _)
  refine wpAny_newObj_type (wpAny_newFunctionEnv C.cell (by intro y hy; simp at hy) (fun h₁ hns₁ hsb₁ => ?_) C.kind)
  have I3 : Inv X pins σ (upd H2 s2.heap.objs.size (.lst [])) { s2 with heap := s2.heap.push { cls := .type "list", dict := none, data := .seq ([] : List Value).toArray } } :=
    I2.laid (t' := s2.toks) (fun b u e => Heap.get?_push_of_some _ e) (Nat.le_refl _) ⟨by show 0 ≤ sizeLine; exact Nat.zero_le _, [], 0, .nil, Heap.get?_push_size _ rfl⟩
  have sz : (s2.heap.push { cls := .type "list", dict := none, data := .seq ([] : List Value).toArray }).objs.size = s2.heap.objs.size + 1 := Heap.size_push _ _
  have hf3 : ∀ b ∈ fp, FpOk X pins (upd H2 s2.heap.objs.size (.lst [])) b ∧ b < (s2.heap.push { cls := .type "list", dict := none, data := .seq ([] : List Value).toArray }).objs.size := fun b hb => by
    obtain ⟨o, ho, _⟩ := T.obj 0 _ tn0 b hb
    have lt := Heap.lt_size ho
    obtain ⟨a1, a2⟩ := f2 b hb
    exact ⟨⟨by rw [upd_ne (Nat.ne_of_lt lt)]; exact a1, a2⟩, by rw [sz]; exact Nat.lt_succ_of_lt lt⟩
  have kp : ∀ b o, (s2.heap.push { cls := .type "list", dict := none, data := .seq ([] : List Value).toArray }).get? b = some o → h₁.get? b = some o := fun b o e =>
    hsb₁.extBut b o (Nat.ne_of_lt (Heap.lt_size e)) (Heap.get?_push_of_some _ e)
  have tn3 : tn 0 h₁ := T.keep 0 _ _ tn0 fun b _ o e => kp b o (Heap.get?_push_of_some _ e)
  refine comp_block (s3 := { s2 with heap := s2.heap.push { cls := .type "list", dict := none, data := .seq ([] : List Value).toArray } }) (D := s2.heap.objs.size) C hc hk hg ht he (h.same sm2) hD I3 T hf3 y hlen rfl hns (fun c ec H' sm => hex c ec H' (sm2.trans sm)) hns₁ kp ⟨h₁, _, rfl⟩ tn3 (fun s' H' σ' vs all hall J' hl sm r => ?_) fun pn e s' pnn hx => hX pins σ _ _ fp pn e s' I3 hf3 pnn hx
  have IX := CompOk.stop I3 (fun b hb => (hf3 b hb).1) J'
  have fo : FpOk X pins H' (s2.heap.push { cls := .type "list", dict := none, data := .seq ([] : List Value).toArray }).objs.size := I3.fpOk (Nat.le_refl _) J'.free
  obtain ⟨m, hm, _⟩ := J'.loc
  exact fin all hall _ vs H' s' _ IX fo ⟨m, hm⟩ ⟨Ne.symm fo.2.1, fun x a e => fo.2.2.2.2.1 x a e⟩ (sm2.trans sm) (sm2.free hD) hl r
theorem atC {pins : List (Addr × Obj)} {σ : L2.St} {H : Hp} {s : Shared} {c : Addr} {h' : Heap} (I : Inv X pins σ H s) (f : FpOk X pins H c) (hs : Heap.SameBut c s.heap h') : Inv X pins σ H { s with heap := h' } :=
  I.turned (t' := s.toks) (fun b o hb e => (hs.2 b hb).trans e) f.1 f.2.1 f.2.2.2.1 f.2.2.2.2.1 f.2.2.2.2.2
theorem ov_comp (C : CompOk X scope N nv cap) (hc : X.calm = true) (hk : KeepS nv st) (hi : IV X W tg iter it)
    (hX : CompX X scope N xz) (hg : ∀ s₀ H₀ ex pn, GV (cxT xz X scope N s₀ H₀ ex pn) tg st) (ht : ∀ s₀ H₀ ex pn, (∀ b ∈ ex, ∃ o, (b, o) ∈ pn) → CT (cxT xz X scope N s₀ H₀ ex pn) W ifs dc) (he : ∀ s₀ H₀ ex pn, (∀ b ∈ ex, ∃ o, (b, o) ∈ pn) → EV (cxT xz X scope N s₀ H₀ ex pn) W elt de)
    (hs : ∀ x, foldedSetIterable iter X.env x = pure x := by intro _; rfl) : OV X W (.ListComp elt [⟨tg, iter, ifs, 0⟩] scope pos) (dComp nv cap st it dc de) := by
  intro pins s σ H Q I ⟨G, P, h, q⟩
  unfold dComp at q
  obtain ⟨q1, q2, q3⟩ := bindAO q
  rw [eval_ListComp]
  refine comp_any (use := none) C hc hk hi hX hg ht he I h q1 q2 (fun ts ets => ?_) hs
  have q4 := q3 ts ets
  split at q4
  · rename_i hl
    cases e : compL st dc de (List.replicate nv .emp ++ capS cap G) ts with
    | stuck => rw [e] at q4; exact q4.elim
    | exc c => rw [e] at q4; exact ⟨hl, fun z => (by cases z), fun c' z => by cases z; exact q4, fun all z => by cases z⟩
    | ok all =>
      rw [e] at q4
      refine ⟨hl, fun z => (by cases z), fun c z => (by cases z), fun all' z D vs H' s' c IX fo hm hne sm hD hl r => ?_⟩
      cases z
      obtain ⟨m, hm⟩ := hm
      exact ⟨m, hm, fun h' hsb => ⟨.ref D, H', atC IX fo hsb, rfl, q4 D vs H' sm hD hl r⟩⟩
  · exact q4.elim
/-- a new list as a datum -/
theorem ev_ofO {e : Expr} {d : DA} (h : OV X W e d) : EV X W e (dL d) :=
  pe_weak h fun σ H Q ⟨G, P, hh, q⟩ => by
    refine ⟨G, P, hh, ?_⟩
    unfold dL at q
    cases e : d G with
    | stuck => rw [e] at q; exact q.elim
    | exc c => rw [e] at q; exact q
    | ok xs => rw [e] at q; exact fun p vs H' s hp hl r => q _ H' s (rl_new hh s hp hl r)
/-- name = a new list, the name's own -/
theorem ss_setO {e : Expr} {d : DA} {i : Nat} {x : Str} {is : List Nat} {pos' : Pos} (hN : X.N.Nodup) (hi : X.N[i]? = some x) (hx : Loc X.env.scope x) (he : OV X W e d) (hs : swapsWith e (some (.Name x pos')) pos.line X.env = pure false := by rfl)
    (hf : X.fn x = true ∨ X.env.scope.names.lookup x = some .local := by first | exact .inl rfl | exact .inr rfl | assumption) : SV X W (.Assign [.Name x pos'] e pos) (dSetO i is d) :=
  ps_weak (ps_set hN hi hx he hs hf) fun D σ H ⟨G, P, h, q⟩ => by
    unfold dSetO at q
    obtain ⟨P1, h1, g⟩ := h.frz is
    obtain ⟨q1, q2, q3⟩ := bindAS q
    refine ⟨frz is G, P1, h1, ?_⟩
    cases e : d (frz is G) with
    | stuck => exact absurd e q2
    | exc c => exact fun H' s => q1 c e H' P1 (g.trans (.same s))
    | ok xs =>
      have q4 := q3 xs e
      intro p vs H' s hp hl r
      split at q4
      · rename_i hlt
        have hlt' : i < (frz is G).length := by rw [← h1.len, h.len]; exact hlt
        obtain ⟨h2, g2⟩ := h1.own' hlt' s hp hl r
        exact q4 _ H' _ (g.trans g2) h2
      · exact q4.elim
/-- name = [comprehension] on one row: the store stands within -/
theorem setC_core {i : Nat} {x : Str} {pos' : Pos} {d : DS} (C : CompOk X scope N nv cap) (hc : X.calm = true) (hk : KeepS nv st) (hi : IV X W tg iter it)
    (hX : CompX X scope N xz) (hg : ∀ s₀ H₀ ex pn, GV (cxT xz X scope N s₀ H₀ ex pn) tg st) (ht : ∀ s₀ H₀ ex pn, (∀ b ∈ ex, ∃ o, (b, o) ∈ pn) → CT (cxT xz X scope N s₀ H₀ ex pn) W ifs dc) (he : ∀ s₀ H₀ ex pn, (∀ b ∈ ex, ∃ o, (b, o) ∈ pn) → EV (cxT xz X scope N s₀ H₀ ex pn) W elt de)
    (hN : X.N.Nodup) (hix : X.N[i]? = some x) (hx : Loc X.env.scope x) {spos : Pos} (hsw : swapsWith (.ListComp elt [⟨tg, iter, ifs, 0⟩] scope pos) (some (.Name x pos')) spos.line X.env = pure true)
    (hs : ∀ x, foldedSetIterable iter X.env x = pure x) (hf : X.fn x = true ∨ X.env.scope.names.lookup x = some .local)
    (hd : ∀ D σ H, tFS X.K W d D σ H → ∃ G P, Hol X.K H P σ G ∧ (∀ c, it G = .exc c → ∀ H', Same H H' → W c H') ∧ it G ≠ .stuck ∧ ∀ ts, it G = .ok ts → ts.length ≤ 16777216 ∧ compL st dc de (List.replicate nv .emp ++ capS cap G) ts ≠ .stuck ∧ (∀ c, compL st dc de (List.replicate nv .emp ++ capS cap G) ts = .exc c → ∀ H', Same H H' → W c H') ∧ ∀ all, compL st dc de (List.replicate nv .emp ++ capS cap G) ts = .ok all →
      ∀ p vs H', Same H H' → H p = none → H' p = some (.lst vs) → Rls X.K H' (P.fbd p) all vs → D.nx (σ.set i (some (.ref p))) H') : SV X W (.Assign [.Name x pos'] (.ListComp elt [⟨tg, iter, ifs, 0⟩] scope pos) spos) d := by
  intro pins s σ H D I hq
  obtain ⟨G, P, h, q1, q2, q3⟩ := hd D σ H hq
  rw [exec_Assign_Name_used _ _ _ _ hsw]
  refine wpAny_bind (wpAny_standAt (wpAny_bind ?_))
  show wpAny _ X.A (do let _ ← comprehension (.ListComp elt [⟨tg, iter, ifs, 0⟩] scope pos) scope X.env _ (newList []) false (eval iter X.env) (some (assign (.Name x pos') X.env))) _ _ s
  refine wpAny_bind (wpAny_mono (comp_any (use := some (assign (.Name x pos') X.env)) (Q := fun _ s' => SP X pins D .next s') C hc hk hi hX hg ht he I h q1 q2 (fun ts ets => ?_) hs) (fun _ s' hq => wpAny_pure (wpAny_pure hq)) fun _ _ e => e)
  obtain ⟨hl, n1, n2, q4⟩ := q3 ts ets
  refine ⟨hl, n1, n2, fun all hall p vs H' s' c IX fo hm hne sm hp hl r => ?_⟩
  obtain ⟨m, hm⟩ := hm
  show wpAny _ X.A (assign (.Name x pos') X.env (.ref p)) _ _ _
  refine wpAny_assign_Name (store_ok2 IX hN hix hx (v := .ref p) rfl (fun s'' I'' ch => ?_) hf)
  obtain ⟨a, hsb, ha⟩ := ch
  have hca : c ≠ a := by
    rcases ha with rfl | ha
    · exact Ne.symm hne.1
    · exact Ne.symm (hne.2 x a ha)
  refine ⟨m, hm.sameBut hsb hca, fun h' hs' => ⟨_, H', atC I'' fo hs', q4 all hall p vs H' sm hp hl r⟩⟩
theorem ss_setC {i : Nat} {x : Str} {is : List Nat} {pos' spos : Pos} (C : CompOk X scope N nv cap) (hc : X.calm = true) (hk : KeepS nv st) (hi : IV X W tg iter it)
    (hX : CompX X scope N xz) (hg : ∀ s₀ H₀ ex pn, GV (cxT xz X scope N s₀ H₀ ex pn) tg st) (ht : ∀ s₀ H₀ ex pn, (∀ b ∈ ex, ∃ o, (b, o) ∈ pn) → CT (cxT xz X scope N s₀ H₀ ex pn) W ifs dc) (he : ∀ s₀ H₀ ex pn, (∀ b ∈ ex, ∃ o, (b, o) ∈ pn) → EV (cxT xz X scope N s₀ H₀ ex pn) W elt de)
    (hN : X.N.Nodup) (hix : X.N[i]? = some x) (hx : Loc X.env.scope x) (hsw : swapsWith (.ListComp elt [⟨tg, iter, ifs, 0⟩] scope pos) (some (.Name x pos')) spos.line X.env = pure true := by rfl)
    (hs : ∀ x, foldedSetIterable iter X.env x = pure x := by intro _; rfl) (hf : X.fn x = true ∨ X.env.scope.names.lookup x = some .local := by first | exact .inl rfl | exact .inr rfl | assumption) :
    SV X W (.Assign [.Name x pos'] (.ListComp elt [⟨tg, iter, ifs, 0⟩] scope pos) spos) (dSet i is (dL (dComp nv cap st it dc de))) :=
  setC_core C hc hk hi hX hg ht he hN hix hx hsw hs hf fun D σ H ⟨G, P, h, q⟩ => by
    unfold dSet dL dComp at q
    obtain ⟨P1, h1, g⟩ := h.frz is
    refine ⟨frz is G, P1, h1, ?_⟩
    cases e : it (frz is G) with
    | stuck => rw [e] at q; exact q.elim
    | exc c => rw [e] at q; exact ⟨fun c' ec H' s => by cases ec; exact q H' P1 (g.trans (.same s)), (by intro z; cases z), fun ts z => by cases z⟩
    | ok ts =>
      refine ⟨fun c' ec => (by cases ec), (by intro z; cases z), fun ts' z => ?_⟩
      cases z
      rw [e, Res.bind_ok] at q
      split at q
      · rename_i hl
        refine ⟨hl, ?_⟩
        cases e2 : compL st dc de (List.replicate nv .emp ++ capS cap (frz is G)) ts with
        | stuck => rw [e2] at q; exact q.elim
        | exc c => rw [e2] at q; exact ⟨fun z => (by cases z), fun c' z H' s => by cases z; exact q H' P1 (g.trans (.same s)), fun all z => by cases z⟩
        | ok all =>
          rw [e2] at q
          refine ⟨fun z => (by cases z), fun c z => (by cases z), fun all' z p vs H' s hp hl r => ?_⟩
          cases z
          have h2 := (h1.same s).setVal i (rl_new h1 s hp hl r)
          exact q _ H' _ (g.trans ((Go.same s).trans .del)) h2
      · exact q.elim
theorem ss_setCO {i : Nat} {x : Str} {is : List Nat} {pos' spos : Pos} (C : CompOk X scope N nv cap) (hc : X.calm = true) (hk : KeepS nv st) (hi : IV X W tg iter it)
    (hX : CompX X scope N xz) (hg : ∀ s₀ H₀ ex pn, GV (cxT xz X scope N s₀ H₀ ex pn) tg st) (ht : ∀ s₀ H₀ ex pn, (∀ b ∈ ex, ∃ o, (b, o) ∈ pn) → CT (cxT xz X scope N s₀ H₀ ex pn) W ifs dc) (he : ∀ s₀ H₀ ex pn, (∀ b ∈ ex, ∃ o, (b, o) ∈ pn) → EV (cxT xz X scope N s₀ H₀ ex pn) W elt de)
    (hN : X.N.Nodup) (hix : X.N[i]? = some x) (hx : Loc X.env.scope x) (hsw : swapsWith (.ListComp elt [⟨tg, iter, ifs, 0⟩] scope pos) (some (.Name x pos')) spos.line X.env = pure true := by rfl)
    (hs : ∀ x, foldedSetIterable iter X.env x = pure x := by intro _; rfl) (hf : X.fn x = true ∨ X.env.scope.names.lookup x = some .local := by first | exact .inl rfl | exact .inr rfl | assumption) :
    SV X W (.Assign [.Name x pos'] (.ListComp elt [⟨tg, iter, ifs, 0⟩] scope pos) spos) (dSetO i is (dComp nv cap st it dc de)) :=
  setC_core C hc hk hi hX hg ht he hN hix hx hsw hs hf fun D σ H ⟨G, P, h, q⟩ => by
    unfold dSetO dComp at q
    obtain ⟨P1, h1, g⟩ := h.frz is
    refine ⟨frz is G, P1, h1, ?_⟩
    cases e : it (frz is G) with
    | stuck => rw [e] at q; exact q.elim
    | exc c => rw [e] at q; exact ⟨fun c' ec H' s => by cases ec; exact q H' P1 (g.trans (.same s)), (by intro z; cases z), fun ts z => by cases z⟩
    | ok ts =>
      refine ⟨fun c' ec => (by cases ec), (by intro z; cases z), fun ts' z => ?_⟩
      cases z
      rw [e, Res.bind_ok] at q
      split at q
      · rename_i hl
        refine ⟨hl, ?_⟩
        cases e2 : compL st dc de (List.replicate nv .emp ++ capS cap (frz is G)) ts with
        | stuck => rw [e2] at q; exact q.elim
        | exc c => rw [e2] at q; exact ⟨fun z => (by cases z), fun c' z H' s => by cases z; exact q H' P1 (g.trans (.same s)), fun all z => by cases z⟩
        | ok all =>
          rw [e2, Res.bind_ok] at q
          refine ⟨fun z => (by cases z), fun c z => (by cases z), fun all' z p vs H' s hp hl r => ?_⟩
          cases z
          split at q
          · rename_i hlt
            have hlt' : i < (frz is G).length := by rw [← h1.len, h.len]; exact hlt
            obtain ⟨h2, g2⟩ := h1.own' hlt' s hp hl r
            exact q _ H' _ (g.trans g2) h2
          · exact q.elim
      · exact q.elim
end
end Fx

namespace Fx
open PySem PySem.Spec PyProof.Rows L2
open AutoSeq1 (wpAny_loadPart')

/-! ### what zip and enumerate draw from: a list (false) or a tuple (true) -/
def SrI (h : Heap) (it l : Addr) (i : Nat) : Bool → Prop
  | true => h.IsTupleIter it l i
  | false => h.IsListIter it l i
def SrS (h : Heap) (l : Addr) (xs : Array Value) : Bool → Prop
  | true => h.IsTuple l xs
  | false => h.IsList l xs
theorem SrI.at {h h' : Heap} {it l : Addr} {i : Nat} {t : Bool} (x : SrI h it l i t) (k : ∀ o, h.get? it = some o → h'.get? it = some o) : SrI h' it l i t := by
  cases t <;> (obtain ⟨o, e, r⟩ := x; exact ⟨o, k o e, r⟩)
theorem SrS.at {h h' : Heap} {l : Addr} {xs : Array Value} {t : Bool} (x : SrS h l xs t) (k : ∀ o, h.get? l = some o → h'.get? l = some o) : SrS h' l xs t := by
  cases t <;> (obtain ⟨o, e, r⟩ := x; exact ⟨o, k o e, r⟩)
theorem SrI.obj {h : Heap} {it l : Addr} {i : Nat} {t : Bool} (x : SrI h it l i t) : ∃ o, h.get? it = some o ∧ ∀ v, o.data ≠ .cell v := by
  cases t <;> (obtain ⟨o, e, c, d⟩ := x; exact ⟨o, e, fun v z => by rw [d] at z; cases z⟩)
theorem SrS.lt {h : Heap} {l : Addr} {xs : Array Value} {t : Bool} (x : SrS h l xs t) : l < h.objs.size := by
  cases t <;> (obtain ⟨o, e, _⟩ := x; exact Heap.lt_size e)
def itObj (l : Addr) (t : Bool) : Obj := { cls := .type (if t then "tuple_iterator" else "list_iterator"), data := .fields #[.ref l, .int 0 0] }
theorem SrI.new {h : Heap} {l : Addr} {t : Bool} : SrI (h.push (itObj l t)) h.objs.size l 0 t := by
  cases t <;> exact ⟨_, Heap.get?_push_size _ rfl, rfl, rfl⟩
section
variable {prog : Program} {w : World} {A : Around} {E : Value → Shared → Prop} {s : Shared}
theorem sr_iter {l : Addr} {xs : Array Value} {t : Bool} {Q : Value → Shared → Prop} (x : SrS s.heap l xs t) (q : Q (.ref s.heap.objs.size) { s with heap := s.heap.push (itObj l t) }) : wpAny (model prog w) A (pyIter (.ref l)) Q E s := by
  cases t
  · exact wpAny_pyIter_list x q
  · exact wpAny_pyIter_tuple x q
theorem sr_item {it l : Addr} {i : Nat} {xs : Array Value} {t : Bool} {x : Value} {Q : Value → Shared → Prop} (hi : SrI s.heap it l i t) (hs : SrS s.heap l xs t) (hx : xs[i]? = some x)
    (hQ : ∀ h', SrI h' it l (i + 1) t → Heap.SameBut it s.heap h' → Q x { s with heap := h' }) : wpAny (model prog w) A (Builtin.SmallTypes.nextOf (.ref it)) Q E s := by
  cases t
  · exact wpAny_nextOf_list_item hi hs hx hQ
  · have ty := Heap.IsTupleIter.typeIs hi
    obtain ⟨o, ho, hc, hd⟩ := hi
    obtain ⟨ol, hol, _, nl, hdl⟩ := hs
    unfold Builtin.SmallTypes.nextOf
    refine wpAny_bind (wpAny_callSpecial?_slot (name := Str.ofString "__next__") ty F.slot_tuple_iterator_next (wpAny_call_entry F.slot_tuple_iterator_next ty F.entry_tuple_iterator_next ?_ (F.args_tuple_iterator_next_1 _)))
    show wpAny _ _ (field (.ref it) 0 >>= _) _ _ s
    refine wpAny_bind (wpAny_field ho hd (x := .ref l) rfl ?_)
    show wpAny _ _ (if (Value.ref l == Value.none) = true then _ else _) _ _ s
    rw [if_neg (show ¬ ((Value.ref l == Value.none) = true) from Bool.false_ne_true)]
    show wpAny _ _ (field (.ref it) 1 >>= _) _ _ s
    refine wpAny_bind (wpAny_field ho hd (x := .int i 0) rfl ?_)
    show wpAny _ _ (seqItems? (.ref l) >>= _) _ _ s
    refine wpAny_bind (wpAny_seqItems hol hdl ?_)
    simp only [Int.toNat_natCast, hx]
    refine wpAny_bind (wpAny_setField ho hd (by simp) (wpAny_pure ⟨x, rfl, wpAny_pure (hQ _ ?_ (Heap.SameBut.update ..))⟩))
    exact ⟨_, Heap.get?_update_self _ ho (Obj.isFreed_of_fields (Obj.data_mapFields hd _)), (Obj.cls_mapFields ..).trans hc, by rw [Obj.data_mapFields hd]; simp [rawInt]⟩
theorem sr_end {it l : Addr} {i : Nat} {xs : Array Value} {t : Bool} {Q : Value → Shared → Prop} (hh : A.handled = none) (hi : SrI s.heap it l i t) (hs : SrS s.heap l xs t) (hx : xs[i]? = none)
    (hE : ∀ h' e, Heap.ExtBut it s.heap h' → (∃ o, h'.get? e = some o ∧ o.cls = .type "StopIteration") → E (.ref e) { s with heap := h' }) : wpAny (model prog w) A (Builtin.SmallTypes.nextOf (.ref it)) Q E s := by
  cases t
  · exact wpAny_nextOf_list_end hh hi hs hx hE
  · have ty := Heap.IsTupleIter.typeIs hi
    obtain ⟨o, ho, hc, hd⟩ := hi
    obtain ⟨ol, hol, _, nl, hdl⟩ := hs
    unfold Builtin.SmallTypes.nextOf
    refine wpAny_bind (wpAny_callSpecial?_slot (name := Str.ofString "__next__") ty F.slot_tuple_iterator_next (wpAny_call_entry F.slot_tuple_iterator_next ty F.entry_tuple_iterator_next ?_ (F.args_tuple_iterator_next_1 _)))
    show wpAny _ _ (field (.ref it) 0 >>= _) _ _ s
    refine wpAny_bind (wpAny_field ho hd (x := .ref l) rfl ?_)
    show wpAny _ _ (if (Value.ref l == Value.none) = true then _ else _) _ _ s
    rw [if_neg (show ¬ ((Value.ref l == Value.none) = true) from Bool.false_ne_true)]
    show wpAny _ _ (field (.ref it) 1 >>= _) _ _ s
    refine wpAny_bind (wpAny_field ho hd (x := .int i 0) rfl ?_)
    show wpAny _ _ (seqItems? (.ref l) >>= _) _ _ s
    refine wpAny_bind (wpAny_seqItems hol hdl ?_)
    simp only [Int.toNat_natCast, hx]
    refine wpAny_bind (wpAny_rule (wpAny_bind (wpAny_setField ho hd (by simp) ?_)))
    show wpAny _ _ (newExc (.type "StopIteration") [] >>= _) _ _ _
    refine wpAny_bind ?_
    simp only [newExc, newTuple]
    refine wpAny_bind (wpAny_newObj_type ?_ (by size_fits))
    refine wpAny_bind (m := firstArgMember _ _) (wpAny_of_eq (a := Value.none) (by first | rfl | (simp only [firstArgMember]; rfl)) ?_)
    refine wpAny_newObj_type ?_ (by size_fits)
    simp only [raiseNew]
    refine wpAny_bind (wpAny_handled ?_)
    first | rw [show A.in1.handled = none from hh] | rw [hh]
    refine wpAny_bind (wpAny_pure (wpAny_throw ?_))
    exact hE _ _ (((Heap.SameBut.update ..).extBut.push _).push _) ⟨_, Heap.get?_push_size _ rfl, rfl⟩
/-! ### enumerate -/
theorem sr_draws (hh : A.handled = none) (it l : Addr) (hne : l ≠ it) (xs : Array Value) (t : Bool) : Draws prog w A it [it, l] xs.size (fun i v => xs[i]? = some v) (fun i h => SrI h it l i t ∧ SrS h l xs t) where
  live := fun _ _ st => let ⟨o, ho, _⟩ := st.1.obj; ⟨o, ho⟩
  frame := fun _ _ _ st hk => ⟨st.1.at fun o e => hk it (by simp) o e, st.2.at fun o e => hk l (by simp) o e⟩
  item := fun i s Q E hi st hQ => sr_item st.1 st.2 (x := xs[i]) (by simp [hi]) fun h' hit hs => hQ _ h' s.toks (by simp [hi]) ⟨hit, st.2.at fun o e => hs.extBut _ _ hne e⟩ hs
  done := fun s Q E st hE => sr_end hh st.1 st.2 (by simp) hE
theorem meets_enum (l : Addr) (xs : Array Value) (t : Bool) :
    Meets (Builtin.«enumerate.__new__» ⟨[.type "enumerate", .ref l], []⟩) (fun _ R s => SrS s.heap l xs t ∧
      R (.ok (.ret (.ref (s.heap.push (itObj l t)).objs.size))) { s with heap := (s.heap.push (itObj l t)).push { cls := .type "enumerate", data := .fields #[.none, .bool false, .ref s.heap.objs.size, rawInt 0, .none, .none] } }) :=
  .of_wp fun prog w A R s h => by
    obtain ⟨hp, g, d, tk, os⟩ := s
    obtain ⟨hl, h⟩ := h
    have hsub := sub_enumerate
    have hL : SrS (Shared.heap ⟨hp, g, d, tk, os⟩) l xs t := hl
    wp_walk using sr_iter hL
    refine wpAny_stack_any fun st => wpAny_pure ?_
    split
    · rename_i c _ _ _ _ _
      cases (c == Value.type "enumerate") <;> (wp_walk using sr_iter hL; exact ⟨_, rfl, h⟩)
    · wp_walk using sr_iter hL
      exact ⟨_, rfl, h⟩
theorem call_enum {l : Addr} {xs : Array Value} {t : Bool} {Q : Value → Shared → Prop} (hL : SrS s.heap l xs t)
    (h : ∀ h', IsEnum h' (s.heap.objs.size + 1) s.heap.objs.size 0 .none → SrI h' s.heap.objs.size l 0 t → (∀ b o, s.heap.get? b = some o → h'.get? b = some o) → Q (.ref (s.heap.objs.size + 1)) { s with heap := h' }) :
    wpAny (model prog w) A (call (.type "enumerate") [.ref l]) Q E s := by
  refine callType_new F.called_enumerate (by decide) (F.typeCall_enumerate_1 _) (F.newCall_enumerate_1 _) (fun obj => F.args_object_init_2 obj _) F.entry_enumerate_new (meets_enum l xs t) ⟨hL, ?_⟩
  have hz : (s.heap.push (itObj l t)).objs.size = s.heap.objs.size + 1 := Heap.size_push ..
  show _ ∧ _
  rw [hz]
  have he : IsEnum ((s.heap.push (itObj l t)).push { cls := .type "enumerate", data := .fields #[.none, .bool false, .ref s.heap.objs.size, rawInt 0, .none, .none] }) (s.heap.objs.size + 1) s.heap.objs.size 0 .none := by
    have z := Heap.get?_push_size (s.heap.push (itObj l t)) (o := { cls := .type "enumerate", data := .fields #[.none, .bool false, .ref s.heap.objs.size, rawInt 0, .none, .none] }) rfl
    rw [hz] at z
    exact z
  exact ⟨⟨_, he, rfl⟩, h _ he (SrI.new.at fun o e => Heap.get?_push_of_some _ e) fun b o x => Heap.get?_push_of_some _ (Heap.get?_push_of_some _ x)⟩
end
end Fx

namespace Fx
open PySem PySem.Spec PyProof.Rows L2
section
variable {X : Cx} {W : Str → Hp → Prop} {pins : List (Addr × Obj)} {σ : L2.St} {H : Hp} {s s' : Shared} {ch : List Addr}
theorem inv_ch (I : Inv X pins σ H s) (hch : ∀ b ∈ ch, FpOk X pins H b) (ho : s'.os = s.os) (hg : s'.gens = s.gens) (k : ∀ b o, b ∉ ch → s.heap.get? b = some o → s'.heap.get? b = some o) : Inv X pins σ H s' := by
  have nch : ∀ b u, H b = some u → b ∉ ch := fun b u e z => by rw [(hch b z).1] at e; cases e
  refine I.call' (ch := ch) ho ⟨fun b o e _ _ hx => k b o hx e, fun b o e _ _ hx => ⟨o.slots, k b o hx e⟩, fun b o e n _ => n, fun b o e hx => ⟨o, k b o hx e⟩, fun _ _ e => e, fun _ _ _ e => e, fun b ps e => ⟨#[], by rw [e]; simp⟩⟩ (fun b u e => ?_) (by rw [hg]; exact I.bare) fun b hb => ?_
  · refine (I.hok b u e).stay (fun c v hc q => k c v ?_ q) (fun _ q => q) fun _ _ q => q
    rcases hc with z | z
    · rw [z]; exact nch b u e
    · exact nch c _ z
  · obtain ⟨f0, f1, f2, f3, f4, f5⟩ := hch b hb
    exact ⟨f3, f1, f4, f5⟩
/-- records of ours have turned and a tuple is new -/
theorem inv_rec {xs : List V} {its : List Value} (I : Inv X pins σ H s) (hch : ∀ b ∈ ch, FpOk X pins H b) (ho : s'.os = s.os) (hg : s'.gens = s.gens) (k : ∀ b o, b ∉ ch → s.heap.get? b = some o → s'.heap.get? b = some o)
    (ht : s'.heap.get? s.heap.objs.size = some { cls := .type "tuple", data := .seq its.toArray }) (rv : Vals xs its) (hz : xs.length ≤ sizeLine) : Inv X pins σ (upd H s.heap.objs.size (.tup xs)) s' := by
  have hp : H s.heap.objs.size = none := I.hok.fresh (Nat.le_refl _)
  have nch : ∀ b u, H b = some u → b ∉ ch := fun b u e z => by rw [(hch b z).1] at e; cases e
  have ne : ∀ b o, s.heap.get? b = some o → b ≠ s.heap.objs.size := fun b o e => Nat.ne_of_lt (Heap.lt_size e)
  refine I.call' (ch := ch) ho ⟨fun b o e _ _ hx => k b o hx e, fun b o e _ _ hx => ⟨o.slots, k b o hx e⟩, fun b o e n _ => by rw [upd_ne (ne b o e)]; exact n, fun b o e hx => ⟨o, k b o hx e⟩, fun b ys e => by rw [upd_ne (ne_of_none e hp)]; exact e,
    fun b o u e => by rw [upd_ne (ne_of_none e hp)]; exact e, fun b ps e => ⟨#[], by rw [upd_ne (ne_of_none e hp), e]; simp⟩⟩ (fun b u e => ?_) (by rw [hg]; exact I.bare) fun b hb => ?_
  · by_cases hb : b = s.heap.objs.size
    · subst hb
      rw [upd_same] at e
      cases e
      exact ⟨hz, its, rv, ⟨_, ht, rfl, _, rfl⟩⟩
    · rw [upd_ne hb] at e
      refine (I.hok b u e).stay (fun c v hc q => k c v ?_ q) (fun c q => by rw [upd_ne (ne_of_none q hp)]; exact q) fun c ys q => by rw [upd_ne (ne_of_none q hp)]; exact q
      rcases hc with z | z
      · rw [z]; exact nch b u e
      · exact nch c _ z
  · obtain ⟨f0, f1, f2, f3, f4, f5⟩ := hch b hb
    exact ⟨f3, f1, f4, f5⟩
end
def Sq (K : PySem.W.Frag) (H : Hp) (a : Addr) (xs : List V) : Bool → Prop
  | true => SqT K H a xs
  | false => SqL K H a xs
theorem sq_srs {X : Cx} {pins : List (Addr × Obj)} {σ : L2.St} {H : Hp} {s : Shared} {a : Addr} {xs : List V} {t : Bool} (I : Inv X pins σ H s) (h : Sq X.K H a xs t) : ∃ its : List Value, Vals xs its ∧ SrS s.heap a its.toArray t ∧ xs.length ≤ sizeLine := by
  cases t
  · obtain ⟨its, r, p, z⟩ := I.list h; exact ⟨its, r, p.isList, z⟩
  · obtain ⟨its, r, p, z⟩ := I.tuple h; exact ⟨its, r, p, z⟩
theorem sq_inj {X : Cx} {pins : List (Addr × Obj)} {σ : L2.St} {H : Hp} {s : Shared} {a : Addr} {xs ys : List V} {t : Bool} (I : Inv X pins σ H s) (h : Sq X.K H a xs t) (h' : Sq X.K H a ys t) : xs = ys := by
  cases t
  · exact I.list_inj h h'
  · exact I.tuple_inj h h'
/-- (i, x) of the items at l -/
def Ite (K : PySem.W.Frag) (l : Addr) (t : Bool) : It :=
  ⟨fun i H => ∃ xs x, Sq K H l xs t ∧ xs[i]? = some x, fun i H x H' => ∃ p v, x = .ref p ∧ H p = none ∧ H' = upd H p (.tup [.int i, v]) ∧ ∀ xs, Sq K H l xs t → xs[i]? = some v, fun i H => ∃ xs, Sq K H l xs t ∧ xs.length ≤ i⟩
theorem turn_enum {P : Program} {w : World} {K : PySem.W.Frag} {elts : List Expr} {k : Nat} {pos : Pos} (l e it : Addr) (t : Bool) (hne : e ≠ it) (hle : l ≠ e) (hli : l ≠ it) :
    Turn P w K (.Tuple elts k pos) (Ite K l t) [e, it] e (fun i h => ∃ old, IsEnum h e it i old ∧ SrI h it l i t) where
  mem := by simp
  obj := fun i h st b hb => by
    obtain ⟨old, he, hi⟩ := st
    rcases List.mem_cons.mp hb with z | z
    · subst z; exact ⟨_, he, fun v z => by cases z⟩
    · have : b = it := by simpa using z
      subst this; exact hi.obj
  keep := fun i h h' st kk => by
    obtain ⟨old, he, hi⟩ := st
    exact ⟨old, kk e (by simp) _ he, hi.at fun o q => kk it (by simp) o q⟩
  item := by
    intro X hP hw hK hc i pins s σ H E I hf st hg
    subst hP hw hK
    obtain ⟨xs, x, hq, hx⟩ := hg
    obtain ⟨its, rv, hs, hz⟩ := sq_srs I hq
    obtain ⟨u, hu, ru⟩ := rv.get hx
    obtain ⟨old, he, hi⟩ := st
    have hil : i < its.toArray.size := by
      have := (List.getElem?_eq_some_iff.mp hu).1
      simpa using this
    refine wpAny_pyNext_enum_itemD (sr_draws (A := X.A.in1) (I.ok.hd hc) it l hli its.toArray t) he ⟨hi, hs⟩ hil hne (by simp [hne, Ne.symm hle]) fun y h' tk hy heo hst ht hsz kk => ?_
    have ey : y = u := by
      have : its.toArray[i]? = some u := by simpa using hu
      rw [this] at hy; cases hy; rfl
    subst ey
    refine ⟨_, rfl, wpAny_letOwnedTupleGo_enum heo fun h'' he'' hsb => ?_⟩
    have nel : e < s.heap.objs.size := Heap.lt_size he
    have ke : ∀ b o, b ∉ [e, it] → s.heap.get? b = some o → h''.get? b = some o := fun b o hb q => by
      simp only [List.mem_cons, List.not_mem_nil, or_false, not_or] at hb
      exact hsb.extBut b o hb.1 (kk b o hb.1 hb.2 q)
    refine ⟨.ref s.heap.objs.size, upd H s.heap.objs.size (.tup [.int i, x]), inv_rec (s' := { s with heap := h'', toks := tk + 1 }) (its := [.int i tk, y]) I hf rfl rfl ke (hsb.extBut _ _ (Nat.ne_of_gt nel) ht) (.cons ⟨tk, rfl⟩ (.cons ru .nil)) (by show 2 ≤ sizeLine; decide), rfl, ?_, ?_, fun b hb => ?_⟩
    · exact ⟨_, x, rfl, I.hok.fresh (Nat.le_refl _), rfl, fun ys hy => by rw [sq_inj I hy hq]; exact hx⟩
    · exact ⟨y, he'', hst.1.at fun o q => hsb.extBut _ _ (Ne.symm hne) q⟩
    · have z := (hf b hb).1
      obtain ⟨o, ho⟩ : ∃ o, s.heap.get? b = some o := by
        rcases List.mem_cons.mp hb with q | q
        · subst q; exact ⟨_, he⟩
        · have : b = it := by simpa using q
          subst this; obtain ⟨o, ho, _⟩ := hi.obj; exact ⟨o, ho⟩
      rw [upd_ne (Nat.ne_of_lt (Heap.lt_size ho))]; exact z
  done := by
    intro X hP hw hK hc i pins s σ H E I hf st hg
    subst hP hw hK
    obtain ⟨xs, hq, hx⟩ := hg
    obtain ⟨its, rv, hs, hz⟩ := sq_srs I hq
    obtain ⟨old, he, hi⟩ := st
    have hl := rv.length
    have D := sr_draws (prog := X.prog) (w := X.w) (A := X.A.in1) (I.ok.hd hc) it l hli its.toArray t
    -- the draws beyond the end: at the place i
    have D' : Draws X.prog X.w X.A.in1 it [it, l] i (fun j v => j < i ∧ its.toArray[j]? = some v ∨ True) (fun j h => SrI h it l j t ∧ SrS h l its.toArray t ∧ i ≤ j) := ⟨fun _ _ st => let ⟨o, ho, _⟩ := st.1.obj; ⟨o, ho⟩,
      fun _ _ _ st hk => ⟨st.1.at fun o e => hk it (by simp) o e, st.2.1.at fun o e => hk l (by simp) o e, st.2.2⟩,
      fun j s Q E hj st hQ => absurd st.2.2 (by omega), fun s Q E st hE => sr_end (I.ok.hd hc) st.1 st.2.1 (by simp; omega) hE⟩
    exact wpAny_pyNext_enum_endD D' he ⟨hi, hs, Nat.le_refl _⟩ fun h' eb => ⟨rfl, inv_ch (ch := [e, it]) (s' := { s with heap := h' }) I hf rfl rfl fun b o hb q => eb b o (fun z => hb (by simp [z])) q⟩
  self := fun _ _ _ _ _ st h => by
    obtain ⟨old, he, hi⟩ := st
    exact wpAny_pyIter_enum he h
section
variable {X : Cx} {W : Str → Hp → Prop} {tg a b c e : Expr} {es elts : List Expr} {da db : DE} {pos : Pos}
def iEn (K : PySem.W.Frag) (ta : TA) : TI := fun σ H R => ta σ H fun vs H1 => ∃ a t, vs = [.ref a] ∧ (∃ xs, Sq K H1 a xs t) ∧ R (Ite K a t) H1
theorem pi_enum {l : Expr} {ta : TA} {p tp : Pos} {k : Nat} (hg : Gl X "enumerate") (hm : X.mg "enumerate" = none) (hl : PA X [l] ta) (hs : starEach [l] X.env = (false, eval l X.env) :: starEach [] X.env := by rfl) : PI X (.Tuple elts k tp) (.Call (.Name "enumerate" p) [l] [] pos) (iEn X.K ta) := by
  intro pins s σ H R I h
  refine Call_ (ld_blt I hg hm (show bootBuiltins "enumerate" = some (.type "enumerate") by decide +kernel) (PyProof.Rows.callWith_type1 (thn (hl pos pins s σ H _ I h) fun us s1 ⟨vs, H1, I1, r1, q1⟩ => ?_) hs rfl))
  obtain ⟨l, t, rfl, ⟨xs, hq⟩, q⟩ := q1
  obtain ⟨u, rfl, ru⟩ := vals1 r1
  cases ru
  obtain ⟨its, rv, hsr, hz⟩ := sq_srs I1 hq
  have lt := hsr.lt
  refine call_enum hsr fun h' he hi kk => wpAny_pyIter_enum he ?_
  have I2 : Inv X pins σ H1 { s1 with heap := h' } := I1.kept (t' := s1.toks) kk
  refine ⟨_, [s1.heap.objs.size + 1, s1.heap.objs.size], _, Ite X.K l t, H1, rfl, I2, turn_enum l _ _ t (Nat.succ_ne_self _) (Nat.ne_of_lt (Nat.lt_succ_of_lt lt)) (Nat.ne_of_lt lt), ⟨_, he, hi⟩, fun b hb => ?_, q⟩
  have hb' : s1.heap.objs.size ≤ b := by
    rcases List.mem_cons.mp hb with z | z
    · rw [z]; exact Nat.le_succ _
    · have : b = s1.heap.objs.size := by simpa using z
      rw [this]; exact Nat.le_refl _
  exact I1.fpOk hb' (I1.hok.fresh hb')
theorem enumT_get : ∀ (xs : List PyData) (n i : Nat), (enumT n xs)[i]? = (xs[i]?).map fun x => .tuple [.int ((n + i : Nat) : Int), x]
  | [], n, i => by simp [enumT]
  | x :: r, n, 0 => by simp [enumT]
  | x :: r, n, i + 1 => by
    simp only [enumT, List.getElem?_cons_succ, enumT_get r (n + 1) i]
    have : n + 1 + i = n + (i + 1) := by omega
    rw [this]
theorem enumT_len : ∀ (xs : List PyData) (n : Nat), (enumT n xs).length = xs.length
  | [], n => rfl
  | x :: r, n => by simp [enumT, enumT_len r (n + 1)]
theorem yld_enum {H : Hp} {P : Pv} {l : Addr} {t : Bool} {xs : List PyData} {vs : List V} (sq : ∀ H' P', Tr H P H' P' → Sq X.K H' l vs t) (r : Rls X.K H P xs vs) : Yld X.K (Ite X.K l t) (enumT 0 xs) H P := by
  intro H' P' tr nf i
  have r' := Rls.go tr xs vs r
  have s' := sq H' P' tr
  refine ⟨fun tt e => ?_, fun hl => ⟨vs, s', by rw [enumT_len] at hl; rw [← r.length]; exact hl⟩⟩
  rw [enumT_get] at e
  cases ex : xs[i]? with
  | none => rw [ex] at e; cases e
  | some x =>
    rw [ex] at e
    simp only [Option.map_some, Option.some.injEq] at e
    subst e
    obtain ⟨v, ev, rv⟩ := r'.getT ex
    refine ⟨⟨vs, v, s', ev⟩, fun y H'' yy => ?_⟩
    obtain ⟨p, v', rfl, hp, rfl, hv⟩ := yy
    have := hv vs s'
    rw [ev] at this
    cases this
    refine ⟨same_new hp, rl_tuple.mpr ⟨p, _, rfl, .off upd_same (nf p hp), rls_cons.mpr ⟨.int i, [v], rfl, rl_int.mpr (by simp), rls_cons.mpr ⟨v, [], rfl, Rl.go (.same (same_new hp)) x v rv, rls_nil.mpr rfl⟩⟩⟩⟩
theorem iv_enum {p tp : Pos} {k : Nat} (hg : Gl X "enumerate") (hm : X.mg "enumerate" = none) (ha : EV X W a da) (hs : starEach [a] X.env = (false, eval a X.env) :: starEach [] X.env := by rfl) : IV X W (.Tuple elts k tp) (.Call (.Name "enumerate" p) [a] [] pos) (iEnum (iSeq da)) :=
  pi_weak (pi_enum hg hm (pa_cons ha pa_nil hs) hs) fun σ H R ⟨G, P, h, q⟩ => by
    unfold iEnum iSeq at q
    cases e : da G with
    | stuck => rw [e] at q; exact q.elim
    | exc c => rw [e] at q; exact ⟨G, P, h, by rw [e]; exact q⟩
    | ok tx =>
      rw [e, Res.bind_ok] at q
      refine ⟨G, P, h, ?_⟩
      rw [e]
      intro x H1 s1 rx
      have h1 := h.same s1
      cases tx <;> try exact q.elim
      · obtain ⟨l, vs, rfl, sl, rs⟩ := rl_list.mp rx
        exact ⟨l, false, rfl, ⟨vs, sl.sq⟩, q _ H1 s1 (yld_enum (t := false) (fun H' P' tr => (sl.go tr).sq) rs)⟩
      · obtain ⟨l, vs, rfl, sl, rs⟩ := rl_tuple.mp rx
        exact ⟨l, true, rfl, ⟨vs, sl.sq⟩, q _ H1 s1 (yld_enum (t := true) (fun H' P' tr => (sl.go tr).sq) rs)⟩
end
end Fx

namespace Fx
open PySem PySem.Spec PyProof.Rows L2
section
variable {prog : Program} {w : World} {A : Around} {E : Value → Shared → Prop} {s : Shared}
theorem zip_item {z TI TO i1 i2 l1 l2 : Addr} {k1 k2 : Nat} {xs ys : Array Value} {x y a b : Value} {t1 t2 : Bool} {Q : Value → Shared → Prop} (D : ZipApart z TI TO i1 i2 l1 l2)
    (hz : IsZip s.heap z TI TO .none) (hTI : IsPair s.heap TI (.ref i1) (.ref i2)) (hTO : IsPair s.heap TO a b)
    (h1 : SrI s.heap i1 l1 k1 t1) (h2 : SrI s.heap i2 l2 k2 t2) (hl1 : SrS s.heap l1 xs t1) (hl2 : SrS s.heap l2 ys t2) (hx : xs[k1]? = some x) (hy : ys[k2]? = some y)
    (hQ : ∀ h', IsZip h' z TI TO (rawInt s.heap.objs.size) → IsPair h' TO x y → SrI h' i1 l1 (k1 + 1) t1 → SrI h' i2 l2 (k2 + 1) t2 → IsPair h' s.heap.objs.size x y →
      (∀ c o, c ∉ [z, TO, i1, i2] → s.heap.get? c = some o → h'.get? c = some o) → Q (.ref s.heap.objs.size) { s with heap := h' }) :
    wpAny (model prog w) A (Builtin.«zip.__next__» ⟨[.ref z], []⟩) (fun fin s' => ∃ v, fin = .done (.ret v) ∧ Q v s') E s := by
  show wpAny _ _ (field (.ref z) 2 >>= _) _ _ _
  refine wpAny_bind (wpAny_field hz rfl (x := .bool false) rfl ?_)
  show wpAny _ _ (field (.ref z) 3 >>= _) _ _ _
  refine wpAny_bind (wpAny_field hz rfl (x := .ref TI) rfl ?_)
  refine wpAny_bind (wpAny_seqItems hTI rfl ?_)
  show wpAny _ _ (Builtin.SmallTypes.ownedTupleIsFree (.ref z) >>= _) _ _ _
  refine wpAny_bind ?_
  unfold Builtin.SmallTypes.ownedTupleIsFree
  refine wpAny_bind (wpAny_field hz rfl (x := .none) rfl (wpAny_pure ?_))
  simp only [if_true]
  refine wpAny_bind (wpAny_rule ?_)
  refine wpAny_bind (wpAny_field hz rfl (x := .ref TO) rfl ?_)
  refine wpAny_bind (wpAny_setField_rec hz (by simp) fun g1 z1 e1 => ?_)
  replace z1 : IsZip g1 z TI TO .ellipsis := z1
  refine wpAny_bind ?_
  simp only [List.zipIdx_cons, List.zipIdx_nil, List.forIn_cons, List.forIn_nil]
  -- the first draw
  refine wpAny_bind (wpAny_bind (wpAny_onRaise ?_))
  show wpAny _ _ (Builtin.SmallTypes.nextOf (.ref i1) >>= _) _ _ _
  refine wpAny_bind (sr_item (h1.at fun o e => e1.extBut _ _ D.i1z e) (hl1.at fun o e => e1.extBut _ _ D.l1z e) hx fun g2 d2 e2 => wpAny_pure ?_)
  have o2 : IsPair g2 TO a b := e2.extBut _ _ D.TOi1 (e1.extBut _ _ D.TOz hTO)
  refine wpAny_bind (wpAny_seqItems o2 rfl ?_)
  refine wpAny_bind (wpAny_updateSeq_pair o2 fun g3 o3 e3 => ?_)
  replace o3 : IsPair g3 TO x b := o3
  refine wpAny_bind (wpAny_letGo (wpAny_pure ?_))
  -- the second
  refine wpAny_bind (wpAny_bind (wpAny_onRaise ?_))
  show wpAny _ _ (Builtin.SmallTypes.nextOf (.ref i2) >>= _) _ _ _
  refine wpAny_bind (sr_item (h2.at fun o e => e3.extBut _ _ D.TOi2.symm (e2.extBut _ _ D.i12.symm (e1.extBut _ _ D.i2z e))) (hl2.at fun o e => e3.extBut _ _ D.l2TO (e2.extBut _ _ D.l2i1 (e1.extBut _ _ D.l2z e))) hy fun g4 d4 e4 => wpAny_pure ?_)
  have o4 : IsPair g4 TO x b := e4.extBut _ _ D.TOi2 o3
  refine wpAny_bind (wpAny_seqItems o4 rfl ?_)
  refine wpAny_bind (wpAny_updateSeq_pair o4 fun g5 o5 e5 => ?_)
  replace o5 : IsPair g5 TO x y := o5
  refine wpAny_bind (wpAny_letGo (wpAny_pure (wpAny_pure ?_)))
  -- the pair
  refine wpAny_bind (wpAny_seqItems o5 rfl ?_)
  refine wpAny_bind (wpAny_newTuple ?_)
  have sz : g5.objs.size = s.heap.objs.size := by rw [e5.1, e4.1, e3.1, e2.1, e1.1]
  have z5 : IsZip g5 z TI TO .ellipsis := e5.extBut _ _ D.TOz.symm (e4.extBut _ _ D.i2z.symm (e3.extBut _ _ D.TOz.symm (e2.extBut _ _ D.i1z.symm z1)))
  have k5 : ∀ c o, c ∉ [z, TO, i1, i2] → s.heap.get? c = some o → g5.get? c = some o := fun c o hc e => by
    simp only [List.mem_cons, List.not_mem_nil, or_false, not_or] at hc
    exact e5.extBut _ _ hc.2.1 (e4.extBut _ _ hc.2.2.2 (e3.extBut _ _ hc.2.1 (e2.extBut _ _ hc.2.2.1 (e1.extBut _ _ hc.1 e))))
  have i5 : SrI g5 i1 l1 (k1 + 1) t1 := d2.at fun o e => e5.extBut _ _ D.TOi1.symm (e4.extBut _ _ D.i12 (e3.extBut _ _ D.TOi1.symm e))
  have j5 : SrI g5 i2 l2 (k2 + 1) t2 := d4.at fun o e => e5.extBut _ _ D.TOi2.symm e
  have zlt : z < g5.objs.size := Heap.lt_size z5
  show wpAny _ _ (Builtin.SmallTypes.ownedTupleHandOut (.ref z) (.ref g5.objs.size) >>= _) _ _ _
  refine wpAny_bind ?_
  unfold Builtin.SmallTypes.ownedTupleHandOut
  have z6 : IsZip (g5.push { cls := .type "tuple", data := .seq #[x, y] }) z TI TO .ellipsis := Heap.get?_push_of_some _ z5
  refine wpAny_bind (wpAny_setField_rec z6 (by simp) fun g7 z7 e7 => ?_)
  replace z7 : IsZip g7 z TI TO (rawInt g5.objs.size) := z7
  refine wpAny_setField_rec z7 (by simp) fun g8 z8 e8 => ?_
  replace z8 : IsZip g8 z TI TO (rawInt g5.objs.size) := z8
  have up : ∀ c o, c ≠ z → g5.get? c = some o → g8.get? c = some o := fun c o c1 e => e8.extBut _ _ c1 (e7.extBut _ _ c1 (Heap.get?_push_of_some _ e))
  have t8 : IsPair g8 g5.objs.size x y := e8.extBut _ _ (Nat.ne_of_gt zlt) (e7.extBut _ _ (Nat.ne_of_gt zlt) (Heap.get?_push_size _ rfl))
  rw [sz] at z8 t8
  refine wpAny_pure ⟨_, rfl, ?_⟩
  show Q (.ref g5.objs.size) _
  rw [sz]
  exact hQ g8 z8 (up _ _ D.TOz o5) (i5.at fun o e => up _ o D.i1z e) (j5.at fun o e => up _ o D.i2z e) t8 fun c o hc e => up c o (fun q => hc (by simp [q])) (k5 c o hc e)
theorem zip_end {z TI TO i1 i2 l1 l2 : Addr} {k1 k2 : Nat} {xs ys : Array Value} {a b : Value} {t1 t2 : Bool} {Q : Fin → Shared → Prop} (hh : A.handled = none) (D : ZipApart z TI TO i1 i2 l1 l2)
    (hz : IsZip s.heap z TI TO .none) (hTI : IsPair s.heap TI (.ref i1) (.ref i2)) (hTO : IsPair s.heap TO a b)
    (h1 : SrI s.heap i1 l1 k1 t1) (h2 : SrI s.heap i2 l2 k2 t2) (hl1 : SrS s.heap l1 xs t1) (hl2 : SrS s.heap l2 ys t2) (hend : xs[k1]? = none ∨ ys[k2]? = none)
    (hE : ∀ h' e, (∀ c o, c ∉ [z, TO, i1, i2] → s.heap.get? c = some o → h'.get? c = some o) → (∃ o, h'.get? e = some o ∧ o.cls = .type "StopIteration") → E (.ref e) { s with heap := h' }) :
    wpAny (model prog w) A (Builtin.«zip.__next__» ⟨[.ref z], []⟩) Q E s := by
  show wpAny _ _ (field (.ref z) 2 >>= _) _ _ _
  refine wpAny_bind (wpAny_field hz rfl (x := .bool false) rfl ?_)
  show wpAny _ _ (field (.ref z) 3 >>= _) _ _ _
  refine wpAny_bind (wpAny_field hz rfl (x := .ref TI) rfl ?_)
  refine wpAny_bind (wpAny_seqItems hTI rfl ?_)
  show wpAny _ _ (Builtin.SmallTypes.ownedTupleIsFree (.ref z) >>= _) _ _ _
  refine wpAny_bind ?_
  unfold Builtin.SmallTypes.ownedTupleIsFree
  refine wpAny_bind (wpAny_field hz rfl (x := .none) rfl (wpAny_pure ?_))
  simp only [if_true]
  refine wpAny_bind (wpAny_rule ?_)
  refine wpAny_bind (wpAny_field hz rfl (x := .ref TO) rfl ?_)
  refine wpAny_bind (wpAny_setField_rec hz (by simp) fun g1 z1 e1 => ?_)
  replace z1 : IsZip g1 z TI TO .ellipsis := z1
  refine wpAny_bind ?_
  simp only [List.zipIdx_cons, List.zipIdx_nil, List.forIn_cons, List.forIn_nil]
  refine wpAny_bind (wpAny_bind (wpAny_onRaise ?_))
  show wpAny _ _ (Builtin.SmallTypes.nextOf (.ref i1) >>= _) _ _ _
  cases hx : xs[k1]? with
  | none =>
    refine wpAny_bind (sr_end hh (h1.at fun o e => e1.extBut _ _ D.i1z e) (hl1.at fun o e => e1.extBut _ _ D.l1z e) hx fun g2 e e2 he => ?_)
    obtain ⟨oe, hoe, hce⟩ := he
    have z2 : IsZip g2 z TI TO .ellipsis := e2 _ _ D.i1z.symm z1
    have hez : e ≠ z := fun q => by subst q; rw [z2] at hoe; cases hoe; simp at hce
    refine wpAny_setField_rec z2 (by simp) fun g3 _ e3 => hE g3 e (fun c o hc q => ?_) ⟨oe, e3.extBut _ _ hez hoe, hce⟩
    simp only [List.mem_cons, List.not_mem_nil, or_false, not_or] at hc
    exact e3.extBut _ _ hc.1 (e2 _ _ hc.2.2.1 (e1.extBut _ _ hc.1 q))
  | some x =>
    have hy : ys[k2]? = none := by
      rcases hend with h | h
      · rw [hx] at h; cases h
      · exact h
    refine wpAny_bind (sr_item (h1.at fun o e => e1.extBut _ _ D.i1z e) (hl1.at fun o e => e1.extBut _ _ D.l1z e) hx fun g2 d2 e2 => wpAny_pure ?_)
    have o2 : IsPair g2 TO a b := e2.extBut _ _ D.TOi1 (e1.extBut _ _ D.TOz hTO)
    refine wpAny_bind (wpAny_seqItems o2 rfl ?_)
    refine wpAny_bind (wpAny_updateSeq_pair o2 fun g3 o3 e3 => ?_)
    refine wpAny_bind (wpAny_letGo (wpAny_pure ?_))
    refine wpAny_bind (wpAny_bind (wpAny_onRaise ?_))
    show wpAny _ _ (Builtin.SmallTypes.nextOf (.ref i2) >>= _) _ _ _
    refine wpAny_bind (sr_end hh (h2.at fun o e => e3.extBut _ _ D.TOi2.symm (e2.extBut _ _ D.i12.symm (e1.extBut _ _ D.i2z e))) (hl2.at fun o e => e3.extBut _ _ D.l2TO (e2.extBut _ _ D.l2i1 (e1.extBut _ _ D.l2z e))) hy fun g4 e e4 he => ?_)
    obtain ⟨oe, hoe, hce⟩ := he
    have z4 : IsZip g4 z TI TO .ellipsis := e4 _ _ D.i2z.symm (e3.extBut _ _ D.TOz.symm (e2.extBut _ _ D.i1z.symm z1))
    have hez : e ≠ z := fun q => by subst q; rw [z4] at hoe; cases hoe; simp at hce
    refine wpAny_setField_rec z4 (by simp) fun g5 _ e5 => hE g5 e (fun c o hc q => ?_) ⟨oe, e5.extBut _ _ hez hoe, hce⟩
    simp only [List.mem_cons, List.not_mem_nil, or_false, not_or] at hc
    exact e5.extBut _ _ hc.1 (e4 _ _ hc.2.2.2 (e3.extBut _ _ hc.2.1 (e2.extBut _ _ hc.2.2.1 (e1.extBut _ _ hc.1 q))))
theorem zip_pn {z TI TO i1 i2 l1 l2 : Addr} {k1 k2 : Nat} {xs ys : Array Value} {x y a b : Value} {t1 t2 : Bool} {Q : Option Value → Shared → Prop} (D : ZipApart z TI TO i1 i2 l1 l2)
    (hz : IsZip s.heap z TI TO .none) (hTI : IsPair s.heap TI (.ref i1) (.ref i2)) (hTO : IsPair s.heap TO a b)
    (h1 : SrI s.heap i1 l1 k1 t1) (h2 : SrI s.heap i2 l2 k2 t2) (hl1 : SrS s.heap l1 xs t1) (hl2 : SrS s.heap l2 ys t2) (hx : xs[k1]? = some x) (hy : ys[k2]? = some y)
    (hQ : ∀ h', IsZip h' z TI TO (rawInt s.heap.objs.size) → IsPair h' TO x y → SrI h' i1 l1 (k1 + 1) t1 → SrI h' i2 l2 (k2 + 1) t2 → IsPair h' s.heap.objs.size x y →
      (∀ c o, c ∉ [z, TO, i1, i2] → s.heap.get? c = some o → h'.get? c = some o) → Q (some (.ref s.heap.objs.size)) { s with heap := h' }) :
    wpAny (model prog w) A (pyNext (.ref z)) Q E s := by
  have hT : s.TypeIs (.ref z) "zip" := ⟨_, hz, rfl⟩
  unfold pyNext
  exact wpAny_bind (wpAny_attempt (wpAny_callSpecial?_slot (name := Str.ofString "__next__") hT F.slot_zip_next
    (wpAny_call_entry F.slot_zip_next hT F.entry_zip_next (zip_item D hz hTI hTO h1 h2 hl1 hl2 hx hy fun h' a1 a2 a3 a4 a5 a6 => wpAny_pure (hQ h' a1 a2 a3 a4 a5 a6)) (F.args_zip_next_1 _))))
theorem zip_pe {z TI TO i1 i2 l1 l2 : Addr} {k1 k2 : Nat} {xs ys : Array Value} {a b : Value} {t1 t2 : Bool} {Q : Option Value → Shared → Prop} (hh : A.handled = none) (D : ZipApart z TI TO i1 i2 l1 l2)
    (hz : IsZip s.heap z TI TO .none) (hTI : IsPair s.heap TI (.ref i1) (.ref i2)) (hTO : IsPair s.heap TO a b)
    (h1 : SrI s.heap i1 l1 k1 t1) (h2 : SrI s.heap i2 l2 k2 t2) (hl1 : SrS s.heap l1 xs t1) (hl2 : SrS s.heap l2 ys t2) (hend : xs[k1]? = none ∨ ys[k2]? = none)
    (hQ : ∀ h', (∀ c o, c ∉ [z, TO, i1, i2] → s.heap.get? c = some o → h'.get? c = some o) → Q none { s with heap := h' }) : wpAny (model prog w) A (pyNext (.ref z)) Q E s := by
  have hT : s.TypeIs (.ref z) "zip" := ⟨_, hz, rfl⟩
  unfold pyNext
  refine wpAny_bind (wpAny_attempt (wpAny_callSpecial?_slot (name := Str.ofString "__next__") hT F.slot_zip_next
    (wpAny_call_entry F.slot_zip_next hT F.entry_zip_next (zip_end hh D hz hTI hTO h1 h2 hl1 hl2 hend fun h' e hk he => ?_) (F.args_zip_next_1 _))))
  obtain ⟨o, ho, hc⟩ := he
  exact wpAny_bind (wpAny_isInstance (T := "StopIteration") (b := true) ⟨o, ho, hc⟩ isSubtype_stop (wpAny_pure (hQ _ hk)))
abbrev zH1 (h : Heap) (l1 : Addr) (t1 : Bool) : Heap := h.push (itObj l1 t1)
abbrev zH2 (h : Heap) (l1 l2 : Addr) (t1 t2 : Bool) : Heap := (zH1 h l1 t1).push (itObj l2 t2)
abbrev zH3 (h : Heap) (l1 l2 : Addr) (t1 t2 : Bool) : Heap := (zH2 h l1 l2 t1 t2).push { cls := .type "tuple", data := .seq #[.ref h.objs.size, .ref (zH1 h l1 t1).objs.size] }
abbrev zH4 (h : Heap) (l1 l2 : Addr) (t1 t2 : Bool) : Heap := (zH3 h l1 l2 t1 t2).push { cls := .type "tuple", data := .seq #[.none, .none] }
abbrev zH5 (h : Heap) (l1 l2 : Addr) (t1 t2 : Bool) : Heap := (zH4 h l1 l2 t1 t2).push { cls := .type "zip", data := .fields #[.none, .bool false, .bool false, .ref (zH2 h l1 l2 t1 t2).objs.size, .ref (zH3 h l1 l2 t1 t2).objs.size] }
theorem meets_zip (l1 l2 : Addr) (xs ys : Array Value) (t1 t2 : Bool) :
    Meets (Builtin.«zip.__new__» ⟨[.type "zip", .ref l1, .ref l2], []⟩) (fun _ R s => SrS s.heap l1 xs t1 ∧ SrS s.heap l2 ys t2 ∧ R (.ok (.ret (.ref (zH4 s.heap l1 l2 t1 t2).objs.size))) { s with heap := zH5 s.heap l1 l2 t1 t2 }) :=
  .of_wp fun prog w A R s h => by
    obtain ⟨hp, g, d, tk, os⟩ := s
    obtain ⟨hl1, hl2, h⟩ := h
    have hsub := sub_zip
    have L1 : SrS (Shared.heap ⟨hp, g, d, tk, os⟩) l1 xs t1 := hl1
    have L2 : SrS (Shared.heap ⟨hp.push (itObj l1 t1), g, d, tk, os⟩) l2 ys t2 := hl2.at fun o e => Heap.get?_push_of_some _ e
    wp_walk using sr_iter L1, sr_iter L2
    exact ⟨_, rfl, h⟩
theorem call_zip {l1 l2 : Addr} {xs ys : Array Value} {t1 t2 : Bool} {Q : Value → Shared → Prop} (hl1 : SrS s.heap l1 xs t1) (hl2 : SrS s.heap l2 ys t2)
    (h : ∀ h', IsZip h' (s.heap.objs.size + 4) (s.heap.objs.size + 2) (s.heap.objs.size + 3) .none → IsPair h' (s.heap.objs.size + 2) (.ref s.heap.objs.size) (.ref (s.heap.objs.size + 1)) →
      IsPair h' (s.heap.objs.size + 3) .none .none → SrI h' s.heap.objs.size l1 0 t1 → SrI h' (s.heap.objs.size + 1) l2 0 t2 →
      (∀ c o, s.heap.get? c = some o → h'.get? c = some o) → Q (.ref (s.heap.objs.size + 4)) { s with heap := h' }) :
    wpAny (model prog w) A (call (.type "zip") [.ref l1, .ref l2]) Q E s := by
  refine callType_new F.called_zip (by decide) (F.typeCall_zip_2 _ _) (F.newCall_zip_2 _ _) (fun obj => F.args_object_init_3 obj _ _) F.entry_zip_new (meets_zip l1 l2 xs ys t1 t2) ⟨hl1, hl2, ?_⟩
  have z1 : (zH1 s.heap l1 t1).objs.size = s.heap.objs.size + 1 := Heap.size_push ..
  have z2 : (zH2 s.heap l1 l2 t1 t2).objs.size = s.heap.objs.size + 2 := by rw [Heap.size_push, z1]
  have z3 : (zH3 s.heap l1 l2 t1 t2).objs.size = s.heap.objs.size + 3 := by rw [Heap.size_push, z2]
  have z4 : (zH4 s.heap l1 l2 t1 t2).objs.size = s.heap.objs.size + 4 := by rw [Heap.size_push, z3]
  have g5 : (zH5 s.heap l1 l2 t1 t2).get? (zH4 s.heap l1 l2 t1 t2).objs.size = some _ := Heap.get?_push_size _ rfl
  have g4 : (zH5 s.heap l1 l2 t1 t2).get? (zH3 s.heap l1 l2 t1 t2).objs.size = some _ := Heap.get?_push_of_some _ (Heap.get?_push_size _ rfl)
  have g3 : (zH5 s.heap l1 l2 t1 t2).get? (zH2 s.heap l1 l2 t1 t2).objs.size = some _ := Heap.get?_push_of_some _ (Heap.get?_push_of_some _ (Heap.get?_push_size _ rfl))
  have g2 : SrI (zH5 s.heap l1 l2 t1 t2) (zH1 s.heap l1 t1).objs.size l2 0 t2 := SrI.new.at fun o e => Heap.get?_push_of_some _ (Heap.get?_push_of_some _ (Heap.get?_push_of_some _ e))
  have g1 : SrI (zH5 s.heap l1 l2 t1 t2) s.heap.objs.size l1 0 t1 := SrI.new.at fun o e => Heap.get?_push_of_some _ (Heap.get?_push_of_some _ (Heap.get?_push_of_some _ (Heap.get?_push_of_some _ e)))
  show _ ∧ _
  rw [z2, z3, z4] at g5
  rw [z1, z2] at g3
  rw [z3] at g4
  rw [z1] at g2
  rw [z4]
  exact ⟨⟨_, g5, rfl⟩, h _ g5 g3 g4 g1 g2 fun c o x => Heap.get?_push_of_some _ (Heap.get?_push_of_some _ (Heap.get?_push_of_some _ (Heap.get?_push_of_some _ (Heap.get?_push_of_some _ x))))⟩
end
/-- pairs of the items at l1 and l2 -/
def Itz (K : PySem.W.Frag) (l1 l2 : Addr) (t1 t2 : Bool) : It :=
  ⟨fun i H => ∃ xs ys x y, Sq K H l1 xs t1 ∧ Sq K H l2 ys t2 ∧ xs[i]? = some x ∧ ys[i]? = some y,
   fun i H x H' => ∃ p v w, x = .ref p ∧ H p = none ∧ H' = upd H p (.tup [v, w]) ∧ (∀ xs, Sq K H l1 xs t1 → xs[i]? = some v) ∧ ∀ ys, Sq K H l2 ys t2 → ys[i]? = some w,
   fun i H => ∃ xs ys, Sq K H l1 xs t1 ∧ Sq K H l2 ys t2 ∧ (xs.length ≤ i ∨ ys.length ≤ i)⟩
theorem turn_zip {P : Program} {w : World} {K : PySem.W.Frag} {elts : List Expr} {k : Nat} {pos : Pos} (z TI TO i1 i2 l1 l2 : Addr) (t1 t2 : Bool) (D : ZipApart z TI TO i1 i2 l1 l2) :
    Turn P w K (.Tuple elts k pos) (Itz K l1 l2 t1 t2) [z, TI, TO, i1, i2] z (fun i h => IsZip h z TI TO .none ∧ IsPair h TI (.ref i1) (.ref i2) ∧ (∃ a b, IsPair h TO a b) ∧ SrI h i1 l1 i t1 ∧ SrI h i2 l2 i t2) where
  mem := by simp
  obj := fun i h st b hb => by
    obtain ⟨hz, hTI, ⟨a, c, hTO⟩, h1, h2⟩ := st
    simp only [List.mem_cons, List.not_mem_nil, or_false] at hb
    rcases hb with rfl | rfl | rfl | rfl | rfl
    · exact ⟨_, hz, fun v q => by cases q⟩
    · exact ⟨_, hTI, fun v q => by cases q⟩
    · exact ⟨_, hTO, fun v q => by cases q⟩
    · exact h1.obj
    · exact h2.obj
  keep := fun i h h' st kk => by
    obtain ⟨hz, hTI, ⟨a, c, hTO⟩, h1, h2⟩ := st
    exact ⟨kk z (by simp) _ hz, kk TI (by simp) _ hTI, ⟨a, c, kk TO (by simp) _ hTO⟩, h1.at fun o e => kk i1 (by simp) o e, h2.at fun o e => kk i2 (by simp) o e⟩
  item := by
    intro X hP hw hK hc i pins s σ H E I hf st hg
    subst hP hw hK
    obtain ⟨xs, ys, x, y, hq1, hq2, hx, hy⟩ := hg
    obtain ⟨a1, r1, s1, _⟩ := sq_srs I hq1
    obtain ⟨a2, r2, s2, _⟩ := sq_srs I hq2
    obtain ⟨u1, hu1, ru1⟩ := r1.get hx
    obtain ⟨u2, hu2, ru2⟩ := r2.get hy
    obtain ⟨hz, hTI, ⟨a, c, hTO⟩, h1, h2⟩ := st
    have fresh : ∀ b o, s.heap.get? b = some o → b ≠ s.heap.objs.size := fun b o e => Nat.ne_of_lt (Heap.lt_size e)
    refine zip_pn D hz hTI hTO h1 h2 s1 s2 (x := u1) (y := u2) (by simpa using hu1) (by simpa using hu2) fun h' z' o' i1' i2' p' kk => ?_
    refine ⟨_, rfl, wpAny_letOwnedTupleGo_zip z' fun h'' z'' hsb => ?_⟩
    have ke : ∀ b o, b ∉ [z, TI, TO, i1, i2] → s.heap.get? b = some o → h''.get? b = some o := fun b o hb e => by
      simp only [List.mem_cons, List.not_mem_nil, or_false, not_or] at hb
      exact hsb.extBut _ _ hb.1 (kk b o (by simp [hb.1, hb.2.2.1, hb.2.2.2.1, hb.2.2.2.2]) e)
    refine ⟨.ref s.heap.objs.size, upd H s.heap.objs.size (.tup [x, y]), inv_rec (s' := { s with heap := h'' }) (its := [u1, u2]) I hf rfl rfl ke (hsb.extBut _ _ (Ne.symm (fresh z _ hz)) p') (.cons ru1 (.cons ru2 .nil)) (by show 2 ≤ sizeLine; decide), rfl, ?_, ?_, fun b hb => ?_⟩
    · exact ⟨_, x, y, rfl, I.hok.fresh (Nat.le_refl _), rfl, fun zs hz => by rw [sq_inj I hz hq1]; exact hx, fun zs hz => by rw [sq_inj I hz hq2]; exact hy⟩
    · exact ⟨z'', hsb.extBut _ _ D.TIz (kk TI _ (by simp [D.TIz, D.TITO, D.TIi1, D.TIi2]) hTI), ⟨_, _, hsb.extBut _ _ D.TOz o'⟩, i1'.at fun o e => hsb.extBut _ _ D.i1z e, i2'.at fun o e => hsb.extBut _ _ D.i2z e⟩
    · have q := (hf b hb).1
      obtain ⟨o, ho⟩ : ∃ o, s.heap.get? b = some o := by
        simp only [List.mem_cons, List.not_mem_nil, or_false] at hb
        rcases hb with rfl | rfl | rfl | rfl | rfl
        · exact ⟨_, hz⟩
        · exact ⟨_, hTI⟩
        · exact ⟨_, hTO⟩
        · obtain ⟨o, ho, _⟩ := h1.obj; exact ⟨o, ho⟩
        · obtain ⟨o, ho, _⟩ := h2.obj; exact ⟨o, ho⟩
      rw [upd_ne (fresh b o ho)]; exact q
  done := by
    intro X hP hw hK hc i pins s σ H E I hf st hg
    subst hP hw hK
    obtain ⟨xs, ys, hq1, hq2, hx⟩ := hg
    obtain ⟨a1, r1, s1, _⟩ := sq_srs I hq1
    obtain ⟨a2, r2, s2, _⟩ := sq_srs I hq2
    obtain ⟨hz, hTI, ⟨a, c, hTO⟩, h1, h2⟩ := st
    have n1 := r1.length
    have n2 := r2.length
    have he : a1.toArray[i]? = none ∨ a2.toArray[i]? = none := by
      rcases hx with q | q
      · exact .inl (by simp; omega)
      · exact .inr (by simp; omega)
    exact zip_pe (I.ok.hd hc) D hz hTI hTO h1 h2 s1 s2 he fun h' kk => ⟨rfl, inv_ch (ch := [z, TI, TO, i1, i2]) (s' := { s with heap := h' }) I hf rfl rfl fun b o hb e => kk b o (fun q => hb (by simp at q ⊢; rcases q with q | q | q | q <;> simp [q])) e⟩
  self := fun _ _ _ _ _ st h => wpAny_pyIter_zip st.1 h
section
variable {X : Cx} {W : Str → Hp → Prop} {tg a b c e : Expr} {es elts : List Expr} {da db : DE} {pos : Pos}
def iZp (K : PySem.W.Frag) (ta : TA) : TI := fun σ H R => ta σ H fun vs H1 => ∃ a b t1 t2, vs = [.ref a, .ref b] ∧ (∃ xs, Sq K H1 a xs t1) ∧ (∃ ys, Sq K H1 b ys t2) ∧ R (Itz K a b t1 t2) H1
theorem pi_zip {l1 l2 : Expr} {ta : TA} {p tp : Pos} {k : Nat} (hg : Gl X "zip") (hm : X.mg "zip" = none) (hl : PA X [l1, l2] ta) (hs : starEach [l1, l2] X.env = (false, eval l1 X.env) :: starEach [l2] X.env := by rfl)
    (hpl : (backTo pos (starEach [l2] X.env)).any (·.1) = false := by rfl) : PI X (.Tuple elts k tp) (.Call (.Name "zip" p) [l1, l2] [] pos) (iZp X.K ta) := by
  intro pins s σ H R I h
  refine Call_ (ld_blt I hg hm (show bootBuiltins "zip" = some (.type "zip") by decide +kernel) (PyProof.Rows.callWith_type1 (thn (hl pos pins s σ H _ I h) fun us s1 ⟨vs, H1, I1, r1, q1⟩ => ?_) hs hpl))
  obtain ⟨l1, l2, t1, t2, rfl, ⟨xs, hq1⟩, ⟨ys, hq2⟩, q⟩ := q1
  obtain ⟨u1, u2, rfl, ru1, ru2⟩ := vals2 r1
  cases ru1
  cases ru2
  obtain ⟨a1, rv1, s1', _⟩ := sq_srs I1 hq1
  obtain ⟨a2, rv2, s2', _⟩ := sq_srs I1 hq2
  have lt1 := s1'.lt
  have lt2 := s2'.lt
  refine call_zip s1' s2' fun h' hz hTI hTO h1 h2 kk => wpAny_pyIter_zip hz ?_
  have I2 : Inv X pins σ H1 { s1 with heap := h' } := I1.kept (t' := s1.toks) kk
  have ap : ZipApart (s1.heap.objs.size + 4) (s1.heap.objs.size + 2) (s1.heap.objs.size + 3) s1.heap.objs.size (s1.heap.objs.size + 1) l1 l2 := by
    constructor <;> (intro e; simp only [Addr] at *; omega)
  refine ⟨_, [s1.heap.objs.size + 4, s1.heap.objs.size + 2, s1.heap.objs.size + 3, s1.heap.objs.size, s1.heap.objs.size + 1], _, Itz X.K l1 l2 t1 t2, H1, rfl, I2, turn_zip _ _ _ _ _ l1 l2 t1 t2 ap, ⟨hz, hTI, ⟨_, _, hTO⟩, h1, h2⟩, fun b hb => ?_, q⟩
  have hb' : s1.heap.objs.size ≤ b := by
    simp only [List.mem_cons, List.not_mem_nil, or_false] at hb
    rcases hb with rfl | rfl | rfl | rfl | rfl
    · exact Nat.le_add_right _ _
    · exact Nat.le_add_right _ _
    · exact Nat.le_add_right _ _
    · exact Nat.le_refl _
    · exact Nat.le_add_right _ _
  exact I1.fpOk hb' (I1.hok.fresh hb')
theorem zipT_get : ∀ (xs ys : List PyData) (i : Nat) (t : PyData), (zipT xs ys)[i]? = some t → ∃ x y, xs[i]? = some x ∧ ys[i]? = some y ∧ t = .tuple [x, y]
  | [], ys, i, t, h => by simp [zipT] at h
  | x :: xs, [], i, t, h => by simp [zipT] at h
  | x :: xs, y :: ys, 0, t, h => by simp [zipT] at h; exact ⟨x, y, rfl, rfl, h.symm⟩
  | x :: xs, y :: ys, i + 1, t, h => by
    simp only [zipT, List.getElem?_cons_succ] at h
    obtain ⟨a, b, h1, h2, h3⟩ := zipT_get xs ys i t h
    exact ⟨a, b, by simpa using h1, by simpa using h2, h3⟩
theorem zipT_len : ∀ (xs ys : List PyData) (i : Nat), (zipT xs ys).length ≤ i → xs.length ≤ i ∨ ys.length ≤ i
  | [], ys, i, h => .inl (Nat.zero_le _)
  | x :: xs, [], i, h => .inr (Nat.zero_le _)
  | x :: xs, y :: ys, 0, h => by simp [zipT] at h
  | x :: xs, y :: ys, i + 1, h => by
    simp only [zipT, List.length_cons] at h
    rcases zipT_len xs ys i (by omega) with q | q
    · exact .inl (by simp; omega)
    · exact .inr (by simp; omega)
theorem yld_zip {H : Hp} {P : Pv} {l1 l2 : Addr} {t1 t2 : Bool} {xs ys : List PyData} {vs ws : List V} (q1 : ∀ H' P', Tr H P H' P' → Sq X.K H' l1 vs t1) (q2 : ∀ H' P', Tr H P H' P' → Sq X.K H' l2 ws t2) (r1 : Rls X.K H P xs vs) (r2 : Rls X.K H P ys ws) :
    Yld X.K (Itz X.K l1 l2 t1 t2) (zipT xs ys) H P := by
  intro H' P' tr nf i
  have a1 := Rls.go tr xs vs r1
  have a2 := Rls.go tr ys ws r2
  refine ⟨fun tt e => ?_, fun hl => ⟨vs, ws, q1 H' P' tr, q2 H' P' tr, by rw [← r1.length, ← r2.length]; exact zipT_len xs ys i hl⟩⟩
  obtain ⟨x, y, e1, e2, rfl⟩ := zipT_get xs ys i tt e
  obtain ⟨v, ev, rv⟩ := a1.getT e1
  obtain ⟨w, ew, rw'⟩ := a2.getT e2
  refine ⟨⟨vs, ws, v, w, q1 H' P' tr, q2 H' P' tr, ev, ew⟩, fun z H'' yy => ?_⟩
  obtain ⟨p, v', w', rfl, hp, rfl, hv, hw⟩ := yy
  have z1 := hv vs (q1 H' P' tr)
  have z2 := hw ws (q2 H' P' tr)
  rw [ev] at z1
  rw [ew] at z2
  cases z1
  cases z2
  exact ⟨same_new hp, rl_tuple.mpr ⟨p, _, rfl, .off upd_same (nf p hp), rls_cons.mpr ⟨v, [w], rfl, Rl.go (.same (same_new hp)) x v rv, rls_cons.mpr ⟨w, [], rfl, Rl.go (.same (same_new hp)) y w rw', rls_nil.mpr rfl⟩⟩⟩⟩
theorem seq_of {K : PySem.W.Frag} {H : Hp} {P : Pv} {t : PyData} {v : V} {xs : List PyData} (r : Rl K H P t v) (e : t = .list xs ∨ t = .tuple xs) : ∃ l vs b, v = .ref l ∧ (∀ H' P', Tr H P H' P' → Sq K H' l vs b) ∧ Rls K H P xs vs := by
  rcases e with rfl | rfl
  · obtain ⟨l, vs, rfl, sl, rs⟩ := rl_list.mp r
    exact ⟨l, vs, false, rfl, fun H' P' tr => (sl.go tr).sq, rs⟩
  · obtain ⟨l, vs, rfl, sl, rs⟩ := rl_tuple.mp r
    exact ⟨l, vs, true, rfl, fun H' P' tr => (sl.go tr).sq, rs⟩
theorem iv_zip {p tp : Pos} {k : Nat} (hg : Gl X "zip") (hm : X.mg "zip" = none) (ha : EV X W a da) (hb : EV X W b db) (hs : starEach [a, b] X.env = (false, eval a X.env) :: starEach [b] X.env := by rfl) (hs2 : starEach [b] X.env = (false, eval b X.env) :: starEach [] X.env := by rfl)
    (hpl : (backTo pos (starEach [b] X.env)).any (·.1) = false := by rfl) : IV X W (.Tuple elts k tp) (.Call (.Name "zip" p) [a, b] [] pos) (iZip (iSeq da) (iSeq db)) :=
  pi_weak (pi_zip hg hm (pa_cons ha (pa_cons hb pa_nil hs2) hs) hs hpl) fun σ H R ⟨G, P, h, q⟩ => by
    unfold iZip iSeq at q
    refine ⟨G, P, h, ?_⟩
    cases ea : da G with
    | stuck => rw [ea] at q; exact q.elim
    | exc c => rw [ea] at q; exact q
    | ok tx =>
      intro x H1 s1 rx
      refine ⟨G, P, h.same s1, ?_⟩
      cases eb : db G with
      | stuck =>
        rw [ea, eb, Res.bind_ok] at q
        cases tx <;> exact q.elim
      | exc c =>
        rw [ea, eb, Res.bind_ok] at q
        cases tx <;> first | exact q.elim | exact fun H' s => q H' (s1.trans s)
      | ok ty =>
        intro y H2 s2 ry
        have q' := q
        rw [ea, eb, Res.bind_ok] at q'
        have fin : ∀ xs ys, (tx = .list xs ∨ tx = .tuple xs) → (ty = .list ys ∨ ty = .tuple ys) → PostI X.K W H P (.ok (zipT xs ys)) R → ∃ a b t1 t2, [x, y] = [V.ref a, V.ref b] ∧ (∃ xs, Sq X.K H2 a xs t1) ∧ (∃ ys, Sq X.K H2 b ys t2) ∧ R (Itz X.K a b t1 t2) H2 := fun xs ys e1 e2 q' => by
          obtain ⟨l1, v1, b1, rfl, f1, g1⟩ := seq_of (Rl.go (.same s2) tx x rx) e1
          obtain ⟨l2, v2, b2, rfl, f2, g2⟩ := seq_of ry e2
          exact ⟨l1, l2, b1, b2, rfl, ⟨v1, f1 H2 P (fun a o e q => ⟨e, q⟩)⟩, ⟨v2, f2 H2 P (fun a o e q => ⟨e, q⟩)⟩, q' _ H2 (s1.trans s2) (yld_zip f1 f2 g1 g2)⟩
        cases tx <;> cases ty <;> first | exact q'.elim | exact fin _ _ (.inl rfl) (.inl rfl) q' | exact fin _ _ (.inl rfl) (.inr rfl) q' | exact fin _ _ (.inr rfl) (.inl rfl) q' | exact fin _ _ (.inr rfl) (.inr rfl) q'
end
end Fx

namespace Fx
open PySem PySem.Spec PyProof.Rows L2

/-! ### a comprehension's names, by one look -/
def cf (k : Option NameKind) : Bool := k == some .cell || k == some .free
theorem cf_ok {k : Option NameKind} (h : cf k = true) : k = some .cell ∨ k = some .free := by
  unfold cf at h
  rw [Bool.or_eq_true] at h
  rcases h with h | h
  · exact .inl (by simpa using h)
  · exact .inr (by simpa using h)
def capChk (scope : Scope) (env : Env) (N0 N : List Str) (nv : Nat) (cap : List Nat) : Bool :=
  (List.range cap.length).all fun i => match (cap[i]? : Option Nat), (N[nv + i]? : Option Str) with
    | some j, some x => N0[j]? == some x && cf ((relabel scope env).names.lookup x) && cf (env.kindOf x)
    | _, _ => true
def compChk (scope : Scope) (env : Env) (N0 N : List Str) (nv : Nat) (cap : List Nat) : Bool :=
  (scope.names.all fun y => y.2 != .cell) && (scope.kind == .function) && (scope.names.all fun y => y.2 != .local || scope.names.lookup y.1 == some .local)
    && (scope.names.all fun y => y.2 != .free || cf (env.kindOf y.1)) && (N.length == nv + cap.length) && capChk scope env N0 N nv cap
theorem compok {X : Cx} {scope : Scope} {N : List Str} {nv : Nat} {cap : List Nat} (h : compChk scope X.env X.N N nv cap = true) : CompOk X scope N nv cap := by
  unfold compChk at h
  simp only [Bool.and_eq_true, List.all_eq_true] at h
  obtain ⟨⟨⟨⟨⟨h1, h2⟩, h3⟩, h4⟩, h5⟩, h6⟩ := h
  refine ⟨fun y hy => by simpa using h1 y hy, by simpa using h2, fun y hy e => ?_, fun y hy e => ?_, by simpa using h5, fun i j x hc hx => ?_⟩
  · have := h3 y hy
    rw [e] at this
    simpa using this
  · have := h4 y hy
    rw [e] at this
    exact cf_ok (by simpa using this)
  · unfold capChk at h6
    rw [List.all_eq_true] at h6
    have hi : i < cap.length := (List.getElem?_eq_some_iff.mp hc).1
    have := h6 i (List.mem_range.mpr hi)
    rw [hc, hx] at this
    simp only [Bool.and_eq_true] at this
    exact ⟨by simpa using this.1.1, cf_ok this.1.2, cf_ok this.2⟩

/-! ### new lists -/
section
variable {X : Cx} {W : Str → Hp → Prop} {a b c e : Expr} {es : List Expr} {da db : DE} {pos : Pos}
theorem rls_new {K : PySem.W.Frag} {H1 : Hp} {P : Pv} {p : Addr} {ts : List PyData} {vs : List V} {o : HO} (hp : H1 p = none) (rs : Rls K H1 P ts vs) : Rls K (upd H1 p o) (P.fbd p) ts vs :=
  Rls.go (.same (same_new hp)) ts vs (Rls.go (Tr.tofbd hp) ts vs rs)
theorem ov_lst {d : DA} (h : AV X W es d) : OV X W (.List es pos) (oLst d) :=
  pe_weak (pe_lst h) fun σ H Q ⟨G, P, h, q⟩ => by
    unfold oLst at q
    obtain ⟨q1, q2, q3⟩ := bindAO q
    refine tFA_bind h q1 q2 fun ts vs H1 es' s1 h1 rs => ?_
    have q4 := q3 ts es'
    split at q4
    · rename_i hl
      exact ⟨lenOk_ok hl rs, fun p hp => q4 p vs _ (s1.trans (same_new hp)) (s1.free hp) upd_same (rls_new hp rs)⟩
    · exact q4.elim
theorem ov_list {p : Pos} (hg : Gl X "list") (hm : X.mg "list" = none) (ha : EV X W a da) (hs : starEach [a] X.env = (false, eval a X.env) :: starEach [] X.env := by rfl) : OV X W (.Call (.Name "list" p) [a] [] pos) (oList da) :=
  pe_weak (pe_callTy call_list_of hg hm (show bootBuiltins "list" = some (.type "list") by decide +kernel) (pa_cons ha pa_nil hs) (he := hs)) fun σ H Q ⟨G, P, h, q⟩ => by
    unfold oList at q
    obtain ⟨q1, q2, q3⟩ := bindEO q
    refine tF_bind h q1 q2 fun tx x H1 ex s1 h1 rx => ?_
    have q4 := q3 tx ex
    cases tx <;> try exact q4.elim
    · obtain ⟨l, vs, rfl, sl, rs⟩ := rl_list.mp rx
      exact ⟨l, vs, rfl, .inl sl.sq, fun p hp => q4 p vs _ (s1.trans (same_new hp)) (s1.free hp) upd_same (rls_new hp rs)⟩
    · obtain ⟨l, vs, rfl, sl, rs⟩ := rl_tuple.mp rx
      exact ⟨l, vs, rfl, .inr sl.sq, fun p hp => q4 p vs _ (s1.trans (same_new hp)) (s1.free hp) upd_same (rls_new hp rs)⟩
theorem ov_cat (ha : EV X W a da) (hb : EV X W b db) : OV X W (.BinOp a .Add b pos) (oCat da db) :=
  pe_weak (pe_op op_catS ha hb) fun σ H Q ⟨G, P, h, q⟩ => by
    unfold oCat at q
    obtain ⟨q1, q2, q3⟩ := bindEO q
    refine tF_bind h q1 q2 fun tx x H1 ex s1 h1 rx => ?_
    obtain ⟨q4, q5, q6⟩ := bindEO (q3 tx ex)
    refine tF_bind h1 (fun c e H' s => q4 c e H' (s1.trans s)) q5 fun ty y H2 ey s2 h2 ry => ?_
    have q7 := q6 ty ey
    cases tx <;> cases ty <;> try exact q7.elim
    rename_i xs ys
    obtain ⟨l, us, rfl, sl, rs⟩ := rl_list.mp (Rl.go (.same s2) _ x rx)
    obtain ⟨m, ws, rfl, sm, rm⟩ := rl_list.mp ry
    simp only at q7
    split at q7
    · rename_i hz
      have e1 := rs.length
      have e2 := rm.length
      exact ⟨l, m, us, ws, rfl, rfl, sl.sq, sm.sq, by rw [sizeLine_eq]; omega, fun p hp => q7 p _ _ ((s1.trans s2).trans (same_new hp)) ((s1.trans s2).free hp) upd_same ((rls_new hp rs).append (rls_new hp rm))⟩
    · exact q7.elim
theorem ev_tuple {p : Pos} (hg : Gl X "tuple") (hm : X.mg "tuple" = none) (ha : EV X W a da) (hs : starEach [a] X.env = (false, eval a X.env) :: starEach [] X.env := by rfl) : EV X W (.Call (.Name "tuple" p) [a] [] pos) (d1 fTuple da) :=
  pe_weak (pe_callTy call_tuple_of hg hm (show bootBuiltins "tuple" = some (.type "tuple") by decide +kernel) (pa_cons ha pa_nil hs) (he := hs)) fun σ H Q h => tCB_of (fun H P σ G x tx Q h rx q => by
    cases tx <;> try exact q.elim
    · obtain ⟨l, vs, rfl, sl, rs⟩ := rl_list.mp rx
      exact ⟨l, vs, rfl, .inl ⟨sl.sq, fun p hp => q _ _ (same_new hp) (rl_tuple.mpr ⟨p, vs, rfl, .off upd_same (h.off_new hp), Rls.go (.same (same_new hp)) _ vs rs⟩)⟩⟩
    · obtain ⟨l, vs, rfl, sl, rs⟩ := rl_tuple.mp rx
      exact ⟨l, vs, rfl, .inr ⟨sl.sq, q _ H (Same.refl H) rx⟩⟩) h

/-! ### all -/
theorem rls_bools {K : PySem.W.Frag} {H : Hp} {P : Pv} : ∀ {bs : List Bool} {vs : List V}, Rls K H P (bs.map .bool) vs → vs = bs.map V.bl
  | [], vs, h => rls_nil.mp h
  | b :: bs, vs, h => by
    obtain ⟨v, r, rfl, a, q⟩ := rls_cons.mp h
    rw [rl_bool.mp a, rls_bools q]
    rfl
theorem call_all (hc : X.calm = true) : CallR X (.builtin "all") (fun xs H Q => ∃ (p : Addr) (bs : List Bool), xs = [.ref p] ∧ SqL X.K H p (bs.map V.bl) ∧ Q (.bl (bs.all id)) H) := by
  intro pins s σ H xs us Q I r h
  obtain ⟨l, bs, rfl, hq, q⟩ := h
  obtain ⟨u, rfl, ru⟩ := vals1 r
  cases ru
  obtain ⟨its, rv, pl, hz⟩ := I.list hq
  have hl : s.heap.IsList l its.toArray := pl.isList
  have hlt : l < s.heap.objs.size := by obtain ⟨_, e, _⟩ := hl; exact Heap.lt_size e
  have hb : ∀ (i : Nat) (v : Value), its[i]? = some v → ∃ b, bs[i]? = some b ∧ v = .bool b := fun i v e => by
    have hi : i < its.length := (List.getElem?_eq_some_iff.mp e).1
    have hl2 := rv.length
    rw [List.length_map] at hl2
    have hi2 : i < bs.length := by omega
    obtain ⟨u, hu, ru⟩ := rv.get (i := i) (x := V.bl bs[i]) (by simp [hi2])
    rw [e] at hu; cases hu
    cases ru
    exact ⟨bs[i], by simp [hi2], rfl⟩
  refine call_all_walk (wpAny_pyIter_list hl ?_)
  refine ⟨s.heap.objs.size, [s.heap.objs.size, l], [s.heap.objs.size], its.toArray.size, _, _, fun i => (bs[i]?).getD true, rfl, Walks.list (A := X.A.in1) (I.ok.hd hc) _ l (Nat.ne_of_lt hlt) its.toArray,
    ⟨⟨_, Heap.get?_push_size _ rfl, rfl, rfl⟩, hl.push _⟩, fun i v s' Q' E' hP hQ => ?_, fun h' tk hk => ?_⟩
  · obtain ⟨b, e, rfl⟩ := hb i v (by simpa using hP)
    simp only [e, Option.getD_some] at hQ
    exact wpAny_truthy_bool hQ
  · have e : ((List.range its.toArray.size).all fun i => (bs[i]?).getD true) = bs.all id := by
      have hl2 := rv.length
      rw [List.length_map] at hl2
      rw [List.size_toArray, ← hl2, Bool.eq_iff_iff, List.all_eq_true, List.all_eq_true]
      constructor
      · intro h b hb
        obtain ⟨i, hi, e⟩ := List.getElem_of_mem hb
        have := h i (List.mem_range.mpr hi)
        simp only [List.getElem?_eq_getElem hi, Option.getD_some, e] at this
        exact this
      · intro h i hi
        have hi' := List.mem_range.mp hi
        simp only [List.getElem?_eq_getElem hi', Option.getD_some]
        exact h _ (List.getElem_mem hi')
    rw [e]
    have kk : ∀ b x, s.heap.get? b = some x → h'.get? b = some x := fun b x e => hk b x (fun hm => by rw [List.mem_singleton.mp hm] at e; exact Nat.lt_irrefl _ (Heap.lt_size e)) (Heap.get?_push_of_some _ e)
    exact ⟨.bl _, H, I.kept (t' := tk) kk, rfl, q⟩
theorem ev_all {p : Pos} (hg : Gl X "all") (hm : X.mg "all" = none) (ha : EV X W a da) (hc : X.calm = true := by rfl) (hs : starEach [a] X.env = (false, eval a X.env) :: starEach [] X.env := by rfl) : EV X W (.Call (.Name "all" p) [a] [] pos) (d1 fAll da) :=
  pe_weak (pe_callB (call_all hc) hg hm (show bootBuiltins "all" = some (.builtin "all") by decide +kernel) (pa_cons ha pa_nil hs) (he := hs)) fun σ H Q h => tCB_of (fun H P σ G x tx Q h rx q => by
    cases tx <;> try exact q.elim
    rename_i xs
    obtain ⟨l, vs, rfl, sl, rs⟩ := rl_list.mp rx
    simp only [fAll] at q
    cases e : allT xs with
    | stuck => rw [e] at q; exact q.elim
    | exc c => exact absurd e (allT_nox xs c)
    | ok k =>
      rw [e, Res.bind_ok] at q
      obtain ⟨bs, rfl, rfl⟩ := allT_ok e
      have := rls_bools rs
      subst this
      exact ⟨l, bs, rfl, sl.sq, post_bl q⟩) h

/-! ### a name's own list is changed -/
theorem frz1_own {G : List Sl} {i j : Nat} {xs : List PyData} (h : (frz1 G j)[i]? = some (.own xs)) : G[i]? = some (.own xs) := by
  unfold frz1 at h
  split at h
  · rename_i ys q
    by_cases e : j = i
    · subst e
      rw [List.getElem?_set_self (List.getElem?_eq_some_iff.mp q).1] at h
      cases h
    · rw [List.getElem?_set_ne e] at h
      exact h
  · exact h
theorem frz_own : ∀ (is : List Nat) {G : List Sl} {i : Nat} {xs : List PyData}, (frz is G)[i]? = some (.own xs) → G[i]? = some (.own xs)
  | [], G, i, xs, h => h
  | j :: is, G, i, xs, h => frz1_own (frz_own is (G := frz1 G j) h)
theorem aft_own {t : PyData} {is : List Nat} {G : List Sl} {i : Nat} {xs : List PyData} (h : (if scalT t = true then G else frz is G)[i]? = some (.own xs)) : G[i]? = some (.own xs) := by
  split at h
  · exact h
  · exact frz_own is h
theorem isOwn_ok {G : List Sl} {i : Nat} (h : isOwn G i = true) : ∃ xs, G[i]? = some (.own xs) := by
  unfold isOwn at h
  split at h
  · rename_i xs e; exact ⟨xs, e⟩
  · cases h
theorem ss_app {i : Nat} {x : Str} {is : List Nat} {p1 p2 p3 : Pos} (hi : X.N[i]? = some x) (he : EV X W e da) (hv : Vis X.env.scope x := by first | exact Or.inl rfl | exact Or.inr (Or.inl rfl) | exact Or.inr (Or.inr rfl)) (hd : (x == ("__debug__" : Str)) = false := by decide)
    (hcd : (x == ("__classdict__" : Str)) = false := by decide) (hsw : swapsWith (.Call (.Attribute (.Name x p1) "append" p2) [e] [] p3) none pos.line X.env = pure false := by rfl)
    (hbase : attributeBase (.Name x p1) "append" X.env (eval (.Name x p1) X.env) = eval (.Name x p1) X.env := by rfl)
    (hfew : ((backTo p3 (starEach [e] X.env)).all (fun x => !x.1) && (backToKw p3 (keywordEach [] X.env)).all (fun x => x.1.isSome)
      && decide (([e] : List Expr).length + ([] : List Keyword).length + (if ([] : List Keyword).isEmpty then 0 else 1) < 30)) = true := by rfl)
    (hline : (p2.endLine == p3.line) = true := by rfl) (hs : starEach [e] X.env = (false, eval e X.env) :: starEach [] X.env := by rfl) :
    SV X W (.Expr (.Call (.Attribute (.Name x p1) "append" p2) [e] [] p3) pos) (dApp i is da) :=
  ps_weak (ps_expr (pe_bm PySem.F.plainAttrs_list PySem.F.slot_list_append PySem.F.type_list_append mt_append (pe_var hi hv hd hcd) (pa_cons he pa_nil hs) hbase hfew hline hs rfl) hsw) fun D σ H ⟨G, P, h, q⟩ => by
    unfold dApp at q
    obtain ⟨P1, h1, g⟩ := h.frz is
    split at q
    · rename_i ho
      obtain ⟨xs0, e0⟩ := isOwn_ok ho
      obtain ⟨q1, q2, q3⟩ := bindES q
      obtain ⟨p, vs, ev, ep, eh, rs⟩ := h.sl i _ e0
      refine ⟨.ref p, getD_some ev, .inl ⟨rfl, vs, SqL.of eh⟩, ?_⟩
      refine tF_bind h1 (fun c e H' s => q1 c e H' P1 (g.trans (.same s))) q2 fun t v H1 et s1 h2 r => ?_
      obtain ⟨P2, h3, r3, g3⟩ := after h h1 g s1 r
      have q4 := q3 t et
      unfold appOwn at q4
      split at q4
      · rename_i xs1 e1
        split at q4
        · rename_i hz
          obtain ⟨p', vs', ev', ep', eh', rs'⟩ := h3.sl i _ e1
          rw [ev] at ev'
          cases ev'
          have hl := rs'.length
          obtain ⟨h4, g4⟩ := h3.upOwn e1 ep' (rs'.append (rls_cons.mpr ⟨v, [], rfl, r3, rls_nil.mpr rfl⟩))
          exact ⟨p, vs', v, rfl, rfl, eh', by rw [sizeLine_eq]; omega, q4 σ _ P2 (g3.trans g4) h4⟩
        · exact q4.elim
      · exact q4.elim
    · exact q.elim
theorem ss_setIt {i : Nat} {x : Str} {is : List Nat} {dk : DE} {k : Expr} {p1 p2 : Pos} (hi : X.N[i]? = some x) (hk : EV X W k dk) (he : EV X W e da) (hv : Vis X.env.scope x := by first | exact Or.inl rfl | exact Or.inr (Or.inl rfl) | exact Or.inr (Or.inr rfl)) (hd : (x == ("__debug__" : Str)) = false := by decide)
    (hcd : (x == ("__classdict__" : Str)) = false := by decide)
    (ha : ∀ v, assign (.Subscript (.Name x p1) k p2) X.env v = (do
      let ov ← holding [v] (eval (.Name x p1) X.env)
      let iv ← holding [v, ov] (eval k X.env)
      standAt p2
      holding [v, ov, iv] (setItem ov iv v)
      release [v, ov, iv] []) := by intro _; rfl)
    (hs : swapsWithSole [.Subscript (.Name x p1) k p2] e pos.line X.env = pure false := by rfl) (hw : swappedStores [.Subscript (.Name x p1) k p2] e X.env = pure none := by rfl)
    (h1 : (assignEach [.Subscript (.Name x p1) k p2] X.env).map (·.2) = [assign (.Subscript (.Name x p1) k p2) X.env] := by rfl) :
    SV X W (.Assign [.Subscript (.Name x p1) k p2] e pos) (dSetIt i is dk da) :=
  ps_weak (ps_asg he (pg_sub (pe_var hi hv hd hcd) hk set_list ha) hs hw h1) fun D σ H ⟨G, P, h, q⟩ => by
    unfold dSetIt at q
    obtain ⟨P1, h1, g⟩ := h.frz is
    obtain ⟨q1, q2, q3⟩ := bindES q
    refine tF_bind h1 (fun c e H' s => q1 c e H' P1 (g.trans (.same s))) q2 fun t v H1 et s1 h2 r => ?_
    obtain ⟨P2, h3, r3, g3⟩ := after h h1 g s1 r
    have q4 := q3 t et
    generalize (if scalT t = true then G else frz is G) = G' at h3 q4
    split at q4
    · rename_i ho
      obtain ⟨xs0, e0⟩ := isOwn_ok ho
      obtain ⟨p, vs, ev, ep, eh, rs⟩ := h3.sl i _ e0
      refine ⟨.ref p, getD_some ev, ?_⟩
      obtain ⟨q5, q6, q7⟩ := bindES q4
      refine tF_bind h2 (fun c e H' s => q5 c e H' P1 ((g.trans (.same s1)).trans (.same s))) q6 fun kt kv H2 ek s2 h4 rk => ?_
      have q8 := q7 kt ek
      unfold setOwn at q8
      rw [e0] at q8
      cases kt <;> try exact q8.elim
      rename_i j
      simp only at q8
      cases em : ixP xs0.length j with
      | none => rw [em] at q8; exact q8.elim
      | some m =>
        rw [em] at q8
        have h5 := h3.same s2
        have hl := rs.length
        obtain ⟨p', vs', ev', ep', eh', rs'⟩ := h5.sl i _ e0
        rw [ev] at ev'
        cases ev'
        have hl' := rs'.length
        obtain ⟨h6, g6⟩ := h5.upOwn e0 ep' (rs'.set m (Rl.go (.same s2) t v r3))
        refine ⟨p, vs', j, m, rfl, rl_int.mp rk, eh', by rw [← hl', ← ixP_eq]; exact em, q8 σ _ P2 ((g3.trans (.same s2)).trans g6) h6⟩
    · exact q4.elim
end
end Fx

namespace Fx
open PySem PySem.Spec PyProof.Rows L2

theorem ex_of_ok {P : Program} {w : World} {H : Hp} {h : Heap} {a : Addr} {o : HO} (x : ObjOk P w H h a o) : ∃ ob, h.get? a = some ob := by
  cases o with
  | lst xs => obtain ⟨_, _, _, _, e⟩ := x; exact ⟨_, e⟩
  | tup xs => obtain ⟨_, _, _, o, e, _⟩ := x; exact ⟨_, e⟩
  | dK kvs => obtain ⟨_, _, _, _, o, _, _, e, _⟩ := x; exact ⟨_, e⟩
  | dT kvs => obtain ⟨_, _, _, _, o, _, _, e, _⟩ := x; exact ⟨_, e⟩
  | set S n => obtain ⟨o, _, _, _, e, _⟩ := x; exact ⟨_, e⟩
  | ins C dx fs => obtain ⟨_, _, _, e, _⟩ := x; exact ⟨_, e⟩
  | own y => obtain ⟨_, e⟩ := x; exact ⟨_, e⟩
  | xd fs => obtain ⟨_, ⟨_, _, _, e, _⟩, _⟩ := x; exact ⟨_, e⟩
  | rng lo hi => obtain ⟨_, _, _, e⟩ := x; exact ⟨_, e⟩
  | frz ob u => obtain ⟨e, _⟩ := x; exact ⟨_, e⟩
  | tbl ps => exact ⟨_, show h.get? a = some _ from x⟩
  | met f y => exact ⟨_, show h.get? a = some _ from x⟩
  | ext φ => obtain ⟨_, ⟨_, e⟩, _⟩ := x; exact ⟨_, e⟩
/-! ### an exception under way -/
/-- an address that is none of the context's own -/
structure Alien (X : Cx) (pins : List (Addr × Obj)) (H : Hp) (b : Addr) : Prop where
  young : X.s₀.heap.get? b = none
  loc : b ≠ X.env.locals
  cell : ∀ x c, X.env.cells.lookup x = some c → c ≠ b
  pin : ∀ p ∈ X.pn ++ pins, p.1 ≠ b
  trk : H b = none
  frm : b ∉ frs X.stack
/-- the exception's object; the newest note of a frame and its flight -/
def ExO (h : Heap) (a : Addr) (cv : Value) : Option (Addr × Value) → Prop
  | none => ∃ oe vs a0, h.get? a = some oe ∧ oe.cls = cv ∧ oe.data = .fields vs ∧ vs[0]? = some a0 ∧ vs[1]? = some .none
  | some (T, f) => ∃ oe vs a0 oT ts, h.get? a = some oe ∧ oe.cls = cv ∧ oe.data = .fields vs ∧ vs[0]? = some a0 ∧ vs[1]? = some (.ref T) ∧ T ≠ a ∧ h.get? T = some oT ∧ oT.data = .fields ts ∧ ts[3]? = some f
structure Exc (X : Cx) (pins : List (Addr × Obj)) (σ : L2.St) (H : Hp) (a : Addr) (cv : Value) (n : Option (Addr × Value)) (s : Shared) : Prop where
  inv : Inv X pins σ H s
  al : Alien X pins H a
  ob : ExO s.heap a cv n
  nt : ∀ T f, n = some (T, f) → Alien X pins H T
section
variable {X : Cx} {pins : List (Addr × Obj)} {σ : L2.St} {H H' : Hp} {s : Shared} {h' : Heap} {a T : Addr} {cv fl : Value} {n : Option (Addr × Value)}
/-- the layer's step, where the records that turn need not be young by their number -/
theorem Inv.stepA {t' : Nat} {ch : List Addr} (I : Inv X pins σ H s)
    (hch : ∀ b ∈ ch, X.s₀.heap.get? b = none ∧ b ≠ X.env.locals ∧ (∀ x c, X.env.cells.lookup x = some c → c ≠ b) ∧ ∀ p ∈ X.pn ++ pins, p.1 ≠ b)
    (keep : ∀ b o, b ≠ X.env.locals → b ∉ X.fs → b ∉ ch → s.heap.get? b = some o → H b = none → h'.get? b = some o)
    (slot : ∀ b o, b ≠ X.env.locals → b ∈ X.fs → b ∉ ch → s.heap.get? b = some o → H b = none → ∃ sl, h'.get? b = some { o with slots := sl })
    (there : ∀ b o, b ∉ ch → s.heap.get? b = some o → ∃ o', h'.get? b = some o')
    (ns : ∀ m, s.heap.Ns X.env.locals m → h'.Ns X.env.locals m) (hok : HOk X.prog X.w H h') :
    Inv X pins σ H { s with heap := h', toks := t' } := by
  have neL : ∀ b o, X.s₀.heap.get? b = some o → b ≠ X.env.locals := fun b o e => Nat.ne_of_lt (Nat.lt_of_lt_of_le (Heap.lt_size e) I.ok.above)
  have neC : ∀ b o, X.s₀.heap.get? b = some o → b ∉ X.ex → b ∉ ch := fun b o e hx hb => by
    have z := (hch b hb).1
    rw [e] at z; cases z
  have cellK : ∀ x c, X.env.cells.lookup x = some c → ∀ v, s.heap.IsCell c v → h'.IsCell c v := fun x c e v ⟨o, ho, hd⟩ => by
    have nch : c ∉ ch := fun z => (hch c z).2.2.1 x c e rfl
    by_cases hc : c ∈ X.fs
    · obtain ⟨sl, q⟩ := slot c o (I.cne x c e) hc nch ho (I.freeC x c e)
      exact ⟨_, q, hd⟩
    · exact ⟨o, keep c o (I.cne x c e) hc nch ho (I.freeC x c e), hd⟩
  refine ⟨I.ok, I.os, I.bare, ⟨fun b o e n hb hx => ?_, fun b o e n hb hx => ?_, fun b o e n hx => I.base.free b o e n hx, fun b o e hx => ?_, fun b xs e => I.base.tups b xs e, fun b o xs e => I.base.frzs b o xs e, fun b ps e => I.base.tbls b ps e⟩, ?_, fun x c e => ?_, I.free, fun x c e => I.freeC x c e, fun p hp => ?_, hok, I.len⟩
  · exact keep b o (neL b o e) hb (neC b o e hx) (I.base.keep b o e n hb hx) (I.base.free b o e n hx)
  · obtain ⟨sl, e1⟩ := I.base.slot b o e n hb hx
    obtain ⟨sl', e2⟩ := slot b _ (neL b o e) hb (neC b o e hx) e1 (I.base.free b o e n hx)
    exact ⟨sl', e2⟩
  · obtain ⟨o', e1⟩ := I.base.there b o e hx
    exact there b o' (neC b o e hx) e1
  · obtain ⟨m, hn, hl⟩ := I.loc
    refine ⟨m, ns m hn, fun i x v e1 e2 e3 => ?_⟩
    obtain ⟨u, r, l⟩ := hl i x v e1 e2 e3
    refine ⟨u, r, ?_⟩
    rcases l with l | ⟨k, c, e, z⟩
    · exact .inl l
    · exact .inr ⟨k, c, e, cellK x c e _ z⟩
  · obtain ⟨v, z⟩ := I.cell x c e
    exact ⟨v, cellK x c e v z⟩
  · obtain ⟨e, n, ne, nf, d⟩ := I.pin p hp
    have nch : p.1 ∉ ch := fun z => (hch p.1 z).2.2.2 p hp rfl
    exact ⟨keep p.1 p.2 ne nf nch e n, n, ne, nf, d⟩
/-- the records that were made ahead of the entry are pinned -/
def ExPin (X : Cx) : Prop := ∀ b ∈ X.ex, ∃ o, (b, o) ∈ X.pn
theorem alien_new (hp : ExPin X) (I : Inv X pins σ H s) (e : s.heap.get? a = none) : Alien X pins H a := by
  refine ⟨?_, fun z => ?_, fun x c ec z => ?_, fun p hp z => ?_, ?_, fun z => ?_⟩
  · by_cases hx : a ∈ X.ex
    · obtain ⟨o, ho⟩ := hp a hx
      have := (I.pin (a, o) (List.mem_append_left _ ho)).1
      rw [e] at this; cases this
    · cases q : X.s₀.heap.get? a with
      | none => rfl
      | some o => obtain ⟨o', e'⟩ := I.base.there a o q hx; rw [e] at e'; cases e'
  · obtain ⟨m, ⟨o, _, _, ho, _⟩, _⟩ := I.loc
    rw [← z, e] at ho; cases ho
  · obtain ⟨v, o, ho, _⟩ := I.cell x c ec
    rw [z, e] at ho; cases ho
  · obtain ⟨q, _⟩ := I.pin p hp
    rw [z, e] at q; cases q
  · cases q : H a with
    | none => rfl
    | some o => 
      obtain ⟨o', e'⟩ : ∃ o', s.heap.get? a = some o' := ex_of_ok (I.hok a o q)
      rw [e] at e'; cases e'
  · obtain ⟨_, o, ho, _⟩ := I.stack.mem z
    rw [e] at ho; cases ho
def hid (X : Cx) (a : Addr) : Option (Addr × Value) → List Addr
  | none => a :: frs X.stack
  | some (T, _) => a :: T :: frs X.stack
theorem hid_frs (X : Cx) (a : Addr) (n : Option (Addr × Value)) : ∀ b ∈ frs X.stack, b ∈ hid X a n := by
  intro b hb
  cases n with
  | none => exact List.mem_cons_of_mem _ hb
  | some p => obtain ⟨T, f⟩ := p; exact List.mem_cons_of_mem _ (List.mem_cons_of_mem _ hb)
theorem hid_cases {X : Cx} {a b : Addr} {n : Option (Addr × Value)} (h : b ∈ hid X a n) : b = a ∨ (∃ T f, n = some (T, f) ∧ b = T) ∨ b ∈ frs X.stack := by
  cases n with
  | none =>
    rcases List.mem_cons.mp h with h | h
    · exact .inl h
    · exact .inr (.inr h)
  | some p =>
    obtain ⟨T, f⟩ := p
    rcases List.mem_cons.mp h with h | h
    · exact .inl h
    · rcases List.mem_cons.mp h with h | h
      · exact .inr (.inl ⟨T, f, rfl, h⟩)
      · exact .inr (.inr h)
/-- what is not the exception's own stands as before; the frames but for their slots -/
theorem Exc.moved {t' : Nat} (E : Exc X pins σ H a cv n s) (k1 : (PySem.W.hideAll s.heap (hid X a n)).StaysIn h') (k2 : s.heap.UpToSlots h') : Inv X pins σ H { s with heap := h', toks := t' } := by
  have I := E.inv
  have al : ∀ b, b ∈ hid X a n → b ∉ frs X.stack → Alien X pins H b := fun b hb hf => by
    rcases hid_cases hb with z | ⟨T, f, z1, z2⟩ | z
    · rw [z]; exact E.al
    · rw [z2]; exact E.nt T f z1
    · exact absurd z hf
  have up : ∀ b, b ∈ frs X.stack → ∀ o, s.heap.get? b = some o → ∃ sl, h'.get? b = some { o with slots := sl } := fun b hb o ho => by
    obtain ⟨_, o', ho', hd⟩ := I.stack.mem hb
    rw [ho] at ho'; cases ho'
    exact k2 b o ho hd
  have fsub : ∀ b ∈ X.fs, b ∈ frs X.stack := fun b hb => by
    rcases I.ok.stk with z | ⟨z, _⟩
    · rw [z]; exact hb
    · rw [z]
      unfold frs at *
      simp only [List.filterMap_cons]
      split
      · exact hb
      · exact List.mem_cons_of_mem _ hb
  have stay : ∀ b o, b ∉ hid X a n → s.heap.get? b = some o → h'.get? b = some o := fun b o hb e => k1 b o (PySem.W.hideAll_get _ e hb)
  have trk : ∀ b, H b ≠ none → b ∉ hid X a n := fun b hb hm => by
    by_cases hf : b ∈ frs X.stack
    · exact hb (I.stkFree b hf)
    · exact hb (al b hm hf).trk
  refine Inv.stepA (t' := t') (ch := (hid X a n).filter fun b => decide (b ∉ frs X.stack)) I (fun b hb => ?_) (fun b o hL hf hc e hn => ?_) (fun b o hL hf hc e hn => up b (fsub b hf) o e) (fun b o hc e => ?_) (fun m hm => k2.ns hm) fun b o e => ?_
  · have hb' := List.mem_filter.mp hb
    have A := al b hb'.1 (of_decide_eq_true hb'.2)
    exact ⟨A.young, A.loc, A.cell, A.pin⟩
  · by_cases hm : b ∈ hid X a n
    · by_cases hs : b ∈ frs X.stack
      · rcases List.mem_cons.mp (I.stkSub b hs) with z | z
        · exact absurd z hL
        · exact absurd z hf
      · exact absurd (List.mem_filter.mpr ⟨hm, decide_eq_true hs⟩) hc
    · exact stay b o hm e
  · by_cases hs : b ∈ frs X.stack
    · obtain ⟨sl, q⟩ := up b hs o e; exact ⟨_, q⟩
    · by_cases hm : b ∈ hid X a n
      · exact absurd (List.mem_filter.mpr ⟨hm, decide_eq_true hs⟩) hc
      · exact ⟨o, stay b o hm e⟩
  · refine (I.hok b o e).stay (fun c v hc q => stay c v ?_ q) (fun _ q => q) fun _ _ q => q
    rcases hc with z | z
    · rw [z]; exact trk b (by rw [e]; simp)
    · exact trk c (by rw [z]; simp)
/-- .. and the exception bears a note -/
theorem Exc.noted {t' : Nat} {a0 : Value} (hp : ExPin X) (E : Exc X pins σ H a cv n s) (k1 : (PySem.W.hideAll s.heap (hid X a n)).StaysIn h') (k2 : s.heap.UpToSlots h') (ht : h'.TracedAtW (PySem.W.hideAll s.heap (hid X a n)) a cv a0 fl) :
    ∃ T', Exc X pins σ H a cv (some (T', fl)) { s with heap := h', toks := t' } := by
  obtain ⟨oe, vs, T', oT, ts, he, ⟨hc, h0⟩, hd, h1, hn, hne, hT, hdT, h3⟩ := ht
  have I := E.inv
  refine ⟨T', E.moved k1 k2, E.al, ⟨oe, vs, a0, oT, ts, he, hc, hd, h0, h1, hne, hT, hdT, h3⟩, fun T f q => ?_⟩
  cases q
  cases q : s.heap.get? T' with
  | none => exact alien_new hp I q
  | some o =>
    have hm : T' ∈ hid X a n := Classical.byContradiction fun z => by
      rw [PySem.W.hideAll_get _ q z] at hn; cases hn
    rcases hid_cases hm with z | ⟨T, f, z1, z2⟩ | z
    · exact absurd z hne
    · rw [z2]; exact E.nt T f z1
    · obtain ⟨_, o', ho', hd'⟩ := I.stack.mem z
      obtain ⟨sl, hs⟩ := k2 T' o' ho' hd'
      rw [hT] at hs
      cases hs
      exact absurd hdT (hd' ts)
theorem fun_hid {as : List Addr} {base h : Heap} : ∀ {l : List Env}, h.FunFrames base l → (∀ b ∈ frs l, b ∈ as) → h.FunFrames (PySem.W.hideAll h as) l := fun {l} hf hs =>
  PySem.W.funFrames_hide hf fun env he b hb => hs b (List.mem_filterMap.mpr ⟨env, he, hb⟩)
theorem hide_stays {h : Heap} {as : List Addr} : (PySem.W.hideAll h as).StaysIn h := fun b o e => PySem.W.of_hideAll as e
/-- a frame's own env stands for the block's -/
theorem note_frame {v : Value} {e1 e2 : Env} (h : e1.frame = e2.frame) : noteFrame v e1 = noteFrame v e2 := by
  unfold noteFrame PySem.frameOf
  rw [h]
/-- the frame in which the context runs -/
structure InFrame (X : Cx) (L : Addr) : Prop where
  pin : ExPin X
  ex : ∃ e0 rest, X.stack = e0 :: rest ∧ e0.frame = some L
  env : X.env.frame = some L
/-- its note is written -/
theorem Exc.setT {f v : Value} {Q : Unit → Shared → Prop} {Ee : Value → Shared → Prop} (E : Exc X pins σ H a cv (some (T, f)) s) (q : ∀ s', Exc X pins σ H a cv (some (T, v)) s' → Q () s') : wpAny (model X.prog X.w) X.A (setField (.ref T) 3 v) Q Ee s := by
  obtain ⟨oe, vs, a0, oT, ts, he, hc, hd, h0, h1, hne, hT, hdT, h3⟩ := E.ob
  have hz : 3 < ts.size := (Array.getElem?_eq_some_iff.mp h3).1
  refine wpAny_setField hT hdT hz (q _ ?_)
  have other : ∀ b, b ≠ T → (s.heap.update T (Obj.mapFields (·.setIfInBounds 3 v))).get? b = s.heap.get? b := fun b hb => Heap.get?_update_other _ _ (Ne.symm hb)
  have self := Heap.get?_update_self (Obj.mapFields (·.setIfInBounds 3 v)) hT (Obj.isFreed_of_fields (Obj.data_mapFields hdT _))
  have A := E.nt T f rfl
  refine ⟨E.moved (t' := s.toks) (fun b o e => ?_) (fun b o e hn => ?_), E.al, ⟨oe, vs, a0, _, _, (other a (Ne.symm hne)).trans he, hc, hd, h0, h1, hne, self, Obj.data_mapFields hdT _, by simp [hz]⟩, fun T' f' z => by cases z; exact A⟩
  · have hb : b ≠ T := fun z => by
      have hh : (PySem.W.hideAll s.heap (hid X a (some (T, f)))).get? T = none := PySem.W.hideAll_none (hid X a (some (T, f))) (List.mem_cons_of_mem _ List.mem_cons_self)
      rw [z, hh] at e; cases e
    exact (other b hb).trans (PySem.W.of_hideAll _ e)
  · have hb : b ≠ T := fun z => by rw [z, hT] at e; cases e; exact hn ts hdT
    exact ⟨o.slots, (other b hb).trans e⟩
theorem ExO.first {h : Heap} {a : Addr} {cv : Value} {n : Option (Addr × Value)} (x : ExO h a cv n) : ∃ oe vs a0 b1, h.get? a = some oe ∧ oe.cls = cv ∧ oe.data = .fields vs ∧ vs[0]? = some a0 ∧ vs[1]? = some b1 := by
  cases n with
  | none => obtain ⟨oe, vs, a0, h1, h2, h3, h4, h5⟩ := x; exact ⟨oe, vs, a0, _, h1, h2, h3, h4, h5⟩
  | some p => obtain ⟨T, f⟩ := p; obtain ⟨oe, vs, a0, _, _, h1, h2, h3, h4, h5, _⟩ := x; exact ⟨oe, vs, a0, _, h1, h2, h3, h4, h5⟩
/-- a new note -/
theorem Exc.entry (hp : ExPin X) {L : Addr} {e0 : Env} {rest : List Env} {head : Value} {hadNext : Bool} {Q : Unit → Shared → Prop} {Ee : Value → Shared → Prop} (hst : X.stack = e0 :: rest) (hf : e0.frame = some L) (E : Exc X pins σ H a cv n s)
    (q : ∀ T' s', Exc X pins σ H a cv (some (T', rawInt L)) s' → Q () s') :
    wpAny (model X.prog X.w) X.A (do let fr ← PySem.frameOf e0; let pl ← entryPlaceOf L hadNext; let b ← EntryCells.newEntry head fr .none (rawInt L) .none pl; setField (.ref a) 1 b) Q Ee s := by
  have hfr : X.A.frames = some (e0 :: rest) := by rw [← hst]; exact E.inv.ok.frames
  have fun0 : s.heap.FunFrames (PySem.W.hideAll s.heap (hid X a n)) (e0 :: rest) := by rw [← hst]; exact fun_hid E.inv.stack (hid_frs X a n)
  have hen : (PySem.W.hideAll s.heap (hid X a n)).get? a = none := PySem.W.hideAll_none _ (by cases n with | none => exact List.mem_cons_self | some p => exact List.mem_cons_self)
  obtain ⟨oe, vs, a0, b1, he, hc, hd, h0, h1⟩ := E.ob.first
  refine wpAny_entryW hfr fun0 hf he hide_stays hen hd (Array.getElem?_eq_some_iff.mp h1).1 h0 fun h' x => ?_
  rw [hc] at x
  obtain ⟨k1, k2, k3, k4⟩ := x
  obtain ⟨T', x⟩ := E.noted (t' := s.toks) hp k1 k4 k3
  exact q T' _ x
/-- the frame notes the exception -/
theorem Exc.note {L : Addr} {Q : Unit → Shared → Prop} {Ee : Value → Shared → Prop} (F : InFrame X L) (E : Exc X pins σ H a cv n s)
    (q : ∀ T' s', Exc X pins σ H a cv (some (T', rawInt L)) s' → Q () s') : wpAny (model X.prog X.w) X.A (noteFrame (.ref a) X.env) Q Ee s := by
  obtain ⟨e0, rest, hst, hf⟩ := F.ex
  rw [note_frame (e1 := X.env) (e2 := e0) (by rw [F.env, hf])]
  unfold noteFrame
  simp only [hf]
  cases n with
  | none =>
    obtain ⟨oe, vs, a0, he, hc, hd, h0, h1⟩ := E.ob
    refine wpAny_bind (wpAny_field he hd h1 ?_)
    rw [if_neg (by decide)]
    exact E.entry F.pin hst hf q
  | some p =>
    obtain ⟨T, f⟩ := p
    obtain ⟨oe, vs, a0, oT, ts, he, hc, hd, h0, h1, hne, hT, hdT, h3⟩ := id E.ob
    refine wpAny_bind (wpAny_field he hd h1 ?_)
    rw [if_pos (show (Value.ref T != Value.none) = true from by simp)]
    refine wpAny_bind (wpAny_field hT hdT h3 ?_)
    by_cases hfl : (f == rawInt L) = true
    · rw [if_pos hfl]
      refine wpAny_pure (q T s ?_)
      have : f = rawInt L := by simpa using hfl
      rw [← this]
      exact E
    · rw [if_neg hfl]
      exact wpAny_bind (E.setT fun s1 E1 => E1.entry F.pin hst hf q)
/-- its flight is set -/
theorem Exc.flight {f : Value} {fr : Option Addr} {Q : Unit → Shared → Prop} {Ee : Value → Shared → Prop} (E : Exc X pins σ H a cv (some (T, f)) s)
    (q : ∀ s', Exc X pins σ H a cv (some (T, fr.elim .none fun f => rawInt f)) s' → Q () s') : wpAny (model X.prog X.w) X.A (setFlight (.ref a) fr) Q Ee s := by
  obtain ⟨oe, vs, a0, oT, ts, he, hc, hd, h0, h1, hne, hT, hdT, h3⟩ := id E.ob
  unfold setFlight
  refine wpAny_bind (wpAny_field he hd h1 ?_)
  rw [if_pos (show (Value.ref T != Value.none) = true from by simp)]
  exact E.setT q
/-- it leaves the frame -/
theorem Exc.leave {L : Addr} {Q : Unit → Shared → Prop} {Ee : Value → Shared → Prop} (F : InFrame X L) (E : Exc X pins σ H a cv n s)
    (q : ∀ T' s', Exc X pins σ H a cv (some (T', .none)) s' → Q () s') : wpAny (model X.prog X.w) X.A (leaving X.env (.ref a)) Q Ee s := by
  unfold leaving
  exact wpAny_bind (E.note F fun T' s1 E1 => E1.flight (fr := none) fun s2 E2 => q T' s2 E2)
/-- it is passed on -/
theorem Exc.pass {α : Type} {w : String} {f : Value} {env : Env} {Q : α → Shared → Prop} {Ee : Value → Shared → Prop} (E : Exc X pins σ H a cv (some (T, f)) s)
    (q : ∀ fl s', Exc X pins σ H a cv (some (T, fl)) s' → Ee (.ref a) s') : wpAny (model X.prog X.w) X.A (PySem.passOn w (.ref a) env : Sem α) Q Ee s := by
  obtain ⟨oe, vs, a0, oT, ts, he, hc, hd, h0, h1, hne, hT, hdT, h3⟩ := id E.ob
  unfold PySem.passOn
  refine wpAny_bind (wpAny_field he hd h1 ?_)
  rw [if_neg (show ¬ ((Value.ref T == Value.none) = true) from Bool.false_ne_true)]
  exact wpAny_bind (E.flight fun s1 E1 => wpAny_throw (q _ _ E1))
end
end Fx

namespace Fx
open PySem PySem.Spec PyProof.Rows L2

/-- an exception of some class is under way, and W is true of the class and the heap -/
def XE (X : Cx) (cl : Str → Value) (W : Str → Hp → Prop) : Value → Shared → Prop := fun e s => ∃ a c pins σ H n, e = .ref a ∧ Exc X pins σ H a (cl c) n s ∧ W c H
abbrev Cx.xw (X : Cx) (cl : Str → Value) (W : Str → Hp → Prop) : Cx := X.wish (XE X cl W)
/-- behind a call that raised -/
def CX1 (P : Program) (w : World) : CXT := fun outer H s E e s' => ∃ a cv T H', e = .ref a ∧ s'.os = s.os ∧ AllBare s'.gens ∧ Un (frs outer) [] H H' s.heap s'.heap ∧ HOk P w H' s'.heap ∧ H' a = none ∧ H' T = none ∧
  s.heap.get? a = none ∧ s.heap.get? T = none ∧ ExO s'.heap a cv (some (T, .none)) ∧ E cv none H'
section
variable {X : Cx} {cl : Str → Value} {W : Str → Hp → Prop} {pins : List (Addr × Obj)} {σ : L2.St} {H H' : Hp} {s s' : Shared} {a : Addr}
theorem Alien.to (A : Alien X pins H a) (e : H' a = none) : Alien X pins H' a := ⟨A.young, A.loc, A.cell, A.pin, e, A.frm⟩
/-- the exception of a callee, seen from its caller -/
theorem exc_of_call (hp : ExPin X) {E : XK} {e : Value} (I : Inv X pins σ H s) (h : CX1 X.prog X.w X.stack H s E e s') : ∃ a cv T H', e = .ref a ∧ Exc X pins σ H' a cv (some (T, .none)) s' ∧ E cv none H' := by
  obtain ⟨a, cv, T, H', rfl, os, bare, un, hok, ha, hT, na, nT, ob, hE⟩ := h
  obtain ⟨hh, g, d, t, os'⟩ := s'
  obtain rfl : os' = s.os := os
  refine ⟨a, cv, T, H', rfl, ⟨I.call (h' := hh) (g' := g) (d' := d) (t' := t) (ch := []) un hok bare (fun b z => absurd z (by simp)), (alien_new hp I na).to ha, ob, fun T' f z => ?_⟩, hE⟩
  cases z
  exact (alien_new hp I nT).to hT
theorem pass_xw (hp : ExPin X) : Passes (CX1 X.prog X.w) (Cx.xw X cl W) (EX (some cl) W) := fun pins σ H s e s' I h => by
  obtain ⟨a, cv, T, H', rfl, x, c, f, e1, rfl, hw⟩ := exc_of_call hp I.unwish h
  cases e1
  exact ⟨a, c, pins, σ, H', _, rfl, x, hw⟩
/-- a loop's own activation passes it on -/
theorem passes_own {L : Addr} (F : InFrame X L) : PassesOwn (model X.prog X.w) X.A X.env (XE X cl W) := fun e s h => by
  obtain ⟨a, c, pins, σ, H, n, rfl, x, hw⟩ := h
  refine x.note F fun T s1 x1 => ?_
  obtain ⟨oe, vs, a0, oT, ts, he, hc, hd, h0, h1, _⟩ := id x1.ob
  show wpAny _ _ _ _ _ _
  refine wpAny_bind (wpAny_field he hd h1 ?_)
  rw [if_neg (show ¬ ((Value.ref T == Value.none) = true) from Bool.false_ne_true)]
  refine x1.flight (fr := X.env.frame) fun s2 x2 => ?_
  rw [F.env] at x2
  exact ⟨a, c, pins, σ, H, _, rfl, x2, hw⟩
end
/-- a def that may raise, by its name -/
structure Clx (P : Program) (w : World) (K : PySem.W.Frag) (mg : Str → Option Value) (base : Heap) (cl : Str → Value) (k : Nat) (x : Str) (np : Nat) (f : DF) : Prop where
  ex : ∃ (fa : Addr) (fd : FuncData) (ps : List Str), FnOk P w K mg base (CX1 P w) k fa fd ps (spF K (some cl) np f) ∧ mg x = some (.ref fa) ∧ PySem.W.keepIn K (.ref fa) = true ∧ Binds K fd ps []
theorem Clx.cal {X : Cx} {cl : Str → Value} {W : Str → Hp → Prop} {k np : Nat} {x : Str} {f : DF} (hp : ExPin X) (C : Clx X.prog X.w X.K X.mg X.base cl k x np f) : Cal (Cx.xw X cl W) W (some cl) k x np f := by
  obtain ⟨fa, fd, ps, F, hm, hk, hb⟩ := C.ex
  exact ⟨⟨CX1 X.prog X.w, fa, fd, ps, F, hm, hk, hb, pass_xw hp⟩, fun z => by cases z⟩
theorem Clx.mono {P : Program} {w : World} {K : PySem.W.Frag} {mg : Str → Option Value} {base : Heap} {cl : Str → Value} {j k np : Nat} {x : Str} {f : DF} (C : Clx P w K mg base cl j x np f) (h : j ≤ k) : Clx P w K mg base cl k x np f := by
  obtain ⟨fa, fd, ps, F, r⟩ := C.ex
  exact ⟨⟨fa, fd, ps, F.mono h, r⟩⟩
theorem pss_xe {X : Cx} {E' : Value → Shared → Prop} {st : List Stmt} {t : TS} (h : PSs (X.wish E') st t) (hx : ∀ e s, E' e s → X.xe e s) : PSs X st t := fun pins s σ H D I hw =>
  wpAny_mono (h pins s σ H D (I.wish _) hw) (fun _ _ q => q.unwish) hx
section
variable {P : Program} {w : World} {K : PySem.W.Frag} {mg : Str → Option Value} {base : Heap}
theorem frame_of {CX : CXT} {N : List Str} {qual : Str} {scope : Scope} {f : Addr} {cdv : Value} {A : Around} {outer : List Env} {s : Shared} {H : Hp} {E : XK} : InFrame (cxOf CX P w K mg base N qual scope f cdv A outer s H E) s.heap.objs.size :=
  ⟨fun b z => absurd (show b ∈ ([] : List Addr) from z) (by simp), ⟨_, _, rfl, rfl⟩, rfl⟩
/-- THE RULE for a def that may raise -/
theorem fn_okX {cl : Str → Value} {x qual : Str} {st : Stmt} {f : Addr} {fd : FuncData} {N ps : List Str} {k np : Nat} {d : DS} (F : Fun K x qual st f fd) (S : FnScope N ps (defScope st)) (hnp : ps.length = np)
    (hb : ∀ (cdv : Value) (A : Around) (outer : List Env) (s : Shared) (H : Hp) (E : XK) (W : Str → Hp → Prop), Room k (A.deeper (envOfC qual (defScope st) s.heap.objs.size f cdv)) →
      SVs (Cx.xw (cxOf (CX1 P w) P w K mg base N qual (defScope st) f cdv A outer s H E) cl W) W (defBody st) d) : FnOk P w K mg base (CX1 P w) (k + 1) f fd ps (spF K (some cl) np (runF N.length np d)) := by
  obtain ⟨oc, od, kV, doc, pm, an, cdv, ct, osl, rfl, lk, hcd⟩ := F.ex
  refine fn_of lk hcd S (fun vs H Q E h => by rw [hnp]; exact h.1) fun A outer s H vs Q E hr h => ⟨_, pss_xe (hb cdv A outer s H E (fun c H' => E (cl c) none H') hr) (fun e s1 hx => ?_), ?_⟩
  · obtain ⟨a, c, pins, σ, H', n, rfl, x, hw⟩ := hx
    refine x.leave frame_of fun T s2 x2 => ?_
    refine ⟨a, cl c, T, H', rfl, x2.inv.os, x2.inv.bare, x2.inv.base, x2.inv.hok, x2.al.trk, (x2.nt T _ rfl).trk, x2.al.young, (x2.nt T _ rfl).young, x2.ob, hw⟩
  · obtain ⟨hl, ts, P', rs, ho, hf, q⟩ := h
    have hlt : ts.length = np := by rw [rs.length]; exact hl
    refine ⟨_, P', hol_start rs ho hf, ?_⟩
    unfold runF at q
    rw [if_pos hlt] at q
    have en : N.length - np = N.length - ts.length := by rw [hlt]
    rw [en] at q
    have sm : ∀ H' P2, Go H P' H' P2 → Same H H' := fun H' P2 g b o e => (g.1 b o e fun i => by rw [ho i]; exact fun z => by cases z).1
    have bk : ∀ H' P2, Go H P' H' P2 → Tr H' P2 H' P' := fun H' P2 g b o e z => ⟨e, fun i => by rw [ho i]; exact fun z => (by cases z), by rw [← g.2]; exact z.2⟩
    cases e : d (ts.map .val ++ List.replicate (N.length - ts.length) .emp) with
    | stuck => rw [e] at q; exact q.elim
    | exc c => rw [e] at q; exact fun H' P2 g => q none H' (sm H' P2 g)
    | ok o =>
      rw [e, Res.bind_ok] at q
      cases o with
      | nx G => exact fun σ' H' P2 g h' => q .non H' (sm H' P2 g) (rl_none.mpr rfl)
      | rt t => exact fun v H' P2 g r => q v H' (sm H' P2 g) (Rl.go (bk H' P2 g) t v r)
      | bk G => exact q.elim
      | ct G => exact q.elim
theorem clx_of {cl : Str → Value} {x : Str} {st : Stmt} {fa : Addr} {fd : FuncData} {N ps : List Str} {k n np : Nat} {d : DS} (F : Fun K x x st fa fd) (hm : mg x = some (.ref fa)) (b : Binds K fd ps []) (S : FnScope N ps (defScope st)) (hnp : ps.length = np) (hN : N.length = n)
    (hb : ∀ (cdv : Value) (A : Around) (outer : List Env) (s : Shared) (H : Hp) (E : XK) (W : Str → Hp → Prop), Room k (A.deeper (envOfC x (defScope st) s.heap.objs.size fa cdv)) →
      SVs (Cx.xw (cxOf (CX1 P w) P w K mg base N x (defScope st) fa cdv A outer s H E) cl W) W (defBody st) d) : Clx P w K mg base cl (k + 1) x np (runF n np d) := by
  subst hN
  exact ⟨⟨fa, fd, ps, fn_okX F S hnp hb, hm, F.kp, b⟩⟩
end

/-! ### raise C(..) -/
/-- what the module knows of an own class of exceptions -/
structure XCls (K : PySem.W.Frag) (mg : Str → Option Value) (x : Str) (C : Addr) : Prop where
  bd : mg x = some (.ref C)
  ex : PySem.W.excIn K C [.type "ValueError", .type "Exception", .type "BaseException", .type "object"] "ValueError.__new__" = true
theorem XCls.obj {K : PySem.W.Frag} {mg : Str → Option Value} {x : Str} {C : Addr} {h : Heap} (c : XCls K mg x C) (k : K.In h) : OwnCls x C [.type "ValueError", .type "Exception", .type "BaseException", .type "object"] "ValueError.__new__" mg h := by
  refine ⟨c.bd, ?_⟩
  have q := c.ex
  unfold PySem.W.excIn at q
  split at q
  · rename_i d0 cdat slts look
    split at q
    · rename_i C1 tl a0 a1 a2 a3 nid a5 em es
      simp only [Bool.and_eq_true, beq_iff_eq, Bool.not_eq_true'] at q
      obtain ⟨⟨⟨⟨⟨q1, q2⟩, q3⟩, q4⟩, q5⟩, q6⟩ := q
      obtain ⟨c1, c2, c3, c4, c5, c6, c7, c8, c9, c10, c11⟩ := cdat
      dsimp only at em q3 q5 q6
      subst em q3 q1 q2
      obtain ⟨lst⟩ := slts
      dsimp only at es
      subst es
      exact ⟨tl, c4, c1, c5, c2, c6, c7, c8, c9, c10, d0, a0, a1, a2, a3, a5, _, k _ _ look, .of_isNs (PySem.W.isNs_of_in k q5), PySem.W.nsMap_none_of_in k q5 q6, PySem.W.tail_of_in k q4⟩
    · cases q
  · cases q
section
variable {X : Cx} {cl : Str → Value} {W : Str → Hp → Prop} {e : Expr} {es : List Expr} {d : DA} {pos : Pos}
theorem ss_raise {x : Str} {C : Addr} {np cpos : Pos} (hp : ExPin X) (c : XCls X.K X.mg x C) (hcl : cl x = .ref C) (ha : AV (Cx.xw X cl W) W (e :: es) d) (hg : Gl X x) (hc : X.calm = true := by rfl) (hdb : (x == ("__debug__" : Str)) = false := by decide)
    (he : starEach (e :: es) X.env = (false, eval e X.env) :: starEach es X.env := by rfl) (hpl : (backTo cpos (starEach es X.env)).any (·.1) = false := by rfl)
    (hln : ∀ G ts, d G = .ok ts → ts.length ≤ 4 := by intro G ts h; have := len_c1 G ts h; omega) :
    SV (Cx.xw X cl W) W (.Raise (some (.Call (.Name x np) (e :: es) [] cpos)) none pos) (dRaise x d) := by
  intro pins s σ H D I ⟨G, P, h, q⟩
  unfold dRaise at q
  obtain ⟨h', g⟩ := h.frzA
  obtain ⟨q1, q2, q3⟩ := bindAS q
  obtain ⟨tl, N, nm, qn, bs, hd, sn, sb, ab, co, dd, k0, k1, k2, k3, k5, mN, hC, hN, hni, tail⟩ := (c.obj I.mod.kin).obj
  refine wpAny_Raise_call_subT (C := C) (nm := nm) (q := qn) (N := N) (bs := bs) (bm := tl) (hdct := hd) (sn := sn) (sub := sb) (ab := ab) (col := co) (dd := dd) (k0 := k0) (k1 := k1) (k2 := k2) (k3 := k3) (k5 := k5)
    PySem.F.excBase_ValueError (mN := mN) (tail.hasType PySem.F.excBase_ValueError.hasBase) (I.ok.hd hc) (by rw [show starEach (e :: es) (Cx.xw X cl W).env = _ from he]; show (false || (backTo cpos (starEach es X.env)).any (·.1)) = false; rw [hpl]; rfl) hni (ld_glob I hg c.bd ⟨rfl, ?_⟩ hdb)
  have hA := ha cpos pins s σ H (fun vs H2 => vs.length ≤ 4 ∧ W x H2) I ⟨frzA G, P.bare, h', ?_⟩
  · rw [show starEach (e :: es) (Cx.xw X cl W).env = _ from he] at hA ⊢
    refine Calls.evalArgs_plain (wpAny_mono hA (fun us s2 ⟨vs, H2, I2, r2, hl, hw⟩ => ?_) fun _ _ z => z)
    have hl2 := r2.length
    refine ⟨rfl, by show us.length ≤ sizeLine; rw [sizeLine_eq]; omega, I2.bk _ _ hC, hN.keeps I2.bk, tail.keeps I2.bk, fun h2 a mk => ?_⟩
    obtain ⟨t, ho, _, _⟩ := mk.there
    refine ⟨a, x, pins, σ, H2, none, rfl, ⟨I2.unwish.kept (t' := s2.toks) mk.keeps, alien_new hp I2.unwish mk.new, ⟨_, _, .ref t, ho, hcl.symm, rfl, rfl, rfl⟩, fun T f z => by cases z⟩, hw⟩
  · cases ed : d (frzA G) with
    | stuck => exact absurd ed q2
    | exc c' => exact fun H2 sm => q1 c' ed H2 P.bare (g.trans (.same sm))
    | ok ts => exact fun vs H2 sm rs => ⟨by rw [← rs.length]; exact hln _ _ ed, q3 ts ed H2 P.bare (g.trans (.same sm))⟩
end
end Fx

namespace Fx
open PySem PySem.Spec PyProof.Rows L2
section
variable {X : Cx} {cl : Str → Value} {W : Str → Hp → Prop} {L : Addr} {scope : Scope} {N : List Str}
theorem frame_c {s₀ : Shared} {H₀ : Hp} {ex : List Addr} {pn : List (Addr × Obj)} (F : InFrame X L) (hp : ∀ b ∈ ex, ∃ o, (b, o) ∈ pn) : InFrame (cxC X scope N s₀ H₀ ex pn) L := ⟨hp, F.ex, F.env⟩
theorem InFrame.wish {E : Value → Shared → Prop} (F : InFrame X L) : InFrame (X.wish E) L := ⟨F.pin, F.ex, F.env⟩
theorem compx_xw (F : InFrame X L) : CompX (Cx.xw X cl W) scope N (fun Y => XE Y cl W) := by
  intro pins σ H3 s3 fp pn e s' I3 hf pnn hx
  obtain ⟨a, c, pins', σ', H', n, rfl, x, hw⟩ := hx
  refine Exc.note (X := cxC (Cx.xw X cl W) scope N s3 H3 fp pn) (L := L) (frame_c (InFrame.wish F) pnn) x fun T s1 x1 => ?_
  obtain ⟨m, hm, _⟩ := x1.inv.loc
  refine ⟨m, hm, fun h' hsb cenv hc => ?_⟩
  have J : Inv (cxC (Cx.xw X cl W) scope N s3 H3 fp) (pn ++ pins') σ' H' s1 := inv_np (x1.inv.wish fun _ _ => False)
  have I0 : Inv X pins σ H' s1 := (CompOk.stop I3 (fun b hb => (hf b hb).1) J).unwish
  have al : ∀ b, Alien (cxC (Cx.xw X cl W) scope N s3 H3 fp pn) pins' H' b → Alien X pins H' b := fun b A => (alien_new F.pin I3.unwish A.young).to A.trk
  have fo : FpOk X pins H' s3.heap.objs.size := I3.unwish.fpOk (Nat.le_refl _) x1.inv.free
  have ne : ∀ b, Alien (cxC (Cx.xw X cl W) scope N s3 H3 fp pn) pins' H' b → h'.get? b = s1.heap.get? b := fun b A => hsb.2 b A.loc
  have aT := x1.nt T _ rfl
  have x2 : Exc X pins σ H' a (cl c) (some (T, rawInt L)) { s1 with heap := h' } := by
    refine ⟨atC I0 fo hsb, al a x1.al, ?_, fun T' f z => by cases z; exact al T aT⟩
    obtain ⟨oe, vs, a0, oT, ts, he, hc, hd, h0, h1, hne, hT, hdT, h3⟩ := x1.ob
    exact ⟨oe, vs, a0, oT, ts, (ne a x1.al).trans he, hc, hd, h0, h1, hne, (ne T aT).trans hT, hdT, h3⟩
  exact x2.pass fun fl s2 x3 => ⟨a, c, pins, σ, H', _, rfl, x3, hw⟩
end
end Fx

namespace Fx
open PySem PySem.Spec PyProof.Rows L2
/-! ### an except suite's context -/
def cxH (X : Cx) (a : Addr) : Cx := { X with A := X.A.mark (some (.ref a)), calm := false, xe := fun _ _ => False }
section
variable {X : Cx} {pins : List (Addr × Obj)} {σ : L2.St} {H H' : Hp} {s s' : Shared} {a : Addr} {cv : Value} {n : Option (Addr × Value)} {cl : Str → Value} {W : Str → Hp → Prop} {L : Addr}
theorem inv_h (I : Inv X pins σ H s) : Inv (cxH X a) pins σ H s :=
  ⟨⟨I.ok.mod, I.ok.kind, I.ok.glob, I.ok.blt, I.ok.above, I.ok.inj, I.ok.has, I.ok.cab, fun z => (by cases z), I.ok.frames, I.ok.stk, I.ok.exf, I.ok.bs, I.ok.bsz, I.ok.noex, I.ok.exfs, I.ok.funs, I.ok.frf⟩, I.os, I.bare, I.base, I.loc, I.cell, I.free, I.freeC, I.pin, I.hok, I.len⟩
theorem inv_oh (ok : X.Ok) (I : Inv (cxH X a) pins σ H s) : Inv X pins σ H s := ⟨ok, I.os, I.bare, I.base, I.loc, I.cell, I.free, I.freeC, I.pin, I.hok, I.len⟩
theorem exc_h (x : Exc X pins σ H a cv n s) : Exc (cxH X a) pins σ H a cv n s := ⟨inv_h x.inv, ⟨x.al.young, x.al.loc, x.al.cell, x.al.pin, x.al.trk, x.al.frm⟩, x.ob, fun T f z => let A := x.nt T f z; ⟨A.young, A.loc, A.cell, A.pin, A.trk, A.frm⟩⟩
theorem exc_oh (ok : X.Ok) (x : Exc (cxH X a) pins σ H a cv n s) : Exc X pins σ H a cv n s := ⟨inv_oh ok x.inv, ⟨x.al.young, x.al.loc, x.al.cell, x.al.pin, x.al.trk, x.al.frm⟩, x.ob, fun T f z => let A := x.nt T f z; ⟨A.young, A.loc, A.cell, A.pin, A.trk, A.frm⟩⟩
theorem sp_oh {D : Ends} {f : Flow} (ok : X.Ok) (h : SP (cxH X a) pins D f s') : SP X pins D f s' := by
  cases f with
  | next => obtain ⟨σ', H', I, q⟩ := h; exact ⟨σ', H', inv_oh ok I, q⟩
  | brk => obtain ⟨σ', H', I, q⟩ := h; exact ⟨σ', H', inv_oh ok I, q⟩
  | cont => obtain ⟨σ', H', I, q⟩ := h; exact ⟨σ', H', inv_oh ok I, q⟩
  | ret u => obtain ⟨v, σ', H', I, r, q⟩ := h; exact ⟨v, σ', H', inv_oh ok I, r, q⟩

/-! ### the class of an exception -/
theorem exc_match {K : PySem.W.Frag} {M : Model} {A : Around} {E : Value → Shared → Prop} {mg : Str → Option Value} {x : Str} {C C' : Addr} {ob : Obj} {Q : Bool → Shared → Prop} (k : K.In s.heap) (c : XCls K mg x C') (ho : s.heap.get? a = some ob) (hc : ob.cls = .ref C)
    (hsub : PySem.W.subIn K (.ref C) (.ref C') = some true) (q : Q true s) : wpAny M A (excMatches (.ref a) (.ref C')) Q E s := by
  obtain ⟨tl, N, nm, qn, bs, hd, sn, sb, ab, co, dd, k0, k1, k2, k3, k5, mN, hC, hN, hni, tail⟩ := (c.obj k).obj
  have hB : (Value.ref C' :: tl).contains (.type "BaseException") = true := by rw [List.contains_cons, tail.hasType PySem.F.excBase_ValueError.hasBase, Bool.or_true]
  have nt := tc_notTuple
  obtain ⟨hp, g, d, tk, os⟩ := s
  unfold excMatches
  repeat (first | (with_reducible refine wpAny_loadPart_at ho ?_; rw [hc]) | with_reducible refine wpAny_loadPart_at hC ?_ | (with_reducible refine wpAny_isSubtype_exc hC ?_; rw [hB]) | (refine (PySem.W.looks_subIn k hsub).at ?_) | wp_step)
  exact q
/-! ### isinstance(e, ValueError), int(b) -/
theorem isi_exc {x : Addr} {A : Around} {Ee : Value → Shared → Prop} {Q : Value → Shared → Prop} (I : Inv X pins σ H s) (h : H x = some (XO X.K x)) (q : Q (.bool true) s) : wpAny (model X.prog X.w) A (call (.builtin "isinstance") [.ref x, .type "ValueError"]) Q Ee s := by
  obtain ⟨⟨ob, C, ho, hc, hs⟩, _, _⟩ := I.hok x _ h
  have lt : PySem.W.Looks (model X.prog X.w) s.heap (typeOf (.ref x)) (.ref C) := hc ▸ (PySem.W.Looks.ld ho).andThen .now
  have li : PySem.W.Looks (model X.prog X.w) s.heap (isInstance (.ref x) (.type "ValueError")) true := lt.andThen (PySem.W.looks_subIn I.kIn hs)
  refine call_isinstance_of ?_ (by intro e; cases e)
  unfold Builtin.«isinstance.nested»
  refine wpAny_bind (lt.at ?_)
  rw [if_neg (show ¬ ((Value.ref C == Value.type "ValueError") = true) from Bool.false_ne_true)]
  refine wpAny_bind (wpAny_of_eq (a := Value.type "type") (PySem.W.kitMeta_of (by decide +kernel)) ?_)
  rw [if_pos (by decide)]
  k_delta "plainIsInstance"
  refine wpAny_bind (wpAny_bind (wpAny_of_eq (a := true) rfl ?_))
  simp only [Bool.not_true, Bool.false_eq_true, if_false]
  refine wpAny_bind (li.at ?_)
  simp only [if_true]
  exact wpAny_pure (wpAny_pure q)
theorem call_isx : CallR X (.builtin "isinstance") (fun xs H Q => ∃ x, xs = [.ref x, .ty "ValueError"] ∧ H x = some (XO X.K x) ∧ Q (.bl true) H) := by
  intro pins s σ H xs us Q I r h
  obtain ⟨x, rfl, hx, q⟩ := h
  obtain ⟨u, w', rfl, ru, rw'⟩ := vals2 r
  cases ru
  cases rw'
  exact isi_exc I hx ⟨.bl true, H, I, rfl, q⟩
theorem ev_isx {ex : Expr} {da : DE} {p p2 pos : Pos} (hg : Gl X "isinstance") (hm : X.mg "isinstance" = none) (hg2 : Gl X "ValueError") (hm2 : X.mg "ValueError" = none) (ha : EV X W ex da)
    (hs : starEach [ex, .Name "ValueError" p2] X.env = (false, eval ex X.env) :: starEach [.Name "ValueError" p2] X.env := by rfl) (hs2 : starEach [.Name "ValueError" p2] X.env = (false, eval (.Name "ValueError" p2) X.env) :: starEach [] X.env := by rfl)
    (hpl : (backTo pos (starEach [.Name "ValueError" p2] X.env)).any (·.1) = false := by rfl) :
    EV X W (.Call (.Name "isinstance" p) [ex, .Name "ValueError" p2] [] pos) (d1 fIsX da) :=
  pe_weak (pe_callB call_isx hg hm (show bootBuiltins "isinstance" = some (.builtin "isinstance") by decide +kernel) (pa_cons ha (pa_cons (pe_bltn (v := .ty "ValueError") hg2 hm2 (show bootBuiltins "ValueError" = some (.type "ValueError") by decide +kernel) rfl) pa_nil hs2) hs) (he := hs) (hpl := hpl)) fun σ H Q ⟨G, P, h, q⟩ => by
    unfold d1 at q
    obtain ⟨q1, q2, q3⟩ := bindE q
    refine tF_bind h q1 q2 fun tx x H1 ex s1 h1 rx => ?_
    have q4 := PostE.up (q3 tx ex) s1
    cases tx <;> try exact q4.elim
    obtain ⟨_, y, rfl, hy, _⟩ := rl_dict.mp rx
    exact ⟨y, rfl, hy, post_bl q4⟩
theorem ev_intc {ex : Expr} {da : DE} {p pos : Pos} (hg : Gl X "int") (hm : X.mg "int" = none) (ha : EV X W ex da) (hs : starEach [ex] X.env = (false, eval ex X.env) :: starEach [] X.env := by rfl) : EV X W (.Call (.Name "int" p) [ex] [] pos) (d1 fInt da) :=
  pe_weak (pe_callTy call_int1 hg hm (show bootBuiltins "int" = some (.type "int") by decide +kernel) (pa_cons ha pa_nil hs) (he := hs)) fun σ H Q h => tCB_of (fun H P σ G x tx Q h rx q => by
    cases tx <;> try exact q.elim
    · exact .inr ⟨_, by rw [rl_bool.mp rx], post_int q⟩
    · exact .inl ⟨_, by rw [rl_int.mp rx], post_int q⟩) h

/-! ### a call that may raise, as the last step of a try -/
theorem call_try {ex : Expr} {es : List Expr} {k np : Nat} {x : Str} {f : DF} {d : DA} {p pos : Pos} (C : Clx X.prog X.w X.K X.mg X.base cl k x np f) (hr : Room k X.A) (hp : ExPin X) (hg : Gl X x) (ha : AV X.nox (fun _ _ => False) (ex :: es) d)
    (hL : ∀ G ts, d G = .ok ts → ts.length = np) (hdb : (x == ("__debug__" : Str)) = false) (he : starEach (ex :: es) X.env = (false, eval ex X.env) :: starEach es X.env) (hpl : (backTo pos (starEach es X.env)).any (·.1) = false)
    {G : List Sl} {P : Pv} (I : Inv X pins σ H s) (h : Hol X.K H P σ G) {Q : Value → Shared → Prop} {Ee : Value → Shared → Prop} {ts : List PyData} (hd : d G = .ok ts) (hns : f ts ≠ .stuck)
    (ok : ∀ t, f ts = .ok t → ∀ v u H' s', Inv X pins σ H' s' → Same H H' → Rl X.K H' P t v → RelV v u → Q u s')
    (xc : ∀ c, f ts = .exc c → ∀ a T H' s', Exc X pins σ H' a (cl c) (some (T, .none)) s' → Same H H' → Ee (.ref a) s') :
    wpAny (model X.prog X.w) X.A (eval (.Call (.Name x p) (ex :: es) [] pos) X.env) Q Ee s := by
  obtain ⟨fa, fd, ps, F, hm, hk, hb⟩ := C.ex
  refine wpAny_Call_Name_kw (ld_glob I hg hm ?_ hdb)
  refine PySem.W.callWith_K (h₀ := X.base) I.ok.mod.kin hk (wpAny_mono (ha pos pins s σ H (fun vs H1 => Same H H1 ∧ Rls X.K H1 P ts vs) (I.wish _) ⟨G, P, h, by rw [hd]; exact fun vs H' s r => ⟨s, r⟩⟩) (fun us s1 hA => ?_) fun _ _ z => False.elim z) he hpl
  obtain ⟨vs, H1, I1, r, sm, rs⟩ := hA
  have J := I1.unwish
  refine ⟨J.kIn, ?_⟩
  have h1 := h.same sm
  have el : vs ++ [] = vs := List.append_nil vs
  have eu : us ++ [] = us := List.append_nil us
  have gg : Tr H1 P H1 ⟨fun _ => none, fun a => ¬ Off P a⟩ := fun a o e1 o1 => ⟨e1, fun _ z => (by cases z), fun z => z o1⟩
  have back : ∀ H2, Tr H2 ⟨fun _ => none, fun a => ¬ Off P a⟩ H2 P := fun H2 a o e1 o1 => ⟨e1, Classical.byContradiction fun z => o1.2 z⟩
  have sp : spF X.K (some cl) np f (vs ++ []) H1 (fun v H' => ∃ t, f ts = .ok t ∧ Same H1 H' ∧ Rl X.K H' P t v) (fun cv _ H' => ∃ c, f ts = .exc c ∧ cv = cl c ∧ Same H1 H') := by
    rw [el]
    refine ⟨by rw [← rs.length]; exact hL G ts hd, ts, ⟨fun _ => none, fun a => ¬ Off P a⟩, Rls.go gg ts vs rs, fun _ => rfl, fun a z hn => z (h1.off_new hn), ?_⟩
    cases e : f ts with
    | ok t => exact fun v H' s r => ⟨t, rfl, s, Rl.go (back H') t v r⟩
    | exc c => exact fun dx H' s => ⟨c, rfl, rfl, s⟩
    | stuck => exact hns e
  have hl : (us ++ []).length = ps.length := by rw [eu, ← r.length, ← el]; exact F.len _ _ _ _ sp
  refine wpAny_call (codeAny_mono (F.run X.A X.stack s1 H1 ⟨us, []⟩ (us ++ []) (vs ++ []) _ _ hr J.env0 (hb s1 us J.kIn hl) (by rw [el, eu]; exact r) sp) fun r' s' hq => ?_)
  cases r' with
  | error e =>
    have hq' : CX1 X.prog X.w X.stack H1 s1 (fun cv _ H' => ∃ c, f ts = .exc c ∧ cv = cl c ∧ Same H1 H') e s' := hq
    obtain ⟨a, cv, T, H', rfl, x, c, ec, rfl, s2⟩ := exc_of_call hp J hq'
    exact xc c ec a T H' s' x (sm.trans s2)
  | ok fl =>
    cases fl with
    | ret u =>
      obtain ⟨v, H', I', rv, t, et, s2, rl⟩ := J.after hq
      exact ok t et v u H' s' I' (sm.trans s2) rl rv
    | next => exact False.elim hq
    | brk => exact False.elim hq
    | cont => exact False.elim hq
/-- the class of a raised exception is beneath the handler's -/
def Caught (X : Cx) (cl : Str → Value) (sub : Str → Bool) (C' : Addr) : Prop := ∀ c, sub c = true → ∃ C, cl c = .ref C ∧ PySem.W.subIn X.K (.ref C) (.ref C') = some true
theorem go_bare {H : Hp} {P : Pv} : Go H P H P.bare := ⟨fun a o e q => ⟨e, fun _ z => (by cases z)⟩, rfl⟩
/-- the handler without a name runs -/
theorem handled0 {Cn : Str} {C' : Addr} {sub : Str → Bool} {c : Str} {dh : DS} {b₀ : Stmt} {suite : List Stmt} {np hpos : Pos} {D : Ends} {G : List Sl} {P : Pv} (F : InFrame X L) (hcn : XCls X.K X.mg Cn C') (hgn : Gl X Cn) (hdb : (Cn == ("__debug__" : Str)) = false) (hsub : Caught X cl sub C') (hs : sub c = true)
    (hh : SVs (cxH X a) (fun _ _ => False) (b₀ :: suite) dh) {T : Addr} (x : Exc X pins σ H a (cl c) (some (T, .none)) s) (h : Hol X.K H P σ G) (q : PostS X.K (fun _ _ => False) H P (dh G) D) :
    wpAny (model X.prog X.w) X.A (noteFrame (.ref a) X.env) (fun _ s₂ => wpAny (model X.prog X.w) X.A (setFlight (.ref a) none) (fun _ s₃ => wpAny (model X.prog X.w) X.A (handleBy (.ref a) X.env [.ExceptHandler (some (.Name Cn np)) none (b₀ :: suite) hpos]) (SP X pins D) X.xe s₃) X.xe s₂) X.xe s := by
  refine x.note F fun T1 s1 x1 => x1.flight (fr := none) fun s2 x2 => ?_
  obtain ⟨C, ec, hC⟩ := hsub c hs
  obtain ⟨oe, vs, a0, b1, ho, hc, _⟩ := x2.ob.first
  refine wpAny_handleBy_cons (codeAny_handlers_test (ld_glob (X := cxH X a) (inv_h x2.inv) hgn hcn.bd ?_ hdb)) (by intro z; cases z)
  refine exc_match x2.inv.kIn hcn ho (hc.trans ec) hC ?_
  refine codeAny_handlers_suite (Exc.flight (X := cxH X a) (fr := none) (exc_h x2) fun s3 x3 => ?_)
  refine wpAny_mono (hh pins s3 σ H D x3.inv ⟨G, P, h, q⟩) (fun f s4 h4 => sp_oh x2.inv.ok h4) fun _ _ z => False.elim z
section
variable {Cn : Str} {C' : Addr} {sub : Str → Bool} {dh : DS} {b₀ : Stmt} {suite : List Stmt} {np hpos : Pos} {ex : Expr} {es : List Expr} {k nps : Nat} {x : Str} {f : DF} {d : DA} {p cpos epos pos : Pos}
/-- try: f(..) except C: .. -/
theorem ss_try (F : InFrame X L) (C : Clx X.prog X.w X.K X.mg X.base cl k x nps f) (hr : Room k X.A) (hg : Gl X x) (ha : AV X.nox (fun _ _ => False) (ex :: es) d) (hcn : XCls X.K X.mg Cn C') (hgn : Gl X Cn) (hsub : Caught X cl sub C')
    (hh : ∀ a, SVs (cxH X a) (fun _ _ => False) (b₀ :: suite) dh) (hL : ∀ G ts, d G = .ok ts → ts.length = nps := by first | exact len_c1 | exact len_c2 | exact len_c3 | exact len_c4) (hdb : (x == ("__debug__" : Str)) = false := by decide) (hdn : (Cn == ("__debug__" : Str)) = false := by decide)
    (he : starEach (ex :: es) X.env = (false, eval ex X.env) :: starEach es X.env := by rfl) (hpl : (backTo cpos (starEach es X.env)).any (·.1) = false := by rfl) (hsw : swapsWith (.Call (.Name x p) (ex :: es) [] cpos) none epos.line X.env = pure false := by rfl) :
    SV X W (.Try [.Expr (.Call (.Name x p) (ex :: es) [] cpos) epos] [.ExceptHandler (some (.Name Cn np)) none (b₀ :: suite) hpos] [] [] pos) (dTry (dDrop (dCallN f d)) sub dh) := by
  intro pins s σ H D I ⟨G, P, h, q⟩
  obtain ⟨h', g⟩ := h.frzA
  unfold dTry dDrop dCallN at q
  cases ed : noX (d (frzA G)) with
  | exc c => rcases noX_cases (d (frzA G)) with ⟨t, z⟩ | z <;> (rw [ed] at z; cases z)
  | stuck => rw [ed] at q; exact q.elim
  | ok ts =>
    rw [ed, Res.bind_ok] at q
    have hd : d (frzA G) = .ok ts := noX_ok ed
    refine wpAny_Try_except (wpAny_execs_cons (wpAny_Expr_any (call_try C hr F.pin hg ha hL hdb he hpl I h' hd (fun z => ?_) (fun t et v u H' s' I' sm rl rv => ?_) fun c ec a T H' s' xx sm => ?_) I.quiet hsw))
    · rw [z] at q; exact q.elim
    · rw [et] at q
      refine wpAny_execs_nil ?_
      exact wpAny_execs_nil ⟨σ, H', I', q σ H' P (.same sm) (h.same sm)⟩
    · rw [ec] at q
      simp only [Res.bind_exc] at q
      split at q
      · rename_i hs
        refine handled0 F hcn hgn hdn hsub hs (hh a) xx (h.same sm) ?_
        cases eh : dh G with
        | ok o =>
          rw [eh] at q
          exact PostS.up (W := fun _ _ => False) (r := .ok o) (by cases o <;> exact q) (.same sm)
        | exc c' => rw [eh] at q; exact q.elim
        | stuck => rw [eh] at q; exact q.elim
      · exact q.elim
end
/-! ### except C as e -/
/-- the exception is tracked -/
theorem inv_track {o : HO} (I : Inv X pins σ H s) (A : Alien X pins H a) (ho : ObjOk X.prog X.w (upd H a o) s.heap a o) : Inv X pins σ (upd H a o) s := by
  refine ⟨I.ok, I.os, I.bare, ⟨I.base.keep, I.base.slot, fun b u e n hx => ?_, I.base.there, fun b xs e => ?_, fun b u xs e => ?_, fun b ps e => ?_⟩, I.loc, I.cell, ?_, fun x c e => ?_, fun p hp => ?_, fun b u e => ?_, I.len⟩
  · rw [upd_ne (fun z => by rw [z, A.young] at e; cases e)]
    exact I.base.free b u e n hx
  · have q := I.base.tups b xs e
    rw [upd_ne (ne_of_none q A.trk)]
    exact q
  · have q := I.base.frzs b u xs e
    rw [upd_ne (ne_of_none q A.trk)]
    exact q
  · obtain ⟨m, q⟩ := I.base.tbls b ps e
    exact ⟨m, by rw [upd_ne (ne_of_none q A.trk)]; exact q⟩
  · rw [upd_ne (Ne.symm A.loc)]; exact I.free
  · rw [upd_ne (A.cell x c e)]; exact I.freeC x c e
  · obtain ⟨e, q, r⟩ := I.pin p hp
    exact ⟨e, by rw [upd_ne (A.pin p hp)]; exact q, r⟩
  · by_cases hb : b = a
    · subst hb
      rw [upd_same] at e
      cases e
      exact ho
    · rw [upd_ne hb] at e
      exact (I.hok b u e).stay (fun _ _ _ q => q) (fun c q => by rw [upd_ne (ne_of_none q A.trk)]; exact q) fun c ys q => by rw [upd_ne (ne_of_none q A.trk)]; exact q
/-- a name is taken away -/
theorem unbind_ok {M : Model} {A : Around} {Ee : Value → Shared → Prop} {i : Nat} {x : Str} {v : V} {Q : Unit → Shared → Prop} (I : Inv X pins σ H s) (hN : X.N.Nodup) (hi : X.N[i]? = some x) (hv : σ[i]? = some (some v)) (hx : X.env.kindOf x = some .local)
    (h : ∀ s', Inv X pins (σ.set i none) H s' → Q () s') : wpAny M A (unbindName X.env x) Q Ee s := by
  obtain ⟨m, hn, hl⟩ := id I.loc
  have hcls : (X.env.scope.kind == .class || (X.env.scope.kind == .module && X.env.locals != X.env.globals)) = false := by rw [I.ok.kind]; rfl
  obtain ⟨u, _, lk⟩ := hl i x v hi hv (.inl hx)
  have hm : m x = some u := by
    rcases lk with ⟨_, e⟩ | ⟨k, _⟩
    · exact e
    · rw [hx] at k; rcases k with k | k <;> cases k
  have hiσ : i < σ.length := by rw [I.len]; exact (List.getElem?_eq_some_iff.mp hi).1
  obtain ⟨oL, _, _, hoL, _⟩ := id hn
  have low : ∀ b o, X.s₀.heap.get? b = some o → b ≠ X.env.locals := fun b o e => Nat.ne_of_lt (Nat.lt_of_lt_of_le (Heap.lt_size e) I.ok.above)
  refine wpAny_unbindName_local hx hn hm hcls fun h' w hn' hs => h _ ⟨I.ok, I.os, I.bare, ⟨fun b o e n hb hx => (hs.2 b (low b o e)).trans (I.base.keep b o e n hb hx), fun b o e n hb hx => ?_, I.base.free, fun b o e hx => ?_, I.base.tups, I.base.frzs, I.base.tbls⟩,
    ⟨_, hn', fun j y v' e1 e2 e3 => ?_⟩, fun y c e => ?_, I.free, I.freeC, fun p hp => ?_, fun b ob e => ?_, by simpa using I.len⟩
  · obtain ⟨sl, e1⟩ := I.base.slot b o e n hb hx
    exact ⟨sl, (hs.2 b (low b o e)).trans e1⟩
  · obtain ⟨o', e1⟩ := I.base.there b o e hx
    exact ⟨o', (hs.2 b (low b o e)).trans e1⟩
  · by_cases hj : j = i
    · subst hj
      rw [List.getElem?_set_self hiσ] at e2
      cases e2
    · rw [List.getElem?_set_ne (Ne.symm hj)] at e2
      obtain ⟨u', r', q⟩ := hl j y v' e1 e2 e3
      refine ⟨u', r', ?_⟩
      rcases q with ⟨k, e⟩ | ⟨k, c, e, z⟩
      · refine .inl ⟨k, ?_⟩
        have : y ≠ x := fun e => hj (nodup_ix hN e1 (e ▸ hi))
        simp [this, e]
      · exact .inr ⟨k, c, e, z.sameBut hs (I.cne y c e)⟩
  · obtain ⟨w', z⟩ := I.cell y c e
    exact ⟨w', z.sameBut hs (I.cne y c e)⟩
  · obtain ⟨e, n, ne, nf, d⟩ := I.pin p hp
    exact ⟨(hs.2 p.1 ne).trans e, n, ne, nf, d⟩
  · refine (I.hok b ob e).stay (fun c w' hc q => (hs.2 c ?_).trans q) (fun _ q => q) fun _ _ q => q
    rintro rfl
    rcases hc with z | z
    · rw [← z, I.free] at e; cases e
    · rw [I.free] at z; cases z
/-- a slot is forgotten -/
theorem Hol.forget {K : PySem.W.Frag} {H : Hp} {P : Pv} {σ : L2.St} {G : List Sl} (h : Hol K H P σ G) (i : Nat) (x : Option V) : ∃ P', Hol K H P' (σ.set i x) (G.set i .emp) ∧ Go H P H P' := by
  refine ⟨P.del i, ⟨fun j s q => ?_, fun a b c h1 h2 => ?_, fun j a z => ?_, h.fbd, fun j a z => ?_, by rw [List.length_set, List.length_set]; exact h.len⟩, .del⟩
  · by_cases e : j = i
    · subst e
      have hl : j < G.length := by simpa using (List.getElem?_eq_some_iff.mp q).1
      rw [List.getElem?_set_self hl] at q
      cases q
      trivial
    · rw [List.getElem?_set_ne (Ne.symm e)] at q
      have z := h.sl j s q
      rw [getD_set_ne e]
      cases s with
      | emp => trivial
      | val t' => obtain ⟨v', e1, r'⟩ := z; exact ⟨v', e1, Rl.go .del t' v' r'⟩
      | own xs => obtain ⟨p, vs, e1, e2, e3, r'⟩ := z; exact ⟨p, vs, e1, (by show (if j = i then none else P.own j) = _; rw [if_neg e]; exact e2), e3, Rls.go .del xs vs r'⟩
  · have h1' : (if a = i then none else P.own a) = some c := h1
    have h2' : (if b = i then none else P.own b) = some c := h2
    split at h1'
    · cases h1'
    · split at h2'
      · cases h2'
      · exact h.inj a b c h1' h2'
  · have z' : (if j = i then none else P.own j) = some a := z
    split at z'
    · cases z'
    · rename_i ne
      obtain ⟨xs, q⟩ := h.only j a z'
      exact ⟨xs, by rw [List.getElem?_set_ne (Ne.symm ne)]; exact q⟩
  · have z' : (if j = i then none else P.own j) = some a := z
    split at z'
    · cases z'
    · exact h.nfb j a z'
/-- what is wanted behind the suite, ahead of the name's end -/
def endsA (K : PySem.W.Frag) (H : Hp) (P : Pv) (i : Nat) (D : Ends) : Ends where
  nx := fun σ' H' => ∃ G' P', Go H P H' P' ∧ Hol K H' P' σ' G' ∧ ∀ σ2 P2, Go H P H' P2 → Hol K H' P2 σ2 (G'.set i .emp) → D.nx σ2 H'
  rt := D.rt
theorem unbound {i : Nat} {n : Str} {hpos : Pos} {Q : Unit → Shared → Prop} (I : Inv X pins σ H s) (hN : X.N.Nodup) (hi : X.N[i]? = some n) (hn : X.env.kindOf n = some .local) (q : ∀ s', Inv X pins ((σ.set i (some .non)).set i none) H s' → Q () s') :
    wpAny (model X.prog X.w) X.A (do bindName X.env n .none; unbindBehindTheSuite X.env n hpos) Q X.xe s := by
  refine wpAny_bind (wpAny_bindName (store_ok I hN hi (.inl hn) (v := .non) rfl (fun s1 I1 => ?_) (.inr hn)))
  unfold unbindBehindTheSuite
  refine wpAny_onRaise (unbind_ok I1 hN hi (v := .non) ?_ hn fun s2 I2 => q s2 I2)
  exact List.getElem?_set_self (by rw [I.len]; exact (List.getElem?_eq_some_iff.mp hi).1)
theorem handledA {Cn n : Str} {i : Nat} {C' : Addr} {sub : Str → Bool} {c : Str} {dh : DS} {b₀ : Stmt} {suite : List Stmt} {np hpos : Pos} {D : Ends} {G : List Sl} {P : Pv} (F : InFrame X L) (hcn : XCls X.K X.mg Cn C') (hgn : Gl X Cn) (hdb : (Cn == ("__debug__" : Str)) = false) (hsub : Caught X cl sub C') (hs : sub c = true)
    (hve : ∀ C, cl c = .ref C → PySem.W.subIn X.K (.ref C) (.type "ValueError") = some true) (hN : X.N.Nodup) (hi : X.N[i]? = some n) (hn : X.env.kindOf n = some .local)
    (hh : SVs (cxH X a) (fun _ _ => False) (b₀ :: suite) dh) {T : Addr} (x : Exc X pins σ H a (cl c) (some (T, .none)) s) (h : Hol X.K H P σ G)
    (q : PostS X.K (fun _ _ => False) H P ((noX (dh (G.set i (.val (.dict []))))).bind fun o => match o with
      | .nx G' => .ok (.nx (G'.set i .emp))
      | .rt t => .ok (.rt t)
      | _ => .stuck) D) :
    wpAny (model X.prog X.w) X.A (noteFrame (.ref a) X.env) (fun _ s₂ => wpAny (model X.prog X.w) X.A (setFlight (.ref a) none) (fun _ s₃ => wpAny (model X.prog X.w) X.A (handleBy (.ref a) X.env [.ExceptHandler (some (.Name Cn np)) (some n) (b₀ :: suite) hpos]) (SP X pins D) X.xe s₃) X.xe s₂) X.xe s := by
  refine x.note F fun T1 s1 x1 => x1.flight (fr := none) fun s2 x2 => ?_
  obtain ⟨C, ec, hC⟩ := hsub c hs
  obtain ⟨oe, vs, a0, b1, ho, hc, _⟩ := x2.ob.first
  refine wpAny_handleBy_cons (codeAny_handlers_test (ld_glob (X := cxH X a) (inv_h x2.inv) hgn hcn.bd ?_ hdb)) (by intro z; cases z)
  refine exc_match x2.inv.kIn hcn ho (hc.trans ec) hC ?_
  refine codeAny_handlers_suite_as (Exc.flight (X := cxH X a) (fr := none) (exc_h x2) fun s3 x3 => ?_)
  obtain ⟨oe3, vs3, a03, b13, ho3, hc3, _⟩ := x3.ob.first
  have hx0 : H a = none := x3.al.trk
  have I4 : Inv (cxH X a) pins σ (upd H a (XO X.K a)) s3 := by
    refine inv_track x3.inv x3.al ⟨⟨oe3, C, ho3, hc3.trans ec, hve C ec⟩, ⟨oe3, ho3⟩, ?_⟩
    rintro h1 h2 ⟨ob, C1, e1, e2, e3⟩ k
    exact ⟨ob, C1, k ob e1, e2, e3⟩
  refine store_ok (X := cxH X a) I4 hN hi (.inl hn) (v := .ref a) rfl (fun s4 I5 => ?_) (.inr hn)
  have h4 : Hol X.K (upd H a (XO X.K a)) (P.del i) (σ.set i (some (.ref a))) (G.set i (.val (.dict []))) := (h.same (same_new hx0)).setVal i (rl_dict.mpr ⟨rfl, a, rfl, upd_same, h.off_new hx0⟩)
  have g4 : Go H P (upd H a (XO X.K a)) (P.del i) := (Go.same (same_new hx0)).trans .del
  refine wpAny_mono (hh pins s4 _ _ (endsA X.K H P i D) I5 ⟨_, _, h4, ?_⟩) (fun f s5 h5 => ?_) fun _ _ z => False.elim z
  · cases ed : dh (G.set i (.val (.dict []))) with
    | stuck => rw [ed] at q; exact q.elim
    | exc c => rw [ed] at q; exact q.elim
    | ok o =>
      rw [ed] at q
      cases o with
      | nx G' => exact fun σ' H' P' g' h' => ⟨G', P', g4.trans g', h', fun σ2 P2 g2 h2 => q σ2 H' P2 g2 h2⟩
      | rt t => exact fun v H' P' g' r => q v H' P' (g4.trans g') r
      | bk G' => exact q.elim
      | ct G' => exact q.elim
  · have ok := x2.inv.ok
    cases f with
    | next =>
      obtain ⟨σ', H', I6, G', P', g', h', q'⟩ := h5
      refine unbound (inv_oh ok I6) hN hi hn fun s6 I7 => ⟨_, H', I7, ?_⟩
      obtain ⟨P2, h2, g2⟩ := h'.forget i (some .non)
      obtain ⟨P3, h3, g3⟩ := h2.forget i none
      have e3 : (G'.set i Sl.emp).set i Sl.emp = G'.set i Sl.emp := List.set_set ..
      rw [e3] at h3
      exact q' _ P3 (g'.trans (g2.trans g3)) h3
    | ret u =>
      obtain ⟨v, σ', H', I6, rv, q'⟩ := h5
      exact unbound (inv_oh ok I6) hN hi hn fun s6 I7 => ⟨v, _, H', I7, rv, q'⟩
    | brk => obtain ⟨_, _, _, z⟩ := h5; exact False.elim z
    | cont => obtain ⟨_, _, _, z⟩ := h5; exact False.elim z
section
variable {Cn n : Str} {i : Nat} {C' : Addr} {sub : Str → Bool} {dh : DS} {b₀ : Stmt} {suite : List Stmt} {np hpos : Pos} {ex : Expr} {es : List Expr} {k nps : Nat} {x : Str} {f : DF} {d : DA} {p cpos epos pos : Pos}
/-- try: f(..) except C as e: .. -/
theorem ss_tryA (F : InFrame X L) (C : Clx X.prog X.w X.K X.mg X.base cl k x nps f) (hr : Room k X.A) (hg : Gl X x) (ha : AV X.nox (fun _ _ => False) (ex :: es) d) (hcn : XCls X.K X.mg Cn C') (hgn : Gl X Cn) (hsub : Caught X cl sub C')
    (hve : ∀ c, sub c = true → ∀ C, cl c = .ref C → PySem.W.subIn X.K (.ref C) (.type "ValueError") = some true) (hN : X.N.Nodup) (hi : X.N[i]? = some n) (hn : X.env.kindOf n = some .local)
    (hh : ∀ a, SVs (cxH X a) (fun _ _ => False) (b₀ :: suite) dh) (hL : ∀ G ts, d G = .ok ts → ts.length = nps := by first | exact len_c1 | exact len_c2 | exact len_c3 | exact len_c4) (hdb : (x == ("__debug__" : Str)) = false := by decide) (hdn : (Cn == ("__debug__" : Str)) = false := by decide)
    (he : starEach (ex :: es) X.env = (false, eval ex X.env) :: starEach es X.env := by rfl) (hpl : (backTo cpos (starEach es X.env)).any (·.1) = false := by rfl) (hsw : swapsWith (.Call (.Name x p) (ex :: es) [] cpos) none epos.line X.env = pure false := by rfl) :
    SV X W (.Try [.Expr (.Call (.Name x p) (ex :: es) [] cpos) epos] [.ExceptHandler (some (.Name Cn np)) (some n) (b₀ :: suite) hpos] [] [] pos) (dTryA i (dDrop (dCallN f d)) sub dh) := by
  intro pins s σ H D I ⟨G, P, h, q⟩
  obtain ⟨h', g⟩ := h.frzA
  unfold dTryA dDrop dCallN at q
  cases ed : noX (d (frzA G)) with
  | exc c => rcases noX_cases (d (frzA G)) with ⟨t, z⟩ | z <;> (rw [ed] at z; cases z)
  | stuck => rw [ed] at q; exact q.elim
  | ok ts =>
    rw [ed, Res.bind_ok] at q
    have hd : d (frzA G) = .ok ts := noX_ok ed
    refine wpAny_Try_except (wpAny_execs_cons (wpAny_Expr_any (call_try C hr F.pin hg ha hL hdb he hpl I h' hd (fun z => ?_) (fun t et v u H' s' I' sm rl rv => ?_) fun c ec a T H' s' xx sm => ?_) I.quiet hsw))
    · rw [z] at q; exact q.elim
    · rw [et] at q
      refine wpAny_execs_nil ?_
      exact wpAny_execs_nil ⟨σ, H', I', q σ H' P (.same sm) (h.same sm)⟩
    · rw [ec] at q
      simp only [Res.bind_exc] at q
      split at q
      · rename_i hs
        refine handledA F hcn hgn hdn hsub hs (hve c hs) hN hi hn (hh a) xx (h.same sm) ?_
        have q' := PostS.up q (.same sm)
        revert q'
        cases dh (G.set i (.val (.dict []))) with
        | ok o => cases o <;> exact fun z => z
        | exc c' => exact fun z => z.elim
        | stuck => exact fun z => z.elim
      · exact q.elim
end
end
end Fx

namespace Fx
open PySem PySem.Spec PyProof.Rows L2
section
variable {X : Cx} {W : Str → Hp → Prop} {a b c e : Expr} {es : List Expr} {da db : DE} {pos : Pos}
theorem ev_ixN {i : Nat} {x : Str} {p1 : Pos} (hi : X.N[i]? = some x) (hb : EV X W b db) (hs : PlainIx b) (hv : Vis X.env.scope x := by first | exact Or.inl rfl | exact Or.inr (Or.inl rfl) | exact Or.inr (Or.inr rfl)) (hd : (x == ("__debug__" : Str)) = false := by decide)
    (hcd : (x == ("__classdict__" : Str)) = false := by decide) : EV X W (.Subscript (.Name x p1) b pos) (dIxN i db) :=
  pe_weak (pe_ix (ix_list.or ix_tup) (pe_var hi hv hd hcd) hb hs) fun σ H Q ⟨G, P, h, q⟩ => by
    unfold dIxN at q
    cases e : G[i]? with
    | none => rw [e] at q; exact q.elim
    | some s =>
      rw [e] at q
      cases s with
      | emp => exact q.elim
      | own xs =>
        obtain ⟨p, vs, ev, ep, eh, rs⟩ := h.sl i _ e
        refine ⟨.ref p, getD_some ev, ?_⟩
        obtain ⟨q1, q2, q3⟩ := bindE q
        refine tF_bind h q1 q2 fun ty y H1 ey s1 h1 ry => ?_
        have q4 := PostE.up (q3 ty ey) s1
        cases ty <;> try exact q4.elim
        rename_i j
        simp only [fIx] at q4
        cases et : atP xs j with
        | none => rw [et] at q4; exact q4.elim
        | some t =>
          rw [et] at q4
          obtain ⟨v, e1, r⟩ := atP_rl (Rls.go (.same s1) xs vs rs) et
          exact .inl ⟨p, vs, j, v, rfl, rl_int.mp ry, SqL.of (s1 _ _ eh), e1, q4 v H1 (Same.refl H1) r⟩
      | val t =>
        obtain ⟨v, ev, rx⟩ := h.sl i _ e
        refine ⟨v, getD_some ev, ?_⟩
        obtain ⟨q1, q2, q3⟩ := bindE q
        refine tF_bind h q1 q2 fun ty y H1 ey s1 h1 ry => ?_
        have q4 := PostE.up (q3 ty ey) s1
        have rx1 := Rl.go (.same s1) t v rx
        cases t <;> cases ty <;> try exact q4.elim
        · rename_i xs j
          obtain ⟨l, us, rfl, s2, r2⟩ := rl_list.mp rx1
          simp only [fIx] at q4
          cases et : atP xs j with
          | none => rw [et] at q4; exact q4.elim
          | some t =>
            rw [et] at q4
            obtain ⟨w, e1, r⟩ := atP_rl r2 et
            exact .inl ⟨l, us, j, w, rfl, rl_int.mp ry, s2.sq, e1, q4 w H1 (Same.refl H1) r⟩
        · rename_i xs j
          obtain ⟨l, us, rfl, s2, r2⟩ := rl_tuple.mp rx1
          simp only [fIx] at q4
          cases et : atP xs j with
          | none => rw [et] at q4; exact q4.elim
          | some t =>
            rw [et] at q4
            obtain ⟨w, e1, r⟩ := atP_rl r2 et
            exact .inr ⟨l, us, j, w, rfl, rl_int.mp ry, s2.sq, e1, q4 w H1 (Same.refl H1) r⟩
theorem ev_lenN {i : Nat} {x : Str} {p p1 : Pos} (hg : Gl X "len") (hm : X.mg "len" = none) (hi : X.N[i]? = some x) (hv : Vis X.env.scope x := by first | exact Or.inl rfl | exact Or.inr (Or.inl rfl) | exact Or.inr (Or.inr rfl)) (hd : (x == ("__debug__" : Str)) = false := by decide)
    (hcd : (x == ("__classdict__" : Str)) = false := by decide) (hs : starEach [.Name x p1] X.env = (false, eval (.Name x p1) X.env) :: starEach [] X.env := by rfl) : EV X W (.Call (.Name "len" p) [.Name x p1] [] pos) (dLenN i) :=
  pe_weak (pe_callB call_len_seq hg hm PySem.boot_len (pa_cons (pe_var hi hv hd hcd) pa_nil hs) (he := hs)) fun σ H Q ⟨G, P, h, q⟩ => by
    unfold dLenN at q
    cases e : G[i]? with
    | none => rw [e] at q; exact q.elim
    | some s =>
      rw [e] at q
      cases s with
      | emp => exact q.elim
      | own xs =>
        obtain ⟨p, vs, ev, ep, eh, rs⟩ := h.sl i _ e
        refine ⟨.ref p, getD_some ev, p, vs, rfl, .inl (SqL.of eh), ?_⟩
        rw [← rs.length]; exact post_int q
      | val t =>
        obtain ⟨v, ev, rx⟩ := h.sl i _ e
        refine ⟨v, getD_some ev, ?_⟩
        cases t <;> try exact q.elim
        · obtain ⟨l, us, rfl, s1, r1⟩ := rl_list.mp rx
          refine ⟨l, us, rfl, .inl s1.sq, ?_⟩
          rw [← r1.length]; exact post_int q
        · obtain ⟨l, us, rfl, s1, r1⟩ := rl_tuple.mp rx
          refine ⟨l, us, rfl, .inr s1.sq, ?_⟩
          rw [← r1.length]; exact post_int q
/-! ### slices of lists -/
theorem sIxT_eq (n d : Nat) (o : Option Int) : sIxT n d o = HT.sIx n d o := by cases o <;> rfl
theorem cut_rls {K : PySem.W.Frag} {H : Hp} {P : Pv} {xs : List PyData} {vs : List V} (lo hi : Option Int) (r : Rls K H P xs vs) : Rls K H P (cutT xs lo hi) (cutV vs lo hi) := by
  unfold cutT cutV
  rw [sIxT_eq, sIxT_eq, r.length]
  exact (r.drop _).take _
/-- a slice's part -/
def PV (X : Cx) (W : Str → Hp → Prop) (e : Option Expr) (d : DP) : Prop := PO X e fun σ H Q => ∃ G P, Hol X.K H P σ G ∧ match d G with
  | .ok o => ∀ H', Same H H' → Q o H'
  | .exc c => ∀ H', Same H H' → W c H'
  | .stuck => False
theorem pv_no : PV X W none pNo := fun pins s σ H Q I ⟨G, P, h, q⟩ => po_none pins s σ H Q I (q H (Same.refl H))
theorem pv_at (he : EV X W e da) : PV X W (some e) (pAt da) := fun pins s σ H Q I ⟨G, P, h, q⟩ => po_some he pins s σ H Q I (by
  unfold pAt at q
  refine ⟨G, P, h, ?_⟩
  cases ed : da G with
  | stuck => rw [ed] at q; exact q.elim
  | exc c => rw [ed] at q; exact q
  | ok t =>
    rw [ed, Res.bind_ok] at q
    cases t <;> try exact q.elim
    exact fun v H' s r => ⟨_, rl_int.mp r, q H' s⟩)
theorem ov_cut {lo hi : Option Expr} {dl dh : DP} {p2 : Pos} (ha : EV X W a da) (hl : PV X W lo dl) (hh : PV X W hi dh) : OV X W (.Subscript a (.Slice lo hi none p2) pos) (oCut da dl dh) :=
  pe_weak (pe_slice sl_list ha hl hh) fun σ H Q ⟨G, P, h, q⟩ => by
    unfold oCut at q
    obtain ⟨q1, q2, q3⟩ := bindEO q
    refine tF_bind h q1 q2 fun tx x H1 ex s1 h1 rx => ⟨G, P, h1, ?_⟩
    have q4 := q3 tx ex
    cases el : dl G with
    | stuck => rw [el] at q4; exact q4.elim
    | exc c => rw [el] at q4; exact fun H' s => q4 H' (s1.trans s)
    | ok l =>
      rw [el, Res.bind_ok] at q4
      refine fun H2 s2 => ⟨G, P, h1.same s2, ?_⟩
      cases eh : dh G with
      | stuck => rw [eh] at q4; exact q4.elim
      | exc c => rw [eh] at q4; exact fun H' s => q4 H' ((s1.trans s2).trans s)
      | ok u =>
        rw [eh, Res.bind_ok] at q4
        intro H3 s3
        cases tx <;> try exact q4.elim
        obtain ⟨p, vs, rfl, sl, rs⟩ := rl_list.mp (Rl.go (.same (s2.trans s3)) _ x rx)
        exact ⟨p, vs, rfl, sl.sq, fun p hp => q4 p _ _ (((s1.trans s2).trans s3).trans (same_new hp)) (((s1.trans s2).trans s3).free hp) upd_same (rls_new hp (cut_rls l u rs))⟩
end
/-- a def that may raise, called where nothing is to be raised -/
theorem Clx.calN {X : Cx} {cl : Str → Value} {k np : Nat} {x : Str} {f : DF} (C : Clx X.prog X.w X.K X.mg X.base cl k x np f) : Cal X (fun _ _ => False) (some cl) k x np f := by
  obtain ⟨fa, fd, ps, F, hm, hk, hb⟩ := C.ex
  refine ⟨⟨CX1 X.prog X.w, fa, fd, ps, F, hm, hk, hb, fun pins σ H s e s' I h => ?_⟩, fun z => by cases z⟩
  obtain ⟨_, _, _, _, _, _, _, _, _, _, _, _, _, _, c, g, _, _, z⟩ := h
  exact z.elim
/-! ### which classes a handler takes -/
theorem caught_nil {X : Cx} {cl : Str → Value} {C' : Addr} : Caught X cl (subs []) C' := fun c h => by simp at h
theorem caught_cons {X : Cx} {cl : Str → Value} {C' C : Addr} {x : Str} {l : List Str} (e : cl x = .ref C) (h : PySem.W.subIn X.K (.ref C) (.ref C') = some true) (r : Caught X cl (subs l) C') : Caught X cl (subs (x :: l)) C' := fun c hc => by
  simp only [subs, List.contains_cons, Bool.or_eq_true] at hc
  rcases hc with z | z
  · have : c = x := by simpa using z
    subst this
    exact ⟨C, e, h⟩
  · exact r c z
theorem ve_nil {X : Cx} {cl : Str → Value} : ∀ c, subs [] c = true → ∀ C, cl c = .ref C → PySem.W.subIn X.K (.ref C) (.type "ValueError") = some true := fun c h => by simp at h
theorem ve_cons {X : Cx} {cl : Str → Value} {C : Addr} {x : Str} {l : List Str} (e : cl x = .ref C) (h : PySem.W.subIn X.K (.ref C) (.type "ValueError") = some true) (r : ∀ c, subs l c = true → ∀ C, cl c = .ref C → PySem.W.subIn X.K (.ref C) (.type "ValueError") = some true) :
    ∀ c, subs (x :: l) c = true → ∀ C, cl c = .ref C → PySem.W.subIn X.K (.ref C) (.type "ValueError") = some true := fun c hc C' ec => by
  simp only [subs, List.contains_cons, Bool.or_eq_true] at hc
  rcases hc with z | z
  · have : c = x := by simpa using z
    subst this
    rw [e] at ec
    cases ec
    exact h
  · exact r c z C' ec
end Fx

namespace K03
open PySem PySem.Spec PyProof.Rows L2 Fx Lw
def top (i : Nat) : Stmt := PySem.Challenge.pw_limitdesk_k03_desks_refused.main.body.getD i (.Pass ⟨0, 0, 0, 0⟩)
abbrev s_is_whole : Stmt := top 4
theorem sc_is_whole : FnScope ["value"] ["value"] (defScope s_is_whole) := ⟨rfl, rfl, rfl, by decide +kernel, rfl, by decide +kernel, by decide +kernel⟩
set_option maxHeartbeats 0 in
theorem ok_is_whole {P : Program} {w : World} {K : PySem.W.Frag} {mg : Str → Option Value} {base : Heap} {k : Nat} {fa : Addr} {fd : FuncData} (F : Fun K "is_whole" "is_whole" s_is_whole fa fd) (hm : mg "is_whole" = some (.ref fa)) (b : Binds K fd ["value"] []) (z_isinstance : mg "isinstance" = none) (z_int : mg "int" = none) (z_bool : mg "bool" = none) :
    Fx.Cle P w K mg base (k + 1) "is_whole" 1 f_is_whole := by
  exact Fx.cle_of F hm b sc_is_whole rfl rfl fun cdv A outer s H E hr =>
    (Fx.sv_one (Fx.ss_ret (Fx.ev_and (Fx.ev_isinst Fx.kit_int (show bootBuiltins "int" = some (.type "int") by decide +kernel) rfl z_isinstance rfl z_int (Fx.ev_var 0)) (Fx.ev_one (Fx.ev_not (Fx.ev_isinst Fx.kit_bool (show bootBuiltins "bool" = some (.type "bool") by decide +kernel) rfl z_isinstance rfl z_bool (Fx.ev_var 0)))))))
abbrev s_is_number : Stmt := top 9
theorem sc_is_number : FnScope ["value"] ["value"] (defScope s_is_number) := ⟨rfl, rfl, rfl, by decide +kernel, rfl, by decide +kernel, by decide +kernel⟩
set_option maxHeartbeats 0 in
theorem ok_is_number {P : Program} {w : World} {K : PySem.W.Frag} {mg : Str → Option Value} {base : Heap} {k : Nat} {fa : Addr} {fd : FuncData} (F : Fun K "is_number" "is_number" s_is_number fa fd) (hm : mg "is_number" = some (.ref fa)) (b : Binds K fd ["value"] []) (z_abs : mg "abs" = none) (g_GREATEST_NUMBER : ∃ t, mg "GREATEST_NUMBER" = some (.int 999999999999 t)) (C_is_whole : Fx.Cle P w K mg base k "is_whole" 1 f_is_whole) :
    Fx.Cle P w K mg base (k + 1) "is_number" 1 f_is_number := by
  obtain ⟨t_GREATEST_NUMBER, g_GREATEST_NUMBER⟩ := g_GREATEST_NUMBER; exact Fx.cle_of F hm b sc_is_number rfl rfl fun cdv A outer s H E hr =>
    (Fx.sv_one (Fx.ss_ret (Fx.ev_and (Fx.ev_call (Fx.Cle.cal C_is_whole) hr rfl (Fx.av_cons (Fx.ev_var 0) Fx.av_nil)) (Fx.ev_one (Fx.ev_cmp Fx.op_leF (Fx.ev_abs rfl z_abs (Fx.ev_var 0)) (Fx.ev_globI rfl g_GREATEST_NUMBER) (nomark _))))))
abbrev s_limit_of : Stmt := top 10
theorem sc_limit_of : FnScope ["kinds", "limit", "weights", "bound"] ["kinds", "limit"] (defScope s_limit_of) := ⟨rfl, rfl, rfl, by decide +kernel, rfl, by decide +kernel, by decide +kernel⟩
set_option maxHeartbeats 0 in
theorem ok_limit_of {P : Program} {w : World} {K : PySem.W.Frag} {mg : Str → Option Value} {base : Heap} {k : Nat} {fa : Addr} {fd : FuncData} {cl : Str → Value} {X_NoDesk : Addr} (F : Fun K "limit_of" "limit_of" s_limit_of fa fd) (hm : mg "limit_of" = some (.ref fa)) (b : Binds K fd ["kinds", "limit"] []) (z_isinstance : mg "isinstance" = none) (z_tuple : mg "tuple" = none) (z_len : mg "len" = none) (z_list : mg "list" = none) (z_all : mg "all" = none) (c_NoDesk : Fx.XCls K mg "NoDesk" X_NoDesk) (e_NoDesk : cl "NoDesk" = .ref X_NoDesk) (C_is_number : Fx.Cle P w K mg base k "is_number" 1 f_is_number) :
    Fx.Clx P w K mg base cl (k + 1) "limit_of" 2 f_limit_of := by
  exact Fx.clx_of F hm b sc_limit_of rfl rfl fun cdv A outer s H E W hr =>
    (Fx.sv_cons (Fx.ss_if (Fx.tv_w (Fx.tw_or (Fx.tv_not (Fx.tv_val (Fx.ev_isinst Fx.kit_tuple (show bootBuiltins "tuple" = some (.type "tuple") by decide +kernel) rfl z_isinstance rfl z_tuple (Fx.ev_var 1)) (fun _ => rfl))) (Fx.tw_or1 (Fx.tv_cmp (Fx.op_neF hr.units) (Fx.ev_len rfl z_len (Fx.ev_var 1)) Fx.ev_int (nomark _)))))
    (Fx.sv_one (Fx.ss_raise Fx.frame_of.pin c_NoDesk e_NoDesk (Fx.av_cons Fx.ev_str Fx.av_nil) rfl))
    Fx.sv_nil)
    (Fx.sv_cons (Fx.ss_set (i := 2) sc_limit_of.nd rfl (Or.inl rfl) (Fx.ev_ix (Fx.ev_var 1) Fx.ev_int (fun _ _ => rfl)))
    (Fx.sv_cons (Fx.ss_set (i := 3) sc_limit_of.nd rfl (Or.inl rfl) (Fx.ev_ix (Fx.ev_var 1) Fx.ev_int (fun _ _ => rfl)))
    (Fx.sv_cons (Fx.ss_if (Fx.tv_w (Fx.tw_or (Fx.tv_not (Fx.tv_val (Fx.ev_isinst Fx.kit_list (show bootBuiltins "list" = some (.type "list") by decide +kernel) rfl z_isinstance rfl z_list (Fx.ev_var 2)) (fun _ => rfl))) (Fx.tw_or1 (Fx.tv_cmp (Fx.op_neF hr.units) (Fx.ev_len rfl z_len (Fx.ev_var 2)) (Fx.ev_var 0) (nomark _)))))
    (Fx.sv_one (Fx.ss_raise Fx.frame_of.pin c_NoDesk e_NoDesk (Fx.av_cons Fx.ev_str Fx.av_nil) rfl))
    Fx.sv_nil)
    (Fx.sv_cons (Fx.ss_if (Fx.tv_not (Fx.tv_val (Fx.ev_all rfl z_all (Fx.ev_ofO (Fx.ov_comp (N := ["number"]) (nv := 1) (cap := []) (Fx.compok rfl) rfl (Fx.keep_name (by decide)) (Fx.iv_seq (Fx.ev_var 2)) (Fx.compx_xw Fx.frame_of) (fun _ _ _ _ => (Fx.gv_name (i := 0) (show List.Nodup (["number"] : List Str) from by decide +kernel) rfl (Or.inl rfl))) (fun _ _ _ _ hp1 => Fx.ct_none) (fun _ _ _ _ hp1 => (Fx.ev_call (Fx.Cle.cal C_is_number) hr rfl (Fx.av_cons (Fx.ev_var 0) Fx.av_nil)))))) (fun _ => rfl)))
    (Fx.sv_one (Fx.ss_raise Fx.frame_of.pin c_NoDesk e_NoDesk (Fx.av_cons Fx.ev_str Fx.av_nil) rfl))
    Fx.sv_nil)
    (Fx.sv_cons (Fx.ss_if (Fx.tv_not (Fx.tv_val (Fx.ev_call (Fx.Cle.cal C_is_number) hr rfl (Fx.av_cons (Fx.ev_var 3) Fx.av_nil)) (fun _ => rfl)))
    (Fx.sv_one (Fx.ss_raise Fx.frame_of.pin c_NoDesk e_NoDesk (Fx.av_cons Fx.ev_str Fx.av_nil) rfl))
    Fx.sv_nil)
    (Fx.sv_one (Fx.ss_ret (Fx.ev_tup (Fx.av_cons (Fx.ev_tuple rfl z_tuple (Fx.ev_var 2)) (Fx.av_cons (Fx.ev_var 3) Fx.av_nil)))))))))))
abbrev s_desk_of : Stmt := top 11
theorem sc_desk_of : FnScope ["kinds", "limits"] ["kinds", "limits"] (defScope s_desk_of) := ⟨rfl, rfl, rfl, by decide +kernel, rfl, by decide +kernel, by decide +kernel⟩
set_option maxHeartbeats 0 in
theorem ok_desk_of {P : Program} {w : World} {K : PySem.W.Frag} {mg : Str → Option Value} {base : Heap} {k : Nat} {fa : Addr} {fd : FuncData} {cl : Str → Value} {X_NoDesk : Addr} (F : Fun K "desk_of" "desk_of" s_desk_of fa fd) (hm : mg "desk_of" = some (.ref fa)) (b : Binds K fd ["kinds", "limits"] []) (z_isinstance : mg "isinstance" = none) (z_list : mg "list" = none) (z_len : mg "len" = none) (z_tuple : mg "tuple" = none) (g_MOST_KINDS : ∃ t, mg "MOST_KINDS" = some (.int 4 t)) (g_MOST_LIMITS : ∃ t, mg "MOST_LIMITS" = some (.int 10 t)) (c_NoDesk : Fx.XCls K mg "NoDesk" X_NoDesk) (e_NoDesk : cl "NoDesk" = .ref X_NoDesk) (C_is_whole : Fx.Cle P w K mg base k "is_whole" 1 f_is_whole) (C_limit_of : Fx.Clx P w K mg base cl k "limit_of" 2 f_limit_of) :
    Fx.Clx P w K mg base cl (k + 1) "desk_of" 2 f_desk_of := by
  obtain ⟨t_MOST_KINDS, g_MOST_KINDS⟩ := g_MOST_KINDS; obtain ⟨t_MOST_LIMITS, g_MOST_LIMITS⟩ := g_MOST_LIMITS; exact Fx.clx_of F hm b sc_desk_of rfl rfl fun cdv A outer s H E W hr =>
    (Fx.sv_cons (Fx.ss_if (Fx.tv_w (Fx.tw_or (Fx.tv_not (Fx.tv_val (Fx.ev_call (Fx.Cle.cal C_is_whole) hr rfl (Fx.av_cons (Fx.ev_var 0) Fx.av_nil)) (fun _ => rfl))) (Fx.tw_or (Fx.tv_cmp Fx.op_ltF (Fx.ev_var 0) Fx.ev_int (nomark _)) (Fx.tw_or1 (Fx.tv_cmp Fx.op_gtF (Fx.ev_var 0) (Fx.ev_globI rfl g_MOST_KINDS) (nomark _))))))
    (Fx.sv_one (Fx.ss_raise Fx.frame_of.pin c_NoDesk e_NoDesk (Fx.av_cons Fx.ev_str Fx.av_nil) rfl))
    Fx.sv_nil)
    (Fx.sv_cons (Fx.ss_if (Fx.tv_w (Fx.tw_or (Fx.tv_not (Fx.tv_val (Fx.ev_isinst Fx.kit_list (show bootBuiltins "list" = some (.type "list") by decide +kernel) rfl z_isinstance rfl z_list (Fx.ev_var 1)) (fun _ => rfl))) (Fx.tw_or1 (Fx.tv_cmp Fx.op_gtF (Fx.ev_len rfl z_len (Fx.ev_var 1)) (Fx.ev_globI rfl g_MOST_LIMITS) (nomark _)))))
    (Fx.sv_one (Fx.ss_raise Fx.frame_of.pin c_NoDesk e_NoDesk (Fx.av_cons Fx.ev_str Fx.av_nil) rfl))
    Fx.sv_nil)
    (Fx.sv_one (Fx.ss_ret (Fx.ev_tup (Fx.av_cons (Fx.ev_var 0) (Fx.av_cons (Fx.ev_tuple rfl z_tuple (Fx.ev_ofO (Fx.ov_comp (N := ["limit", "kinds"]) (nv := 1) (cap := [0]) (Fx.compok rfl) rfl (Fx.keep_name (by decide)) (Fx.iv_seq (Fx.ev_var 1)) (Fx.compx_xw Fx.frame_of) (fun _ _ _ _ => (Fx.gv_name (i := 0) (show List.Nodup (["limit", "kinds"] : List Str) from by decide +kernel) rfl (Or.inl rfl))) (fun _ _ _ _ hp1 => Fx.ct_none) (fun _ _ _ _ hp1 => (Fx.ev_call (Fx.Clx.cal hp1 C_limit_of) hr rfl (Fx.av_cons (Fx.ev_var 1) (Fx.av_cons (Fx.ev_var 0) Fx.av_nil))))))) Fx.av_nil)))))))
abbrev s_law_cell_at : Stmt := top 13
theorem sc_law_cell_at : FnScope ["_law_script", "_law_k"] ["_law_script", "_law_k"] (defScope s_law_cell_at) := ⟨rfl, rfl, rfl, by decide +kernel, rfl, by decide +kernel, by decide +kernel⟩
set_option maxHeartbeats 0 in
theorem ok_law_cell_at {P : Program} {w : World} {K : PySem.W.Frag} {mg : Str → Option Value} {base : Heap} {k : Nat} {fa : Addr} {fd : FuncData} (F : Fun K "_law_cell_at" "_law_cell_at" s_law_cell_at fa fd) (hm : mg "_law_cell_at" = some (.ref fa)) (b : Binds K fd ["_law_script", "_law_k"] []) (z_len : mg "len" = none) :
    Fx.Cle P w K mg base (k + 1) "_law_cell_at" 2 f_law_cell_at := by
  exact Fx.cle_of F hm b sc_law_cell_at rfl rfl fun cdv A outer s H E hr =>
    (Fx.sv_cons (Fx.ss_if (Fx.tv_cmp Fx.op_ltF (Fx.ev_var 1) (Fx.ev_len rfl z_len (Fx.ev_var 0)) (nomark _))
    (Fx.sv_one (Fx.ss_ret (Fx.ev_ix (Fx.ev_var 0) (Fx.ev_var 1) (fun _ _ => rfl))))
    Fx.sv_nil)
    (Fx.sv_cons (Fx.ss_if (Fx.tv_cmp (Fx.op_eqF hr.units) (Fx.ev_var 0) (Fx.ev_lst Fx.av_nil) (nomark _))
    (Fx.sv_one (Fx.ss_ret Fx.ev_int))
    Fx.sv_nil)
    (Fx.sv_one (Fx.ss_ret (Fx.ev_op Fx.op_addF (Fx.ev_op Fx.op_mulF (Fx.ev_ix (Fx.ev_var 0) (Fx.ev_op Fx.op_modF (Fx.ev_var 1) (Fx.ev_len rfl z_len (Fx.ev_var 0))) (fun _ _ => rfl)) Fx.ev_int) (Fx.ev_var 1))))))
abbrev s_law_number : Stmt := top 14
theorem sc_law_number : FnScope ["_law_cell", "_law_wide", "_law_number_here"] ["_law_cell", "_law_wide"] (defScope s_law_number) := ⟨rfl, rfl, rfl, by decide +kernel, rfl, by decide +kernel, by decide +kernel⟩
set_option maxHeartbeats 0 in
theorem ok_law_number {P : Program} {w : World} {K : PySem.W.Frag} {mg : Str → Option Value} {base : Heap} {k : Nat} {fa : Addr} {fd : FuncData} (F : Fun K "_law_number" "_law_number" s_law_number fa fd) (hm : mg "_law_number" = some (.ref fa)) (b : Binds K fd ["_law_cell", "_law_wide"] []) :
    Fx.Cle P w K mg base (k + 1) "_law_number" 2 f_law_number := by
  exact Fx.cle_of F hm b sc_law_number rfl rfl fun cdv A outer s H E hr =>
    (Fx.sv_cons (Fx.ss_set (i := 2) sc_law_number.nd rfl (Or.inl rfl) (Fx.ev_op Fx.op_modF (Fx.ev_var 0) (Fx.ev_op Fx.op_addF (Fx.ev_op Fx.op_mulF Fx.ev_int (Fx.ev_var 1)) Fx.ev_int)))
    (Fx.sv_cons (Fx.ss_if (Fx.tv_cmp Fx.op_gtF (Fx.ev_var 2) (Fx.ev_var 1) (nomark _))
    (Fx.sv_one (Fx.ss_ret (Fx.ev_op Fx.op_subF (Fx.ev_op Fx.op_subF (Fx.ev_var 2) (Fx.ev_op Fx.op_mulF Fx.ev_int (Fx.ev_var 1))) Fx.ev_int)))
    Fx.sv_nil)
    (Fx.sv_one (Fx.ss_ret (Fx.ev_var 2)))))
abbrev s_law_desk : Stmt := top 15
theorem sc_law_desk : FnScope ["_law_script", "_law_kinds", "_law_many", "_law_wide", "_law_limits", "_law_k", "_law_at", "_law_weights", "_law_bound"] ["_law_script"] (defScope s_law_desk) := ⟨rfl, rfl, rfl, by decide +kernel, rfl, by decide +kernel, by decide +kernel⟩
set_option maxHeartbeats 0 in
theorem ok_law_desk {P : Program} {w : World} {K : PySem.W.Frag} {mg : Str → Option Value} {base : Heap} {k : Nat} {fa : Addr} {fd : FuncData} (F : Fun K "_law_desk" "_law_desk" s_law_desk fa fd) (hm : mg "_law_desk" = some (.ref fa)) (b : Binds K fd ["_law_script"] []) (z_range : mg "range" = none) (z_abs : mg "abs" = none) (C_law_cell_at : Fx.Cle P w K mg base k "_law_cell_at" 2 f_law_cell_at) (C_law_number : Fx.Cle P w K mg base k "_law_number" 2 f_law_number) :
    Fx.Cle P w K mg base (k + 1) "_law_desk" 1 f_law_desk := by
  exact Fx.cle_of F hm b sc_law_desk rfl rfl fun cdv A outer s H E hr =>
    (Fx.sv_cons (Fx.ss_set (i := 1) sc_law_desk.nd rfl (Or.inl rfl) (Fx.ev_op Fx.op_addF Fx.ev_int (Fx.ev_op Fx.op_modF (Fx.ev_call (Fx.Cle.cal C_law_cell_at) hr rfl (Fx.av_cons (Fx.ev_var 0) (Fx.av_cons Fx.ev_int Fx.av_nil))) Fx.ev_int)))
    (Fx.sv_cons (Fx.ss_set (i := 2) sc_law_desk.nd rfl (Or.inl rfl) (Fx.ev_op Fx.op_modF (Fx.ev_call (Fx.Cle.cal C_law_cell_at) hr rfl (Fx.av_cons (Fx.ev_var 0) (Fx.av_cons Fx.ev_int Fx.av_nil))) Fx.ev_int))
    (Fx.sv_cons (Fx.ss_set (i := 3) sc_law_desk.nd rfl (Or.inr rfl) (Fx.ev_ix (Fx.ev_lst (Fx.av_cons Fx.ev_int (Fx.av_cons Fx.ev_int (Fx.av_cons Fx.ev_int (Fx.av_cons (Fx.ev_op Fx.op_subF (Fx.ev_op Fx.op_powF Fx.ev_int Fx.ev_int) Fx.ev_int) Fx.av_nil))))) (Fx.ev_op Fx.op_modF (Fx.ev_call (Fx.Cle.cal C_law_cell_at) hr rfl (Fx.av_cons (Fx.ev_var 0) (Fx.av_cons Fx.ev_int Fx.av_nil))) Fx.ev_int) (fun _ _ => rfl)))
    (Fx.sv_cons (Fx.ss_if (Fx.tv_cmp (Fx.op_eqF hr.units) (Fx.ev_op Fx.op_modF (Fx.ev_call (Fx.Cle.cal C_law_cell_at) hr rfl (Fx.av_cons (Fx.ev_var 0) (Fx.av_cons Fx.ev_int Fx.av_nil))) Fx.ev_int) Fx.ev_int (nomark _))
    (Fx.sv_cons (Fx.ss_set (i := 1) sc_law_desk.nd rfl (Or.inl rfl) Fx.ev_int)
    (Fx.sv_cons (Fx.ss_set (i := 2) sc_law_desk.nd rfl (Or.inl rfl) Fx.ev_int)
    (Fx.sv_one (Fx.ss_set (i := 3) sc_law_desk.nd rfl (Or.inr rfl) Fx.ev_int))))
    Fx.sv_nil)
    (Fx.sv_cons (Fx.ss_if (Fx.tv_cmp Fx.op_gtF (Fx.ev_var 3) Fx.ev_int (nomark _))
    (Fx.sv_cons (Fx.ss_set (i := 1) sc_law_desk.nd rfl (Or.inl rfl) (Fx.ev_op Fx.op_addF Fx.ev_int (Fx.ev_op Fx.op_modF (Fx.ev_var 1) Fx.ev_int)))
    (Fx.sv_one (Fx.ss_set (i := 2) sc_law_desk.nd rfl (Or.inl rfl) (Fx.ev_op Fx.op_modF (Fx.ev_var 2) Fx.ev_int))))
    Fx.sv_nil)
    (Fx.sv_cons (Fx.ss_setO (i := 4) sc_law_desk.nd rfl (Or.inl rfl) (Fx.ov_lst Fx.av_nil))
    (Fx.sv_cons (Fx.ss_for PassesOwn.never rfl (Fx.iv_range rfl z_range (Fx.ev_var 2)) (Fx.gv_name (i := 5) sc_law_desk.nd rfl (Or.inl rfl))
    (Fx.sv_cons (Fx.ss_set (i := 6) sc_law_desk.nd rfl (Or.inr rfl) (Fx.ev_op Fx.op_addF Fx.ev_int (Fx.ev_op Fx.op_mulF (Fx.ev_var 5) (Fx.ev_op Fx.op_addF (Fx.ev_var 1) Fx.ev_int))))
    (Fx.sv_cons (Fx.ss_setC (N := ["_law_j", "_law_script", "_law_at", "_law_wide"]) (nv := 1) (cap := [0, 6, 3]) (i := 7) (Fx.compok rfl) rfl (Fx.keep_name (by decide)) (Fx.iv_range rfl z_range (Fx.ev_var 1)) Fx.compx_no (fun _ _ _ _ => (Fx.gv_name (i := 0) (show List.Nodup (["_law_j", "_law_script", "_law_at", "_law_wide"] : List Str) from by decide +kernel) rfl (Or.inl rfl))) (fun _ _ _ _ _ => Fx.ct_none) (fun _ _ _ _ _ => (Fx.ev_call (Fx.Cle.cal C_law_number) hr rfl (Fx.av_cons (Fx.ev_call (Fx.Cle.cal C_law_cell_at) hr rfl (Fx.av_cons (Fx.ev_var 1) (Fx.av_cons (Fx.ev_op Fx.op_addF (Fx.ev_var 2) (Fx.ev_var 0)) Fx.av_nil))) (Fx.av_cons (Fx.ev_var 3) Fx.av_nil)))) sc_law_desk.nd rfl (Or.inl rfl))
    (Fx.sv_cons (Fx.ss_set (i := 8) sc_law_desk.nd rfl (Or.inl rfl) (Fx.ev_call (Fx.Cle.cal C_law_number) hr rfl (Fx.av_cons (Fx.ev_call (Fx.Cle.cal C_law_cell_at) hr rfl (Fx.av_cons (Fx.ev_var 0) (Fx.av_cons (Fx.ev_op Fx.op_addF (Fx.ev_var 6) (Fx.ev_var 1)) Fx.av_nil))) (Fx.av_cons (Fx.ev_var 3) Fx.av_nil))))
    (Fx.sv_cons (Fx.ss_if (Fx.tv_cmp (Fx.op_eqF hr.units) (Fx.ev_op Fx.op_modF (Fx.ev_call (Fx.Cle.cal C_law_cell_at) hr rfl (Fx.av_cons (Fx.ev_var 0) (Fx.av_cons Fx.ev_int Fx.av_nil))) Fx.ev_int) Fx.ev_int (nomark _))
    (Fx.sv_one (Fx.ss_set (i := 8) sc_law_desk.nd rfl (Or.inl rfl) (Fx.ev_abs rfl z_abs (Fx.ev_var 8))))
    Fx.sv_nil)
    (Fx.sv_one (Fx.ss_app (i := 4) rfl (Fx.ev_tup (Fx.av_cons (Fx.ev_var 7) (Fx.av_cons (Fx.ev_var 8) Fx.av_nil))))))))))
    (Fx.sv_one (Fx.ss_ret (Fx.ev_tup (Fx.av_cons (Fx.ev_var 1) (Fx.av_cons (Fx.ev_var 4) Fx.av_nil))))))))))))
abbrev s_law_copied : Stmt := top 16
theorem sc_law_copied : FnScope ["_law_limits"] ["_law_limits"] (defScope s_law_copied) := ⟨rfl, rfl, rfl, by decide +kernel, rfl, by decide +kernel, by decide +kernel⟩
set_option maxHeartbeats 0 in
theorem ok_law_copied {P : Program} {w : World} {K : PySem.W.Frag} {mg : Str → Option Value} {base : Heap} {k : Nat} {fa : Addr} {fd : FuncData} (F : Fun K "_law_copied" "_law_copied" s_law_copied fa fd) (hm : mg "_law_copied" = some (.ref fa)) (b : Binds K fd ["_law_limits"] []) (z_list : mg "list" = none) :
    Fx.Cle P w K mg base (k + 1) "_law_copied" 1 f_law_copied := by
  exact Fx.cle_of F hm b sc_law_copied rfl rfl fun cdv A outer s H E hr =>
    (Fx.sv_one (Fx.ss_ret (Fx.ev_ofO (Fx.ov_comp (N := ["_law_limit"]) (nv := 1) (cap := []) (Fx.compok rfl) rfl (Fx.keep_name (by decide)) (Fx.iv_seq (Fx.ev_var 0)) Fx.compx_no (fun _ _ _ _ => (Fx.gv_name (i := 0) (show List.Nodup (["_law_limit"] : List Str) from by decide +kernel) rfl (Or.inl rfl))) (fun _ _ _ _ _ => Fx.ct_none) (fun _ _ _ _ _ => (Fx.ev_tup (Fx.av_cons (Fx.ev_ofO (Fx.ov_list rfl z_list (Fx.ev_ix (Fx.ev_var 0) Fx.ev_int (fun _ _ => rfl)))) (Fx.av_cons (Fx.ev_ix (Fx.ev_var 0) Fx.ev_int (fun _ _ => rfl)) Fx.av_nil))))))))
abbrev s_law_refused : Stmt := top 17
theorem sc_law_refused : FnScope ["_law_kinds", "_law_limits", "_law_refused_here", "e"] ["_law_kinds", "_law_limits"] (defScope s_law_refused) := ⟨rfl, rfl, rfl, by decide +kernel, rfl, by decide +kernel, by decide +kernel⟩
set_option maxHeartbeats 0 in
theorem ok_law_refused {P : Program} {w : World} {K : PySem.W.Frag} {mg : Str → Option Value} {base : Heap} {k : Nat} {fa : Addr} {fd : FuncData} {cl : Str → Value} {X_NoDesk : Addr} {X_LimitError : Addr} (F : Fun K "_law_refused" "_law_refused" s_law_refused fa fd) (hm : mg "_law_refused" = some (.ref fa)) (b : Binds K fd ["_law_kinds", "_law_limits"] []) (z_int : mg "int" = none) (z_isinstance : mg "isinstance" = none) (z_ValueError : mg "ValueError" = none) (c_NoDesk : Fx.XCls K mg "NoDesk" X_NoDesk) (c_LimitError : Fx.XCls K mg "LimitError" X_LimitError) (e_NoDesk : cl "NoDesk" = .ref X_NoDesk) (e_LimitError : cl "LimitError" = .ref X_LimitError) (u_NoDesk_NoDesk : PySem.W.subIn K (.ref X_NoDesk) (.ref X_NoDesk) = some true) (u_NoDesk_LimitError : PySem.W.subIn K (.ref X_NoDesk) (.ref X_LimitError) = some true) (u_NoDesk_ValueError : PySem.W.subIn K (.ref X_NoDesk) (.type "ValueError") = some true) (C_desk_of : Fx.Clx P w K mg base cl k "desk_of" 2 f_desk_of) :
    Fx.Cle P w K mg base (k + 1) "_law_refused" 2 f_law_refused := by
  exact Fx.cle_of F hm b sc_law_refused rfl rfl fun cdv A outer s H E hr =>
    (Fx.sv_cons (Fx.ss_set (i := 2) sc_law_refused.nd rfl (Or.inl rfl) Fx.ev_int)
    (Fx.sv_cons (Fx.ss_try (Fx.InFrame.wish Fx.frame_of) C_desk_of hr rfl (Fx.av_cons (Fx.ev_var 0) (Fx.av_cons (Fx.ev_var 1) Fx.av_nil)) c_NoDesk rfl (Fx.caught_cons e_NoDesk u_NoDesk_NoDesk Fx.caught_nil) (fun _ =>
    (Fx.sv_one (Fx.ss_set (i := 2) sc_law_refused.nd rfl (Or.inl rfl) (Fx.ev_op Fx.op_addF (Fx.ev_var 2) Fx.ev_int)))))
    (Fx.sv_cons (Fx.ss_tryA (i := 3) (Fx.InFrame.wish Fx.frame_of) C_desk_of hr rfl (Fx.av_cons (Fx.ev_var 0) (Fx.av_cons (Fx.ev_var 1) Fx.av_nil)) c_LimitError rfl (Fx.caught_cons e_NoDesk u_NoDesk_LimitError Fx.caught_nil) (Fx.ve_cons e_NoDesk u_NoDesk_ValueError Fx.ve_nil) sc_law_refused.nd rfl rfl (fun _ =>
    (Fx.sv_one (Fx.ss_set (i := 2) sc_law_refused.nd rfl (Or.inl rfl) (Fx.ev_op Fx.op_addF (Fx.ev_var 2) (Fx.ev_intc rfl z_int (Fx.ev_isx rfl z_isinstance rfl z_ValueError (Fx.ev_var 3))))))))
    (Fx.sv_one (Fx.ss_ret (Fx.ev_cmp (Fx.op_eqF hr.units) (Fx.ev_var 2) Fx.ev_int (nomark _)))))))
abbrev s_law_odd_number : Stmt := top 18
theorem sc_law_odd_number : FnScope ["_law_cell"] ["_law_cell"] (defScope s_law_odd_number) := ⟨rfl, rfl, rfl, by decide +kernel, rfl, by decide +kernel, by decide +kernel⟩
set_option maxHeartbeats 0 in
theorem ok_law_odd_number {P : Program} {w : World} {K : PySem.W.Frag} {mg : Str → Option Value} {base : Heap} {k : Nat} {fa : Addr} {fd : FuncData} (F : Fun K "_law_odd_number" "_law_odd_number" s_law_odd_number fa fd) (hm : mg "_law_odd_number" = some (.ref fa)) (b : Binds K fd ["_law_cell"] []) :
    Fx.Cle P w K mg base (k + 1) "_law_odd_number" 1 f_law_odd_number := by
  exact Fx.cle_of F hm b sc_law_odd_number rfl rfl fun cdv A outer s H E hr =>
    (Fx.sv_one (Fx.ss_ret (Fx.ev_ix (Fx.ev_lst (Fx.av_cons Fx.ev_bl (Fx.av_cons Fx.ev_str (Fx.av_cons Fx.ev_non (Fx.av_cons (Fx.ev_op Fx.op_powF Fx.ev_int Fx.ev_int) (Fx.av_cons (Fx.ev_neg (Fx.ev_op Fx.op_powF Fx.ev_int Fx.ev_int)) (Fx.av_cons (Fx.ev_op Fx.op_addF (Fx.ev_op Fx.op_powF Fx.ev_int Fx.ev_int) (Fx.ev_op Fx.op_modF (Fx.ev_var 0) (Fx.ev_op Fx.op_powF Fx.ev_int Fx.ev_int))) Fx.av_nil))))))) (Fx.ev_op Fx.op_modF (Fx.ev_var 0) Fx.ev_int) (fun _ _ => rfl))))
abbrev s_law_spoilt : Stmt := top 19
theorem sc_law_spoilt : FnScope ["_law_limit", "_law_way", "_law_cell", "_law_weights"] ["_law_limit", "_law_way", "_law_cell"] (defScope s_law_spoilt) := ⟨rfl, rfl, rfl, by decide +kernel, rfl, by decide +kernel, by decide +kernel⟩
set_option maxHeartbeats 0 in
theorem ok_law_spoilt {P : Program} {w : World} {K : PySem.W.Frag} {mg : Str → Option Value} {base : Heap} {k : Nat} {fa : Addr} {fd : FuncData} (F : Fun K "_law_spoilt" "_law_spoilt" s_law_spoilt fa fd) (hm : mg "_law_spoilt" = some (.ref fa)) (b : Binds K fd ["_law_limit", "_law_way", "_law_cell"] []) (z_list : mg "list" = none) (z_tuple : mg "tuple" = none) (z_len : mg "len" = none) (C_law_odd_number : Fx.Cle P w K mg base k "_law_odd_number" 1 f_law_odd_number) :
    Fx.Cle P w K mg base (k + 1) "_law_spoilt" 3 f_law_spoilt := by
  exact Fx.cle_of F hm b sc_law_spoilt rfl rfl fun cdv A outer s H E hr =>
    (Fx.sv_cons (Fx.ss_setO (i := 3) sc_law_spoilt.nd rfl (Or.inl rfl) (Fx.ov_list rfl z_list (Fx.ev_ix (Fx.ev_var 0) Fx.ev_int (fun _ _ => rfl))))
    (Fx.sv_cons (Fx.ss_if (Fx.tv_cmp (Fx.op_eqF hr.units) (Fx.ev_var 1) Fx.ev_int (nomark _))
    (Fx.sv_one (Fx.ss_ret (Fx.ev_ix (Fx.ev_lst (Fx.av_cons (Fx.ev_lst (Fx.av_cons (Fx.ev_var 3) (Fx.av_cons (Fx.ev_ix (Fx.ev_var 0) Fx.ev_int (fun _ _ => rfl)) Fx.av_nil))) (Fx.av_cons (Fx.ev_tup (Fx.av_cons (Fx.ev_var 3) (Fx.av_cons (Fx.ev_ix (Fx.ev_var 0) Fx.ev_int (fun _ _ => rfl)) (Fx.av_cons Fx.ev_int Fx.av_nil)))) (Fx.av_cons (Fx.ev_tup (Fx.av_cons (Fx.ev_var 3) Fx.av_nil)) Fx.av_nil)))) (Fx.ev_op Fx.op_modF (Fx.ev_var 2) Fx.ev_int) (fun _ _ => rfl))))
    Fx.sv_nil)
    (Fx.sv_cons (Fx.ss_if (Fx.tv_cmp (Fx.op_eqF hr.units) (Fx.ev_var 1) Fx.ev_int (nomark _))
    (Fx.sv_one (Fx.ss_ret (Fx.ev_ix (Fx.ev_lst (Fx.av_cons (Fx.ev_tup (Fx.av_cons (Fx.ev_tuple rfl z_tuple (Fx.ev_var 3)) (Fx.av_cons (Fx.ev_ix (Fx.ev_var 0) Fx.ev_int (fun _ _ => rfl)) Fx.av_nil))) (Fx.av_cons (Fx.ev_tup (Fx.av_cons (Fx.ev_op Fx.op_addF (Fx.ev_var 3) (Fx.ev_lst (Fx.av_cons Fx.ev_int Fx.av_nil))) (Fx.av_cons (Fx.ev_ix (Fx.ev_var 0) Fx.ev_int (fun _ _ => rfl)) Fx.av_nil))) (Fx.av_cons (Fx.ev_tup (Fx.av_cons (Fx.ev_ofO (Fx.ov_cut (Fx.ev_var 3) (Fx.pv_at Fx.ev_int) Fx.pv_no)) (Fx.av_cons (Fx.ev_ix (Fx.ev_var 0) Fx.ev_int (fun _ _ => rfl)) Fx.av_nil))) Fx.av_nil)))) (Fx.ev_op Fx.op_modF (Fx.ev_var 2) Fx.ev_int) (fun _ _ => rfl))))
    Fx.sv_nil)
    (Fx.sv_cons (Fx.ss_if (Fx.tv_cmp Fx.op_ltF (Fx.ev_var 1) Fx.ev_int (nomark _))
    (Fx.sv_cons (Fx.ss_setIt (i := 3) rfl (Fx.ev_op Fx.op_modF (Fx.ev_op Fx.op_divF (Fx.ev_var 2) Fx.ev_int) (Fx.ev_lenN (i := 3) rfl z_len rfl)) (Fx.ev_call (Fx.Cle.cal C_law_odd_number) hr rfl (Fx.av_cons (Fx.ev_var 2) Fx.av_nil)))
    (Fx.sv_one (Fx.ss_ret (Fx.ev_tup (Fx.av_cons (Fx.ev_var 3) (Fx.av_cons (Fx.ev_ix (Fx.ev_var 0) Fx.ev_int (fun _ _ => rfl)) Fx.av_nil))))))
    Fx.sv_nil)
    (Fx.sv_one (Fx.ss_ret (Fx.ev_tup (Fx.av_cons (Fx.ev_var 3) (Fx.av_cons (Fx.ev_call (Fx.Cle.cal C_law_odd_number) hr rfl (Fx.av_cons (Fx.ev_var 2) Fx.av_nil)) Fx.av_nil)))))))))
abbrev s_law : Stmt := top 20
theorem sc_law : FnScope ["_law_script", "_law_drawn", "_law_kinds", "_law_way", "_law_cell", "_law_limits", "_law_at"] ["_law_script"] (defScope s_law) := ⟨rfl, rfl, rfl, by decide +kernel, rfl, by decide +kernel, by decide +kernel⟩
set_option maxHeartbeats 0 in
theorem law_fn {P : Program} {w : World} {K : PySem.W.Frag} {mg : Str → Option Value} {base : Heap} {k : Nat} {fa : Addr} {fd : FuncData} {cl : Str → Value} (F : Fun K "law" "law" s_law fa fd) (z_range : mg "range" = none) (z_tuple : mg "tuple" = none) (z_len : mg "len" = none) (C_law_desk : Fx.Cle P w K mg base k "_law_desk" 1 f_law_desk) (C_law_cell_at : Fx.Cle P w K mg base k "_law_cell_at" 2 f_law_cell_at) (C_law_copied : Fx.Cle P w K mg base k "_law_copied" 1 f_law_copied) (C_desk_of : Fx.Clx P w K mg base cl k "desk_of" 2 f_desk_of) (C_law_refused : Fx.Cle P w K mg base k "_law_refused" 2 f_law_refused) (C_law_spoilt : Fx.Cle P w K mg base k "_law_spoilt" 3 f_law_spoilt) :
    FnOk P w K mg base CX0 (k + 1) fa fd ["_law_script"] (Fx.spF K none 1 f_law) := by
  exact Fx.fn_ok F sc_law rfl fun cdv A outer s H E hr =>
    (Fx.sv_cons (Fx.ss_set (i := 1) sc_law.nd rfl (Or.inl rfl) (Fx.ev_call (Fx.Cle.cal C_law_desk) hr rfl (Fx.av_cons (Fx.ev_var 0) Fx.av_nil)))
    (Fx.sv_cons (Fx.ss_set (i := 2) sc_law.nd rfl (Or.inr rfl) (Fx.ev_ix (Fx.ev_var 1) Fx.ev_int (fun _ _ => rfl)))
    (Fx.sv_cons (Fx.ss_set (i := 3) sc_law.nd rfl (Or.inl rfl) (Fx.ev_op Fx.op_modF (Fx.ev_call (Fx.Cle.cal C_law_cell_at) hr rfl (Fx.av_cons (Fx.ev_var 0) (Fx.av_cons Fx.ev_int Fx.av_nil))) Fx.ev_int))
    (Fx.sv_cons (Fx.ss_set (i := 4) sc_law.nd rfl (Or.inr rfl) (Fx.ev_call (Fx.Cle.cal C_law_cell_at) hr rfl (Fx.av_cons (Fx.ev_var 0) (Fx.av_cons Fx.ev_int Fx.av_nil))))
    (Fx.sv_cons (Fx.ss_setO (i := 5) sc_law.nd rfl (Or.inl rfl) (Fx.ov_cat (Fx.ev_ofO (Fx.ov_cut (Fx.ev_call (Fx.Cle.cal C_law_copied) hr rfl (Fx.av_cons (Fx.ev_ix (Fx.ev_var 1) Fx.ev_int (fun _ _ => rfl)) Fx.av_nil)) Fx.pv_no (Fx.pv_at Fx.ev_int))) (Fx.ev_lst (Fx.av_cons (Fx.ev_tup (Fx.av_cons (Fx.ev_ofO (Fx.ov_comp (N := ["_law_k"]) (nv := 1) (cap := []) (Fx.compok rfl) rfl (Fx.keep_name (by decide)) (Fx.iv_range rfl z_range (Fx.ev_var 2)) Fx.compx_no (fun _ _ _ _ => (Fx.gv_name (i := 0) (show List.Nodup (["_law_k"] : List Str) from by decide +kernel) rfl (Or.inl rfl))) (fun _ _ _ _ _ => Fx.ct_none) (fun _ _ _ _ _ => Fx.ev_int))) (Fx.av_cons Fx.ev_int Fx.av_nil))) Fx.av_nil))))
    (Fx.sv_cons (Fx.ss_if (Fx.tv_cmp (Fx.op_eqF hr.units) (Fx.ev_var 3) Fx.ev_int (nomark _))
    (Fx.sv_cons (Fx.ss_setIt (i := 5) rfl (Fx.ev_neg Fx.ev_int) (Fx.ev_tup (Fx.av_cons (Fx.ev_ofO (Fx.ov_comp (N := ["_law_k"]) (nv := 1) (cap := []) (Fx.compok rfl) rfl (Fx.keep_name (by decide)) (Fx.iv_range rfl z_range (Fx.ev_var 2)) Fx.compx_no (fun _ _ _ _ => (Fx.gv_name (i := 0) (show List.Nodup (["_law_k"] : List Str) from by decide +kernel) rfl (Or.inl rfl))) (fun _ _ _ _ _ => Fx.ct_none) (fun _ _ _ _ _ => (Fx.ev_op Fx.op_subF (Fx.ev_op Fx.op_powF Fx.ev_int Fx.ev_int) Fx.ev_int)))) (Fx.av_cons (Fx.ev_op Fx.op_subF Fx.ev_int (Fx.ev_op Fx.op_powF Fx.ev_int Fx.ev_int)) Fx.av_nil))))
    (Fx.sv_one (Fx.ss_ret (Fx.ev_cmp (Fx.op_eqF hr.units) (Fx.ev_call (Fx.Clx.calN C_desk_of) hr rfl (Fx.av_cons (Fx.ev_var 2) (Fx.av_cons (Fx.ev_var 5) Fx.av_nil))) (Fx.ev_tup (Fx.av_cons (Fx.ev_var 2) (Fx.av_cons (Fx.ev_tuple rfl z_tuple (Fx.ev_ofO (Fx.ov_comp (N := ["_law_one"]) (nv := 1) (cap := []) (Fx.compok rfl) rfl (Fx.keep_name (by decide)) (Fx.iv_seq (Fx.ev_var 5)) Fx.compx_no (fun _ _ _ _ => (Fx.gv_name (i := 0) (show List.Nodup (["_law_one"] : List Str) from by decide +kernel) rfl (Or.inl rfl))) (fun _ _ _ _ _ => Fx.ct_none) (fun _ _ _ _ _ => (Fx.ev_tup (Fx.av_cons (Fx.ev_tuple rfl z_tuple (Fx.ev_ix (Fx.ev_var 0) Fx.ev_int (fun _ _ => rfl))) (Fx.av_cons (Fx.ev_ix (Fx.ev_var 0) Fx.ev_int (fun _ _ => rfl)) Fx.av_nil))))))) Fx.av_nil))) (nomark _)))))
    Fx.sv_nil)
    (Fx.sv_cons (Fx.ss_if (Fx.tv_cmp Fx.op_ltF (Fx.ev_var 3) Fx.ev_int (nomark _))
    (Fx.sv_one (Fx.ss_ret (Fx.ev_call (Fx.Cle.cal C_law_refused) hr rfl (Fx.av_cons (Fx.ev_ix (Fx.ev_lst (Fx.av_cons Fx.ev_int (Fx.av_cons Fx.ev_int (Fx.av_cons (Fx.ev_neg Fx.ev_int) (Fx.av_cons Fx.ev_bl (Fx.av_cons Fx.ev_str (Fx.av_cons Fx.ev_non (Fx.av_cons (Fx.ev_op Fx.op_addF Fx.ev_int (Fx.ev_op Fx.op_modF (Fx.ev_var 4) (Fx.ev_op Fx.op_powF Fx.ev_int Fx.ev_int))) Fx.av_nil)))))))) (Fx.ev_op Fx.op_modF (Fx.ev_var 4) Fx.ev_int) (fun _ _ => rfl)) (Fx.av_cons (Fx.ev_lst Fx.av_nil) Fx.av_nil)))))
    Fx.sv_nil)
    (Fx.sv_cons (Fx.ss_if (Fx.tv_cmp (Fx.op_eqF hr.units) (Fx.ev_var 3) Fx.ev_int (nomark _))
    (Fx.sv_one (Fx.ss_ret (Fx.ev_call (Fx.Cle.cal C_law_refused) hr rfl (Fx.av_cons (Fx.ev_var 2) (Fx.av_cons (Fx.ev_ix (Fx.ev_lst (Fx.av_cons Fx.ev_non (Fx.av_cons (Fx.ev_tuple rfl z_tuple (Fx.ev_var 5)) Fx.av_nil))) (Fx.ev_op Fx.op_modF (Fx.ev_var 4) Fx.ev_int) (fun _ _ => rfl)) Fx.av_nil)))))
    Fx.sv_nil)
    (Fx.sv_cons (Fx.ss_if (Fx.tv_cmp (Fx.op_eqF hr.units) (Fx.ev_var 3) Fx.ev_int (nomark _))
    (Fx.sv_one (Fx.ss_ret (Fx.ev_call (Fx.Cle.cal C_law_refused) hr rfl (Fx.av_cons (Fx.ev_var 2) (Fx.av_cons (Fx.ev_ofO (Fx.ov_comp (N := ["_law_j", "_law_kinds", "_law_cell"]) (nv := 1) (cap := [2, 4]) (Fx.compok rfl) rfl (Fx.keep_name (by decide)) (Fx.iv_range rfl z_range Fx.ev_int) Fx.compx_no (fun _ _ _ _ => (Fx.gv_name (i := 0) (show List.Nodup (["_law_j", "_law_kinds", "_law_cell"] : List Str) from by decide +kernel) rfl (Or.inl rfl))) (fun _ _ _ _ _ => Fx.ct_none) (fun _ _ _ _ _ => (Fx.ev_tup (Fx.av_cons (Fx.ev_ofO (Fx.ov_comp (N := ["_law_k", "_law_cell"]) (nv := 1) (cap := [2]) (Fx.compok rfl) rfl (Fx.keep_name (by decide)) (Fx.iv_range rfl z_range (Fx.ev_var 1)) Fx.compx_no (fun _ _ _ _ => (Fx.gv_name (i := 0) (show List.Nodup (["_law_k", "_law_cell"] : List Str) from by decide +kernel) rfl (Or.inl rfl))) (fun _ _ _ _ _ => Fx.ct_none) (fun _ _ _ _ _ => (Fx.ev_op Fx.op_modF (Fx.ev_var 1) Fx.ev_int)))) (Fx.av_cons (Fx.ev_var 0) Fx.av_nil)))))) Fx.av_nil)))))
    Fx.sv_nil)
    (Fx.sv_cons (Fx.ss_set (i := 6) sc_law.nd rfl (Or.inl rfl) (Fx.ev_op Fx.op_modF (Fx.ev_call (Fx.Cle.cal C_law_cell_at) hr rfl (Fx.av_cons (Fx.ev_var 0) (Fx.av_cons Fx.ev_int Fx.av_nil))) (Fx.ev_lenN (i := 5) rfl z_len rfl)))
    (Fx.sv_cons (Fx.ss_setIt (i := 5) rfl (Fx.ev_var 6) (Fx.ev_call (Fx.Cle.cal C_law_spoilt) hr rfl (Fx.av_cons (Fx.ev_ixN (i := 5) rfl (Fx.ev_var 6) (fun _ _ => rfl)) (Fx.av_cons (Fx.ev_var 3) (Fx.av_cons (Fx.ev_var 4) Fx.av_nil)))))
    (Fx.sv_one (Fx.ss_ret (Fx.ev_call (Fx.Cle.cal C_law_refused) hr rfl (Fx.av_cons (Fx.ev_var 2) (Fx.av_cons (Fx.ev_var 5) Fx.av_nil))))))))))))))))
theorem all_mk {l : PySem.W.OpenLaw} {w : World} {K : PySem.W.Frag} {h : Heap} {mg : Str → Option Value} {fa : Addr} (X : K.In h) (G : h.Ns mainGlobals mg) (hfa : mg "law" = some (.ref fa))
    {f0 : Addr} {od0 an0 : Option Addr} {sl0 : Array (Option Value)} {oc0 kV0 dc0 pm0 cd0 ct0 : Value}
    {f1 : Addr} {od1 an1 : Option Addr} {sl1 : Array (Option Value)} {oc1 kV1 dc1 pm1 cd1 ct1 : Value}
    {f2 : Addr} {od2 an2 : Option Addr} {sl2 : Array (Option Value)} {oc2 kV2 dc2 pm2 cd2 ct2 : Value}
    {f3 : Addr} {od3 an3 : Option Addr} {sl3 : Array (Option Value)} {oc3 kV3 dc3 pm3 cd3 ct3 : Value}
    {f4 : Addr} {od4 an4 : Option Addr} {sl4 : Array (Option Value)} {oc4 kV4 dc4 pm4 cd4 ct4 : Value}
    {f5 : Addr} {od5 an5 : Option Addr} {sl5 : Array (Option Value)} {oc5 kV5 dc5 pm5 cd5 ct5 : Value}
    {f6 : Addr} {od6 an6 : Option Addr} {sl6 : Array (Option Value)} {oc6 kV6 dc6 pm6 cd6 ct6 : Value}
    {f7 : Addr} {od7 an7 : Option Addr} {sl7 : Array (Option Value)} {oc7 kV7 dc7 pm7 cd7 ct7 : Value}
    {f8 : Addr} {od8 an8 : Option Addr} {sl8 : Array (Option Value)} {oc8 kV8 dc8 pm8 cd8 ct8 : Value}
    {f9 : Addr} {od9 an9 : Option Addr} {sl9 : Array (Option Value)} {oc9 kV9 dc9 pm9 cd9 ct9 : Value}
    {f10 : Addr} {od10 an10 : Option Addr} {sl10 : Array (Option Value)} {oc10 kV10 dc10 pm10 cd10 ct10 : Value}
    {f11 : Addr} {od11 an11 : Option Addr} {sl11 : Array (Option Value)} {oc11 kV11 dc11 pm11 cd11 ct11 : Value}
    {tg_GREATEST_NUMBER : Tok}
    {tg_MOST_KINDS : Tok}
    {tg_MOST_LIMITS : Tok}
    {X_NoDesk : Addr}
    {X_LimitError : Addr}
    (a0 : PySem.W.nsIn K mainGlobals "is_whole" = some (some (.ref f0))) (l0 : K.lookup f0 = some ⟨oc0, od0, .func (PySem.W.fnOf "is_whole" "is_whole" (defArgs s_is_whole) (defBody s_is_whole) (defScope s_is_whole) .none kV0 dc0 pm0 an0 cd0 ct0), sl0⟩) (c0 : PySem.W.codeIn K cd0 "is_whole" = true) (k0 : PySem.W.keepIn K (.ref f0) = true)
    (a1 : PySem.W.nsIn K mainGlobals "is_number" = some (some (.ref f1))) (l1 : K.lookup f1 = some ⟨oc1, od1, .func (PySem.W.fnOf "is_number" "is_number" (defArgs s_is_number) (defBody s_is_number) (defScope s_is_number) .none kV1 dc1 pm1 an1 cd1 ct1), sl1⟩) (c1 : PySem.W.codeIn K cd1 "is_number" = true) (k1 : PySem.W.keepIn K (.ref f1) = true)
    (a2 : PySem.W.nsIn K mainGlobals "limit_of" = some (some (.ref f2))) (l2 : K.lookup f2 = some ⟨oc2, od2, .func (PySem.W.fnOf "limit_of" "limit_of" (defArgs s_limit_of) (defBody s_limit_of) (defScope s_limit_of) .none kV2 dc2 pm2 an2 cd2 ct2), sl2⟩) (c2 : PySem.W.codeIn K cd2 "limit_of" = true) (k2 : PySem.W.keepIn K (.ref f2) = true)
    (a3 : PySem.W.nsIn K mainGlobals "desk_of" = some (some (.ref f3))) (l3 : K.lookup f3 = some ⟨oc3, od3, .func (PySem.W.fnOf "desk_of" "desk_of" (defArgs s_desk_of) (defBody s_desk_of) (defScope s_desk_of) .none kV3 dc3 pm3 an3 cd3 ct3), sl3⟩) (c3 : PySem.W.codeIn K cd3 "desk_of" = true) (k3 : PySem.W.keepIn K (.ref f3) = true)
    (a4 : PySem.W.nsIn K mainGlobals "_law_cell_at" = some (some (.ref f4))) (l4 : K.lookup f4 = some ⟨oc4, od4, .func (PySem.W.fnOf "_law_cell_at" "_law_cell_at" (defArgs s_law_cell_at) (defBody s_law_cell_at) (defScope s_law_cell_at) .none kV4 dc4 pm4 an4 cd4 ct4), sl4⟩) (c4 : PySem.W.codeIn K cd4 "_law_cell_at" = true) (k4 : PySem.W.keepIn K (.ref f4) = true)
    (a5 : PySem.W.nsIn K mainGlobals "_law_number" = some (some (.ref f5))) (l5 : K.lookup f5 = some ⟨oc5, od5, .func (PySem.W.fnOf "_law_number" "_law_number" (defArgs s_law_number) (defBody s_law_number) (defScope s_law_number) .none kV5 dc5 pm5 an5 cd5 ct5), sl5⟩) (c5 : PySem.W.codeIn K cd5 "_law_number" = true) (k5 : PySem.W.keepIn K (.ref f5) = true)
    (a6 : PySem.W.nsIn K mainGlobals "_law_desk" = some (some (.ref f6))) (l6 : K.lookup f6 = some ⟨oc6, od6, .func (PySem.W.fnOf "_law_desk" "_law_desk" (defArgs s_law_desk) (defBody s_law_desk) (defScope s_law_desk) .none kV6 dc6 pm6 an6 cd6 ct6), sl6⟩) (c6 : PySem.W.codeIn K cd6 "_law_desk" = true) (k6 : PySem.W.keepIn K (.ref f6) = true)
    (a7 : PySem.W.nsIn K mainGlobals "_law_copied" = some (some (.ref f7))) (l7 : K.lookup f7 = some ⟨oc7, od7, .func (PySem.W.fnOf "_law_copied" "_law_copied" (defArgs s_law_copied) (defBody s_law_copied) (defScope s_law_copied) .none kV7 dc7 pm7 an7 cd7 ct7), sl7⟩) (c7 : PySem.W.codeIn K cd7 "_law_copied" = true) (k7 : PySem.W.keepIn K (.ref f7) = true)
    (a8 : PySem.W.nsIn K mainGlobals "_law_refused" = some (some (.ref f8))) (l8 : K.lookup f8 = some ⟨oc8, od8, .func (PySem.W.fnOf "_law_refused" "_law_refused" (defArgs s_law_refused) (defBody s_law_refused) (defScope s_law_refused) .none kV8 dc8 pm8 an8 cd8 ct8), sl8⟩) (c8 : PySem.W.codeIn K cd8 "_law_refused" = true) (k8 : PySem.W.keepIn K (.ref f8) = true)
    (a9 : PySem.W.nsIn K mainGlobals "_law_odd_number" = some (some (.ref f9))) (l9 : K.lookup f9 = some ⟨oc9, od9, .func (PySem.W.fnOf "_law_odd_number" "_law_odd_number" (defArgs s_law_odd_number) (defBody s_law_odd_number) (defScope s_law_odd_number) .none kV9 dc9 pm9 an9 cd9 ct9), sl9⟩) (c9 : PySem.W.codeIn K cd9 "_law_odd_number" = true) (k9 : PySem.W.keepIn K (.ref f9) = true)
    (a10 : PySem.W.nsIn K mainGlobals "_law_spoilt" = some (some (.ref f10))) (l10 : K.lookup f10 = some ⟨oc10, od10, .func (PySem.W.fnOf "_law_spoilt" "_law_spoilt" (defArgs s_law_spoilt) (defBody s_law_spoilt) (defScope s_law_spoilt) .none kV10 dc10 pm10 an10 cd10 ct10), sl10⟩) (c10 : PySem.W.codeIn K cd10 "_law_spoilt" = true) (k10 : PySem.W.keepIn K (.ref f10) = true)
    (a11 : PySem.W.nsIn K mainGlobals "law" = some (some (.ref f11))) (l11 : K.lookup f11 = some ⟨oc11, od11, .func (PySem.W.fnOf "law" "law" (defArgs s_law) (defBody s_law) (defScope s_law) .none kV11 dc11 pm11 an11 cd11 ct11), sl11⟩) (c11 : PySem.W.codeIn K cd11 "law" = true) (k11 : PySem.W.keepIn K (.ref f11) = true)
    (z_isinstance : PySem.W.nsIn K mainGlobals "isinstance" = some none)
    (z_int : PySem.W.nsIn K mainGlobals "int" = some none)
    (z_bool : PySem.W.nsIn K mainGlobals "bool" = some none)
    (z_abs : PySem.W.nsIn K mainGlobals "abs" = some none)
    (z_tuple : PySem.W.nsIn K mainGlobals "tuple" = some none)
    (z_len : PySem.W.nsIn K mainGlobals "len" = some none)
    (z_list : PySem.W.nsIn K mainGlobals "list" = some none)
    (z_all : PySem.W.nsIn K mainGlobals "all" = some none)
    (z_range : PySem.W.nsIn K mainGlobals "range" = some none)
    (z_ValueError : PySem.W.nsIn K mainGlobals "ValueError" = some none)
    (g_GREATEST_NUMBER : PySem.W.nsIn K mainGlobals "GREATEST_NUMBER" = some (some (.int 999999999999 tg_GREATEST_NUMBER)))
    (g_MOST_KINDS : PySem.W.nsIn K mainGlobals "MOST_KINDS" = some (some (.int 4 tg_MOST_KINDS)))
    (g_MOST_LIMITS : PySem.W.nsIn K mainGlobals "MOST_LIMITS" = some (some (.int 10 tg_MOST_LIMITS)))
    (x_NoDesk : PySem.W.nsIn K mainGlobals "NoDesk" = some (some (.ref X_NoDesk))) (q_NoDesk : PySem.W.excIn K X_NoDesk [.type "ValueError", .type "Exception", .type "BaseException", .type "object"] "ValueError.__new__" = true)
    (x_LimitError : PySem.W.nsIn K mainGlobals "LimitError" = some (some (.ref X_LimitError))) (q_LimitError : PySem.W.excIn K X_LimitError [.type "ValueError", .type "Exception", .type "BaseException", .type "object"] "ValueError.__new__" = true)
    (u_NoDesk_NoDesk : PySem.W.subIn K (.ref X_NoDesk) (.ref X_NoDesk) = some true)
    (u_NoDesk_LimitError : PySem.W.subIn K (.ref X_NoDesk) (.ref X_LimitError) = some true)
    (u_NoDesk_ValueError : PySem.W.subIn K (.ref X_NoDesk) (.type "ValueError") = some true) :
    ∃ fd : FuncData, (∀ (s : Shared) (v : Value), BindsTo s fd ⟨[v], []⟩ [("_law_script", v)]) ∧ ∀ base : Heap, K.In base → base.Ns mainGlobals mg → FnOk l.prog w K mg base CX0 6 fa fd ["_law_script"] (Fx.spF K none 1 f_law) := by
  have e := hfa.symm.trans (PySem.W.mg_of X G a11)
  cases e
  have F0 := fun_mk (st := s_is_whole) l0 c0 k0
  have b0 := F0.binds (ps := ["value"]) fun _ _ _ _ _ _ us hl => match us, hl with | [_], _ => rfl
  have F1 := fun_mk (st := s_is_number) l1 c1 k1
  have b1 := F1.binds (ps := ["value"]) fun _ _ _ _ _ _ us hl => match us, hl with | [_], _ => rfl
  have F2 := fun_mk (st := s_limit_of) l2 c2 k2
  have b2 := F2.binds (ps := ["kinds", "limit"]) fun _ _ _ _ _ _ us hl => match us, hl with | [_, _], _ => rfl
  have F3 := fun_mk (st := s_desk_of) l3 c3 k3
  have b3 := F3.binds (ps := ["kinds", "limits"]) fun _ _ _ _ _ _ us hl => match us, hl with | [_, _], _ => rfl
  have F4 := fun_mk (st := s_law_cell_at) l4 c4 k4
  have b4 := F4.binds (ps := ["_law_script", "_law_k"]) fun _ _ _ _ _ _ us hl => match us, hl with | [_, _], _ => rfl
  have F5 := fun_mk (st := s_law_number) l5 c5 k5
  have b5 := F5.binds (ps := ["_law_cell", "_law_wide"]) fun _ _ _ _ _ _ us hl => match us, hl with | [_, _], _ => rfl
  have F6 := fun_mk (st := s_law_desk) l6 c6 k6
  have b6 := F6.binds (ps := ["_law_script"]) fun _ _ _ _ _ _ us hl => match us, hl with | [_], _ => rfl
  have F7 := fun_mk (st := s_law_copied) l7 c7 k7
  have b7 := F7.binds (ps := ["_law_limits"]) fun _ _ _ _ _ _ us hl => match us, hl with | [_], _ => rfl
  have F8 := fun_mk (st := s_law_refused) l8 c8 k8
  have b8 := F8.binds (ps := ["_law_kinds", "_law_limits"]) fun _ _ _ _ _ _ us hl => match us, hl with | [_, _], _ => rfl
  have F9 := fun_mk (st := s_law_odd_number) l9 c9 k9
  have b9 := F9.binds (ps := ["_law_cell"]) fun _ _ _ _ _ _ us hl => match us, hl with | [_], _ => rfl
  have F10 := fun_mk (st := s_law_spoilt) l10 c10 k10
  have b10 := F10.binds (ps := ["_law_limit", "_law_way", "_law_cell"]) fun _ _ _ _ _ _ us hl => match us, hl with | [_, _, _], _ => rfl
  have F11 := fun_mk (st := s_law) l11 c11 k11
  have b11 := F11.binds (ps := ["_law_script"]) fun _ _ _ _ _ _ us hl => match us, hl with | [_], _ => rfl
  have m_isinstance := PySem.W.mg_none_of X G z_isinstance
  have m_int := PySem.W.mg_none_of X G z_int
  have m_bool := PySem.W.mg_none_of X G z_bool
  have m_abs := PySem.W.mg_none_of X G z_abs
  have m_tuple := PySem.W.mg_none_of X G z_tuple
  have m_len := PySem.W.mg_none_of X G z_len
  have m_list := PySem.W.mg_none_of X G z_list
  have m_all := PySem.W.mg_none_of X G z_all
  have m_range := PySem.W.mg_none_of X G z_range
  have m_ValueError := PySem.W.mg_none_of X G z_ValueError
  have n_GREATEST_NUMBER := PySem.W.mg_of X G g_GREATEST_NUMBER
  have n_MOST_KINDS := PySem.W.mg_of X G g_MOST_KINDS
  have n_MOST_LIMITS := PySem.W.mg_of X G g_MOST_LIMITS
  obtain ⟨cl, hcl⟩ : ∃ cl : Str → Value, cl "NoDesk" = .ref X_NoDesk ∧ cl "LimitError" = .ref X_LimitError ∧ True := ⟨fun c => if c = "NoDesk" then .ref X_NoDesk else if c = "LimitError" then .ref X_LimitError else .none, (if_pos rfl), ((if_neg (by decide)).trans (if_pos rfl)), trivial⟩
  obtain ⟨e_NoDesk, hcl⟩ := hcl
  obtain ⟨e_LimitError, hcl⟩ := hcl
  have c_NoDesk : Fx.XCls K mg "NoDesk" X_NoDesk := ⟨PySem.W.mg_of X G x_NoDesk, q_NoDesk⟩
  have c_LimitError : Fx.XCls K mg "LimitError" X_LimitError := ⟨PySem.W.mg_of X G x_LimitError, q_LimitError⟩
  refine ⟨PySem.W.fnOf "law" "law" (defArgs s_law) (defBody s_law) (defScope s_law) .none kV11 dc11 pm11 an11 cd11 ct11, fun s v => .of_eq rfl, fun base _ _ => ?_⟩
  have R_is_whole := ok_is_whole (P := l.prog) (w := w) (base := base) (k := 0) F0 (PySem.W.mg_of X G a0) b0 m_isinstance m_int m_bool
  have R_is_number := ok_is_number (P := l.prog) (w := w) (base := base) (k := 1) F1 (PySem.W.mg_of X G a1) b1 m_abs ⟨_, n_GREATEST_NUMBER⟩ (R_is_whole.mono (by decide))
  have R_limit_of := ok_limit_of (P := l.prog) (w := w) (base := base) (k := 2) (cl := cl) F2 (PySem.W.mg_of X G a2) b2 m_isinstance m_tuple m_len m_list m_all c_NoDesk e_NoDesk (R_is_number.mono (by decide))
  have R_desk_of := ok_desk_of (P := l.prog) (w := w) (base := base) (k := 3) (cl := cl) F3 (PySem.W.mg_of X G a3) b3 m_isinstance m_list m_len m_tuple ⟨_, n_MOST_KINDS⟩ ⟨_, n_MOST_LIMITS⟩ c_NoDesk e_NoDesk (R_is_whole.mono (by decide)) (R_limit_of.mono (by decide))
  have R_law_cell_at := ok_law_cell_at (P := l.prog) (w := w) (base := base) (k := 0) F4 (PySem.W.mg_of X G a4) b4 m_len
  have R_law_number := ok_law_number (P := l.prog) (w := w) (base := base) (k := 0) F5 (PySem.W.mg_of X G a5) b5 
  have R_law_desk := ok_law_desk (P := l.prog) (w := w) (base := base) (k := 1) F6 (PySem.W.mg_of X G a6) b6 m_range m_abs (R_law_cell_at.mono (by decide)) (R_law_number.mono (by decide))
  have R_law_copied := ok_law_copied (P := l.prog) (w := w) (base := base) (k := 0) F7 (PySem.W.mg_of X G a7) b7 m_list
  have R_law_refused := ok_law_refused (P := l.prog) (w := w) (base := base) (k := 4) (cl := cl) F8 (PySem.W.mg_of X G a8) b8 m_int m_isinstance m_ValueError c_NoDesk c_LimitError e_NoDesk e_LimitError u_NoDesk_NoDesk u_NoDesk_LimitError u_NoDesk_ValueError (R_desk_of.mono (by decide))
  have R_law_odd_number := ok_law_odd_number (P := l.prog) (w := w) (base := base) (k := 0) F9 (PySem.W.mg_of X G a9) b9 
  have R_law_spoilt := ok_law_spoilt (P := l.prog) (w := w) (base := base) (k := 1) F10 (PySem.W.mg_of X G a10) b10 m_list m_tuple m_len (R_law_odd_number.mono (by decide))
  exact law_fn F11 m_range m_tuple m_len (R_law_desk.mono (by decide)) (R_law_cell_at.mono (by decide)) (R_law_copied.mono (by decide)) (R_desk_of.mono (by decide)) (R_law_refused.mono (by decide)) (R_law_spoilt.mono (by decide))
theorem walk {l : PySem.W.OpenLaw} {q : Program} {loose : List Str} {XP : (Str → Option Value) → Heap → Prop} {YP : World → Heap → Prop} {d : DefRec} {K : Params → PySem.W.Frag} (hn : l.most = some 63) (hdf : d.params.defaults = [])
    (hY : ∀ (w : World) (h : Heap), YP w h → (K w.params).In h)
    (F : ∀ (w : World) (mg : Str → Option Value) (fa : Addr) (h : Heap), (K w.params).In h → h.Ns mainGlobals mg → mg d.name = some (.ref fa) →
      ∃ fd : FuncData, (∀ (s : Shared) (u : Value), BindsTo s fd ⟨[u], []⟩ [("_law_script", u)]) ∧ ∀ base : Heap, (K w.params).In base → base.Ns mainGlobals mg → FnOk l.prog w (K w.params) mg base CX0 6 fa fd ["_law_script"] (Fx.spF (K w.params) none 1 f_law)) :
    PySem.W.WalkO q loose XP YP l.row.toRowW d [] (fun f vs => PySem.call f vs) :=
  L2.walk_of (n := 63) (k := 6) (x := "_law_script") (CX := fun _ => CX0) (sp := fun w => Fx.spF (K w.params) none 1 f_law) hn (by decide) hdf ⟨rfl, by decide, by decide⟩ hY F (fun w H a ns hl hO hS => Fx.law_sp (law_ok ns hl) hO hS) fun _ _ _ _ _ z => z
end K03
open PySem PySem.W PyProof.Rows
set_option maxRecDepth 100000 in
set_option maxHeartbeats 0 in
theorem PySem.Challenge.cw_limitdesk_k03_desks_refused_holds : PySem.Challenge.rw_limitdesk_k03_desks_refused.Holds := by
  w_on; o_law; k_head; (case hw => w_witness2)
  k_fill
  refine K03.walk (l := PySem.Challenge.rw_limitdesk_k03_desks_refused) rfl rfl (fun w h Y => PySem.W.kIn_of Y) ?F
  case F =>
    intro w mg fa h KX G hmg
    refine' K03.all_mk KX G hmg ?a0 ?l0 ?c0 ?k0 ?a1 ?l1 ?c1 ?k1 ?a2 ?l2 ?c2 ?k2 ?a3 ?l3 ?c3 ?k3 ?a4 ?l4 ?c4 ?k4 ?a5 ?l5 ?c5 ?k5 ?a6 ?l6 ?c6 ?k6 ?a7 ?l7 ?c7 ?k7 ?a8 ?l8 ?c8 ?k8 ?a9 ?l9 ?c9 ?k9 ?a10 ?l10 ?c10 ?k10 ?a11 ?l11 ?c11 ?k11 ?z_isinstance ?z_int ?z_bool ?z_abs ?z_tuple ?z_len ?z_list ?z_all ?z_range ?z_ValueError ?g_GREATEST_NUMBER ?g_MOST_KINDS ?g_MOST_LIMITS ?x_NoDesk ?q_NoDesk ?x_LimitError ?q_LimitError ?u_NoDesk_NoDesk ?u_NoDesk_LimitError ?u_NoDesk_ValueError
    (case a0 => k_is)
    (case l0 => k_is)
    (case c0 => k_is)
    (case k0 => k_is)
    (case a1 => k_is)
    (case l1 => k_is)
    (case c1 => k_is)
    (case k1 => k_is)
    (case a2 => k_is)
    (case l2 => k_is)
    (case c2 => k_is)
    (case k2 => k_is)
    (case a3 => k_is)
    (case l3 => k_is)
    (case c3 => k_is)
    (case k3 => k_is)
    (case a4 => k_is)
    (case l4 => k_is)
    (case c4 => k_is)
    (case k4 => k_is)
    (case a5 => k_is)
    (case l5 => k_is)
    (case c5 => k_is)
    (case k5 => k_is)
    (case a6 => k_is)
    (case l6 => k_is)
    (case c6 => k_is)
    (case k6 => k_is)
    (case a7 => k_is)
    (case l7 => k_is)
    (case c7 => k_is)
    (case k7 => k_is)
    (case a8 => k_is)
    (case l8 => k_is)
    (case c8 => k_is)
    (case k8 => k_is)
    (case a9 => k_is)
    (case l9 => k_is)
    (case c9 => k_is)
    (case k9 => k_is)
    (case a10 => k_is)
    (case l10 => k_is)
    (case c10 => k_is)
    (case k10 => k_is)
    (case a11 => k_is)
    (case l11 => k_is)
    (case c11 => k_is)
    (case k11 => k_is)
    (case z_isinstance => k_is)
    (case z_int => k_is)
    (case z_bool => k_is)
    (case z_abs => k_is)
    (case z_tuple => k_is)
    (case z_len => k_is)
    (case z_list => k_is)
    (case z_all => k_is)
    (case z_range => k_is)
    (case z_ValueError => k_is)
    (case g_GREATEST_NUMBER => k_is)
    (case g_MOST_KINDS => k_is)
    (case g_MOST_LIMITS => k_is)
    (case x_NoDesk => k_is)
    (case q_NoDesk => k_exc)
    (case x_LimitError => k_is)
    (case q_LimitError => k_exc)
    (case u_NoDesk_NoDesk => k_is)
    (case u_NoDesk_LimitError => k_is)
    (case u_NoDesk_ValueError => k_is)
#print axioms PySem.Challenge.cw_limitdesk_k03_desks_refused_holds

