import PyProof.Rows.All
import Wide.All
import OpenK.AllK
import Wide.FinOn
import Lean
import PyProof.EqAt
import PyProof.EqKinds
import PyProof.EqLayable
import PyProof.TupleCall
import PyProof.P3Statements
import PySem.Challenge.RW_limitdesk_k13_whole_points
set_option Elab.async false
set_option linter.all false
set_option maxRecDepth 100000
namespace L2
open PySem PySem.Spec PyProof.Rows
abbrev Key:=Sum Int Str
def keyIs:Key->Value->Bool
 | .inl k,v=>Value.isInt k v
 | .inr x,v=>Value.isStrOf x v
def keyH (w:World):Key->Int
 | .inl k=>hashInt k
 | .inr x=>hashStr w x
theorem Yr:∀{k:Key}{v:Value},keyIs k v=true->(∃i t,k=Sum.inl i/\v=Value.int i t)\/(∃x t,k=Sum.inr x/\v=Value.str x t)
 | .inl i,v,h=>by
  obtain⟨t,e⟩:=Value.isInt_shape (k:=i) (v:=v) h
  exact .inl ⟨i,t,rfl,e⟩
 | .inr x,v,h=>by
  obtain⟨t,e⟩:=Value.isStrOf_shape (x:=x) (v:=v) h
  exact .inr ⟨x,t,rfl,e⟩
theorem key_ll (a b:Int):decide ((Sum.inl a:Key)=Sum.inl b)=(a == b):=by
 by_cases e:a=b
 ·subst e;simp
 ·have h:¬(Sum.inl a:Key)=Sum.inl b:=fun q=>e (Sum.inl.inj q)
  rw[decide_eq_false h]
  exact(beq_eq_false_iff_ne.mpr e).symm
theorem key_rr (a b:Str):decide ((Sum.inr a:Key)=Sum.inr b)=decide (a=b):=by
 by_cases e:a=b
 ·subst e;simp
 ·have h:¬(Sum.inr a:Key)=Sum.inr b:=fun q=>e (Sum.inr.inj q)
  rw[decide_eq_false h,decide_eq_false e]
theorem key_lr (a:Int) (b:Str):decide ((Sum.inl a:Key)=Sum.inr b)=false:=decide_eq_false (fun q=>nomatch q)
theorem key_rl (a:Str) (b:Int):decide ((Sum.inr a:Key)=Sum.inl b)=false:=decide_eq_false (fun q=>nomatch q)
def zbH (prog:Program) (w:World):PySem.KeyKind prog w Key where
 is:=keyIs
 hash:=keyH w
 inj:=fun v a b ha hb=>by
  rcases Yr ha with ⟨i,t,rfl,rfl⟩ | ⟨x,t,rfl,rfl⟩
  ·rcases Yr hb with ⟨j,u,rfl,e⟩ | ⟨y,u,rfl,e⟩
   ·injection e with e1 _;rw[e1]
   ·exact nomatch e
  ·rcases Yr hb with ⟨j,u,rfl,e⟩ | ⟨y,u,rfl,e⟩
   ·exact nomatch e
   ·injection e with e1 _;rw[e1]
 byValue:=fun k v h=>by
  rcases Yr h with ⟨i,t,rfl,rfl⟩ | ⟨x,t,rfl,rfl⟩ <;> rfl
 pyHash:=fun hv h=>by
  rcases Yr hv with ⟨i,t,rfl,rfl⟩ | ⟨x,t,rfl,rfl⟩
  ·exact wpAny_pyHash_int h
  ·exact wpAny_pyHash_str h
 eqBool:=fun hu hv h=>by
  rcases Yr hu with ⟨i,t,rfl,rfl⟩ | ⟨x,t,rfl,rfl⟩
  ·rcases Yr hv with ⟨j,u,rfl,rfl⟩ | ⟨y,u,rfl,rfl⟩
   ·rw[key_ll] at h;exact wpAny_eqBool_int h
   ·rw[key_lr] at h;exact SeqAt.EqAt.int_str i t y u _ _ _ _ h
  ·rcases Yr hv with ⟨j,u,rfl,rfl⟩ | ⟨y,u,rfl,rfl⟩
   ·rw[key_rl] at h;exact SeqAt.EqAt.str_int x t j u _ _ _ _ h
   ·rw[key_rr] at h;exact wpAny_eqBool_str h
 «strs»:=fun k x t v h=>by
  rcases Yr h with ⟨i,u,rfl,e⟩ | ⟨y,u,rfl,e⟩
  ·exact nomatch e
  ·injection e with e1 _
   subst e1
   cases v <;> rfl
theorem mixKind_is (prog:Program) (w:World) (k:Key) (v:Value):(zbH prog w).is k v=keyIs k v:=rfl
end L2
namespace L2
open PySem PySem.Spec PyProof.Rows
inductive V where
 | non | bl (b:Bool) | int (i:Int) | str (x:Str) | byt (b:Array UInt8) | flt (b:UInt64) | ref (a:Addr) | ty (n:String)
 deriving DecidableEq
def RelV:V->Value->Prop
 | .non,u=>u=Value.none
 | .bl b,u=>u=Value.bool b
 | .int i,u=>∃t,u=Value.int i t
 | .str x,u=>∃t,u=Value.str x t
 | .byt b,u=>∃t,u=Value.bytes b t
 | .flt b,u=>∃t,u=Value.float b t
 | .ref a,u=>u=Value.ref a
 | .ty n,u=>u=Value.type n
abbrev Vals:List V->List Value->Prop:=Paired RelV
theorem Vals.length {xs:List V}{us:List Value}(r:Vals xs us):xs.length=us.length:=Paired.length r
theorem Vals.get:∀{xs:List V}{us:List Value}{i:Nat}{x:V},Vals xs us->xs[i]? = some x->∃u,us[i]? = some u/\RelV x u
 | _,_,_,_,.nil,e=>by simp at e
 | _,_,0,_,.cons r _,e=>by simp at e;subst e;exact⟨_,rfl,r⟩
 | _,_,i+1,x,.cons _ t,e=>by
  obtain⟨u,h1,h2⟩:=Vals.get (i:=i) (x:=x) t (by simpa using e)
  exact⟨u,by simpa using h1,h2⟩
theorem Vals.set {x:V}{u:Value}(r:RelV x u):∀{xs:List V}{us:List Value}(i:Nat),Vals xs us->Vals (xs.set i x) (us.set i u)
 | _,_,_,.nil=>.nil
 | _,_,0,.cons _ t=>.cons r t
 | _,_,i+1,.cons q t=>.cons q (Vals.set r i t)
theorem Vals.append:∀{xs ys:List V}{us ws:List Value},Vals xs us->Vals ys ws->Vals (xs++ys) (us++ws)
 | _,_,_,_,.nil,s=>s
 | _,_,_,_,.cons r t,s=>.cons r (Vals.append t s)
theorem Vals.take:∀{xs:List V}{us:List Value}(n:Nat),Vals xs us->Vals (xs.take n) (us.take n)
 | _,_,0,_=>.nil
 | _,_,_+1,.nil=>.nil
 | _,_,n+1,.cons r t=>.cons r (Vals.take n t)
theorem Vals.drop:∀{xs:List V}{us:List Value}(n:Nat),Vals xs us->Vals (xs.drop n) (us.drop n)
 | _,_,0,r=>r
 | _,_,_+1,.nil=>.nil
 | _,_,n+1,.cons _ t=>Vals.drop n t
def RelO:Option V->Option Value->Prop
 | some v,some u=>RelV v u
 | none,none=>True
 | _,_=>False
def KV {κ:Type}:List (κ × V)->List (κ × Value)->Prop:=Paired fun(p:κ × V) (q:κ × Value)=>p.1=q.1/\RelV p.2 q.2
def kV:Key->V
 | .inl i=>.int i
 | .inr x=>.str x
inductive HO where
 /-- a list -/
 | lst (xs:List V)
 /-- a tuple (never changes) -/
 | tup (xs:List V)
 /-- a dict whose keys are ints and texts;one whose keys are tuples of ints and texts (the empty one is both) -/
 | dK (kvs:List (Key × V)) | dT (kvs:List (List Key × V))
 /-- a set of ints: its members,its size -/
 | set (S:Int->Bool) (n:Nat)
 /-- an instance of the class at C,its dict at dx,its attributes -/
 | ins (C dx:Addr) (fs:List (Str × V))
 /-- the dict of the instance at x -/
 | own (x:Addr)
 /-- the dict of an exception -/
 | xd (fs:List (Str × V))
 /-- a bound method,f of x -/
 | met (f x:Addr)
 /-- a range object lo,lo+1,.. below hi -/
 | rng (lo hi:Int)
 /-- a thing that is known to the object (the script;a dict while a loop walks it): read,never written while it is so -/
 | frz (o:Obj) (u:HO)
 /-- a code object's table -/
 | tbl (ps:Array Value)
 /-- any other thing,by what is true of its one object (a def of one's own: SetO a S n:=HO.ext fun h=>..) -/
 | ext (φ:Heap->Prop)
abbrev Hp:=Addr->Option HO
def upd (H:Hp) (a:Addr) (o:HO):Hp:=fun b=>if b=a then some o else H b
theorem Zt {H:Hp}{a:Addr}{o:HO}:upd H a o a=some o:=by unfold upd;rw[if_pos rfl]
theorem Zs {H:Hp}{a b:Addr}{o:HO}(h:b ≠ a):upd H a o b=H b:=by unfold upd;rw[if_neg h]
theorem zfJ {H:Hp}{a:Addr}{o u:HO}:upd (upd H a o) a u=upd H a u:=by
 funext b;unfold upd;split <;> rfl
theorem Zv {H:Hp}{a b:Addr}{o:HO}(h:H a=some o) (h':H b=none):a ≠ b:=by
 intro e;subst e;rw[h] at h';cases h'
section
variable (P:Program) (w:World)
def Vd (H:Hp) (h:Heap) (a:Addr):HO->Prop
 | .lst xs=>xs.length<=sizeLine/\∃(its:List Value) (n:Nat),Vals xs its/\h.get? a=some { cls:=.type "list",data:=.seq its.toArray n }
 | .tup xs=>xs.length<=sizeLine/\∃its:List Value,Vals xs its/\IsTup h a its.toArray
 | .dK kvs=>kvs.length<=sizeLine/\(a == sysModules)=false/\∃vs,KV kvs vs/\h.DictOf (zbH P w) a vs
 | .dT kvs=>kvs.length<=sizeLine/\(a == sysModules)=false/\∃xs:List (List Key × Addr × Value),
   Paired (fun(p:List Key × V) (q:List Key × Addr × Value)=>p.1=q.1/\H q.2.1=some (.tup (p.1.map kV))/\RelV p.2 q.2.2) kvs xs /\
   ∃o es ep,h.get? a=some o/\o.ExactDict/\o.data=.dict es ep/\es.toList=xs.map (entryOfKey (tupleKind (zbH P w)))/\(xs.map (·.1)).Nodup
 | .set S n=>h.SetOf (intKind P w) a S n
 | .ins C dx fs=>H dx=some (.own a)/\fs.length<=1000/\dx ≠ a/\h.get? a=some (PySem.W.instObj C dx) /\
   ∃mA,h.Ns1 dx mA/\(∀f,RelO (fs.lookup f) (mA f))/\PySem.Within mA (fs.map (·.1))
 | .own _=>∃o,h.get? a=some o
 | .xd fs=>∃mA,h.Ns1 a mA/\∀f,RelO (fs.lookup f) (mA f)
 | .rng lo hi=>∃t u v,h.get? a=some { cls:=.type "range",data:=.fields #[.int lo t,.int hi u,.int 1 v] }
 | .frz o u=>h.get? a=some o/\Vd H h a u
 | .tbl ps=>h.get? a=some { cls:=.none,data:=.fields ps }
 | .met f x=>h.get? a=some (PySem.W.methodObj (.ref f) (.ref x))
 | .ext φ=>φ h/\(∃o,h.get? a=some o)/\∀h1 h2:Heap,φ h1->(∀o,h1.get? a=some o->h2.get? a=some o)->φ h2
def HOk (H:Hp) (h:Heap):Prop:=∀a o,H a=some o->Vd P w H h a o
end
section
variable {P:Program}{w:World}{H H':Hp}{h h':Heap}{a:Addr}{o:HO}
theorem Vd.lt (x:Vd P w H h a o):a < h.objs.size:=by
 cases o with
 | lst xs=>obtain⟨_,_,_,_,e⟩:=x;exact Heap.lt_size e
 | tup xs=>obtain⟨_,_,_,p⟩:=x;exact p.lt
 | dK kvs=>obtain⟨_,_,_,_,o,_,_,e,_⟩:=x;exact Heap.lt_size e
 | dT kvs=>obtain⟨_,_,_,_,o,_,_,e,_⟩:=x;exact Heap.lt_size e
 | set S n=>obtain⟨o,_,_,_,e,_⟩:=x;exact Heap.lt_size e
 | ins C dx fs=>obtain⟨_,_,_,e,_⟩:=x;exact Heap.lt_size e
 | own y=>obtain⟨_,e⟩:=x;exact Heap.lt_size e
 | xd fs=>obtain⟨_,⟨_,_,_,e,_⟩,_⟩:=x;exact Heap.lt_size e
 | rng lo hi=>obtain⟨_,_,_,e⟩:=x;exact Heap.lt_size e
 | frz ob u=>obtain⟨e,_⟩:=x;exact Heap.lt_size e
 | tbl ps=>exact Heap.lt_size (show h.get? a=some _ from x)
 | met f y=>exact Heap.lt_size (show h.get? a=some _ from x)
 | ext φ=>obtain⟨_,⟨_,e⟩,_⟩:=x;exact Heap.lt_size e
theorem Paired.mapP {α β:Type}{F G:α->β->Prop}:∀{l₁:List α}{l₂:List β},Paired F l₁ l₂->(∀a b,F a b->G a b)->Paired G l₁ l₂
 | _,_,.nil,_=>.nil
 | _,_,.cons r t,f=>.cons (f _ _ r) (Paired.mapP t f)
theorem Vd.stay (x:Vd P w H h a o) (k:∀b u,(b=a\/H b=some (.own a))->h.get? b=some u->h'.get? b=some u)
  (ho:∀b,H b=some (.own a)->H' b=some (.own a)) (ht:∀b xs,H b=some (.tup xs)->H' b=some (.tup xs)):Vd P w H' h' a o:=by
 induction o with
 | lst xs=>obtain⟨z,its,n,r,e⟩:=x;exact⟨z,its,n,r,k _ _ (.inl rfl) e⟩
 | tup xs=>obtain⟨z,its,r,ob,e,c⟩:=x;exact⟨z,its,r,ob,k _ _ (.inl rfl) e,c⟩
 | dK kvs=>obtain⟨z,y,vs,r,ob,es,ep,e,c⟩:=x;exact⟨z,y,vs,r,ob,es,ep,k _ _ (.inl rfl) e,c⟩
 | dT kvs=>
  obtain⟨z,y,xs,r,ob,es,ep,e,c⟩:=x
  exact⟨z,y,xs,Paired.mapP r fun p q z=>⟨z.1,ht _ _ z.2.1,z.2.2⟩,ob,es,ep,k _ _ (.inl rfl) e,c⟩
 | set S n=>obtain⟨ob,es,ep,t,e,c⟩:=x;exact⟨ob,es,ep,t,k _ _ (.inl rfl) e,c⟩
 | ins C dx fs=>
  obtain⟨d,z,ne,e,mA,⟨od,es,ep,e2,c⟩,r⟩:=x
  exact⟨ho _ d,z,ne,k _ _ (.inl rfl) e,mA,⟨od,es,ep,k _ _ (.inr d) e2,c⟩,r⟩
 | own y=>obtain⟨ob,e⟩:=x;exact⟨ob,k _ _ (.inl rfl) e⟩
 | xd fs=>obtain⟨mA,⟨od,es,ep,e,c⟩,r⟩:=x;exact⟨mA,⟨od,es,ep,k _ _ (.inl rfl) e,c⟩,r⟩
 | rng lo hi=>obtain⟨t,u,v,e⟩:=x;exact⟨t,u,v,k _ _ (.inl rfl) e⟩
 | frz ob u ih=>obtain⟨e,q⟩:=x;exact⟨k _ _ (.inl rfl) e,ih q⟩
 | tbl ps=>
  have e:h.get? a=some { cls:=.none,data:=.fields ps }:=x
  show h'.get? a=some { cls:=.none,data:=.fields ps }
  exact k a _ (.inl rfl) e
 | met f y=>
  have e:h.get? a=some (PySem.W.methodObj (.ref f) (.ref y)):=x
  show h'.get? a=some (PySem.W.methodObj (.ref f) (.ref y))
  exact k a _ (.inl rfl) e
 | ext φ=>obtain⟨p,⟨o,e⟩,st⟩:=x;exact⟨st _ _ p fun o q=>k _ _ (.inl rfl) q,⟨o,k _ _ (.inl rfl) e⟩,st⟩
theorem HOk.lt (x:HOk P w H h) (e:H a=some o):a < h.objs.size:=(x a o e).lt
theorem HOk.fresh (x:HOk P w H h) (e:h.objs.size<=a):H a=none:=by
 cases q:H a with
 | none=>rfl
 | some u=>exact absurd (Nat.lt_of_lt_of_le (x.lt q) e) (Nat.lt_irrefl _)
theorem HOk.kept (x:HOk P w H h) (k:∀b u,h.get? b=some u->h'.get? b=some u):HOk P w H h':=fun a o e=>
 (x a o e).stay (fun b u _ q=>k b u q) (fun _ q=>q) fun _ _ q=>q
theorem HOk.laid (x:HOk P w H h) (k:∀b u,h.get? b=some u->h'.get? b=some u) (hp:h.objs.size<=a) (new:Vd P w (upd H a o) h' a o):HOk P w (upd H a o) h':=fun b u e=>by
 have hn:=x.fresh hp
 by_cases hb:b=a
 ·subst hb;rw[Zt] at e;cases e;exact new
 ·rw[Zs hb] at e
  exact(x b u e).stay (fun c v _ q=>k c v q) (fun c q=>by rw[Zs (Zv q hn)];exact q) fun c xs q=>by rw[Zs (Zv q hn)];exact q
end
def Rd (H:Hp) (a:Addr) (u:HO):Prop:=H a=some u\/∃o,H a=some (.frz o u)
theorem Rd.ok {P:Program}{w:World}{H:Hp}{h:Heap}{a:Addr}{u:HO}(r:Rd H a u) (x:HOk P w H h):Vd P w H h a u:=by
 rcases r with r | ⟨o,r⟩
 ·exact x a u r
 ·obtain⟨_,q⟩:=x a _ r
  exact q
def Mut:Option HO->Prop
 | some (.lst _)=>True
 | some (.dK _)=>True
 | some (.dT _)=>True
 | some (.set _ _)=>True
 | some (.ins _ _ _)=>True
 | some (.ext _)=>True
 | _=>False
section
variable {P:Program}{w:World}{H:Hp}{h h':Heap}{x e:Addr}{o':HO}
theorem HOk.write (ok:HOk P w H h) (mu:Mut (H x)) (he:e=x\/H e=some (.own x)) (k:∀b u,b ≠ e->h.get? b=some u->h'.get? b=some u) (heo:∃u,h'.get? e=some u)
  (new:Vd P w (upd H x o') h' x o'):HOk P w (upd H x o') h':=fun b u q=>by
 have nown:∀c y,H c=some (.own y)->c ≠ x:=fun c y r z=>by subst z;rw[r] at mu;exact mu
 have ntup:∀c xs,H c=some (.tup xs)->c ≠ x:=fun c xs r z=>by subst z;rw[r] at mu;exact mu
 by_cases hb:b=x
 ·subst hb;rw[Zt] at q;cases q;exact new
 ·rw[Zs hb] at q
  by_cases hbe:b=e
  ·have q':H b=some (.own x):=by
    rcases he with z | z
    ·exact absurd (hbe.trans z) hb
    ·rw[hbe];exact z
   rw[q] at q';cases q'
   obtain⟨v,hv⟩:=heo
   exact⟨v,by rw[hbe];exact hv⟩
  ·refine(ok b u q).stay (fun c v hc r=>k c v ?_ r) (fun c r=>by rw[Zs (nown c b r)];exact r) fun c xs r=>by rw[Zs (ntup c xs r)];exact r
   rcases hc with rfl | hc
   ·exact hbe
   ·rintro rfl
    rcases he with z | z
    ·exact nown c b hc z
    ·rw[hc] at z;cases z;exact hb rfl
end
structure Un (fs ex:List Addr) (H H':Hp) (h h':Heap):Prop where
 keep:∀b o,h.get? b=some o->H b=none->b ∉ fs->b ∉ ex->h'.get? b=some o
 slot:∀b o,h.get? b=some o->H b=none->b ∈ fs->b ∉ ex->∃sl,h'.get? b=some { o with slots:=sl }
 free:∀b o,h.get? b=some o->H b=none->b ∉ ex->H' b=none
 there:∀b o,h.get? b=some o->b ∉ ex->∃o',h'.get? b=some o'
 tups:∀b xs,H b=some (.tup xs)->H' b=some (.tup xs)
 frzs:∀b o u,H b=some (.frz o u)->H' b=some (.frz o u)
 tbls:∀b ps,H b=some (.tbl ps)->∃more,H' b=some (.tbl (ps++more))
section
variable {fs fs' ex ex':List Addr}{H H1 H2:Hp}{h h1 h2 h':Heap}{a x e:Addr}{o:HO}
theorem Un.any (u:Un fs ex H H1 h h1) {b:Addr}{ob:Obj}(q:h.get? b=some ob) (n:H b=none) (hx:b ∉ ex):∃sl,h1.get? b=some { ob with slots:=sl }:=by
 by_cases hb:b ∈ fs
 ·exact u.slot b ob q n hb hx
 ·exact⟨ob.slots,u.keep b ob q n hb hx⟩
theorem Un.kept (k:∀b u,h.get? b=some u->h'.get? b=some u):Un fs ex H H h h':=
 ⟨fun b ob q _ _ _=>k b ob q,fun b ob q _ _ _=>⟨ob.slots,k b ob q⟩,fun _ _ _ n _=>n,fun b ob q _=>⟨ob,k b ob q⟩,fun _ _ q=>q,fun _ _ _ q=>q,fun _ ps q=>⟨#[],by rw[q];simp⟩⟩
theorem Un.refl:Un fs ex H H h h:=Un.kept fun _ _ q=>q
theorem Un.laid (k:∀b u,h.get? b=some u->h'.get? b=some u) (hp:h.objs.size<=a) (hn:H a=none):Un fs ex H (upd H a o) h h' where
 keep:=fun b u q _ _ _=>k b u q
 slot:=fun b u q _ _ _=>⟨u.slots,k b u q⟩
 free:=fun b u q n _=>by rw[Zs (Nat.ne_of_lt (Nat.lt_of_lt_of_le (Heap.lt_size q) hp))];exact n
 there:=fun b u q _=>⟨u,k b u q⟩
 tups:=fun b xs q=>by rw[Zs (Zv q hn)];exact q
 frzs:=fun b u xs q=>by rw[Zs (Zv q hn)];exact q
 tbls:=fun b ps q=>⟨#[],by rw[Zs (Zv q hn),q];simp⟩
theorem Un.write (mu:Mut (H x)) (he:e=x\/H e=some (.own x)) (k:∀b u,b ≠ e->h.get? b=some u->h'.get? b=some u) (heo:∃u,h'.get? e=some u):Un fs ex H (upd H x o) h h':=by
 have hx:∀b,H b=none->b ≠ x:=fun b n z=>by subst z;rw[n] at mu;exact mu
 have hb:∀b,H b=none->b ≠ e:=fun b n z=>by
  subst z
  rcases he with r | r
  ·exact hx b n r
  ·rw[n] at r;cases r
 have hm:∀b u,H b=some u->¬Mut (some u)->b ≠ x:=fun b u q nm z=>by subst z;rw[q] at mu;exact nm mu
 refine⟨fun b u q n _ _=>k b u (hb b n) q,fun b u q n _ _=>⟨u.slots,k b u (hb b n) q⟩,fun b u q n _=>by rw[Zs (hx b n)];exact n,fun b u q _=>?_,
  fun b xs q=>by rw[Zs (hm b _ q fun z=>z)];exact q,fun b u xs q=>by rw[Zs (hm b _ q fun z=>z)];exact q,fun b ps q=>⟨#[],by rw[Zs (hm b _ q fun z=>z),q];simp⟩⟩
 by_cases hbe:b=e
 ·subst hbe;exact heo
 ·exact⟨u,k b u hbe q⟩
end
def trk (h:Heap) (H:Hp):List Addr:=(List.range h.objs.size).filter fun a=>(H a).isSome
def hidT (h:Heap) (H:Hp):Heap:=PySem.W.hideAll h (trk h H)
theorem zhh (h:Heap) (H:Hp):(hidT h H).objs.size=h.objs.size:=PySem.W.hideAll_size _ _
theorem hidT_get {h:Heap}{H:Hp}{b:Addr}{o:Obj}(e:h.get? b=some o) (n:H b=none):(hidT h H).get? b=some o:=
 PySem.W.hideAll_get _ e fun hm=>by
  have q:(H b).isSome=true:=(List.mem_filter.mp hm).2
  rw[n] at q;simp at q
theorem of_hidT {h:Heap}{H:Hp}{b:Addr}{o:Obj}(e:(hidT h H).get? b=some o):h.get? b=some o/\H b=none:=by
 have e':h.get? b=some o:=PySem.W.of_hideAll (trk h H) e
 refine⟨e',?_⟩
 cases q:H b with
 | none=>rfl
 | some x=>
  have hm:b ∈ trk h H:=List.mem_filter.mpr ⟨List.mem_range.mpr (Heap.lt_size e'),by simp[q]⟩
  have z:(hidT h H).get? b=none:=PySem.W.hideAll_none (trk h H) hm
  rw[z] at e;cases e
end L2
namespace L2
open PySem PySem.Spec PyProof.Rows
structure Mod (K:PySem.W.Frag) (mg:Str->Option Value) (base:Heap):Prop where
 kin:K.In base
 glob:base.Ns mainGlobals mg
 blt:∃mb,base.Ns builtinsNs mb/\∀x:Str,x ≠ "__name__" -> mb x=bootBuiltins x
 nolimit:base.NoLimit
structure Cx where
 prog:Program
 w:World
 K:PySem.W.Frag
 mg:Str->Option Value
 base:Heap
 A:Around
 N:List Str
 s₀:Shared
 H₀:Hp
 env:Env
 outer:List Env
 stack:List Env
 ex:List Addr
 fn:Str->Bool
 calm:Bool
 pn:List (Addr × Obj)
 xe:Value->Shared->Prop
def frs (l:List Env):List Addr:=l.filterMap (·.frame)
abbrev Cx.fs (X:Cx):List Addr:=frs X.outer
def Vis (sc:Scope) (x:Str):Prop:=sc.names.lookup x=some .local\/sc.names.lookup x=some .cell\/sc.names.lookup x=some .free
def Loc (sc:Scope) (x:Str):Prop:=sc.names.lookup x=some .local\/sc.names.lookup x=some .cell
def Look (env:Env) (h:Heap) (m:Str->Option Value) (x:Str) (u:Value):Prop:=
 (env.kindOf x=some .local/\m x=some u)\/((env.kindOf x=some .cell\/env.kindOf x=some .free)/\∃c,env.cells.lookup x=some c/\h.IsCell c (some u))
structure Cx.Ok (X:Cx):Prop where
 mod:Mod X.K X.mg X.base
 kind:X.env.scope.kind=.function
 glob:X.env.globals=mainGlobals
 blt:X.env.builtins=builtinsNs
 above:X.s₀.heap.objs.size<=X.env.locals
 inj:∀x y c,X.env.cells.lookup x=some c->X.env.cells.lookup y=some c->x=y
 has:∀x,(X.env.kindOf x=some .cell\/X.env.kindOf x=some .free)->∃c,X.env.cells.lookup x=some c
 cab:∀x c,X.fn x=true->X.env.cells.lookup x=some c->X.s₀.heap.objs.size<=c
 hd:X.calm=true->X.A.handled=none
 frames:X.A.frames=some X.stack
 stk:X.stack=X.outer\/(X.stack=X.env::X.outer/\X.env.frame=some X.env.locals)
 exf:∀b ∈ X.ex,b ≠ X.env.locals/\∀x c,X.env.cells.lookup x=some c->c ≠ b
 bs:∀b o,X.base.get? b=some o->X.s₀.heap.get? b=some o/\X.H₀ b=none
 bsz:X.base.objs.size<=X.s₀.heap.objs.size
 noex:∀b o,X.base.get? b=some o->b ∉ X.ex
 exfs:∀b ∈ X.ex,b ∉ X.fs
 funs:X.s₀.heap.FunFrames X.base X.outer
 frf:∀b ∈ X.fs,X.H₀ b=none
structure Inv (X:Cx) (pins:List (Addr × Obj)) (σ:List (Option V)) (H:Hp) (s:Shared):Prop where
 ok:X.Ok
 os:s.os=X.s₀.os
 bare:AllBare s.gens
 base:Un X.fs X.ex X.H₀ H X.s₀.heap s.heap
 loc:∃m,s.heap.Ns X.env.locals m/\∀(i:Nat) (x:Str) (v:V),X.N[i]? = some x->σ[i]? = some (some v)->Vis X.env.scope x->∃u,RelV v u/\Look X.env s.heap m x u
 cell:∀x c,X.env.cells.lookup x=some c->∃v,s.heap.IsCell c v
 free:H X.env.locals=none
 freeC:∀x c,X.env.cells.lookup x=some c->H c=none
 pin:∀p ∈ X.pn++pins,s.heap.get? p.1=some p.2/\H p.1=none/\p.1 ≠ X.env.locals/\p.1 ∉ X.fs/\∀v,p.2.data ≠ .cell v
 hok:HOk X.prog X.w H s.heap
 len:σ.length=X.N.length
section
variable {X:Cx}{pins:List (Addr × Obj)}{σ:List (Option V)}{H H':Hp}{s:Shared}{h':Heap}
theorem Cx.Ok.nofr (ok:X.Ok) {b:Addr}{o:Obj}(e:X.base.get? b=some o):b ∉ X.fs:=fun hb=>by
 have:=(ok.funs.mem hb).1
 rw[e] at this;cases this
theorem Inv.bs (I:Inv X pins σ H s):∀b o,X.base.get? b=some o->s.heap.get? b=some o/\H b=none:=fun b o e=>
 ⟨I.base.keep b o (I.ok.bs b o e).1 (I.ok.bs b o e).2 (I.ok.nofr e) (I.ok.noex b o e),I.base.free b o (I.ok.bs b o e).1 (I.ok.bs b o e).2 (I.ok.noex b o e)⟩
theorem Inv.bk (I:Inv X pins σ H s):∀b o,X.base.get? b=some o->s.heap.get? b=some o:=fun b o e=>(I.bs b o e).1
theorem Inv.mod (I:Inv X pins σ H s):Mod X.K X.mg X.base:=I.ok.mod
theorem Inv.kIn (I:Inv X pins σ H s):X.K.In s.heap:=I.ok.mod.kin.keeps I.bk
theorem Inv.nolimit (I:Inv X pins σ H s):s.heap.NoLimit:=I.ok.mod.nolimit.keeps I.bk
theorem Inv.lt (I:Inv X pins σ H s):X.env.locals < s.heap.objs.size:=let⟨_,hn,_⟩:=I.loc;hn.lt
theorem Inv.sz (I:Inv X pins σ H s):X.s₀.heap.objs.size<=s.heap.objs.size:=Nat.le_trans I.ok.above (Nat.le_of_lt I.lt)
theorem Inv.nofs (I:Inv X pins σ H s) {a:Addr}(h:s.heap.objs.size<=a):a ∉ X.fs:=fun hb=>by
 obtain⟨_,o,ho,_⟩:=I.ok.funs.mem hb
 exact absurd (Nat.lt_of_lt_of_le (Heap.lt_size ho) (Nat.le_trans I.sz h)) (Nat.lt_irrefl _)
theorem Inv.cne (I:Inv X pins σ H s):∀x c,X.env.cells.lookup x=some c->c ≠ X.env.locals:=fun x c e z=>by
 obtain⟨v,o,ho,hd⟩:=I.cell x c e
 obtain⟨m,⟨o',es,ep,ho',hd',_⟩,_⟩:=I.loc
 rw[z,ho'] at ho;cases ho;rw[hd'] at hd;cases hd
theorem Inv.funs (I:Inv X pins σ H s):s.heap.FunFrames X.base X.outer:=by
 have all:∀(l:List Env),(∀b ∈ frs l,b ∈ X.fs)->X.s₀.heap.FunFrames X.base l->s.heap.FunFrames X.base l:=by
  intro l
  induction l with
  | nil=>intro _ _;trivial
  | cons env r ih=>
   intro hs hl
   obtain⟨hk,⟨L,o,hf,hn,ho,hd⟩,hr⟩:=hl
   have hL:L ∈ X.fs:=hs L (by unfold frs;rw[List.filterMap_cons,hf];exact List.mem_cons_self)
   obtain⟨sl,e⟩:=I.base.slot L o ho (I.ok.frf L hL) hL fun z=>I.ok.exfs L z hL
   exact⟨hk,⟨L,_,hf,hn,e,hd⟩,ih (fun b hb=>hs b (by unfold frs;rw[List.filterMap_cons,hf];exact List.mem_cons_of_mem _ hb)) hr⟩
 exact all X.outer (fun _ hb=>hb) I.ok.funs
theorem Inv.stack (I:Inv X pins σ H s):s.heap.FunFrames X.base X.stack:=by
 rcases I.ok.stk with e | ⟨e,hf⟩
 ·rw[e];exact I.funs
 ·rw[e]
  obtain⟨m,hn,_⟩:=I.loc
  refine .cons (by rw[I.ok.kind];decide) hf hn ?_ I.funs
  exact Heap.get?_none_of_le (Nat.le_trans I.ok.bsz I.ok.above)
theorem Inv.stkSub (I:Inv X pins σ H s):∀b ∈ frs X.stack,b ∈ X.env.locals::X.fs:=fun b hb=>by
 rcases I.ok.stk with e | ⟨e,hf⟩
 ·rw[e] at hb;exact List.mem_cons_of_mem _ hb
 ·rw[e] at hb
  unfold frs at hb
  rw[List.filterMap_cons,hf] at hb
  exact hb
theorem Inv.stkFree (I:Inv X pins σ H s):∀b ∈ frs X.stack,H b=none:=fun b hb=>by
 rcases List.mem_cons.mp (I.stkSub b hb) with e | hb
 ·rw[e];exact I.free
 ·obtain⟨_,o,ho,_⟩:=I.ok.funs.mem hb
  exact I.base.free b o ho (I.ok.frf b hb) fun z=>I.ok.exfs b z hb
theorem Inv.step {g':Array GenState}{t':Nat}{d':Drawn}{ch:List Addr}(I:Inv X pins σ H s)
  (hch:∀b ∈ ch,(b ∈ X.ex\/X.s₀.heap.objs.size<=b)/\b ≠ X.env.locals/\(∀x c,X.env.cells.lookup x=some c->c ≠ b)/\∀p ∈ X.pn++pins,p.1 ≠ b)
  (keep:∀b o,b ≠ X.env.locals->b ∉ X.fs->b ∉ ch->s.heap.get? b=some o->H b=none->h'.get? b=some o)
  (slot:∀b o,b ≠ X.env.locals->b ∈ X.fs->b ∉ ch->s.heap.get? b=some o->H b=none->∃sl,h'.get? b=some { o with slots:=sl }) (free:∀b o,b ∉ ch->s.heap.get? b=some o->H b=none->H' b=none)
  (there:∀b o,b ∉ ch->s.heap.get? b=some o->∃o',h'.get? b=some o')
  (tups:∀b xs,H b=some (.tup xs)->H' b=some (.tup xs)) (frzs:∀b o u,H b=some (.frz o u)->H' b=some (.frz o u)) (tbls:∀b ps,H b=some (.tbl ps)->∃more,H' b=some (.tbl (ps++more)))
  (ns:∀m,s.heap.Ns X.env.locals m->h'.Ns X.env.locals m) (hok:HOk X.prog X.w H' h') (hg:AllBare g') :
  Inv X pins σ H' { s with heap:=h',gens:=g',drawn:=d',toks:=t' }:=by
 have neL:∀b o,X.s₀.heap.get? b=some o->b ≠ X.env.locals:=fun b o e=>Nat.ne_of_lt (Nat.lt_of_lt_of_le (Heap.lt_size e) I.ok.above)
 have neC:∀b o,X.s₀.heap.get? b=some o->b ∉ X.ex->b ∉ ch:=fun b o e hx hb=>by
  rcases(hch b hb).1 with z | z
  ·exact hx z
  ·exact absurd (Nat.lt_of_lt_of_le (Heap.lt_size e) z) (Nat.lt_irrefl _)
 have cellK:∀x c,X.env.cells.lookup x=some c->∀v,s.heap.IsCell c v->h'.IsCell c v:=fun x c e v ⟨o,ho,hd⟩=>by
  have nch:c ∉ ch:=fun z=>(hch c z).2.2.1 x c e rfl
  by_cases hc:c ∈ X.fs
  ·obtain⟨sl,q⟩:=slot c o (I.cne x c e) hc nch ho (I.freeC x c e)
   exact⟨_,q,hd⟩
  ·exact⟨o,keep c o (I.cne x c e) hc nch ho (I.freeC x c e),hd⟩
 refine⟨I.ok,I.os,hg,⟨fun b o e n hb hx=>?_,fun b o e n hb hx=>?_,fun b o e n hx=>?_,fun b o e hx=>?_,fun b xs e=>tups b xs (I.base.tups b xs e),fun b o xs e=>frzs b o xs (I.base.frzs b o xs e),fun b ps e=>?_⟩,?_,fun x c e=>?_,?_,fun x c e=>?_,fun p hp=>?_,hok,I.len⟩
 ·exact keep b o (neL b o e) hb (neC b o e hx) (I.base.keep b o e n hb hx) (I.base.free b o e n hx)
 ·obtain⟨sl,e1⟩:=I.base.slot b o e n hb hx
  obtain⟨sl',e2⟩:=slot b _ (neL b o e) hb (neC b o e hx) e1 (I.base.free b o e n hx)
  exact⟨sl',e2⟩
 ·obtain⟨o',e1⟩:=I.base.there b o e hx
  exact free b o' (neC b o e hx) e1 (I.base.free b o e n hx)
 ·obtain⟨o',e1⟩:=I.base.there b o e hx
  exact there b o' (neC b o e hx) e1
 ·obtain⟨m1,e1⟩:=I.base.tbls b ps e
  obtain⟨m2,e2⟩:=tbls b _ e1
  exact⟨m1++m2,by rw[e2,Array.append_assoc]⟩
 ·obtain⟨m,hn,hl⟩:=I.loc
  refine⟨m,ns m hn,fun i x v e1 e2 e3=>?_⟩
  obtain⟨u,r,l⟩:=hl i x v e1 e2 e3
  refine⟨u,r,?_⟩
  rcases l with l | ⟨k,c,e,z⟩
  ·exact .inl l
  ·exact .inr ⟨k,c,e,cellK x c e _ z⟩
 ·obtain⟨v,z⟩:=I.cell x c e
  exact⟨v,cellK x c e v z⟩
 ·obtain⟨m,⟨o,_,_,ho,_⟩,_⟩:=I.loc
  exact free _ o (fun z=>(hch _ z).2.1 rfl) ho I.free
 ·obtain⟨v,o,ho,hd⟩:=I.cell x c e
  exact free c o (fun z=>(hch c z).2.2.1 x c e rfl) ho (I.freeC x c e)
 ·obtain⟨e,n,ne,nf,d⟩:=I.pin p hp
  have nch:p.1 ∉ ch:=fun z=>(hch p.1 z).2.2.2 p hp rfl
  exact⟨keep p.1 p.2 ne nf nch e n,free p.1 p.2 nch e n,ne,nf,d⟩
theorem Inv.un {t':Nat}(I:Inv X pins σ H s) (u:Un X.fs [] H H' s.heap h') (hok:HOk X.prog X.w H' h'):Inv X pins σ H' { s with heap:=h',toks:=t' }:=by
 obtain⟨m,⟨o,es,ep,ho,r⟩,_⟩:=id I.loc
 obtain⟨sl,hL⟩:=u.any ho I.free (by simp)
 exact I.step (g':=s.gens) (d':=s.drawn) (ch:=[]) (fun _ z=>nomatch z) (fun b o _ hb _ e n=>u.keep b o e n hb (by simp)) (fun b o _ hb _ e n=>u.slot b o e n hb (by simp)) (fun b o _ e n=>u.free b o e n (by simp)) (fun b o _ e=>u.there b o e (by simp)) u.tups u.frzs u.tbls (fun m' hm=>by
  obtain⟨o',es',ep',ho',r'⟩:=hm
  rw[ho] at ho';cases ho'
  exact⟨_,es',ep',hL,r'⟩) hok I.bare
theorem Inv.call {g':Array GenState}{t':Nat}{d':Drawn}{ch:List Addr}(I:Inv X pins σ H s) (u:Un (frs X.stack) ch H H' s.heap h') (hok:HOk X.prog X.w H' h') (hg:AllBare g')
  (hch:∀b ∈ ch,(b ∈ X.ex\/X.s₀.heap.objs.size<=b)/\b ≠ X.env.locals/\(∀x c,X.env.cells.lookup x=some c->c ≠ b)/\∀p ∈ X.pn++pins,p.1 ≠ b) :
  Inv X pins σ H' { s with heap:=h',gens:=g',drawn:=d',toks:=t' }:=by
 obtain⟨m,⟨o,es,ep,ho,r⟩,_⟩:=id I.loc
 obtain⟨sl,hL⟩:=u.any ho I.free fun z=>(hch _ z).2.1 rfl
 exact I.step (ch:=ch) hch (fun b o hL hb hc e n=>u.keep b o e n (fun z=>(List.mem_cons.mp (I.stkSub b z)).elim hL hb) hc) (fun b o _ _ hc e n=>u.any e n hc) (fun b o hc e n=>u.free b o e n hc) (fun b o hc e=>u.there b o e hc) u.tups u.frzs u.tbls (fun m' hm=>by
  obtain⟨o',es',ep',ho',r'⟩:=hm
  rw[ho] at ho';cases ho'
  exact⟨_,es',ep',hL,r'⟩) hok hg
theorem Inv.turned {t':Nat}{it:Addr}(I:Inv X pins σ H s) (k:∀b o,b ≠ it->s.heap.get? b=some o->h'.get? b=some o) (hn:H it=none) (hL:it ≠ X.env.locals)
  (h1:it ∈ X.ex\/X.s₀.heap.objs.size<=it) (h2:∀x c,X.env.cells.lookup x=some c->c ≠ it) (h3:∀p ∈ X.pn++pins,p.1 ≠ it):Inv X pins σ H { s with heap:=h',toks:=t' }:=by
 have nit:∀b u,H b=some u->b ≠ it:=fun b u e z=>by rw[z,hn] at e;cases e
 refine I.step (g':=s.gens) (d':=s.drawn) (ch:=[it]) (fun b hb=>?_) (fun b o _ _ hc e _=>k b o (fun z=>hc (by simp[z])) e) (fun b o _ _ hc e _=>⟨o.slots,k b o (fun z=>hc (by simp[z])) e⟩) (fun _ _ _ _ n=>n)
  (fun b o hc e=>⟨o,k b o (fun z=>hc (by simp[z])) e⟩) (fun _ _ e=>e) (fun _ _ _ e=>e) (fun b ps e=>⟨#[],by rw[e];simp⟩) (fun m hm=>?_) (fun b u e=>?_) I.bare
 ·have e:b=it:=by simpa using hb
  subst e
  exact⟨h1,hL,h2,h3⟩
 ·obtain⟨o,es,ep,ho,r⟩:=hm
  exact⟨o,es,ep,k _ o (Ne.symm hL) ho,r⟩
 ·refine(I.hok b u e).stay (fun c v hc q=>k c v ?_ q) (fun _ q=>q) fun _ _ q=>q
  rcases hc with z | z
  ·rw[z];exact nit b u e
  ·exact nit c _ z
theorem Inv.tok (I:Inv X pins σ H s) (t:Nat):Inv X pins σ H { s with toks:=t }:=I.un (h':=s.heap) (t':=t) Un.refl I.hok
theorem Inv.kept {t':Nat}(I:Inv X pins σ H s) (k:∀b u,s.heap.get? b=some u->h'.get? b=some u):Inv X pins σ H { s with heap:=h',toks:=t' }:=I.un (Un.kept k) (I.hok.kept k)
theorem Inv.laid {a:Addr}{o:HO}{t':Nat}(I:Inv X pins σ H s) (k:∀b u,s.heap.get? b=some u->h'.get? b=some u) (hp:s.heap.objs.size<=a) (new:Vd X.prog X.w (upd H a o) h' a o) :
  Inv X pins σ (upd H a o) { s with heap:=h',toks:=t' }:=I.un (Un.laid k hp (I.hok.fresh hp)) (I.hok.laid k hp new)
theorem Inv.write {x e:Addr}{o:HO}{t':Nat}(I:Inv X pins σ H s) (mu:Mut (H x)) (he:e=x\/H e=some (.own x)) (k:∀b u,b ≠ e->s.heap.get? b=some u->h'.get? b=some u) (heo:∃u,h'.get? e=some u)
  (new:Vd X.prog X.w (upd H x o) h' x o):Inv X pins σ (upd H x o) { s with heap:=h',toks:=t' }:=I.un (Un.write mu he k heo) (I.hok.write mu he k heo new)
theorem Inv.pins_of {pins':List (Addr × Obj)}(I:Inv X pins σ H s) (h:∀p ∈ pins',s.heap.get? p.1=some p.2/\H p.1=none/\p.1 ≠ X.env.locals/\p.1 ∉ X.fs/\∀v,p.2.data ≠ .cell v):Inv X pins' σ H s:=
 ⟨I.ok,I.os,I.bare,I.base,I.loc,I.cell,I.free,I.freeC,fun p hp=>(List.mem_append.mp hp).elim (fun z=>I.pin p (List.mem_append_left _ z)) (h p),I.hok,I.len⟩
theorem zbE {N:List Str}(hN:N.Nodup) {i j:Nat}{x:Str}(a:N[i]? = some x) (b:N[j]? = some x):i=j:=by
 obtain⟨h1,e1⟩:=List.getElem?_eq_some_iff.mp a
 obtain⟨h2,e2⟩:=List.getElem?_eq_some_iff.mp b
 exact(List.getElem_inj hN).mp (e1.trans e2.symm)
theorem zci {M:Model}{A:Around}{E:Value->Shared->Prop}{i:Nat}{x:Str}{v:V}{u:Value}{Q:Unit->Shared->Prop}(I:Inv X pins σ H s) (hN:X.N.Nodup) (hi:X.N[i]? = some x) (hx:Loc X.env.scope x) (r:RelV v u)
  (h:∀s',Inv X pins (σ.set i (some v)) H s'->(∃a,Heap.SameBut a s.heap s'.heap/\(a=X.env.locals\/X.env.cells.lookup x=some a))->Q () s') (hf:X.fn x=true\/X.env.scope.names.lookup x=some .local:=by first | exact .inl rfl | exact .inr rfl | assumption):wpAny M A (storeName X.env x u) Q E s:=by
 obtain⟨m,hn,hl⟩:=id I.loc
 have hcls:(X.env.scope.kind == .class || (X.env.scope.kind == .module && X.env.locals != X.env.globals))=false:=by rw[I.ok.kind];rfl
 have hiσ:i < σ.length:=by rw[I.len];exact(List.getElem?_eq_some_iff.mp hi).1
 have cne:=I.cne
 have tracked:∀{a:Addr}{h':Heap},(∃o,s.heap.get? a=some o/\H a=none)->Heap.SameBut a s.heap h'->HOk X.prog X.w H h':=fun {a h'} ha hs b ob e=>by
  obtain⟨_,_,hfree⟩:=ha
  refine(I.hok b ob e).stay (fun c w' hc q=>(hs.2 c ?_).trans q) (fun _ q=>q) fun _ _ q=>q
  rintro rfl
  rcases hc with rfl | hc
  ·rw[hfree] at e;cases e
  ·rw[hfree] at hc;cases hc
 rcases hx with hk | hk
 ·refine wpAny_storeName_local hk hn (fun h' hn' hs=>?_) hcls
  obtain⟨oL,_,_,hoL,_⟩:=id hn
  refine h _ ⟨I.ok,I.os,I.bare,⟨fun b o e n hb hx=>?_,fun b o e n hb hx=>?_,I.base.free,fun b o e hx=>?_,I.base.tups,I.base.frzs,I.base.tbls⟩,⟨_,hn',fun j y v' e1 e2 e3=>?_⟩,fun y c e=>?_,I.free,I.freeC,fun p hp=>?_,tracked ⟨oL,hoL,I.free⟩ hs,by simpa using I.len⟩ ⟨_,hs,.inl rfl⟩
  ·exact(hs.2 b (Nat.ne_of_lt (Nat.lt_of_lt_of_le (Heap.lt_size e) I.ok.above))).trans (I.base.keep b o e n hb hx)
  ·obtain⟨sl,e1⟩:=I.base.slot b o e n hb hx
   exact⟨sl,(hs.2 b (Nat.ne_of_lt (Nat.lt_of_lt_of_le (Heap.lt_size e) I.ok.above))).trans e1⟩
  ·obtain⟨o',e1⟩:=I.base.there b o e hx
   exact⟨o',(hs.2 b (Nat.ne_of_lt (Nat.lt_of_lt_of_le (Heap.lt_size e) I.ok.above))).trans e1⟩
  ·by_cases hj:j=i
   ·subst hj
    rw[hi] at e1;cases e1
    rw[List.getElem?_set_self hiσ] at e2
    cases e2
    exact⟨u,r,.inl ⟨hk,by simp⟩⟩
   ·rw[List.getElem?_set_ne (Ne.symm hj)] at e2
    obtain⟨u',r',q⟩:=hl j y v' e1 e2 e3
    refine⟨u',r',?_⟩
    rcases q with ⟨k,e⟩ | ⟨k,c,e,z⟩
    ·refine .inl ⟨k,?_⟩
     have:y ≠ x:=fun e=>hj (zbE hN e1 (e ▸ hi))
     simp[this,e]
    ·exact .inr ⟨k,c,e,z.sameBut hs (cne y c e)⟩
  ·obtain⟨w',z⟩:=I.cell y c e
   exact⟨w',z.sameBut hs (cne y c e)⟩
  ·obtain⟨e,n,ne,nf,d⟩:=I.pin p hp
   exact⟨(hs.2 p.1 ne).trans e,n,ne,nf,d⟩
 ·have hfn:X.fn x=true:=by
   rcases hf with z | z
   ·exact z
   ·rw[z] at hk;cases hk
  obtain⟨c,hc⟩:=I.ok.has x (.inl hk)
  obtain⟨w',z⟩:=I.cell x c hc
  refine wpAny_storeName_cell I.ok.kind hk hc z (fun h' hc' hs=>?_)
  obtain⟨oc,hoc,hocd⟩:=id z
  refine h { s with heap:=h' } ⟨I.ok,I.os,I.bare,⟨fun b o e n hb hx=>?_,fun b o e n hb hx=>?_,I.base.free,fun b o e hx=>?_,I.base.tups,I.base.frzs,I.base.tbls⟩,⟨m,hn.sameBut hs (Ne.symm (cne x c hc)),fun j y v' e1 e2 e3=>?_⟩,fun y c' e=>?_,I.free,I.freeC,fun p hp=>?_,tracked ⟨oc,hoc,I.freeC x c hc⟩ hs,by simpa using I.len⟩ ⟨c,hs,.inr hc⟩
  ·exact(hs.2 b (Nat.ne_of_lt (Nat.lt_of_lt_of_le (Heap.lt_size e) (I.ok.cab x c hfn hc)))).trans (I.base.keep b o e n hb hx)
  ·obtain⟨sl,e1⟩:=I.base.slot b o e n hb hx
   exact⟨sl,(hs.2 b (Nat.ne_of_lt (Nat.lt_of_lt_of_le (Heap.lt_size e) (I.ok.cab x c hfn hc)))).trans e1⟩
  ·obtain⟨o',e1⟩:=I.base.there b o e hx
   exact⟨o',(hs.2 b (Nat.ne_of_lt (Nat.lt_of_lt_of_le (Heap.lt_size e) (I.ok.cab x c hfn hc)))).trans e1⟩
  ·by_cases hj:j=i
   ·subst hj
    rw[hi] at e1;cases e1
    rw[List.getElem?_set_self hiσ] at e2
    cases e2
    exact⟨u,r,.inr ⟨.inl hk,c,hc,hc'⟩⟩
   ·rw[List.getElem?_set_ne (Ne.symm hj)] at e2
    obtain⟨u',r',q⟩:=hl j y v' e1 e2 e3
    refine⟨u',r',?_⟩
    rcases q with q | ⟨k,c',e,z'⟩
    ·exact .inl q
    ·refine .inr ⟨k,c',e,z'.sameBut hs ?_⟩
     rintro rfl
     exact hj (zbE hN e1 (I.ok.inj _ _ _ e hc ▸ hi))
  ·by_cases hcc:c'=c
   ·subst hcc;exact⟨_,hc'⟩
   ·obtain⟨w2,z2⟩:=I.cell y c' e
    exact⟨w2,z2.sameBut hs hcc⟩
  ·obtain⟨e,n,ne,nf,d⟩:=I.pin p hp
   refine⟨(hs.2 p.1 ?_).trans e,n,ne,nf,d⟩
   intro q
   rw[q,hoc] at e
   have q':oc=p.2:=Option.some.inj e
   exact d w' (by rw[<- q'];exact hocd)
theorem UK {M:Model}{A:Around}{E:Value->Shared->Prop}{i:Nat}{x:Str}{v:V}{u:Value}{Q:Unit->Shared->Prop}(I:Inv X pins σ H s) (hN:X.N.Nodup) (hi:X.N[i]? = some x) (hx:Loc X.env.scope x) (r:RelV v u)
  (h:∀s',Inv X pins (σ.set i (some v)) H s'->Q () s') (hf:X.fn x=true\/X.env.scope.names.lookup x=some .local:=by first | exact .inl rfl | exact .inr rfl | assumption):wpAny M A (storeName X.env x u) Q E s:=
 zci I hN hi hx r (fun s' I' _=>h s' I') hf
theorem Inv.call' {s':Shared}{ch:List Addr}(I:Inv X pins σ H s) (ho:s'.os=s.os) (u:Un (frs X.stack) ch H H' s.heap s'.heap) (hok:HOk X.prog X.w H' s'.heap) (hg:AllBare s'.gens)
  (hch:∀b ∈ ch,(b ∈ X.ex\/X.s₀.heap.objs.size<=b)/\b ≠ X.env.locals/\(∀x c,X.env.cells.lookup x=some c->c ≠ b)/\∀p ∈ X.pn++pins,p.1 ≠ b):Inv X pins σ H' s':=by
 obtain⟨h',g',d',t',o'⟩:=s'
 have e:o'=s.os:=ho
 subst e
 exact I.call (g':=g') (t':=t') (d':=d') u hok hg hch
end
abbrev XK:=Value->Option Addr->Hp->Prop
abbrev St:=List (Option V)
abbrev VK:=V->Hp->Prop
abbrev TE:=St->Hp->VK->Prop
abbrev TT:=St->Hp->(Bool->Hp->Prop)->Prop
abbrev TA:=St->Hp->(List V->Hp->Prop)->Prop
structure Ends where
 nx:St->Hp->Prop
 rt:VK
 bk:St->Hp->Prop:=fun _ _=>False
 ct:St->Hp->Prop:=fun _ _=>False
abbrev TS:=Ends->St->Hp->Prop
def EP (X:Cx) (pins:List (Addr × Obj)) (σ:St) (Q:VK) (u:Value) (s':Shared):Prop:=∃v H',Inv X pins σ H' s'/\RelV v u/\Q v H'
def TP (X:Cx) (pins:List (Addr × Obj)) (σ:St) (Q:Bool->Hp->Prop) (b:Bool) (s':Shared):Prop:=∃H',Inv X pins σ H' s'/\Q b H'
def AP (X:Cx) (pins:List (Addr × Obj)) (σ:St) (Q:List V->Hp->Prop) (us:List Value) (s':Shared):Prop:=∃vs H',Inv X pins σ H' s'/\Vals vs us/\Q vs H'
def SP (X:Cx) (pins:List (Addr × Obj)) (D:Ends) (f:Flow) (s':Shared):Prop:=
 match f with
 | .next=>∃σ' H',Inv X pins σ' H' s'/\D.nx σ' H'
 | .brk=>∃σ' H',Inv X pins σ' H' s'/\D.bk σ' H'
 | .cont=>∃σ' H',Inv X pins σ' H' s'/\D.ct σ' H'
 | .ret u=>∃v σ' H',Inv X pins σ' H' s'/\RelV v u/\D.rt v H'
def PE (X:Cx) (e:Expr) (t:TE):Prop:=
 ∀(pins:List (Addr × Obj)) (s:Shared) (σ:St) (H:Hp) (Q:VK),Inv X pins σ H s->t σ H Q->wpAny (model X.prog X.w) X.A (eval e X.env) (EP X pins σ Q) X.xe s
def PT (X:Cx) (e:Expr) (t:TT):Prop:=
 ∀(pins:List (Addr × Obj)) (s:Shared) (σ:St) (H:Hp) (Q:Bool->Hp->Prop),Inv X pins σ H s->t σ H Q->wpAny (model X.prog X.w) X.A (isTrue e X.env (eval e X.env)) (TP X pins σ Q) X.xe s
def PW (X:Cx) (e:Expr) (t:TT):Prop:=
 ∀(whole:Sem Value) (pins:List (Addr × Obj)) (s:Shared) (σ:St) (H:Hp) (Q:Bool->Hp->Prop),Inv X pins σ H s->t σ H Q->wpAny (model X.prog X.w) X.A (isTrue e X.env whole) (TP X pins σ Q) X.xe s
theorem PW.pt {X:Cx}{e:Expr}{t:TT}(h:PW X e t):PT X e t:=h _
def PA (X:Cx) (es:List Expr) (t:TA):Prop:=
 ∀(pos:Pos) (pins:List (Addr × Obj)) (s:Shared) (σ:St) (H:Hp) (Q:List V->Hp->Prop),Inv X pins σ H s->t σ H Q->wpAny (model X.prog X.w) X.A (spliced (backTo pos (starEach es X.env))) (AP X pins σ Q) X.xe s
def PS (X:Cx) (st:Stmt) (t:TS):Prop:=
 ∀(pins:List (Addr × Obj)) (s:Shared) (σ:St) (H:Hp) (D:Ends),Inv X pins σ H s->t D σ H->wpAny (model X.prog X.w) X.A (exec st X.env) (SP X pins D) X.xe s
def PSs (X:Cx) (st:List Stmt) (t:TS):Prop:=
 ∀(pins:List (Addr × Obj)) (s:Shared) (σ:St) (H:Hp) (D:Ends),Inv X pins σ H s->t D σ H->wpAny (model X.prog X.w) X.A (execs st X.env) (SP X pins D) X.xe s
theorem thn {α:Type}{t:Sem α}{Q Q':α->Shared->Prop}{M:Model}{A:Around}{E:Value->Shared->Prop}{s:Shared}(h:wpAny M A t Q E s) (hQ:∀a s,Q a s->Q' a s):wpAny M A t Q' E s:=wpAny_mono h hQ fun _ _ x=>x
end L2
namespace L2
open PySem PySem.Spec PyProof.Rows
section
variable {X:Cx}
def tVar (i:Nat):TE:=fun σ H Q=>∃v,σ[i]? = some (some v)/\Q v H
def tC (v:V):TE:=fun _ H Q=>Q v H
theorem zcA {i:Nat}{x:Str}{pos:Pos}(hN:X.N[i]? = some x) (hv:Vis X.env.scope x) (hd:(x == ("__debug__" : Str))=false:=by decide) (hcd:(x == ("__classdict__" : Str))=false:=by decide):PE X (.Name x pos) (tVar i):=by
 intro pins s σ H Q I h
 obtain⟨v,e,h⟩:=h
 obtain⟨m,hn,hl⟩:=I.loc
 obtain⟨u,r,l⟩:=hl i x v hN e hv
 have fin:EP X pins σ Q u s:=⟨v,H,I,r,h⟩
 rcases l with ⟨hk,hm⟩ | ⟨hk,c,hc,hcell⟩
 ·exact wpAny_Name (wpAny_loadName_local I.ok.kind hk hn hm fin) hd
 ·rcases hk with hk | hk
  ·exact wpAny_Name (wpAny_loadName_cell I.ok.kind hk hc hcell fin) hd
  ·exact wpAny_Name (wpAny_loadName_free I.ok.kind hk hc hcell fin hcd) hd
theorem pe_int {i j pos}:PE X (.Constant (.int i) j pos) (tC (.int i)):=fun _ _ _ H _ I h=>wpAny_Constant_int ⟨.int i,H,I.tok _,⟨_,rfl⟩,h⟩
theorem pe_bl {b j pos}:PE X (.Constant (.bool b) j pos) (tC (.bl b)):=fun _ _ _ H _ I h=>Constant_bool ⟨.bl b,H,I,rfl,h⟩
theorem pe_non {j pos}:PE X (.Constant .none j pos) (tC .non):=fun _ _ _ H _ I h=>Constant_none ⟨.non,H,I,rfl,h⟩
theorem pe_str {x j pos}:PE X (.Constant (.str x) j pos) (tC (.str x)):=fun _ _ _ H _ I h=>Calls.Constant_str ⟨.str x,H,I.tok _,⟨_,rfl⟩,h⟩
def Gl (X:Cx) (x:Str):Prop:=X.env.kindOf x=some .globalImplicit
theorem Uw {E:Value->Shared->Prop}{pins:List (Addr × Obj)}{s:Shared}{σ:St}{H:Hp}{x:Str}{u:Value}{pos:Pos}{Q:Value->Shared->Prop}(I:Inv X pins σ H s) (hg:Gl X x) (hm:X.mg x=some u) (h:Q u s)
  (hd:(x == ("__debug__" : Str))=false:=by decide):wpAny (model X.prog X.w) X.A (eval (.Name x pos) X.env) Q E s:=
 Calls.Name_function_global I.ok.kind hg (Calls.loadGlobal_global (by rw[I.ok.glob];exact I.mod.glob.keeps I.bk) hm h) hd
theorem UT {E:Value->Shared->Prop}{pins:List (Addr × Obj)}{s:Shared}{σ:St}{H:Hp}{x:Str}{u:Value}{pos:Pos}{Q:Value->Shared->Prop}(I:Inv X pins σ H s) (hg:Gl X x) (hm:X.mg x=none) (hv:bootBuiltins x=some u) (h:Q u s)
  (hn:x ≠ "__name__":=by decide) (hd:(x == ("__debug__" : Str))=false:=by decide):wpAny (model X.prog X.w) X.A (eval (.Name x pos) X.env) Q E s:=by
 obtain⟨mb,h1,h2⟩:=I.mod.blt
 exact Calls.Name_function_global I.ok.kind hg (Calls.loadGlobal_builtin (by rw[I.ok.glob];exact I.mod.glob.keeps I.bk) hm (by rw[I.ok.blt];exact h1.keeps I.bk) ((h2 x hn).trans hv) h) hd
theorem pe_glob {x:Str}{v:V}{u:Value}{pos:Pos}(hg:Gl X x) (hm:X.mg x=some u) (r:RelV v u) (hd:(x == ("__debug__" : Str))=false:=by decide):PE X (.Name x pos) (tC v):=
 fun _ _ _ H _ I h=>Uw I hg hm ⟨v,H,I,r,h⟩ hd
theorem zgC {x:Str}{v:V}{u:Value}{pos:Pos}(hg:Gl X x) (hm:X.mg x=none) (hv:bootBuiltins x=some u) (r:RelV v u) (hn:x ≠ "__name__":=by decide) (hd:(x == ("__debug__" : Str))=false:=by decide):PE X (.Name x pos) (tC v):=
 fun _ _ _ H _ I h=>UT I hg hm hv ⟨v,H,I,r,h⟩ hn hd
variable {a b:Expr}{ta tb:TE}{pos:Pos}
def PC (X:Cx) (op:CmpOp) (a b:Expr) (t:TE):Prop:=
 ∀(pins:List (Addr × Obj)) (s:Shared) (σ:St) (H:Hp) (Q:VK),Inv X pins σ H s->t σ H Q ->
  wpAny (model X.prog X.w) X.A (eval a X.env) (fun v s₁=>wpAny (model X.prog X.w) X.A (eval b X.env) (fun u s₂=>wpAny (model X.prog X.w) X.A (compareOp op v u) (EP X pins σ Q) X.xe s₂) X.xe s₁) X.xe s
theorem zbF (b:Expr) {op:CmpOp}(h:op ≠ .In) (h2:op ≠ .NotIn):behindInMarks op b=false:=by
 have e1:(op == CmpOp.In)=false:=by cases op <;> first | rfl | exact absurd rfl h
 have e2:(op == CmpOp.NotIn)=false:=by cases op <;> first | rfl | exact absurd rfl h2
 cases b <;> simp[behindInMarks,e1,e2]
def tIsN (ta:TE):TE:=fun σ H Q=>ta σ H fun x H1=>Q (.bl (decide (x=.non))) H1
def tNotN (ta:TE):TE:=fun σ H Q=>ta σ H fun x H1=>Q (.bl (!decide (x=.non))) H1
theorem RelV.none_iff {x:V}{v:Value}(r:RelV x v):(v == Value.none)=decide (x=.non):=by
 cases x with
 | non=>cases r;rfl
 | bl _=>cases r;rfl
 | int _=>obtain⟨t,rfl⟩:=r;rfl
 | str _=>obtain⟨t,rfl⟩:=r;rfl
 | byt _=>obtain⟨t,rfl⟩:=r;rfl
 | flt _=>obtain⟨t,rfl⟩:=r;rfl
 | ref _=>cases r;rfl
 | ty _=>cases r;rfl
theorem pc_isN {j pos'}(ha:PE X a ta):PC X .Is a (.Constant .none j pos') (tIsN ta):=by
 intro pins s σ H Q I h
 refine thn (ha pins s σ H _ I h) fun v s1 ⟨x,H1,I1,r1,q1⟩=>?_
 exact Constant_none (is_none_gen ⟨.bl _,H1,I1,by rw[r1.none_iff];rfl,q1⟩)
theorem pc_notN {j pos'}(ha:PE X a ta):PC X .IsNot a (.Constant .none j pos') (tNotN ta):=by
 intro pins s σ H Q I h
 refine thn (ha pins s σ H _ I h) fun v s1 ⟨x,H1,I1,r1,q1⟩=>?_
 exact Constant_none (isnot_none_gen ⟨.bl _,H1,I1,by rw[r1.none_iff];rfl,q1⟩)
def tB (t:TE):TT:=fun σ H Q=>t σ H fun x H1=>∃c,x=.bl c/\Q c H1
theorem pt_cmp {op:CmpOp}{t:TE}(h:PC X op a b t) (h1:behindInMarks op b=false:=by first | exact zbF _ (by decide) (by decide) | rfl):PT X (.Compare a [op] [b] pos) (tB t):=by
 intro pins s σ H Q I hw
 refine wpAny_isTrue_Compare1 (thn (h pins s σ H _ I hw) fun v s1 h1=>thn h1 fun u s2 h2=>thn h2 fun c s3 ⟨x,H1,I1,r1,q1⟩=>?_) h1
 obtain⟨d,rfl,q⟩:=q1
 cases r1
 exact wpAny_truthy_bool ⟨H1,I1,q⟩
variable {tA tB':TT}{rest:List Expr}
def tAnd (t u:TT):TT:=fun σ H Q=>t σ H fun c H1=>if c=true then u σ H1 Q else Q false H1
def tOr (t u:TT):TT:=fun σ H Q=>t σ H fun c H1=>if c=true then Q true H1 else u σ H1 Q
def tNot (t:TT):TT:=fun σ H Q=>t σ H fun c H1=>Q (!c) H1
theorem pw_and1 (ha:PT X a tA):PW X (.BoolOp .And [a] pos) tA:=by
 intro wh pins s σ H Q I h
 refine isTrue_and (thn (ha pins s σ H Q I h) fun c s1 e=>?_)
 cases c with
 | true=>exact isTrue_and_nil e
 | false=>exact e
theorem pw_or1 (ha:PT X a tA):PW X (.BoolOp .Or [a] pos) tA:=by
 intro wh pins s σ H Q I h
 refine isTrue_or (thn (ha pins s σ H Q I h) fun c s1 e=>?_)
 cases c with
 | false=>exact isTrue_or_nil e
 | true=>exact e
theorem pw_and (ha:PT X a tA) (hb:PW X (.BoolOp .And (b::rest) pos) tB'):PW X (.BoolOp .And (a::b::rest) pos) (tAnd tA tB'):=by
 intro wh pins s σ H Q I h
 refine isTrue_and (thn (ha pins s σ H _ I h) fun c s1 ⟨H1,I1,q1⟩=>?_)
 cases c with
 | true=>exact hb wh pins s1 σ H1 Q I1 q1
 | false=>exact⟨H1,I1,q1⟩
theorem pw_or (ha:PT X a tA) (hb:PW X (.BoolOp .Or (b::rest) pos) tB'):PW X (.BoolOp .Or (a::b::rest) pos) (tOr tA tB'):=by
 intro wh pins s σ H Q I h
 refine isTrue_or (thn (ha pins s σ H _ I h) fun c s1 ⟨H1,I1,q1⟩=>?_)
 cases c with
 | true=>exact⟨H1,I1,q1⟩
 | false=>exact hb wh pins s1 σ H1 Q I1 q1
theorem pt_not (ha:PT X a tA):PT X (.UnaryOp .Not a pos) (tNot tA):=by
 intro pins s σ H Q I h
 exact isTrue_not (ha pins s σ H (fun c H1=>Q (!c) H1) I h)
def tAndV (ta tb:TE):TE:=fun σ H Q=>ta σ H fun x H1=>∃c,x=.bl c/\if c=true then tb σ H1 Q else Q (.bl false) H1
def tOrV (ta tb:TE):TE:=fun σ H Q=>ta σ H fun x H1=>∃c,x=.bl c/\if c=true then Q (.bl true) H1 else tb σ H1 Q
def tNotV (ta:TE):TE:=fun σ H Q=>ta σ H fun x H1=>∃c,x=.bl c/\Q (.bl (!c)) H1
theorem pe_one {op}{t:TE}(h:PE X a t):PE X (.BoolOp op [a] pos) t:=fun pins s σ H Q I hw=>BoolOp_one (h pins s σ H Q I hw)
theorem pe_and (ha:PE X a ta) (hb:PE X (.BoolOp .And (b::rest) pos) tb):PE X (.BoolOp .And (a::b::rest) pos) (tAndV ta tb):=by
 intro pins s σ H Q I h
 refine BoolOp_and (thn (ha pins s σ H _ I h) fun v s1 ⟨x,H1,I1,r1,q1⟩=>?_)
 obtain⟨c,rfl,q1⟩:=q1
 cases r1
 refine wpAny_truthy_bool ?_
 cases c with
 | true=>exact hb pins s1 σ H1 Q I1 q1
 | false=>exact⟨.bl false,H1,I1,rfl,q1⟩
theorem pe_or (ha:PE X a ta) (hb:PE X (.BoolOp .Or (b::rest) pos) tb):PE X (.BoolOp .Or (a::b::rest) pos) (tOrV ta tb):=by
 intro pins s σ H Q I h
 refine BoolOp_or (thn (ha pins s σ H _ I h) fun v s1 ⟨x,H1,I1,r1,q1⟩=>?_)
 obtain⟨c,rfl,q1⟩:=q1
 cases r1
 refine wpAny_truthy_bool ?_
 cases c with
 | false=>exact hb pins s1 σ H1 Q I1 q1
 | true=>exact⟨.bl true,H1,I1,rfl,q1⟩
theorem pe_not (ha:PE X a ta):PE X (.UnaryOp .Not a pos) (tNotV ta):=by
 intro pins s σ H Q I h
 refine UnaryOp_ (thn (ha pins s σ H _ I h) fun v s1 ⟨x,H1,I1,r1,q1⟩=>?_)
 obtain⟨c,rfl,q1⟩:=q1
 cases r1
 exact not_of (wpAny_truthy_bool ⟨.bl (!c),H1,I1,rfl,q1⟩)
def tIf (t:TT) (ta tb:TE):TE:=fun σ H Q=>t σ H fun c H1=>if c=true then ta σ H1 Q else tb σ H1 Q
theorem pe_ifExp {c:Expr}(hc:PT X c tA) (ha:PE X a ta) (hb:PE X b tb):PE X (.IfExp c a b pos) (tIf tA ta tb):=by
 intro pins s σ H Q I h
 refine wpAny_IfExp (thn (hc pins s σ H _ I h) fun d s1 ⟨H1,I1,q1⟩=>?_)
 cases d with
 | true=>exact ha pins s1 σ H1 Q I1 q1
 | false=>exact hb pins s1 σ H1 Q I1 q1
end
end L2
namespace L2
open PySem PySem.Spec PyProof.Rows
def SqL (K:PySem.W.Frag) (H:Hp) (a:Addr) (xs:List V):Prop:=
 Rd H a (.lst xs) \/
  ∃(o:Obj) (its:Array Value) (n:Nat),K.lookup a=some o/\o.cls=.type "list" /\ o.dict=none/\o.data=.seq its n/\its.size<=sizeLine/\Vals xs its.toList
def SqT (K:PySem.W.Frag) (H:Hp) (a:Addr) (xs:List V):Prop:=
 Rd H a (.tup xs) \/
  ∃(o:Obj) (its:Array Value) (n:Nat),K.lookup a=some o/\o.cls=.type "tuple" /\ o.data=.seq its n/\its.size<=sizeLine/\Vals xs its.toList
def absV:Value->Option V
 | .none=>some .non
 | .bool b=>some (.bl b)
 | .int i _=>some (.int i)
 | .str x _=>some (.str x)
 | .bytes b _=>some (.byt b)
 | .float b _=>some (.flt b)
 | .ref a=>some (.ref a)
 | .type n=>some (.ty n)
 | _=>none
theorem RelV.abs {x:V}{u:Value}(r:RelV x u):absV u=some x:=by
 cases x with
 | non=>cases r;rfl
 | bl _=>cases r;rfl
 | int _=>obtain⟨t,rfl⟩:=r;rfl
 | str _=>obtain⟨t,rfl⟩:=r;rfl
 | byt _=>obtain⟨t,rfl⟩:=r;rfl
 | flt _=>obtain⟨t,rfl⟩:=r;rfl
 | ref _=>cases r;rfl
 | ty _=>cases r;rfl
theorem RelV.inj {x y:V}{u:Value}(r:RelV x u) (q:RelV y u):x=y:=Option.some.inj (r.abs.symm.trans q.abs)
theorem Vals.inj:∀{xs ys:List V}{us:List Value},Vals xs us->Vals ys us->xs=ys
 | _,_,_,.nil,.nil=>rfl
 | _,_,_,.cons r t,.cons r' t'=>by rw[r.inj r',Vals.inj t t']
section
variable {X:Cx}{pins:List (Addr × Obj)}{σ:St}{H:Hp}{s:Shared}{a:Addr}{xs ys:List V}
theorem SqL.of {K:PySem.W.Frag}(h:H a=some (.lst xs)):SqL K H a xs:=.inl (.inl h)
theorem Inv.list (I:Inv X pins σ H s) (h:SqL X.K H a xs):∃its:List Value,Vals xs its/\PlainL s.heap a its.toArray/\xs.length<=sizeLine:=by
 rcases h with h | ⟨o,its,n,hk,hc,hd,hs,hz,r⟩
 ·obtain⟨z,its,n,r,e⟩:=h.ok I.hok
  exact⟨its,r,⟨_,n,e,rfl,rfl,rfl⟩,z⟩
 ·refine⟨its.toList,r,⟨o,n,I.kIn a o hk,hc,hd,by simpa using hs⟩,?_⟩
  have e:=r.length
  simp only[Array.length_toList] at e
  omega
theorem Inv.tuple (I:Inv X pins σ H s) (h:SqT X.K H a xs):∃its:List Value,Vals xs its/\IsTup s.heap a its.toArray/\xs.length<=sizeLine:=by
 rcases h with h | ⟨o,its,n,hk,hc,hs,hz,r⟩
 ·obtain⟨z,its,r,p⟩:=h.ok I.hok
  exact⟨its,r,p,z⟩
 ·refine⟨its.toList,r,⟨o,I.kIn a o hk,hc,n,by simpa using hs⟩,?_⟩
  have e:=r.length
  simp only[Array.length_toList] at e
  omega
theorem Inv.list_inj (I:Inv X pins σ H s) (h:SqL X.K H a xs) (h':SqL X.K H a ys):xs=ys:=by
 obtain⟨its,r,⟨o,n,e,_,_,d⟩,_⟩:=I.list h
 obtain⟨its',r',⟨o',n',e',_,_,d'⟩,_⟩:=I.list h'
 rw[e] at e';cases e'
 rw[d] at d'
 injection d' with d1 _
 have:its=its':=by simpa using congrArg Array.toList d1
 subst this
 exact r.inj r'
theorem Inv.tuple_inj (I:Inv X pins σ H s) (h:SqT X.K H a xs) (h':SqT X.K H a ys):xs=ys:=by
 obtain⟨its,r,⟨o,e,_,n,d⟩,_⟩:=I.tuple h
 obtain⟨its',r',⟨o',e',_,n',d'⟩,_⟩:=I.tuple h'
 rw[e] at e';cases e'
 rw[d] at d'
 injection d' with d1 _
 have:its=its':=by simpa using congrArg Array.toList d1
 subst this
 exact r.inj r'
end
abbrev Cx.wish (X:Cx) (E:Value->Shared->Prop):Cx:={ X with xe:=E }
abbrev Cx.nox (X:Cx):Cx:=X.wish fun _ _=>False
theorem Cx.Ok.wish {X:Cx}(ok:X.Ok) (E:Value->Shared->Prop):(X.wish E).Ok:=
 ⟨ok.mod,ok.kind,ok.glob,ok.blt,ok.above,ok.inj,ok.has,ok.cab,ok.hd,ok.frames,ok.stk,ok.exf,ok.bs,ok.bsz,ok.noex,ok.exfs,ok.funs,ok.frf⟩
theorem Cx.Ok.unwish {X:Cx}{E:Value->Shared->Prop}(ok:(X.wish E).Ok):X.Ok:=
 ⟨ok.mod,ok.kind,ok.glob,ok.blt,ok.above,ok.inj,ok.has,ok.cab,ok.hd,ok.frames,ok.stk,ok.exf,ok.bs,ok.bsz,ok.noex,ok.exfs,ok.funs,ok.frf⟩
section
variable {X:Cx}{pins:List (Addr × Obj)}{σ:St}{H:Hp}{s:Shared}{E:Value->Shared->Prop}
theorem Inv.wish (I:Inv X pins σ H s) (E:Value->Shared->Prop):Inv (X.wish E) pins σ H s:=⟨I.ok.wish E,I.os,I.bare,I.base,I.loc,I.cell,I.free,I.freeC,I.pin,I.hok,I.len⟩
theorem Inv.unwish (I:Inv (X.wish E) pins σ H s):Inv X pins σ H s:=⟨I.ok.unwish,I.os,I.bare,I.base,I.loc,I.cell,I.free,I.freeC,I.pin,I.hok,I.len⟩
theorem SP.unwish {D:Ends}{f:Flow}{s':Shared}(h:SP (X.wish E) pins D f s'):SP X pins D f s':=by
 cases f with
 | next=>obtain⟨σ',H',I,q⟩:=h;exact⟨σ',H',I.unwish,q⟩
 | brk=>obtain⟨σ',H',I,q⟩:=h;exact⟨σ',H',I.unwish,q⟩
 | cont=>obtain⟨σ',H',I,q⟩:=h;exact⟨σ',H',I.unwish,q⟩
 | ret u=>obtain⟨v,σ',H',I,r,q⟩:=h;exact⟨v,σ',H',I.unwish,r,q⟩
theorem PSs.nox {st:List Stmt}{t:TS}(h:PSs X.nox st t):PSs X st t:=fun pins s σ H D I hw=>
 wpAny_mono (h pins s σ H D (I.wish _) hw) (fun _ _ q=>q.unwish) fun _ _ z=>False.elim z
end
section
variable {X:Cx}{st:Stmt}{rest:List Stmt}{t u:TS}{e:Expr}{te:TE}{pos:Pos}
def tNext:TS:=fun D σ H=>D.nx σ H
def tSeq (t u:TS):TS:=fun D σ H=>t { D with nx:=u D } σ H
theorem pss_nil:PSs X [] tNext:=fun _ _ σ H _ I h=>wpAny_execs_nil ⟨σ,H,I,h⟩
theorem zbu (h1:PS X st t) (h2:PSs X rest u):PSs X (st::rest) (tSeq t u):=by
 intro pins s σ H D I h
 refine wpAny_execs_cons (thn (h1 pins s σ H { D with nx:=u D } I h) fun f s1 q=>?_)
 cases f with
 | next=>
  obtain⟨σ',H',I',q⟩:=q
  exact h2 pins s1 σ' H' D I' q
 | ret v=>exact q
 | brk=>exact q
 | cont=>exact q
theorem zgt (h1:PS X st t):PSs X [st] t:=by
 intro pins s σ H D I h
 refine wpAny_execs_cons (thn (h1 pins s σ H D I h) fun f s1 q=>?_)
 cases f with
 | next=>exact wpAny_execs_nil q
 | ret v=>exact q
 | brk=>exact q
 | cont=>exact q
theorem Inv.quiet {pins:List (Addr × Obj)}{σ:St}{H:Hp}{s:Shared}(I:Inv X pins σ H s):interactive X.env=false:=by simp[interactive,I.ok.kind]
def tDrop (te:TE):TS:=fun D σ H=>te σ H fun _ H1=>D.nx σ H1
theorem zgv (he:PE X e te) (hs:swapsWith e none pos.line X.env=pure false:=by rfl):PS X (.Expr e pos) (tDrop te):=by
 intro pins s σ H D I h
 exact wpAny_Expr_any (thn (he pins s σ H _ I h) fun v s1 ⟨x,H1,I1,r1,q1⟩=>⟨σ,H1,I1,q1⟩) I.quiet hs
def tRet (te:TE):TS:=fun D σ H=>te σ H D.rt
theorem ps_ret (he:PE X e te):PS X (.Return (some e) pos) (tRet te):=by
 intro pins s σ H D I h
 exact wpAny_Return_some (thn (he pins s σ H _ I h) fun v s1 ⟨x,H1,I1,r1,q1⟩=>⟨x,σ,H1,I1,r1,q1⟩)
def tIfS (c:TT) (t u:TS):TS:=fun D σ H=>c σ H fun b H1=>if b=true then t D σ H1 else u D σ H1
theorem ps_if {c:Expr}{a b:List Stmt}{tc:TT}(hc:PT X c tc) (ha:PSs X a t) (hb:PSs X b u):PS X (.If c a b pos) (tIfS tc t u):=by
 intro pins s σ H D I h
 refine wpAny_If (thn (hc pins s σ H _ I h) fun d s1 ⟨H1,I1,q1⟩=>?_)
 cases d with
 | true=>exact ha pins s1 σ H1 D I1 q1
 | false=>exact hb pins s1 σ H1 D I1 q1
def tNever:TS:=fun _ _ _=>False
theorem ps_never:PS X st tNever:=fun _ _ _ _ _ _ h=>h.elim
end
abbrev TG:=V->St->Hp->(St->Hp->Prop)->Prop
abbrev TGs:=List V->St->Hp->(St->Hp->Prop)->Prop
def PG (X:Cx) (target:Expr) (t:TG):Prop:=
 ∀(pins:List (Addr × Obj)) (s:Shared) (σ:St) (H:Hp) (v:V) (u:Value) (Q:St->Hp->Prop),Inv X pins σ H s->RelV v u->t v σ H Q ->
  wpAny (model X.prog X.w) X.A (assign target X.env u) (fun _ s'=>∃σ' H',Inv X pins σ' H' s'/\Q σ' H') X.xe s
def PGs (X:Cx) (ts:List Expr) (t:TGs):Prop:=
 ∀(pins:List (Addr × Obj)) (s:Shared) (σ:St) (H:Hp) (vs:List V) (us:List Value) (Q:St->Hp->Prop),Inv X pins σ H s->Vals vs us->t vs σ H Q ->
  wpAny (model X.prog X.w) X.A (assignInOrder ((assignEach ts X.env).map (·.2)) us) (fun _ s'=>∃σ' H',Inv X pins σ' H' s'/\Q σ' H') X.xe s
abbrev TSet:=V->V->V->Hp->(Hp->Prop)->Prop
def PSet (X:Cx) (t:TSet):Prop:=
 ∀(pins:List (Addr × Obj)) (s:Shared) (σ:St) (H:Hp) (o i v:V) (ov iv u:Value) (Q:Hp->Prop),Inv X pins σ H s->RelV o ov->RelV i iv->RelV v u->t o i v H Q ->
  wpAny (model X.prog X.w) X.A (setItem ov iv u) (fun _ s'=>∃H',Inv X pins σ H' s'/\Q H') X.xe s
section
variable {X:Cx}{pos:Pos}
def gName (i:Nat):TG:=fun v σ H Q=>Q (σ.set i (some v)) H
theorem zdv {i:Nat}{x:Str}(hN:X.N.Nodup) (hi:X.N[i]? = some x) (hx:Loc X.env.scope x) (hf:X.fn x=true\/X.env.scope.names.lookup x=some .local:=by first | exact .inl rfl | exact .inr rfl | assumption):PG X (.Name x pos) (gName i):=by
 intro pins s σ H v u Q I r h
 exact wpAny_assign_Name (UK I hN hi hx r (fun s' I'=>⟨_,H,I',h⟩) hf)
def gNil:TGs:=fun vs σ H Q=>vs=[]/\Q σ H
def gCons (t:TG) (u:TGs):TGs:=fun vs σ H Q=>∃v r,vs=v::r/\t v σ H fun σ' H'=>u r σ' H' Q
theorem pgs_nil:PGs X [] gNil:=by
 intro pins s σ H vs us Q I r h
 obtain⟨e,h⟩:=h
 subst e
 cases r
 exact assignInOrder_nil ⟨σ,H,I,h⟩
theorem zeh {e:Expr}{es:List Expr}{t:TG}{u:TGs}(h1:PG X e t) (h2:PGs X es u)
  (hs:(assignEach (e::es) X.env).map (·.2)=assign e X.env::(assignEach es X.env).map (·.2):=by rfl):PGs X (e::es) (gCons t u):=by
 intro pins s σ H vs us Q I r h
 obtain⟨v,vr,e1,h⟩:=h
 subst e1
 cases r with
 | cons r rr=>
  rw[hs]
  refine assignInOrder_cons (thn (h1 pins s σ H _ _ _ I r h) fun _ s1 ⟨σ1,H1,I1,q1⟩=>?_)
  exact h2 pins s1 σ1 H1 _ _ Q I1 rr q1
def gTup (K:PySem.W.Frag) (n:Nat) (t:TGs):TG:=fun v σ H Q=>∃a xs,v=.ref a/\SqT K H a xs/\xs.length=n/\t xs σ H Q
theorem pg_tup {es:List Expr}{k:Nat}{t:TGs}{n:Nat}(hc:X.calm=true) (h:PGs X es t)
  (hn:(assignEach es X.env).length=n:=by rfl) (hst:(assignEach es X.env).findIdx? (·.1)=none:=by rfl):PG X (.Tuple es k pos) (gTup X.K n t):=by
 intro pins s σ H v u Q I r hw
 obtain⟨a,xs,e1,hq,hl,hw⟩:=hw
 subst e1
 cases r
 obtain⟨its,rv,ht,hz⟩:=I.tuple hq
 refine assign_Tuple_tuple (I.ok.hd hc) ht (by simp[hn,<- hl,rv.length]) hst fun h' hx=>?_
 have I1:Inv X pins σ H { s with heap:=h' }:=I.kept (t':=s.toks) fun b o e=>hx b o (Nat.ne_of_lt (Heap.lt_size e)) e
 exact h pins _ σ H xs _ Q I1 (by simpa using rv) hw
def gSub (to ti:TE) (t:TSet):TG:=fun v σ H Q=>to σ H fun o H1=>ti σ H1 fun i H2=>t o i v H2 fun H3=>Q σ H3
theorem pg_sub {o i:Expr}{to ti:TE}{t:TSet}(ho:PE X o to) (hi:PE X i ti) (hs:PSet X t)
  (ha:∀v,assign (.Subscript o i pos) X.env v=(do
   let ov <- holding [v] (eval o X.env)
   let iv <- holding [v,ov] (eval i X.env)
   standAt pos
   holding [v,ov,iv] (setItem ov iv v)
   release [v,ov,iv] []):=by intro _;rfl):PG X (.Subscript o i pos) (gSub to ti t):=by
 intro pins s σ H v u Q I r h
 rw[ha]
 refine wpAny_bind (wpAny_holding (thn (ho pins s σ H _ I h) fun ov s1 ⟨x,H1,I1,r1,q1⟩=>?_))
 refine wpAny_bind (wpAny_holding (thn (hi pins s1 σ H1 _ I1 q1) fun iv s2 ⟨y,H2,I2,r2,q2⟩=>?_))
 refine wpAny_bind (wpAny_standAt (wpAny_bind (wpAny_holding (thn (hs pins s2 σ H2 x y v ov iv u _ I2 r1 r2 r q2) fun _ s3 ⟨H3,I3,q3⟩=>?_))))
 exact wpAny_release ⟨σ,H3,I3,q3⟩
def tAsg (te:TE) (g:TG):TS:=fun D σ H=>te σ H fun x H1=>g x σ H1 D.nx
theorem ps_asg {tg e:Expr}{te:TE}{g:TG}(he:PE X e te) (hg:PG X tg g) (hs:swapsWithSole [tg] e pos.line X.env=pure false:=by rfl) (hw:swappedStores [tg] e X.env=pure none:=by rfl)
  (h1:(assignEach [tg] X.env).map (·.2)=[assign tg X.env]:=by rfl):PS X (.Assign [tg] e pos) (tAsg te g):=by
 intro pins s σ H D I h
 refine wpAny_Assign_stores (thn (he pins s σ H _ I h) fun v s1 ⟨x,H1,I1,r1,q1⟩=>?_) hs hw
 rw[h1]
 exact thn (hg pins s1 σ H1 x v _ I1 r1 q1) fun _ s2 q=>q
theorem ps_set {i:Nat}{x:Str}{e:Expr}{te:TE}{pos':Pos}(hN:X.N.Nodup) (hi:X.N[i]? = some x) (hx:Loc X.env.scope x) (he:PE X e te) (hs:swapsWith e (some (.Name x pos')) pos.line X.env=pure false:=by rfl) (hf:X.fn x=true\/X.env.scope.names.lookup x=some .local:=by first | exact .inl rfl | exact .inr rfl | assumption) :
  PS X (.Assign [.Name x pos'] e pos) (tAsg te (gName i)):=by
 intro pins s σ H D I h
 refine wpAny_Assign_Name (thn (he pins s σ H _ I h) fun v s1 ⟨y,H1,I1,r1,q1⟩=>?_) hs
 exact UK I1 hN hi hx r1 (fun s2 I2=>⟨_,H1,I2,q1⟩) hf
end
section
variable {X:Cx}{pos:Pos}
def tWhile (c:TT) (tb:TS):TS:=fun D σ H=>∃W:Nat->St->Hp->Prop,(∃m,W m σ H)/\∀m σ H,W m σ H ->
 c σ H fun b H1=>if b=true then ∃N:St->Hp->Prop,(∀σ' H',N σ' H'->∃m',m' < m/\W m' σ' H')/\tb { D with nx:=N,ct:=N,bk:=D.nx } σ H1 else D.nx σ H1
theorem ps_while {c:Expr}{body:List Stmt}{tc:TT}{tb:TS}(hp:PassesOwn (model X.prog X.w) X.A X.env X.xe) (hc:PT X c tc) (hb:PSs X body tb):PS X (.While c body [] pos) (tWhile tc tb):=by
 intro pins s σ H D I h
 obtain⟨W,⟨m0,w0⟩,turn⟩:=h
 refine wpAny_While (codeAny_whileLoop (fun n s'=>∃σ' H',Inv X pins σ' H' s'/\W n σ' H') ?_ m0 ⟨σ,H,I,w0⟩)
 rintro n s1 ⟨σ1,H1,I1,w1⟩
 refine wpAny_passesOwn hp (thn (hc pins s1 σ1 H1 _ I1 (turn n σ1 H1 w1)) fun b s2 ⟨H2,I2,q2⟩=>?_)
 cases b with
 | true=>
  obtain⟨N,hN,q2⟩:=q2
  rw[if_pos rfl]
  refine wpAny_passesOwn hp (thn (hb pins s2 σ1 H2 _ I2 q2) fun f s3 q3=>?_)
  cases f with
  | next=>
   obtain⟨σ3,H3,I3,n3⟩:=q3
   obtain⟨m',hm,w3⟩:=hN σ3 H3 n3
   exact⟨m',hm,σ3,H3,I3,w3⟩
  | cont=>
   obtain⟨σ3,H3,I3,n3⟩:=q3
   obtain⟨m',hm,w3⟩:=hN σ3 H3 n3
   exact⟨m',hm,σ3,H3,I3,w3⟩
  | brk=>exact q3
  | ret v=>exact q3
 | false=>
  rw[if_neg Bool.false_ne_true]
  exact wpAny_execs_nil ⟨σ1,H2,I2,q2⟩
end
structure It where
 go:Nat->Hp->Prop
 yld:Nat->Hp->V->Hp->Prop
 stop:Nat->Hp->Prop
def FpOk (X:Cx) (pins:List (Addr × Obj)) (H:Hp) (b:Addr):Prop:=
 H b=none/\b ≠ X.env.locals/\b ∉ X.fs/\(b ∈ X.ex\/X.s₀.heap.objs.size<=b)/\(∀x c,X.env.cells.lookup x=some c->c ≠ b)/\∀p ∈ X.pn++pins,p.1 ≠ b
theorem Inv.fpOk {X:Cx}{pins:List (Addr × Obj)}{σ:St}{H H':Hp}{s:Shared}{b:Addr}(I:Inv X pins σ H s) (hb:s.heap.objs.size<=b) (hn:H' b=none):FpOk X pins H' b:=by
 refine⟨hn,Nat.ne_of_gt (Nat.lt_of_lt_of_le I.lt hb),I.nofs hb,.inr (Nat.le_trans I.sz hb),fun x c e z=>?_,fun p hp z=>?_⟩
 ·obtain⟨v,q⟩:=I.cell x c e
  exact absurd (Nat.lt_of_lt_of_le q.lt (by rw[z];exact hb)) (Nat.lt_irrefl _)
 ·exact absurd (Nat.lt_of_lt_of_le (Heap.lt_size (I.pin p hp).1) (by rw[z];exact hb)) (Nat.lt_irrefl _)
structure Turn (P:Program) (w:World) (K:PySem.W.Frag) (tg:Expr) (J:It) (fp:List Addr) (it:Addr) (tn:Nat->Heap->Prop):Prop where
 mem:it ∈ fp
 obj:∀i h,tn i h->∀b ∈ fp,∃o,h.get? b=some o/\∀v,o.data ≠ .cell v
 keep:∀i h h',tn i h->(∀b ∈ fp,∀o,h.get? b=some o->h'.get? b=some o)->tn i h'
 item:∀(X:Cx),X.prog=P->X.w=w->X.K=K->X.calm=true->∀(i:Nat) (pins:List (Addr × Obj)) (s:Shared) (σ:St) (H:Hp) (E:Value->Shared->Prop),Inv X pins σ H s->(∀b ∈ fp,FpOk X pins H b)->tn i s.heap->J.go i H ->
  wpAny (model P w) X.A (pyNext (.ref it)) (fun r s1=>∃u,r=some u /\
   wpAny (model P w) X.A (letOwnedTupleGo tg (.ref it) u) (fun _ s2=>∃x H',Inv X pins σ H' s2/\RelV x u/\J.yld i H x H'/\tn (i+1) s2.heap/\∀b ∈ fp,H' b=none) E s1) E s
 done:∀(X:Cx),X.prog=P->X.w=w->X.K=K->X.calm=true->∀(i:Nat) (pins:List (Addr × Obj)) (s:Shared) (σ:St) (H:Hp) (E:Value->Shared->Prop),Inv X pins σ H s->(∀b ∈ fp,FpOk X pins H b)->tn i s.heap->J.stop i H ->
  wpAny (model P w) X.A (pyNext (.ref it)) (fun r s1=>r=none/\Inv X pins σ H s1) E s
 self:∀(A:Around) (i:Nat) (s:Shared) (Q:Value->Shared->Prop) (E:Value->Shared->Prop),tn i s.heap->Q (.ref it) s->wpAny (model P w) A (pyIter (.ref it)) Q E s
abbrev TI:=St->Hp->(It->Hp->Prop)->Prop
def PIE (X:Cx) (pins:List (Addr × Obj)) (σ:St) (tg:Expr) (R:It->Hp->Prop) (itv:Value) (s2:Shared):Prop:=
 ∃(it:Addr) (fp:List Addr) (tn:Nat->Heap->Prop) (J:It) (H':Hp),itv=.ref it/\Inv X pins σ H' s2/\Turn X.prog X.w X.K tg J fp it tn/\tn 0 s2.heap/\(∀b ∈ fp,FpOk X pins H' b)/\R J H'
def PI (X:Cx) (tg iter:Expr) (wi:TI):Prop:=
 ∀(pins:List (Addr × Obj)) (s:Shared) (σ:St) (H:Hp) (R:It->Hp->Prop),Inv X pins σ H s->wi σ H R ->
  wpAny (model X.prog X.w) X.A (eval iter X.env) (fun v s1=>wpAny (model X.prog X.w) X.A (pyIter v) (PIE X pins σ tg R) X.xe s1) X.xe s
theorem go_of {M:Model}{A:Around}{E:Value->Shared->Prop}{s:Shared}{tg:Expr}{it:Addr}{u:Value}{o:Obj}{n:String}{vs:Array Value}{Q:Unit->Shared->Prop}(ho:s.heap.get? it=some o) (hc:o.cls=.type n) (hd:o.data=.fields vs)
  (hn:["enumerate","zip","dict_itemiterator","dict_reverseitemiterator","odict_iterator","itertools.zip_longest","itertools.pairwise"].contains n=false) (hQ:Q () s):wpAny M A (letOwnedTupleGo tg (.ref it) u) Q E s:=by
 unfold letOwnedTupleGo
 cases tg <;> first
  | exact wpAny_pure hQ
  | (cases u <;> first
    | exact wpAny_pure hQ
    | (refine wpAny_bind (wpAny_load ho ?_)
       rw[hc,hd]
       show wpAny M A (if(["enumerate","zip","dict_itemiterator","dict_reverseitemiterator","odict_iterator","itertools.zip_longest","itertools.pairwise"].contains n && vs[0]? == some (rawInt _))=true then _ else _) Q E s
       rw[if_neg (by intro h;rw[hn,Bool.false_and] at h;cases h)]
       exact wpAny_pure hQ))
def Itl (K:PySem.W.Frag) (a:Addr):It:=
 ⟨fun i H=>∃xs x,SqL K H a xs/\xs[i]? = some x,fun i H x H'=>H'=H/\∀xs,SqL K H a xs->xs[i]? = some x,fun i H=>∃xs,SqL K H a xs/\xs.length<=i⟩
def Itt (K:PySem.W.Frag) (a:Addr):It:=
 ⟨fun i H=>∃xs x,SqT K H a xs/\xs[i]? = some x,fun i H x H'=>H'=H/\∀xs,SqT K H a xs->xs[i]? = some x,fun i H=>∃xs,SqT K H a xs/\xs.length<=i⟩
def Itr (lo:Int) (n:Nat):It:=⟨fun i _=>i < n,fun i H x H'=>H'=H/\x=.int (lo+i),fun i _=>n<=i⟩
theorem zfP {P:Program}{w:World}{K:PySem.W.Frag}{tg:Expr}(a it:Addr):Turn P w K tg (Itl K a) [it] it (fun i h=>h.IsListIter it a i) where
 mem:=by simp
 obj:=fun i h st b hb=>by
  have e:b=it:=by simpa using hb
  subst e
  obtain⟨o,e,c,d⟩:=st
  exact⟨o,e,fun v z=>by rw[d] at z;cases z⟩
 keep:=fun i h h' st k=>st.at fun o e=>k it (by simp) o e
 item:=by
  intro X hP hw hK hc i pins s σ H E I hf st hg
  subst hP hw hK
  obtain⟨xs,x,hq,hx⟩:=hg
  obtain⟨its,rv,p,hz⟩:=I.list hq
  obtain⟨u,hu,ru⟩:=rv.get hx
  obtain⟨f0,f1,f2,f3,f4,f5⟩:=hf it (by simp)
  refine wpAny_pyNext_list_item st p.isList (x:=u) (by simpa using hu) fun h' st' sb=>?_
  have I1:Inv X pins σ H { s with heap:=h' }:=I.turned (t':=s.toks) (fun b o hb e=>(sb.2 b hb).trans e) f0 f1 f3 f4 f5
  obtain⟨o,e,c,d⟩:=id st'
  exact⟨u,rfl,go_of (s:={ s with heap:=h' }) e c d (by decide) ⟨x,H,I1,ru,⟨rfl,fun ys hy=>by rw[I.list_inj hy hq];exact hx⟩,st',fun b hb=>(hf b hb).1⟩⟩
 done:=by
  intro X hP hw hK hc i pins s σ H E I hf st hg
  subst hP hw hK
  obtain⟨xs,hq,hx⟩:=hg
  obtain⟨its,rv,p,hz⟩:=I.list hq
  obtain⟨f0,f1,f2,f3,f4,f5⟩:=hf it (by simp)
  have hl:=rv.length
  exact wpAny_pyNext_list_end (I.ok.hd hc) st p.isList (by simp;omega) fun h' eb=>⟨rfl,I.turned (t':=s.toks) (fun b o hb e=>eb b o hb e) f0 f1 f3 f4 f5⟩
 self:=fun _ _ _ _ _ st h=>wpAny_pyIter_listiter st h
theorem ze0 {P:Program}{w:World}{K:PySem.W.Frag}{tg:Expr}(a it:Addr):Turn P w K tg (Itt K a) [it] it (fun i h=>h.IsTupleIter it a i) where
 mem:=by simp
 obj:=fun i h st b hb=>by
  have e:b=it:=by simpa using hb
  subst e
  obtain⟨o,e,c,d⟩:=st
  exact⟨o,e,fun v z=>by rw[d] at z;cases z⟩
 keep:=fun i h h' st k=>st.at fun o e=>k it (by simp) o e
 item:=by
  intro X hP hw hK hc i pins s σ H E I hf st hg
  subst hP hw hK
  obtain⟨xs,x,hq,hx⟩:=hg
  obtain⟨its,rv,p,hz⟩:=I.tuple hq
  obtain⟨u,hu,ru⟩:=rv.get hx
  obtain⟨f0,f1,f2,f3,f4,f5⟩:=hf it (by simp)
  refine wpAny_pyNext_tuple_item st (show s.heap.IsTuple a its.toArray from p) (x:=u) (by simpa using hu) fun h' st' sb=>?_
  have I1:Inv X pins σ H { s with heap:=h' }:=I.turned (t':=s.toks) (fun b o hb e=>(sb.2 b hb).trans e) f0 f1 f3 f4 f5
  obtain⟨o,e,c,d⟩:=id st'
  exact⟨u,rfl,go_of (s:={ s with heap:=h' }) e c d (by decide) ⟨x,H,I1,ru,⟨rfl,fun ys hy=>by rw[I.tuple_inj hy hq];exact hx⟩,st',fun b hb=>(hf b hb).1⟩⟩
 done:=by
  intro X hP hw hK hc i pins s σ H E I hf st hg
  subst hP hw hK
  obtain⟨xs,hq,hx⟩:=hg
  obtain⟨its,rv,p,hz⟩:=I.tuple hq
  obtain⟨f0,f1,f2,f3,f4,f5⟩:=hf it (by simp)
  have hl:=rv.length
  exact wpAny_pyNext_tuple_end (I.ok.hd hc) st (show s.heap.IsTuple a its.toArray from p) (by simp;omega) fun h' eb=>⟨rfl,I.turned (t':=s.toks) (fun b o hb e=>eb b o hb e) f0 f1 f3 f4 f5⟩
 self:=fun _ _ _ _ _ st h=>wpAny_pyIter_tupleiter st h
theorem ze1 {P:Program}{w:World}{K:PySem.W.Frag}{tg:Expr}(it:Addr) (lo:Int) (n:Nat):Turn P w K tg (Itr lo n) [it] it (fun i h=>IsRangeIter h it (lo+(i:Nat) * 1) ((n:Int) - (i:Nat)) 1) where
 mem:=by simp
 obj:=fun i h st b hb=>by
  have e:b=it:=by simpa using hb
  subst e
  exact⟨_,st,fun v z=>by
   have z':Data.fields _=Data.cell v:=z
   cases z'⟩
 keep:=fun i h h' st k=>k it (by simp) _ st
 item:=by
  intro X hP hw hK hc i pins s σ H E I hf st hg
  subst hP hw hK
  obtain⟨f0,f1,f2,f3,f4,f5⟩:=hf it (by simp)
  have W:=Walks.range (prog:=X.prog) (w:=X.w) (I.ok.hd hc) it lo 1 n
  refine W.item i s _ _ hg st fun v h' tk hv st' kk=>?_
  obtain⟨t,rfl⟩:=hv
  have I1:Inv X pins σ H { s with heap:=h',toks:=tk }:=I.turned (fun b o hb e=>kk b o (by simpa using hb) e) f0 f1 f3 f4 f5
  refine⟨_,rfl,go_of (s:={ s with heap:=h',toks:=tk }) (n:="range_iterator") st' rfl rfl (by decide) ⟨.int (lo+i),H,I1,⟨t,?_⟩,⟨rfl,rfl⟩,st',fun b hb=>(hf b hb).1⟩⟩
  rw[Int.mul_one]
 done:=by
  intro X hP hw hK hc i pins s σ H E I hf st hg
  subst hP hw hK
  obtain⟨f0,f1,f2,f3,f4,f5⟩:=hf it (by simp)
  exact wpAny_pyNext_range_end (I.ok.hd hc) st (by have:n<=i:=hg;omega) fun h' eb=>⟨rfl,I.turned (t':=s.toks) (fun b o hb e=>eb b o hb e) f0 f1 f3 f4 f5⟩
 self:=fun _ _ _ _ _ st h=>wpAny_pyIter_rangeiter st h
end L2
namespace L2
open PySem PySem.Spec PyProof.Rows
section
variable {X:Cx}{tg:Expr}
theorem zed {pins:List (Addr × Obj)}{σ:St}{H:Hp}{s:Shared}{R:It->Hp->Prop}{E:Value->Shared->Prop}{lo hi:Int}{t u v:Tok}{tk:Nat}(I:Inv X pins σ H s) (h1:-(2 ^ 62)<=lo) (h2:lo < 2 ^ 62) (h3:-(2 ^ 62)<=hi) (h4:hi < 2 ^ 62)
  (q:R (Itr lo (hi - lo).toNat) H):wpAny (model X.prog X.w) X.A (pyIter (.ref s.heap.objs.size)) (PIE X pins σ tg R) E { s with heap:=s.heap.push { cls:=.type "range",data:=.fields #[.int lo t,.int hi u,.int 1 v] },toks:=tk }:=by
 refine wpAny_pyIter_range (IsRange.new ..) (small_one h1 h2 h3 h4) ?_
 have I1:Inv X pins σ H { s with heap:=s.heap.push { cls:=.type "range",data:=.fields #[.int lo t,.int hi u,.int 1 v] },toks:=tk }:=I.kept fun b o e=>Heap.get?_push_of_some _ e
 refine⟨(s.heap.push { cls:=.type "range",data:=.fields #[.int lo t,.int hi u,.int 1 v] }).objs.size,[(s.heap.push { cls:=.type "range",data:=.fields #[.int lo t,.int hi u,.int 1 v] }).objs.size],_,_,H,rfl,
  I1.kept (t':=tk) fun b o e=>Heap.get?_push_of_some _ e,ze1 _ lo (hi - lo).toNat,?_,fun b hb=>?_,q⟩
 ·have e1:lo+((0:Nat):Int) * 1=lo:=by simp
  have e2:(((hi - lo).toNat:Nat):Int) - ((0:Nat):Int)=Builtin.Range.rangeSize lo hi 1:=by rw[rangeSize_one];split <;> omega
  show IsRangeIter _ _ (lo+((0:Nat):Int) * 1) ((((hi - lo).toNat:Nat):Int) - ((0:Nat):Int)) 1
  rw[e1,e2]
  exact Heap.get?_push_size _ rfl
 ·have e:b=(s.heap.push { cls:=.type "range",data:=.fields #[.int lo t,.int hi u,.int 1 v] }).objs.size:=by simpa using hb
  subst e
  exact I1.fpOk (Nat.le_refl _) (I1.hok.fresh (Nat.le_refl _))
def iRng1 (ta:TA):TI:=fun σ H R=>ta σ H fun vs H1=>∃j:Int,vs=[.int j]/\-(2 ^ 62)<=j/\j < 2 ^ 62/\R (Itr 0 j.toNat) H1
def zcP (ta:TA):TI:=fun σ H R=>ta σ H fun vs H1=>∃i j:Int,vs=[.int i,.int j]/\(-(2 ^ 62)<=i/\i < 2 ^ 62/\-(2 ^ 62)<=j/\j < 2 ^ 62)/\R (Itr i (j - i).toNat) H1
theorem zgA {a:Expr}{ta:TA}{p pos:Pos}(hg:Gl X "range") (hm:X.mg "range" = none) (ha:PA X [a] ta) (hs:starEach [a] X.env=[(false,eval a X.env)]:=by rfl):PI X tg (.Call (.Name "range" p) [a] [] pos) (iRng1 ta):=by
 intro pins s σ H R I h
 refine Call_ (UT I hg hm boot_range (PyProof.Rows.callWith_type1 (thn (ha pos pins s σ H _ I h) fun us s1 ⟨vs,H1,I1,r1,q1⟩=>?_) hs rfl))
 obtain⟨j,e,q1,q2,q⟩:=q1
 subst e
 cases r1 with
 | cons r rr=>
  cases rr
  obtain⟨t,rfl⟩:=r
  exact call_range_1 (zed I1 (by omega) (by omega) q1 q2 (by simpa using q))
theorem zgz {a b:Expr}{ta:TA}{p pos:Pos}(hg:Gl X "range") (hm:X.mg "range" = none) (ha:PA X [a,b] ta) (hs:starEach [a,b] X.env=[(false,eval a X.env),(false,eval b X.env)]:=by rfl) (hs2:starEach [b] X.env=[(false,eval b X.env)]:=by rfl) :
  PI X tg (.Call (.Name "range" p) [a,b] [] pos) (zcP ta):=by
 intro pins s σ H R I h
 refine Call_ (UT I hg hm boot_range (PyProof.Rows.callWith_type1 (thn (ha pos pins s σ H _ I h) fun us s1 ⟨vs,H1,I1,r1,q1⟩=>?_) (by rw[hs,hs2]) (by rw[hs2];rfl)))
 obtain⟨i,j,e,⟨q1,q2,q3,q4⟩,q⟩:=q1
 subst e
 cases r1 with
 | cons r rr=>
  cases rr with
  | cons r' rr=>
   cases rr
   obtain⟨t,rfl⟩:=r
   obtain⟨t',rfl⟩:=r'
   exact call_range_2 (zed I1 q1 q2 q3 q4 q)
def tFor (wi:TI) (g:TG) (tb:TS):TS:=fun D σ H=>wi σ H fun J H1=>∃W:Nat->Nat->St->Hp->Prop,(∃m,W 0 m σ H1)/\∀i m σ H,W i m σ H ->
 (J.stop i H/\D.nx σ H)\/(J.go i H/\∃N:St->Hp->Prop,(∀σ' H',N σ' H'->∃m',m' < m/\W (i+1) m' σ' H')/\∀x H',J.yld i H x H'->g x σ H' fun σ2 H2=>tb { D with nx:=N,ct:=N,bk:=D.nx } σ2 H2)
def X5 (fp:List Addr) (h:Heap):List (Addr × Obj):=fp.filterMap fun b=>(h.get? b).map fun o=>(b,o)
theorem V7 {fp:List Addr}{h:Heap}{b:Addr}{o:Obj}(hb:b ∈ fp) (e:h.get? b=some o):(b,o) ∈ X5 fp h:=List.mem_filterMap.mpr ⟨b,hb,by rw[e];rfl⟩
theorem zgQ {fp:List Addr}{h:Heap}{p:Addr × Obj}(hp:p ∈ X5 fp h):p.1 ∈ fp/\h.get? p.1=some p.2:=by
 obtain⟨b,hb,e⟩:=List.mem_filterMap.mp hp
 cases q:h.get? b with
 | none=>rw[q] at e;cases e
 | some o=>
  rw[q] at e
  have e':(b,o)=p:=Option.some.inj e
  subst e'
  exact⟨hb,q⟩
theorem Inv.pinned {pins:List (Addr × Obj)}{σ:St}{H:Hp}{s:Shared}{fp:List Addr}(I:Inv X pins σ H s) (hf:∀b ∈ fp,FpOk X pins H b) (ho:∀b ∈ fp,∃o,s.heap.get? b=some o/\∀v,o.data ≠ .cell v):Inv X (pins++X5 fp s.heap) σ H s:=
 I.pins_of fun p hp=>(List.mem_append.mp hp).elim (fun z=>I.pin p (List.mem_append_right _ z)) fun z=>by
  obtain⟨hb,e⟩:=zgQ z
  obtain⟨f0,f1,f2,_⟩:=hf p.1 hb
  obtain⟨o,e',d⟩:=ho p.1 hb
  rw[e] at e';cases e'
  exact⟨e,f0,f1,f2,d⟩
theorem Inv.unpinned {pins pl:List (Addr × Obj)}{σ:St}{H:Hp}{s:Shared}(I:Inv X (pins++pl) σ H s):Inv X pins σ H s:=I.pins_of fun p hp=>I.pin p (List.mem_append_right _ (List.mem_append_left _ hp))
theorem ps_for {iter:Expr}{body:List Stmt}{wi:TI}{g:TG}{tb:TS}{pos:Pos}(hp:PassesOwn (model X.prog X.w) X.A X.env X.xe) (hc:X.calm=true) (hi:PI X tg iter wi) (hg:PG X tg g) (hb:PSs X body tb)
  (hs:∀x,foldedSetIterable iter X.env x=pure x:=by intro _;rfl):PS X (.For tg iter body [] pos) (tFor wi g tb):=by
 intro pins s σ H D I h
 refine wpAny_For (thn (hi pins s σ H _ I h) fun v s1 h1=>thn h1 fun itv s2 h2=>?_) hs
 obtain⟨it,fp,tn,J,H2,e,I2,T,st2,f2,W,⟨m0,w0⟩,turn⟩:=h2
 subst e
 -- what stays true of the iterator's objects through the loop
 have stat:∀{H':Hp},(∀b ∈ fp,H' b=none)->∀b ∈ fp,FpOk X pins H' b:=fun hn b hb=>⟨hn b hb,(f2 b hb).2⟩
 refine codeAny_forLoop_any (fun n s'=>∃i σ' H',Inv X pins σ' H' s'/\tn i s'.heap/\(∀b ∈ fp,H' b=none)/\W i n σ' H') ?_ m0 ⟨0,σ,H2,I2,st2,fun b hb=>(f2 b hb).1,w0⟩
 rintro n s3 ⟨i,σ3,H3,I3,st3,fr3,w3⟩
 rcases turn i n σ3 H3 w3 with ⟨stop,qn⟩ | ⟨go,N,hN,step⟩
 ·refine wpAny_passesOwn hp (thn (T.done X rfl rfl rfl hc i pins s3 σ3 H3 X.xe I3 (stat fr3) st3 stop) fun r s4 ⟨hr,I4⟩=>?_)
  subst hr
  exact wpAny_execs_nil ⟨σ3,H3,I4,qn⟩
 ·refine wpAny_passesOwn hp (thn (T.item X rfl rfl rfl hc i pins s3 σ3 H3 X.xe I3 (stat fr3) st3 go) fun r s4 ⟨u,hr,h4⟩=>?_)
  subst hr
  refine wpAny_passesOwn hp (thn h4 fun _ s5 ⟨x,H5,I5,r5,y5,st5,fr5⟩=>?_)
  have I5':=I5.pinned (stat fr5) (T.obj _ _ st5)
  refine wpAny_passesOwn hp (thn (hg _ s5 σ3 H5 x u _ I5' r5 (step x H5 y5)) fun _ s6 ⟨σ6,H6,I6,q6⟩=>?_)
  refine wpAny_passesOwn hp (thn (hb _ s6 σ6 H6 _ I6 q6) fun f s7 q7=>?_)
  have again:∀{σ7:St}{H7:Hp},Inv X (pins++X5 fp s5.heap) σ7 H7 s7->N σ7 H7->∃m,m < n/\∃i σ' H',Inv X pins σ' H' s7/\tn i s7.heap/\(∀b ∈ fp,H' b=none)/\W i m σ' H':=fun {σ7 H7} I7 n7=>by
   obtain⟨m',hm,w7⟩:=hN σ7 H7 n7
   refine⟨m',hm,i+1,σ7,H7,I7.unpinned,T.keep _ _ _ st5 fun b hb o e=>(I7.pin (b,o) (List.mem_append_right _ (List.mem_append_right _ (V7 hb e)))).1,fun b hb=>?_,w7⟩
   obtain⟨o,e,d⟩:=T.obj _ _ st5 b hb
   exact(I7.pin (b,o) (List.mem_append_right _ (List.mem_append_right _ (V7 hb e)))).2.1
  cases f with
  | next=>obtain⟨σ7,H7,I7,n7⟩:=q7;exact again I7 n7
  | cont=>obtain⟨σ7,H7,I7,n7⟩:=q7;exact again I7 n7
  | brk=>obtain⟨σ7,H7,I7,q7⟩:=q7;exact⟨σ7,H7,I7.unpinned,q7⟩
  | ret v=>obtain⟨x7,σ7,H7,I7,r7,q7⟩:=q7;exact⟨x7,σ7,H7,I7.unpinned,r7,q7⟩
end
end L2
namespace L2
open PySem PySem.Spec PyProof.Rows
abbrev R2:=V->V->Hp->VK->Prop
def OpR (X:Cx) (f:Value->Value->Sem Value) (r:R2):Prop:=
 ∀(pins:List (Addr × Obj)) (s:Shared) (σ:St) (H:Hp) (x y:V) (v u:Value) (Q:VK),Inv X pins σ H s->RelV x v->RelV y u->r x y H Q ->
  wpAny (model X.prog X.w) X.A (f v u) (EP X pins σ Q) X.xe s
def UnR (X:Cx) (f:Value->Sem Value) (r:V->Hp->VK->Prop):Prop:=
 ∀(pins:List (Addr × Obj)) (s:Shared) (σ:St) (H:Hp) (x:V) (v:Value) (Q:VK),Inv X pins σ H s->RelV x v->r x H Q ->
  wpAny (model X.prog X.w) X.A (f v) (EP X pins σ Q) X.xe s
def Jg (X:Cx) (f:Value) (r:List V->Hp->VK->Prop):Prop:=
 ∀(pins:List (Addr × Obj)) (s:Shared) (σ:St) (H:Hp) (xs:List V) (us:List Value) (Q:VK),Inv X pins σ H s->Vals xs us->r xs H Q ->
  wpAny (model X.prog X.w) X.A (call f us) (EP X pins σ Q) X.xe s
def TruR (X:Cx) (r:V->Hp->(Bool->Hp->Prop)->Prop):Prop:=
 ∀(pins:List (Addr × Obj)) (s:Shared) (σ:St) (H:Hp) (x:V) (v:Value) (Q:Bool->Hp->Prop),Inv X pins σ H s->RelV x v->r x H Q ->
  wpAny (model X.prog X.w) X.A (truthy v) (TP X pins σ Q) X.xe s
def tOp (r:R2) (ta tb:TE):TE:=fun σ H Q=>ta σ H fun x H1=>tb σ H1 fun y H2=>r x y H2 Q
def tUn (r:V->Hp->VK->Prop) (ta:TE):TE:=fun σ H Q=>ta σ H fun x H1=>r x H1 Q
def rI (C:Int->Int->Prop) (g:Int->Int->V):R2:=fun x y H Q=>∃i j,x=.int i/\y=.int j/\C i j/\Q (g i j) H
def rI0 (g:Int->Int->V):R2:=fun x y H Q=>∃i j,x=.int i/\y=.int j/\Q (g i j) H
def rU (g:Int->V):V->Hp->VK->Prop:=fun x H Q=>∃i,x=.int i/\Q (g i) H
section
variable {X:Cx}{a b c:Expr}{ta tb tc:TE}{pos:Pos}
theorem binT (ha:PE X a ta) (hb:PE X b tb) {pins:List (Addr × Obj)}{s:Shared}{σ:St}{H:Hp}{R:V->V->Hp->Prop}(I:Inv X pins σ H s)
  (h:ta σ H fun x H1=>tb σ H1 fun y H2=>R x y H2) {Q:Value->Shared->Prop}{f:Value->Value->Sem Value}
  (hf:∀v u s2 x y H2,Inv X pins σ H2 s2->RelV x v->RelV y u->R x y H2->wpAny (model X.prog X.w) X.A (f v u) Q X.xe s2) :
  wpAny (model X.prog X.w) X.A (eval a X.env) (fun v s₁=>wpAny (model X.prog X.w) X.A (eval b X.env) (fun u s₂=>wpAny (model X.prog X.w) X.A (f v u) Q X.xe s₂) X.xe s₁) X.xe s:=by
 refine thn (ha pins s σ H _ I h) fun v s1 ⟨x,H1,I1,r1,q1⟩=>?_
 refine thn (hb pins s1 σ H1 _ I1 q1) fun u s2 ⟨y,H2,I2,r2,q2⟩=>?_
 exact hf v u s2 x y H2 I2 r1 r2 q2
theorem pe_op {op:Operator}{r:R2}(ho:OpR X (binaryOp op) r) (ha:PE X a ta) (hb:PE X b tb):PE X (.BinOp a op b pos) (tOp r ta tb):=by
 intro pins s σ H Q I h
 exact wpAny_BinOp (binT ha hb I h fun v u s2 x y H2 I2 rx ry q=>ho pins s2 σ H2 x y v u Q I2 rx ry q)
theorem pe_un {op:UnaryOp}{r:V->Hp->VK->Prop}(ho:UnR X (unaryOp op) r) (ha:PE X a ta):PE X (.UnaryOp op a pos) (tUn r ta):=by
 intro pins s σ H Q I h
 exact UnaryOp_ (thn (ha pins s σ H _ I h) fun v s1 ⟨x,H1,I1,r1,q1⟩=>ho pins s1 σ H1 x v Q I1 r1 q1)
theorem opI {f:Value->Value->Sem Value}{C:Int->Int->Prop}{g:Int->Int->Int}
  (rule:∀(i j:Int) (t u:Tok) (s:Shared) (Q:Value->Shared->Prop) (E:Value->Shared->Prop),C i j->Q (.int (g i j) s.toks) { s with toks:=s.toks+1 }->wpAny (model X.prog X.w) X.A (f (.int i t) (.int j u)) Q E s) :
  OpR X f (rI C fun i j=>.int (g i j)):=by
 intro pins s σ H x y v u Q I rx ry h
 obtain⟨i,j,rfl,rfl,hc,q⟩:=h
 obtain⟨t,rfl⟩:=rx
 obtain⟨t',rfl⟩:=ry
 exact rule i j t t' s _ _ hc ⟨.int (g i j),H,I.tok _,⟨_,rfl⟩,q⟩
theorem opI0 {f:Value->Value->Sem Value}{g:Int->Int->Int}
  (rule:∀(i j:Int) (t u:Tok) (s:Shared) (Q:Value->Shared->Prop) (E:Value->Shared->Prop),Q (.int (g i j) s.toks) { s with toks:=s.toks+1 }->wpAny (model X.prog X.w) X.A (f (.int i t) (.int j u)) Q E s) :
  OpR X f (rI0 fun i j=>.int (g i j)):=by
 intro pins s σ H x y v u Q I rx ry h
 obtain⟨i,j,rfl,rfl,q⟩:=h
 obtain⟨t,rfl⟩:=rx
 obtain⟨t',rfl⟩:=ry
 exact rule i j t t' s _ _ ⟨.int (g i j),H,I.tok _,⟨_,rfl⟩,q⟩
theorem opB0 {f:Value->Value->Sem Value}{g:Int->Int->Bool}
  (rule:∀(i j:Int) (t u:Tok) (s:Shared) (Q:Value->Shared->Prop) (E:Value->Shared->Prop),Q (.bool (g i j)) s->wpAny (model X.prog X.w) X.A (f (.int i t) (.int j u)) Q E s) :
  OpR X f (rI0 fun i j=>.bl (g i j)):=by
 intro pins s σ H x y v u Q I rx ry h
 obtain⟨i,j,rfl,rfl,q⟩:=h
 obtain⟨t,rfl⟩:=rx
 obtain⟨t',rfl⟩:=ry
 exact rule i j t t' s _ _ ⟨.bl (g i j),H,I,rfl,q⟩
def CPow (i j:Int):Prop:=0<=j/\j<=1000000/\i.natAbs < 2 ^ 64
theorem op_add:OpR X (binaryOp .Add) (rI0 fun i j=>.int (i+j)):=opI0 fun _ _ _ _ _ _ _ q=>add_int q
theorem op_sub:OpR X (binaryOp .Sub) (rI0 fun i j=>.int (i - j)):=opI0 fun _ _ _ _ _ _ _ q=>sub_int q
theorem op_modN:OpR X (binaryOp .Mod) (rI (fun _ j=>j ≠ 0) fun i j=>.int (i.fmod j)):=opI fun _ _ _ _ _ _ _ hc q=>mod_int' hc q
theorem op_pow:OpR X (binaryOp .Pow) (rI CPow fun i j=>.int (i ^ j.toNat)):=opI fun _ _ _ _ _ _ _ hc q=>pow_int_small hc.1 hc.2.1 hc.2.2 q
theorem unI {f:Value->Sem Value}{g:Int->Int}
  (rule:∀(i:Int) (t:Tok) (s:Shared) (Q:Value->Shared->Prop) (E:Value->Shared->Prop),Q (.int (g i) s.toks) { s with toks:=s.toks+1 }->wpAny (model X.prog X.w) X.A (f (.int i t)) Q E s) :
  UnR X f (rU fun i=>.int (g i)):=by
 intro pins s σ H x v Q I rx h
 obtain⟨i,rfl,q⟩:=h
 obtain⟨t,rfl⟩:=rx
 exact rule i t s _ _ ⟨.int (g i),H,I.tok _,⟨_,rfl⟩,q⟩
theorem un_neg:UnR X (unaryOp .USub) (rU fun i=>.int (-i)):=unI fun _ _ _ _ _ q=>neg_int q
end
section
variable {X:Cx}{a b c:Expr}{ta tb tc:TE}{pos:Pos}
theorem op_lt:OpR X (compareOp .Lt) (rI0 fun i j=>.bl (decide (i < j))):=opB0 fun _ _ _ _ _ _ _ q=>lt_int q
theorem op_le:OpR X (compareOp .LtE) (rI0 fun i j=>.bl (decide (i<=j))):=opB0 fun _ _ _ _ _ _ _ q=>le_int q
theorem op_gt:OpR X (compareOp .Gt) (rI0 fun i j=>.bl (decide (j < i))):=opB0 fun _ _ _ _ _ _ _ q=>gt_int q
theorem op_ge:OpR X (compareOp .GtE) (rI0 fun i j=>.bl (decide (j<=i))):=opB0 fun _ _ _ _ _ _ _ q=>ge_int q
theorem OpR.or {f:Value->Value->Sem Value}{r r':R2}(h:OpR X f r) (h':OpR X f r'):OpR X f (fun x y H Q=>r x y H Q\/r' x y H Q):=by
 intro pins s σ H x y v u Q I rx ry q
 rcases q with q | q
 ·exact h pins s σ H x y v u Q I rx ry q
 ·exact h' pins s σ H x y v u Q I rx ry q
theorem ZC (b:Expr) {op:CmpOp}(h:op ≠ .In:=by decide) (h2:op ≠ .NotIn:=by decide):behindInMarks op b=false:=by
 have e1:(op == CmpOp.In)=false:=by cases op <;> first | rfl | exact absurd rfl h
 have e2:(op == CmpOp.NotIn)=false:=by cases op <;> first | rfl | exact absurd rfl h2
 cases b <;> simp[behindInMarks,e1,e2]
theorem pe_cmpR {op:CmpOp}{r:R2}(ho:OpR X (compareOp op) r) (ha:PE X a ta) (hb:PE X b tb) (hm:behindInMarks op b=false):PE X (.Compare a [op] [b] pos) (tOp r ta tb):=by
 intro pins s σ H Q I h
 exact wpAny_Compare1 (binT ha hb I h fun v u s2 x y H2 I2 rx ry q=>ho pins s2 σ H2 x y v u Q I2 rx ry q) hm
def tTest (t:TE):TT:=fun σ H Q=>t σ H fun x H'=>∃k,x=.bl k/\Q k H'
theorem pt_cmpR {op:CmpOp}{r:R2}(ho:OpR X (compareOp op) r) (ha:PE X a ta) (hb:PE X b tb) (hm:behindInMarks op b=false):PT X (.Compare a [op] [b] pos) (tTest (tOp r ta tb)):=by
 intro pins s σ H Q I h
 refine wpAny_isTrue_Compare1 (thn (ha pins s σ H _ I h) fun v s1 ⟨x,H1,I1,r1,q1⟩=>thn (hb pins s1 σ H1 _ I1 q1) fun u s2 ⟨y,H2,I2,r2,q2⟩=>
  thn (ho pins s2 σ H2 x y v u _ I2 r1 r2 q2) fun c s3 ⟨z,H3,I3,r3,k,e,q3⟩=>?_) hm
 subst e
 cases r3
 exact wpAny_truthy_bool ⟨H3,I3,q3⟩
def TruV (K:PySem.W.Frag) (x:V) (H:Hp) (k:Bool):Prop:=
 match x with
 | .non=>k=false
 | .bl b=>k=b
 | .int i=>k=(i != 0)
 | .str y=>y.length<=sizeLine/\k=((y.length:Int) != 0)
 | .byt y=>y.size<=sizeLine/\k=((y.size:Int) != 0)
 | .ref p=>(∃xs,SqL K H p xs/\k = !xs.isEmpty)\/(∃xs,SqT K H p xs/\k = !xs.isEmpty)\/∃kvs,H p=some (.dK kvs)/\k = !kvs.isEmpty
 | _=>False
theorem zfo {κ:Type}{kvs:List (κ × V)}{vs:List (κ × Value)}(r:KV kvs vs):(!vs.isEmpty) = !kvs.isEmpty:=by
 cases r <;> rfl
theorem zaR {xs:List V}{its:List Value}(r:Vals xs its):(!its.toArray.isEmpty) = !xs.isEmpty:=by
 cases r <;> simp
theorem zcH:(sizeLine:Nat) < 2 ^ 63:=by rw[sizeLine_eq];decide
theorem tru_ok:TruR X (fun x H Q=>∃k,TruV X.K x H k/\Q k H):=by
 intro pins s σ H x v Q I rx h
 obtain⟨k,e,q⟩:=h
 have hl:=zcH
 have hs:sizeLine=16777216:=sizeLine_eq
 cases x with
 | non=>
  cases rx
  have e':k=false:=e
  subst e'
  exact truthy_none ⟨H,I,q⟩
 | bl b=>
  cases rx
  have e':k=b:=e
  subst e'
  exact wpAny_truthy_bool ⟨H,I,q⟩
 | int i=>
  obtain⟨t,rfl⟩:=rx
  have e':k=(i != 0):=e
  subst e'
  exact PySem.P.truthy_int ⟨H,I,q⟩
 | str y=>
  obtain⟨t,rfl⟩:=rx
  obtain⟨hy,e'⟩:y.length<=sizeLine/\k=((y.length:Int) != 0):=e
  subst e'
  exact PySem.P.truthy_str (by omega) ⟨H,I.tok _,q⟩
 | byt y=>
  obtain⟨t,rfl⟩:=rx
  obtain⟨hy,e'⟩:y.size<=sizeLine/\k=((y.size:Int) != 0):=e
  subst e'
  exact PySem.W.truthy_bytes (by omega) ⟨H,I.tok _,q⟩
 | ref p=>
  cases rx
  have e':(∃xs,SqL X.K H p xs/\k = !xs.isEmpty)\/(∃xs,SqT X.K H p xs/\k = !xs.isEmpty)\/∃kvs,H p=some (.dK kvs)/\k = !kvs.isEmpty:=e
  rcases e' with ⟨xs,hx,e'⟩ | ⟨xs,hx,e'⟩ | ⟨kvs,hx,e'⟩
  ·subst e'
   obtain⟨its,r,pl,hz⟩:=I.list hx
   have hlen:=r.length
   exact wpAny_truthy_list pl.isList (by simp only[List.size_toArray];omega) ⟨H,I.tok _,by rw[zaR r];exact q⟩
  ·subst e'
   obtain⟨its,r,pl,hz⟩:=I.tuple hx
   have hlen:=r.length
   exact truthy_tuple pl (by simp only[List.size_toArray];omega) ⟨H,I.tok _,by rw[zaR r];exact q⟩
  ·subst e'
   obtain⟨hz,hS,vs,r,m⟩:kvs.length<=sizeLine/\(p == sysModules)=false/\∃vs,KV kvs vs/\s.heap.DictOf (zbH X.prog X.w) p vs:=I.hok p _ hx
   have hlen:kvs.length=vs.length:=Paired.length r
   exact wpAny_truthy_dict hS m (by omega) ⟨H,I.tok _,by rw[zfo r];exact q⟩
 | _=>exact(show False from e).elim
theorem pt_truth (ha:PE X a ta) (he:∀whole,isTrue a X.env whole=(do let v <- whole;standAt a.pos;holding [v] (truthy v))) :
  PT X a (fun σ H Q=>ta σ H fun x H'=>∃k,TruV X.K x H' k/\Q k H'):=by
 intro pins s σ H Q I h
 exact isTrue_plain (thn (ha pins s σ H _ I h) fun v s1 ⟨x,H1,I1,r1,q1⟩=>tru_ok pins s1 σ H1 x v Q I1 r1 q1) (he _)
theorem Ja {x:V}{us:List Value}(r:Vals [x] us):∃u,us=[u]/\RelV x u:=by
 cases r with
 | cons r1 r2=>cases r2;exact⟨_,rfl,r1⟩
theorem vals2 {x y:V}{us:List Value}(r:Vals [x,y] us):∃u w',us=[u,w']/\RelV x u/\RelV y w':=by
 cases r with
 | cons r1 r2=>
  cases r2 with
  | cons r3 r4=>cases r4;exact⟨_,_,rfl,r1,r3⟩
theorem call_abs:Jg X (.builtin "abs") (fun xs H Q=>∃i,xs=[.int i]/\Q (.int (if i < 0 then -i else i)) H):=by
 intro pins s σ H xs us Q I r h
 obtain⟨i,rfl,q⟩:=h
 obtain⟨u,rfl,t,rfl⟩:=Ja r
 exact call_abs_int fun u tk=>⟨.int (if i < 0 then -i else i),H,I.tok _,⟨_,rfl⟩,q⟩
theorem zhQ:Jg X (.type "int") (fun xs H Q=>(∃i,xs=[.int i]/\Q (.int i) H)\/∃k,xs=[.bl k]/\Q (.int (if k then 1 else 0)) H):=by
 intro pins s σ H xs us Q I r h
 rcases h with ⟨i,rfl,q⟩ | ⟨k,rfl,q⟩
 ·obtain⟨u,rfl,t,rfl⟩:=Ja r
  exact call_int_int ⟨.int i,H,I,⟨_,rfl⟩,q⟩
 ·obtain⟨u,rfl,r1⟩:=Ja r
  cases r1
  exact call_int_bool ⟨.int (if k then 1 else 0),H,I.tok _,⟨_,rfl⟩,q⟩
end
end L2
namespace L2
open PySem PySem.Spec PyProof.Rows
structure ObjM (h:Heap) (x dx C:Addr) (mA:Str->Option Value):Prop where
 obj:h.get? x=some (PySem.W.instObj C dx)
 ns:h.Ns1 dx mA
 ne:dx ≠ x
theorem zgX {h:Heap}{dx:Addr}{mA:Str->Option Value}(n:h.Ns1 dx mA):∃od,h.get? dx=some od/\∀name,PySem.W.lookIn name od=some (mA name):=by
 obtain⟨o,es,ep,ho,hd,hk,_,hm⟩:=n
 refine⟨o,ho,fun name=>?_⟩
 have e:=hm name
 unfold nsFind findBy at e
 rw[<- Array.find?_toList] at e
 unfold PySem.W.lookIn
 rw[hd]
 dsimp only
 split
 ·rename_i y q
  rw[q] at e
  exact congrArg some e
 ·rename_i q
  rw[q] at e
  have a:es.toList.any (·.refKey)=false:=by
   rw[List.any_eq_false]
   intro y hy
   obtain⟨z,t,hkey⟩:=hk y (Array.mem_toList_iff.mp hy)
   simp[DictEntry.refKey,hkey]
  have a':¬es.toList.any (·.refKey)=true:=by rw[a];exact Bool.false_ne_true
  rw[if_neg a']
  exact congrArg some e
theorem ObjM.look {h:Heap}{x dx C:Addr}{mA:Str->Option Value}(I:ObjM h x dx C mA):∃od,PySem.W.InstAt h x (PySem.W.instObj C dx) C (some od)/\∀name,PySem.W.lookIn name od=some (mA name):=
 let⟨od,ho,hl⟩:=zgX I.ns
 ⟨od,⟨I.obj,rfl,rfl,ho⟩,hl⟩
section
variable {prog:Program}{w:World}{A:Around}{E:Value->Shared->Prop}{s:Shared}{K:PySem.W.Frag}{x dx C f:Addr}{mA:Str->Option Value}{name:Str}{v:Value}
theorem get_map {expr:Bool}{Q:Value->Shared->Prop}(X:K.In s.heap) (I:ObjM s.heap x dx C mA) (hg:PySem.W.plainGet K C name=true) (hh:PySem.W.hasDictIn K C=true)
  (ha:PySem.W.findIn K (.ref C) name=some none) (hv:mA name=some v) (hv':PySem.W.handedIn v=true) (h:Q v { s with toks:=s.toks+1 }) :
  wpAny (model prog w) A (getAttr (.ref x) name expr) Q E s:=by
 obtain⟨od,J,hl⟩:=I.look
 exact PySem.W.get_value X J (PySem.W.plainGet_of hg).1 (PySem.W.findObj_own hh ha rfl (by rw[hl,hv])) hv' h
theorem set_map {ns:List Str}{Q:Unit->Shared->Prop}(X:K.In s.heap) (I:ObjM s.heap x dx C mA)
  (hs:PySem.W.findIn K (.ref C) "__setattr__" = some (some (.builtin "object.__setattr__"))) (hp:PySem.W.plainOver K C=true) (ht:PySem.W.takerIn K C name=some none) (hh:PySem.W.hasDictIn K C=true)
  (hw:PySem.Within mA ns) (hsz:ns.length<=sizeLine)
  (h:∀h',ObjM h' x dx C (fun y=>if y=name then some v else mA y)->Heap.SameBut dx s.heap h'->Q () { s with heap:=h',toks:=s.toks+2 }) :
  wpAny (model prog w) A (setAttr (.ref x) name v) Q E s:=by
 obtain⟨od,J,hl⟩:=I.look
 refine PySem.W.set_plain X J hs (PySem.W.osa_open (s:={ s with toks:=s.toks+1 }) (r:=none) X J hp ht fun b=>?_)
 obtain⟨cd,hc,hd'⟩:=PySem.W.any_some hh
 have hx:s.heap.get? x=some ⟨.ref C,some dx,.plain,#[]⟩:=I.obj
 refine wpAny_bind (wpAny_pure (wpAny_bind (wpAny_bind (wpAny_loadPart hx (wpAny_bind (PySem.W.Looks.here (s:={ s with toks:=s.toks+1 }) (PySem.W.looks_clsIn X hc) ?_))))))
 rw[hd']
 refine wpAny_pure (a:=some dx) (wpAny_bind (wpAny_pure (wpAny_bind ?_)))
 refine wpAny_nsSet1 (s:={ s with toks:=s.toks+1 }) I.ns fun h' hn2 hs2=>?_
 obtain⟨oD,esD,epD,hoD,hdD,hcD⟩:=hn2.count (PySem.Within.cons name v hw)
 refine wpAny_bind (wpAny_lookBehind hoD (by rw[hdD];exact pastItsLine_dict (Nat.le_trans hcD (by rw[List.length_cons];omega))) ?_)
 exact wpAny_pure (h _ ⟨(hs2.2 _ (Ne.symm I.ne)).trans I.obj,hn2,I.ne⟩ hs2)
theorem make_map {R:Result->Shared->Prop}{vs:List Value}{kw:List (Str × Value)}(X:K.In s.heap) (hm:PySem.W.makesIn K C=true)
  (hi:PySem.W.findIn K (.ref C) "__init__" = some (some (.ref f))) (hf:PySem.W.typeIn K (.ref f)=some (.type "function"))
  (h:codeAny (model prog w) (A.under (.builtin "type.__call__" ⟨.ref C::vs,kw⟩)) (.call (.ref f) ⟨.ref (s.heap.objs.size+1)::vs,kw⟩) (PySem.W.InitBack (s.heap.objs.size+1) R)
   { s with heap:=(s.heap.push PySem.W.emptyDict).push (PySem.W.instObj C s.heap.objs.size) }) :
  codeAny (model prog w) A (.call (.ref C) ⟨vs,kw⟩) R s:=by
 obtain⟨hh,g,d,t,os⟩:=s
 exact PySem.W.make_core (PySem.W.makes_of X hm) (PySem.W.looks_findIn X hi) (fun self=>PySem.W.bind_fn X self hf) (.inl rfl) h
end
def putF (f:Str) (v:V):List (Str × V)->List (Str × V)
 | []=>[(f,v)]
 | (g,x)::r=>if g=f then(g,v)::r else(g,x)::putF f v r
theorem JJ (f g:Str) (v:V):∀fs:List (Str × V),(putF f v fs).lookup g=if g=f then some v else fs.lookup g
 | []=>by
  show List.lookup g [(f,v)]=_
  by_cases h:g=f
  ·have hb:(g == f)=true:=beq_iff_eq.mpr h
   simp only[List.lookup,hb,if_pos h]
  ·have hb:(g == f)=false:=beq_eq_false_iff_ne.mpr h
   simp only[List.lookup,hb,if_neg h]
 | (k,x)::r=>by
  have ih:=JJ f g v r
  rw[show putF f v ((k,x)::r)=(if k=f then(k,v)::r else(k,x)::putF f v r) from rfl]
  by_cases hk:k=f
  ·rw[if_pos hk]
   by_cases h:g=k
   ·have hb:(g == k)=true:=beq_iff_eq.mpr h
    simp only[List.lookup,hb,if_pos (h.trans hk)]
   ·have hb:(g == k)=false:=beq_eq_false_iff_ne.mpr h
    simp only[List.lookup,hb,if_neg (fun e:g=f=>h (e.trans hk.symm))]
  ·rw[if_neg hk]
   by_cases h:g=k
   ·have hb:(g == k)=true:=beq_iff_eq.mpr h
    simp only[List.lookup,hb,if_neg (fun e:g=f=>hk (h.symm.trans e))]
   ·have hb:(g == k)=false:=beq_eq_false_iff_ne.mpr h
    simp only[List.lookup,hb]
    exact ih
theorem JL (f:Str) (v:V):∀fs:List (Str × V),f ∈ (putF f v fs).map (·.1)/\∀g,g ∈ fs.map (·.1)->g ∈ (putF f v fs).map (·.1)
 | []=>⟨by simp[putF],fun g h=>by simp at h⟩
 | (k,x)::r=>by
  obtain⟨i1,i2⟩:=JL f v r
  rw[show putF f v ((k,x)::r)=(if k=f then(k,v)::r else(k,x)::putF f v r) from rfl]
  by_cases hk:k=f
  ·rw[if_pos hk]
   subst hk
   exact⟨by simp,fun g h=>by simpa using h⟩
  ·rw[if_neg hk]
   refine⟨?_,fun g h=>?_⟩
   ·rw[List.map_cons]
    exact List.mem_cons_of_mem _ i1
   ·rw[List.map_cons] at h ⊢
    rcases List.mem_cons.mp h with e | e
    ·exact List.mem_cons.mpr (.inl e)
    ·exact List.mem_cons_of_mem _ (i2 g e)
theorem JK (f:Str) (v:V):∀fs:List (Str × V),(putF f v fs).length<=fs.length+1
 | []=>by simp[putF]
 | (k,x)::r=>by
  have ih:=JK f v r
  rw[show putF f v ((k,x)::r)=(if k=f then(k,v)::r else(k,x)::putF f v r) from rfl]
  by_cases hk:k=f
  ·rw[if_pos hk,List.length_cons,List.length_cons];omega
  ·rw[if_neg hk,List.length_cons,List.length_cons];omega
theorem RelO.some_of {v:V}{o:Option Value}(r:RelO (some v) o):∃u,o=some u/\RelV v u:=by
 cases o with
 | none=>exact(show False from r).elim
 | some u=>exact⟨u,rfl,r⟩
theorem zhi {v:V}{u:Value}(r:RelV v u):PySem.W.handedIn u=true:=by
 cases v with
 | non=>cases(show u=Value.none from r);rfl
 | bl b=>cases(show u=Value.bool b from r);rfl
 | int i=>obtain⟨t,e⟩:=(show ∃t,u=Value.int i t from r);cases e;rfl
 | str x=>obtain⟨t,e⟩:=(show ∃t,u=Value.str x t from r);cases e;rfl
 | byt b=>obtain⟨t,e⟩:=(show ∃t,u=Value.bytes b t from r);cases e;rfl
 | flt b=>obtain⟨t,e⟩:=(show ∃t,u=Value.float b t from r);cases e;rfl
 | ref a=>cases(show u=Value.ref a from r);rfl
 | ty n=>cases(show u=Value.type n from r);rfl
section
variable {P:Program}{w:World}{H H':Hp}{h h':Heap}{a C dx:Addr}{fs fs':List (Str × V)}
theorem zhe (hok:HOk P w H h) (e:H a=some (.ins C dx fs)):∃mA,ObjM h a dx C mA/\(∀f,RelO (fs.lookup f) (mA f))/\PySem.Within mA (fs.map (·.1))/\fs.length<=1000/\H dx=some (.own a):=by
 obtain⟨d,z,ne,ob,mA,n,r,q⟩:=(show Vd P w H h a (.ins C dx fs) from hok a _ e)
 exact⟨mA,⟨ob,n,ne⟩,r,q,z,d⟩
end
structure Cls (K:PySem.W.Frag) (C:Addr):Prop where
 pg:PySem.W.plainGet K C Str.empty=true
 hd:PySem.W.hasDictIn K C=true
 po:PySem.W.plainOver K C=true
 sa:PySem.W.findIn K (.ref C) "__setattr__" = some (some (.builtin "object.__setattr__"))
theorem Cls.get {K:PySem.W.Frag}{C:Addr}(c:Cls K C) (f:Str):PySem.W.plainGet K C f=true:=c.pg
def WL (K:PySem.W.Frag) (C:Addr) (f:Str):Prop:=PySem.W.findIn K (.ref C) f=some none
theorem WL.taker {K:PySem.W.Frag}{C:Addr}{f:Str}(n:WL K C f):PySem.W.takerIn K C f=some none:=by
 unfold PySem.W.takerIn
 rw[show PySem.W.findIn K (.ref C) f=some none from n]
 rfl
section
variable {X:Cx}{pins:List (Addr × Obj)}{σ:St}{H:Hp}{s:Shared}{a C dx:Addr}{fs:List (Str × V)}{f:Str}{v:V}{A:Around}{E:Value->Shared->Prop}
theorem zfs {b:Bool}{Q:Value->Shared->Prop}(I:Inv X pins σ H s) (e:H a=some (.ins C dx fs)) (c:Cls X.K C) (n:WL X.K C f) (l:fs.lookup f=some v)
  (h:∀u s',Inv X pins σ H s'->RelV v u->Q u s'):wpAny (model X.prog X.w) A (getAttr (.ref a) f b) Q E s:=by
 obtain⟨mA,O,r,_,_,_⟩:=zhe I.hok e
 obtain⟨u,hu,ru⟩:=RelO.some_of (v:=v) (o:=mA f) (by rw[<- l];exact r f)
 exact get_map I.kIn O (c.get f) c.hd n hu (zhi ru) (h u _ (I.tok _) ru)
theorem ze5 {y:V}{u:Value}{Q:Unit->Shared->Prop}(I:Inv X pins σ H s) (e:H a=some (.ins C dx fs)) (c:Cls X.K C) (n:WL X.K C f) (hl:fs.length < 1000) (ry:RelV y u)
  (h:∀s',Inv X pins σ (upd H a (.ins C dx (putF f y fs))) s'->Q () s'):wpAny (model X.prog X.w) A (setAttr (.ref a) f u) Q E s:=by
 obtain⟨mA,O,r,wi,_,ho⟩:=zhe I.hok e
 have hz:(fs.map (·.1)).length<=sizeLine:=by rw[List.length_map,sizeLine_eq];omega
 refine set_map I.kIn O c.sa c.po n.taker c.hd wi hz fun h' O' sb=>h _ ?_
 have hd:∃o,h'.get? dx=some o:=let⟨o,_,_,e',_⟩:=O'.ns;⟨o,e'⟩
 refine I.write (x:=a) (e:=dx) (by rw[e];exact True.intro) (.inr ho) (fun b q hb z=>(sb.2 b hb).trans z) hd ?_
 refine⟨by rw[Zs O.ne];exact ho,?_,O.ne,O'.obj,_,O'.ns,fun g=>?_,fun g hg=>?_⟩
 ·have:=JK f y fs;omega
 ·show RelO ((putF f y fs).lookup g) (if g=f then some u else mA g)
  rw[JJ]
  by_cases q:g=f
  ·rw[if_pos q,if_pos q];exact ry
  ·rw[if_neg q,if_neg q];exact r g
 ·by_cases q:g=f
  ·rw[q];exact(JL f y fs).1
  ·refine(JL f y fs).2 g (wi g fun z=>hg ?_)
   show(if g=f then some u else mA g)=none
   rw[if_neg q];exact z
theorem Inv.made (I:Inv X pins σ H s):Inv X pins σ (upd (upd H s.heap.objs.size (.own (s.heap.objs.size+1))) (s.heap.objs.size+1) (.ins C s.heap.objs.size []))
  { s with heap:=(s.heap.push PySem.W.emptyDict).push (PySem.W.instObj C s.heap.objs.size) }:=by
 have e1:(s.heap.push PySem.W.emptyDict).get? s.heap.objs.size=some PySem.W.emptyDict:=Heap.get?_push_size s.heap rfl
 have e2:((s.heap.push PySem.W.emptyDict).push (PySem.W.instObj C s.heap.objs.size)).get? (s.heap.objs.size+1)=some (PySem.W.instObj C s.heap.objs.size):=by
  have:=Heap.get?_push_size (s.heap.push PySem.W.emptyDict) (o:=PySem.W.instObj C s.heap.objs.size) rfl
  rwa [Heap.size_push] at this
 have e3:(s.heap.push PySem.W.emptyDict).Ns s.heap.objs.size (fun _=>none):=⟨PySem.W.emptyDict,#[],_,e1,rfl,(fun e he=>absurd he (by simp)),fun _=>rfl⟩
 have I1:=I.laid (a:=s.heap.objs.size) (o:=.own (s.heap.objs.size+1)) (h':=s.heap.push PySem.W.emptyDict) (t':=s.toks) (fun b u q=>Heap.get?_push_of_some _ q) (Nat.le_refl _) ⟨_,e1⟩
 refine I1.laid (a:=s.heap.objs.size+1) (o:=.ins C s.heap.objs.size []) (t':=s.toks) (fun b u q=>Heap.get?_push_of_some _ q) (Nat.le_of_eq (Heap.size_push _ _)) ?_
 have ne:s.heap.objs.size ≠ s.heap.objs.size+1:=Nat.ne_of_lt (Nat.lt_succ_self _)
 refine⟨by rw[Zs ne,Zt],Nat.zero_le _,ne,e2,fun _=>none,(Heap.Ns1.of_empty e3).at fun o q=>Heap.get?_push_of_some _ q,fun _=>True.intro,fun y hy=>absurd rfl hy⟩
theorem attr_of {prog:Program}{w:World}{env:Env}{e:Expr}{f:Str}{pos:Pos}{s:Shared}{Q:Value->Shared->Prop}(hb:attributeBase e f env (eval e env)=eval e env)
  (h:wpAny (model prog w) A (eval e env) (fun o s₁=>wpAny (model prog w) A (getAttr o f true) Q E s₁) E s):wpAny (model prog w) A (eval (.Attribute e f pos) env) Q E s:=
 Attribute_any_ h (by rw[arm_eval_Attribute,hb])
end
def tFld (K:PySem.W.Frag) (ta:TE) (f:Str):TE:=fun σ H Q=>ta σ H fun x H1=>∃a C dx fs v,x=.ref a/\H1 a=some (.ins C dx fs)/\Cls K C/\WL K C f/\fs.lookup f=some v/\Q v H1
def sFld (K:PySem.W.Frag) (ta tv:TE) (f:Str):TS:=fun D σ H=>tv σ H fun y H1=>ta σ H1 fun x H2=>∃a C dx fs,x=.ref a/\H2 a=some (.ins C dx fs)/\Cls K C/\WL K C f/\fs.length < 1000 /\
 D.nx σ (upd H2 a (.ins C dx (putF f y fs)))
section
variable {X:Cx}{o e value:Expr}{f:Str}{pos pos' tpos:Pos}{ta tv:TE}
theorem pe_fld (he:PE X e ta) (hb:attributeBase e f X.env (eval e X.env)=eval e X.env):PE X (.Attribute e f pos) (tFld X.K ta f):=by
 intro pins s σ H Q I h
 refine attr_of hb (thn (he pins s σ H _ I h) fun u s1 ⟨x,H1,I1,rx,a,C,dx,fs,v,ex,ea,c,n,l,q⟩=>?_)
 subst ex
 obtain rfl:u=Value.ref a:=rx
 exact zfs I1 ea c n l fun u' s2 I2 ru=>⟨v,H1,I2,ru,q⟩
theorem zgu (ha:PE X o ta) (hv:PE X value tv) (hs:swapsWith value (some (.Attribute o f pos')) pos.line X.env=pure false):PS X (.Assign [.Attribute o f pos'] value pos) (sFld X.K ta tv f):=by
 intro pins s σ H D I h
 refine plainObj_wpAny_Assign_Attribute (thn (hv pins s σ H _ I h) fun u s1 ⟨y,H1,I1,ry,q⟩=>thn (ha pins s1 σ H1 _ I1 q) fun ov s2 ⟨x,H2,I2,rx,a,C,dx,fs,ex,ea,c,n,l,q2⟩=>?_) hs
 subst ex
 obtain rfl:ov=Value.ref a:=rx
 exact ze5 I2 ea c n l ry fun s3 I3=>⟨σ,_,I3,q2⟩
end
end L2
namespace L2
open PySem PySem.Spec PyProof.Rows
structure Room (k:Nat) (A:Around):Prop where
 hd:A.handled=none
 dp:A.depth+3 * k+5 < recursionLimit
 un:A.units+16 * k+200 < cLine
theorem Room.mono {j k:Nat}{A:Around}(r:Room k A) (h:j<=k):Room j A:=⟨r.hd,by have:=r.dp;omega,by have:=r.un;omega⟩
theorem Room.deeper {k:Nat}{A:Around}(r:Room (k+1) A) (env:Env):Room k (A.deeper env):=
 ⟨r.hd,by have:=r.dp;show A.depth+1+3 * k+5 < _;omega,by have:=r.un;show A.units+3+16 * k+200 < _;omega⟩
theorem Room.in1 {k:Nat}{A:Around}(r:Room (k+1) A):Room k A.in1:=
 ⟨r.hd,by have:=r.dp;show A.depth+3 * k+5 < _;omega,by have:=r.un;show A.units+1+16 * k+200 < _;omega⟩
theorem zfl {A:Around}{C:Addr}{us:List Value}{kw:List (Str × Value)}:(A.under (.builtin "type.__call__" ⟨.ref C::us,kw⟩)).depth=A.depth+1:=by
 first | rfl | simp[Around.under,Code.weight,Code.isCreation,Code.isGuard,Code.isCaller,Code.frames,Code.isFrame,guardIds]
theorem zfk {A:Around}{C:Addr}{us:List Value}{kw:List (Str × Value)}:(A.under (.builtin "type.__call__" ⟨.ref C::us,kw⟩)).units=A.units+1:=by
 first | rfl | simp[Around.under,Code.cUnits,Code.frames,Code.isFrame]
theorem Room.make {k:Nat}{A:Around}(r:Room (k+1) A) (C:Addr) (us:List Value) (kw:List (Str × Value)):Room k (A.under (.builtin "type.__call__" ⟨.ref C::us,kw⟩)):=
 ⟨r.hd,by have:=r.dp;rw[zfl];omega,by have:=r.un;rw[zfk];omega⟩
theorem Room.depth {k:Nat}{A:Around}(r:Room k A):A.depth < recursionLimit:=by have:=r.dp;omega
theorem Room.units {k:Nat}{A:Around}(r:Room k A):A.units+64 < cLine:=by have:=r.un;omega
def tNil:TA:=fun _ H Q=>Q [] H
def tCons (ta:TE) (tr:TA):TA:=fun σ H Q=>ta σ H fun x H1=>tr σ H1 fun xs H2=>Q (x::xs) H2
section
variable {X:Cx}{e:Expr}{es:List Expr}{te:TE}{t:TA}{pos:Pos}
theorem Xg:PA X [] tNil:=fun _ _ _ _ H Q I h=>Calls.spliced_nil ⟨[],H,I,.nil,h⟩
theorem ZZ (ha:PE X e te) (hr:PA X es t) (hs:starEach (e::es) X.env=(false,eval e X.env)::starEach es X.env:=by rfl):PA X (e::es) (tCons te t):=by
 intro pos pins s σ H Q I h
 rw[hs]
 show wpAny _ _ (spliced ((false,eval e X.env)::backTo pos (starEach es X.env))) _ _ s
 refine Calls.spliced_cons (thn (ha pins s σ H _ I h) fun u s1 ⟨x,H1,I1,r1,q1⟩=>?_)
 exact thn (hr pos pins s1 σ H1 _ I1 q1) fun us s2 ⟨xs,H2,I2,r2,q2⟩=>⟨x::xs,H2,I2,.cons r1 r2,q2⟩
def tTup (t:TA):TE:=fun σ H Q=>t σ H fun xs H1=>xs.length<=sizeLine/\∀p,H1 p=none->Q (.ref p) (upd H1 p (.tup xs))
def tLst (t:TA):TE:=fun σ H Q=>t σ H fun xs H1=>xs.length<=sizeLine/\∀p,H1 p=none->Q (.ref p) (upd H1 p (.lst xs))
theorem pe_tup {x1}(h:PA X es t):PE X (.Tuple es x1 pos) (tTup t):=by
 intro pins s σ H Q I hq
 refine wpAny_Tuple_spliced (thn (h pos pins s σ H _ I hq) fun us s1 ⟨xs,H1,I1,r,z,q⟩=>⟨by rw[<- r.length];exact z,?_⟩)
 have hf:H1 s1.heap.objs.size=none:=I1.hok.fresh (Nat.le_refl _)
 refine⟨.ref s1.heap.objs.size,upd H1 s1.heap.objs.size (.tup xs),I1.laid (t':=s1.toks) (fun b u e=>Heap.get?_push_of_some _ e) (Nat.le_refl _) ?_,rfl,q _ hf⟩
 exact⟨z,us,r,⟨_,Heap.get?_push_size _ rfl,rfl,_,rfl⟩⟩
theorem pe_lst (h:PA X es t):PE X (.List es pos) (tLst t):=by
 intro pins s σ H Q I hq
 refine wpAny_List_spliced (thn (h pos pins s σ H _ I hq) fun us s1 ⟨xs,H1,I1,r,z,q⟩=>⟨by rw[<- r.length];exact z,?_⟩)
 have hf:H1 s1.heap.objs.size=none:=I1.hok.fresh (Nat.le_refl _)
 refine⟨.ref s1.heap.objs.size,upd H1 s1.heap.objs.size (.lst xs),I1.laid (t':=s1.toks) (fun b u e=>Heap.get?_push_of_some _ e) (Nat.le_refl _) ?_,rfl,q _ hf⟩
 exact⟨z,us,0,r,Heap.get?_push_size _ rfl⟩
end
abbrev Sp:=List V->Hp->VK->XK->Prop
abbrev CXT:=List Env->Hp->Shared->XK->Value->Shared->Prop
structure Env0 (P:Program) (w:World) (K:PySem.W.Frag) (mg:Str->Option Value) (base:Heap) (A:Around) (outer:List Env) (s:Shared) (H:Hp):Prop where
 frames:A.frames=some outer
 mod:Mod K mg base
 bs:∀b o,base.get? b=some o->s.heap.get? b=some o/\H b=none
 bsz:base.objs.size<=s.heap.objs.size
 funs:s.heap.FunFrames base outer
 frf:∀b ∈ frs outer,H b=none
 hok:HOk P w H s.heap
 bare:AllBare s.gens
def CE (outer:List Env) (P:Program) (w:World) (H:Hp) (s:Shared) (Q:VK) (u:Value) (s':Shared):Prop:=
 ∃v H',s'.os=s.os/\AllBare s'.gens/\Un (frs outer) [] H H' s.heap s'.heap/\HOk P w H' s'.heap/\RelV v u/\Q v H'
def CR (CX:CXT) (outer:List Env) (P:Program) (w:World) (H:Hp) (s:Shared) (Q:VK) (E:XK) (r:Result) (s':Shared):Prop:=
 match r with
 | .ok (.ret u)=>CE outer P w H s Q u s'
 | .ok _=>False
 | .error e=>CX outer H s E e s'
structure FnOk (P:Program) (w:World) (K:PySem.W.Frag) (mg:Str->Option Value) (base:Heap) (CX:CXT) (k:Nat) (f:Addr) (fd:FuncData) (ps:List Str) (sp:Sp):Prop where
 len:∀vs H Q E,sp vs H Q E->vs.length=ps.length
 run:∀(A:Around) (outer:List Env) (s:Shared) (H:Hp) (args:Args) (us:List Value) (vs:List V) (Q:VK) (E:XK),Room k A->Env0 P w K mg base A outer s H->BindsTo s fd args (ps.zip us)->Vals vs us->sp vs H Q E ->
  codeAny (model P w) A (.call (.ref f) args) (CR CX outer P w H s Q E) s
theorem FnOk.mono {P:Program}{w:World}{K:PySem.W.Frag}{mg:Str->Option Value}{base:Heap}{CX:CXT}{j k:Nat}{f:Addr}{fd:FuncData}{ps:List Str}{sp:Sp}(F:FnOk P w K mg base CX j f fd ps sp) (h:j<=k) :
  FnOk P w K mg base CX k f fd ps sp:=⟨F.len,fun A outer s H args us vs Q E hr=>F.run A outer s H args us vs Q E (hr.mono h)⟩
theorem FnOk.imp {P:Program}{w:World}{K:PySem.W.Frag}{mg:Str->Option Value}{base:Heap}{CX:CXT}{k:Nat}{f:Addr}{fd:FuncData}{ps:List Str}{sp sp':Sp}(F:FnOk P w K mg base CX k f fd ps sp)
  (h:∀vs H Q E,sp' vs H Q E->sp vs H Q E):FnOk P w K mg base CX k f fd ps sp':=
 ⟨fun vs H Q E q=>F.len vs H Q E (h _ _ _ _ q),fun A outer s H args us vs Q E hr he hb hv hs=>F.run A outer s H args us vs Q E hr he hb hv (h _ _ _ _ hs)⟩
theorem Env0.make {P:Program}{w:World}{K:PySem.W.Frag}{mg:Str->Option Value}{base:Heap}{A:Around}{outer:List Env}{s:Shared}{H:Hp}(e:Env0 P w K mg base A outer s H) (C:Addr) (us:List Value) (kw:List (Str × Value)) :
  Env0 P w K mg base (A.under (.builtin "type.__call__" ⟨.ref C::us,kw⟩)) outer s H:=⟨by first | exact e.frames | (simpa[Around.under,Code.envs,Code.isFrame,pushEnvs] using e.frames),e.mod,e.bs,e.bsz,e.funs,e.frf,e.hok,e.bare⟩
section
variable {X:Cx}{pins:List (Addr × Obj)}{σ:St}{H:Hp}{s s':Shared}
theorem Inv.env0 (I:Inv X pins σ H s):Env0 X.prog X.w X.K X.mg X.base X.A X.stack s H:=
 ⟨I.ok.frames,I.ok.mod,I.bs,Nat.le_trans I.ok.bsz I.sz,I.stack,I.stkFree,I.hok,I.bare⟩
theorem Inv.after {Q:VK}{u:Value}(I:Inv X pins σ H s) (h:CE X.stack X.prog X.w H s Q u s'):EP X pins σ Q u s':=by
 obtain⟨v,H',os,bare,un,hok,r,q⟩:=h
 obtain⟨hh,g,d,t,os'⟩:=s'
 obtain rfl:os'=s.os:=os
 exact⟨v,H',I.call (h':=hh) (g':=g) (d':=d) (t':=t) (ch:=[]) un hok bare (fun b z=>absurd z (by simp)),r,q⟩
end
def tCall (sp:Sp) (dvs:List V) (E:XK) (t:TA):TE:=fun σ H Q=>t σ H fun vs H1=>sp (vs++dvs) H1 Q E
def tMake (C:Addr) (sp:Sp) (dvs:List V) (E:XK) (t:TA):TE:=fun σ H Q=>t σ H fun vs H1=>∀x dx,H1 x=none->H1 dx=none->dx ≠ x ->
 sp (.ref x::(vs++dvs)) (upd (upd H1 dx (.own x)) x (.ins C dx [])) (fun v H2=>v=.non/\Q (.ref x) H2) E
def ZG (K:PySem.W.Frag) (fd:FuncData) (ps:List Str) (ds:List Value):Prop:=
 ∀(s:Shared) (us:List Value),K.In s.heap->(us++ds).length=ps.length->BindsTo s fd ⟨us,[]⟩ (ps.zip (us++ds))
theorem ZG.all {K:PySem.W.Frag}{fd:FuncData}{ps:List Str}(h:∀us:List Value,us.length=ps.length->bindArgs fd ⟨us,[]⟩=pure (ps.zip us)):ZG K fd ps []:=fun s us _ hl=>by
 rw[List.append_nil] at hl ⊢
 exact .of_eq (h us hl)
def Q8 (CX:CXT) (X:Cx) (E:XK):Prop:=∀(pins:List (Addr × Obj)) (σ:St) (H:Hp) (s:Shared) (e:Value) (s':Shared),Inv X pins σ H s->CX X.stack H s E e s'->X.xe e s'
section
variable {X:Cx}{CX:CXT}{k:Nat}{f C:Addr}{fd:FuncData}{ps:List Str}{sp:Sp}{dvs:List V}{ds:List Value}{E:XK}{x m:Str}{p pos apos:Pos}{e o:Expr}{es:List Expr}{ta:TE}{t:TA}
theorem run_fn {pins:List (Addr × Obj)}{σ:St}{H:Hp}{s:Shared}{Q:VK}{us:List Value}{vs:List V}(F:FnOk X.prog X.w X.K X.mg X.base CX k f fd ps sp) (hr:Room k X.A) (hb:ZG X.K fd ps ds) (hd:Vals dvs ds) (hx:Q8 CX X E)
  (I:Inv X pins σ H s) (r:Vals vs us) (h:sp (vs++dvs) H Q E):wpAny (model X.prog X.w) X.A (call (.ref f) us) (EP X pins σ Q) X.xe s:=by
 have r2:Vals (vs++dvs) (us++ds):=r.append hd
 have hl:(us++ds).length=ps.length:=by rw[<- r2.length];exact F.len _ _ _ _ h
 refine wpAny_call (codeAny_mono (F.run X.A X.stack s H ⟨us,[]⟩ (us++ds) (vs++dvs) Q E hr I.env0 (hb s us I.kIn hl) r2 h) fun r s' hq=>?_)
 cases r with
 | error e=>exact hx pins σ H s e s' I hq
 | ok fl=>
  cases fl with
  | ret u=>exact I.after hq
  | next=>exact False.elim hq
  | brk=>exact False.elim hq
  | cont=>exact False.elim hq
theorem zgB (F:FnOk X.prog X.w X.K X.mg X.base CX k f fd ps sp) (hr:Room k X.A) (hg:Gl X x) (hm:X.mg x=some (.ref f)) (hk:PySem.W.keepIn X.K (.ref f)=true) (hb:ZG X.K fd ps ds) (hd:Vals dvs ds) (hx:Q8 CX X E)
  (ha:PA X (e::es) t) (hdb:(x == ("__debug__" : Str))=false:=by decide) (he:starEach (e::es) X.env=(false,eval e X.env)::starEach es X.env:=by rfl) (hpl:(backTo pos (starEach es X.env)).any (·.1)=false:=by rfl) :
  PE X (.Call (.Name x p) (e::es) [] pos) (tCall sp dvs E t):=by
 intro pins s σ H Q I h
 refine wpAny_Call_Name_kw (Uw I hg hm ?_ hdb)
 refine PySem.W.callWith_K (h₀:=X.base) I.ok.mod.kin hk (thn (ha pos pins s σ H _ I h) fun us s1 ⟨vs,H1,I1,r,q⟩=>⟨I1.kIn,?_⟩) he hpl
 exact run_fn F hr hb hd hx I1 r q
structure Mk (K:PySem.W.Frag) (C f:Addr):Prop where
 makes:PySem.W.makesIn K C=true
 init:PySem.W.findIn K (.ref C) "__init__" = some (some (.ref f))
 fn:PySem.W.isFn K (.ref f)=true
 kp:PySem.W.keepIn K (.ref C)=true
theorem run_make {pins:List (Addr × Obj)}{σ:St}{H:Hp}{s:Shared}{Q:VK}{us:List Value}{vs:List V}(M:Mk X.K C f) (F:FnOk X.prog X.w X.K X.mg X.base CX k f fd ps sp) (hr:Room (k+1) X.A) (hb:ZG X.K fd ps ds) (hd:Vals dvs ds)
  (hx:Q8 CX X E) (I:Inv X pins σ H s) (r:Vals vs us)
  (h:∀x dx,H x=none->H dx=none->dx ≠ x->sp (.ref x::(vs++dvs)) (upd (upd H dx (.own x)) x (.ins C dx [])) (fun v H2=>v=.non/\Q (.ref x) H2) E) :
  wpAny (model X.prog X.w) X.A (call (.ref C) us) (EP X pins σ Q) X.xe s:=by
 have hq:=h (s.heap.objs.size+1) s.heap.objs.size (I.hok.fresh (Nat.le_succ _)) (I.hok.fresh (Nat.le_refl _)) (Nat.ne_of_lt (Nat.lt_succ_self _))
 have I2:=Inv.made (C:=C) I
 have r2:Vals (V.ref (s.heap.objs.size+1)::(vs++dvs)) (Value.ref (s.heap.objs.size+1)::(us++ds)):=.cons rfl (r.append hd)
 have hl:(Value.ref (s.heap.objs.size+1)::us++ds).length=ps.length:=by
  have e:=r2.length
  rw[F.len _ _ _ _ hq] at e
  exact e.symm
 refine wpAny_call (make_map (f:=f) I.kIn M.makes M.init (beq_iff_eq.mp M.fn) (codeAny_mono (F.run _ X.stack _ _ ⟨Value.ref (s.heap.objs.size+1)::us,[]⟩ (Value.ref (s.heap.objs.size+1)::(us++ds)) _ _ E (hr.make C us [])
  (I2.env0.make C us []) (hb _ (Value.ref (s.heap.objs.size+1)::us) I2.kIn hl) r2 hq) fun r s' hq'=>?_))
 cases r with
 | error e=>exact hx pins σ _ _ e s' I2 hq'
 | ok fl=>
  cases fl with
  | ret u=>
   obtain⟨v,H',I3,rv,ev,q3⟩:=I2.after hq'
   subst ev
   exact⟨rv,⟨V.ref (s.heap.objs.size+1),H',I3,rfl,q3⟩⟩
  | next=>exact False.elim hq'
  | brk=>exact False.elim hq'
  | cont=>exact False.elim hq'
theorem pe_make (M:Mk X.K C f) (F:FnOk X.prog X.w X.K X.mg X.base CX k f fd ps sp) (hr:Room (k+1) X.A) (hg:Gl X x) (hm:X.mg x=some (.ref C)) (hb:ZG X.K fd ps ds) (hd:Vals dvs ds) (hx:Q8 CX X E)
  (ha:PA X (e::es) t) (hdb:(x == ("__debug__" : Str))=false:=by decide) (he:starEach (e::es) X.env=(false,eval e X.env)::starEach es X.env:=by rfl) (hpl:(backTo pos (starEach es X.env)).any (·.1)=false:=by rfl) :
  PE X (.Call (.Name x p) (e::es) [] pos) (tMake C sp dvs E t):=by
 intro pins s σ H Q I h
 refine wpAny_Call_Name_kw (Uw I hg hm ?_ hdb)
 refine PySem.W.callWith_K (h₀:=X.base) I.ok.mod.kin M.kp (thn (ha pos pins s σ H _ I h) fun us s1 ⟨vs,H1,I1,r,q⟩=>⟨I1.kIn,?_⟩) he hpl
 exact run_make M F hr hb hd hx I1 r q
end
def PK (X:Cx) (kws:List Keyword) (t:TA):Prop:=
 ∀(pos:Pos) (pins:List (Addr × Obj)) (s:Shared) (σ:St) (H:Hp) (Q:List V->Hp->Prop),Inv X pins σ H s->t σ H Q->wpAny (model X.prog X.w) X.A (evalAll ((backToKw pos (keywordEach kws X.env)).map (·.2))) (AP X pins σ Q) X.xe s
section
variable {X:Cx}{CX:CXT}{k:Nat}{f C:Addr}{fd:FuncData}{ps ks:List Str}{sp:Sp}{E:XK}{x m:Str}{p pos apos kpos:Pos}{e o:Expr}{es:List Expr}{kws:List Keyword}{te ta:TE}{t tk:TA}{nm:Option Str}
theorem pk_nil:PK X [] tNil:=fun _ _ _ _ H Q I h=>wpAny_evalAll_nil ⟨[],H,I,.nil,h⟩
theorem zgx (ha:PE X e te) (hr:PK X kws t):PK X (⟨nm,e,kpos⟩::kws) (tCons te t):=by
 intro pos pins s σ H Q I h
 show wpAny _ _ (evalAll ((do let v <- eval e X.env;standAt pos;pure v)::(backToKw pos (keywordEach kws X.env)).map (·.2))) _ _ s
 refine wpAny_evalAll_cons (wpAny_bind (thn (ha pins s σ H _ I h) fun u s1 ⟨x,H1,I1,r1,q1⟩=>wpAny_bind (wpAny_standAt (wpAny_pure ?_))))
 exact thn (hr pos pins s1 σ H1 _ I1 q1) fun us s2 ⟨xs,H2,I2,r2,q2⟩=>⟨x::xs,H2,I2,.cons r1 r2,q2⟩
variable {g:List Value->List Value->List Value}{gV:List V->List V->List V}
end
structure FnScope (N P:List Str) (sc:Scope):Prop where
 kind:sc.kind=.function
 co:sc.isCoroutine=false
 gen:sc.isGenerator=false
 nd:N.Nodup
 pre:N.take P.length=P
 par:∀x ∈ P,sc.names.lookup x=some .local\/sc.names.lookup x=some .cell
 nofree:∀y ∈ sc.names,y.2 ≠ .free
theorem zc6 {kindOf:Str->Option NameKind}{x:Str}:∀{binds:List (Str × Value)}{m:Str->Option Value},(∀v,(x,v) ∉ binds)->bindL kindOf binds m x=m x
 | [],_,_=>rfl
 | (n,v)::r,m,h=>by
  unfold bindL
  rw[zc6 fun w hw=>h w (List.mem_cons_of_mem _ hw)]
  split
  ·have:x ≠ n:=by rintro rfl;exact h v List.mem_cons_self
   simp[this]
  ·rfl
theorem zc8 {kindOf:Str->Option NameKind}{x:Str}:∀{binds:List (Str × Value)}{m:Str->Option Value},(∀v,(x,v) ∉ binds)->bindC kindOf binds m x=m x
 | [],_,_=>rfl
 | (n,v)::r,m,h=>by
  unfold bindC
  rw[zc8 fun w hw=>h w (List.mem_cons_of_mem _ hw)]
  split
  ·rfl
  ·have:x ≠ n:=by rintro rfl;exact h v List.mem_cons_self
   simp[this]
theorem zc7 {kindOf:Str->Option NameKind}{x:Str}{v:Value}:∀{P:List Str}{vs:List Value}{i:Nat}{m:Str->Option Value},P.Nodup->P[i]? = some x->vs[i]? = some v->kindOf x=some .local ->
  bindL kindOf (P.zip vs) m x=some v
 | [],_,_,_,_,h,_,_=>by simp at h
 | _::_,[],_,_,_,_,h,_=>by simp at h
 | p::P,w::vs,0,m,nd,h1,h2,hk=>by
  simp at h1 h2;subst h1;subst h2
  show bindL kindOf ((p,w)::P.zip vs) m p=_
  unfold bindL
  rw[zc6 fun v hv=>(List.nodup_cons.mp nd).1 (List.of_mem_zip hv).1,if_pos hk]
  simp
 | p::P,w::vs,i+1,m,nd,h1,h2,hk=>by
  show bindL kindOf ((p,w)::P.zip vs) m x=_
  unfold bindL
  exact zc7 (i:=i) (List.nodup_cons.mp nd).2 (by simpa using h1) (by simpa using h2) hk
theorem zc9 {kindOf:Str->Option NameKind}{x:Str}{v:Value}:∀{P:List Str}{vs:List Value}{i:Nat}{m:Str->Option Value},P.Nodup->P[i]? = some x->vs[i]? = some v->kindOf x ≠ some .local ->
  bindC kindOf (P.zip vs) m x=some v
 | [],_,_,_,_,h,_,_=>by simp at h
 | _::_,[],_,_,_,_,h,_=>by simp at h
 | p::P,w::vs,0,m,nd,h1,h2,hk=>by
  simp at h1 h2;subst h1;subst h2
  show bindC kindOf ((p,w)::P.zip vs) m p=_
  unfold bindC
  rw[zc8 fun v hv=>(List.nodup_cons.mp nd).1 (List.of_mem_zip hv).1,if_neg hk]
  simp
 | p::P,w::vs,i+1,m,nd,h1,h2,hk=>by
  show bindC kindOf ((p,w)::P.zip vs) m x=_
  unfold bindC
  exact zc9 (i:=i) (List.nodup_cons.mp nd).2 (by simpa using h1) (by simpa using h2) hk
def start (N:List Str) (vs:List V):St:=vs.map some++List.replicate (N.length - vs.length) none
def cxOf (CX:CXT) (P:Program) (w:World) (K:PySem.W.Frag) (mg:Str->Option Value) (base:Heap) (N:List Str) (qual:Str) (scope:Scope) (f:Addr) (cd:Value) (A:Around) (outer:List Env) (s:Shared) (H:Hp) (E:XK):Cx where
 prog:=P
 w:=w
 K:=K
 mg:=mg
 base:=base
 A:=A.deeper (envOfC qual scope s.heap.objs.size f cd)
 N:=N
 s₀:=s
 H₀:=H
 env:=envOfC qual scope s.heap.objs.size f cd
 outer:=outer
 stack:=envOfC qual scope s.heap.objs.size f cd::outer
 ex:=[]
 calm:=true
 fn:=fun _=>true
 pn:=[]
 xe:=fun e s'=>wpAny (model P w) (A.deeper (envOfC qual scope s.heap.objs.size f cd)) (leaving (envOfC qual scope s.heap.objs.size f cd) e) (fun _ s''=>CX outer H s E e s'') (fun e' s''=>CX outer H s E e' s'') s'
theorem zeR {sc:Scope}{n:Nat}{x:Str}(h:sc.names.lookup x=some .cell):∃c,(cellsFrom n sc.names []).lookup x=some c:=by
 have q:=PySem.W.cellsFrom_some sc.names n [] (.inl h)
 exact Option.isSome_iff_exists.mp q
theorem zhc {CX:CXT}{P:Program}{w:World}{K:PySem.W.Frag}{mg:Str->Option Value}{base:Heap}{N ps:List Str}{qual:Str}{scope:Scope}{f:Addr}{cd:Value}{A:Around}{outer:List Env}{s s1:Shared}{H:Hp}{E:XK}{us:List Value}{vs:List V}
  (S:FnScope N ps scope) (hd:A.handled=none) (e0:Env0 P w K mg base A outer s H) (hl:vs.length=ps.length) (r:Vals vs us)
  (x:InCallC s s.heap.objs.size (bindL (envOfC qual scope s.heap.objs.size f cd).kindOf (ps.zip us) fun _=>none) (cellsFrom (s.heap.objs.size+1) scope.names []) (bindC (envOfC qual scope s.heap.objs.size f cd).kindOf (ps.zip us) fun _=>none) s1) :
  Inv (cxOf CX P w K mg base N qual scope f cd A outer s H E) [] (start N vs) H s1:=by
 have hpl:ps.length<=N.length:=by have:=congrArg List.length S.pre;rw[List.length_take] at this;omega
 obtain⟨h1,tk,rfl,hk⟩:=x.done
 have noA:∀b:Addr,b ∉ (cxOf CX P w K mg base N qual scope f cd A outer s H E).ex:=fun b z=>absurd (show b ∈ ([]:List Addr) from z) (by simp)
 refine⟨⟨e0.mod,S.kind,rfl,rfl,Nat.le_refl _,fun y z c h1 h2=>?_,fun y hy=>?_,fun y c _ h=>?_,fun _=>hd,Around.frames_deeper e0.frames,.inr ⟨rfl,rfl⟩,fun b z=>absurd z (noA b),e0.bs,e0.bsz,fun b _ _=>noA b,fun b z=>absurd z (noA b),e0.funs,e0.frf⟩,
  rfl,e0.bare,Un.kept hk,⟨_,x.toInCall.ns,fun i y v h1 h2 h3=>?_⟩,fun y c h=>⟨_,x.cell y c h⟩,e0.hok.fresh (Nat.le_refl _),fun y c h=>?_,fun p hp=>absurd (show p ∈ ([]:List (Addr × Obj)) from hp) (by simp),e0.hok.kept hk,?_⟩
 ·exact name_of_addr x.apart (PySem.mem_of_lookup h1) (PySem.mem_of_lookup h2)
 ·have hy:scope.names.lookup y=some .cell\/scope.names.lookup y=some .free:=hy
  rcases hy with hy | hy
  ·exact zeR hy
  ·exact absurd rfl (S.nofree _ (PySem.mem_of_lookup hy))
 ·exact Nat.le_of_lt (x.above y c (PySem.mem_of_lookup h))
 ·have hi:i < vs.length:=by
   unfold start at h2
   by_cases hi:i < vs.length
   ·exact hi
   ·rw[List.getElem?_append_right (by simpa using hi)] at h2
    rw[List.getElem?_replicate] at h2
    split at h2 <;> cases h2
  have ha:vs[i]? = some v:=by
   unfold start at h2
   rw[List.getElem?_append_left (by simpa using hi),List.getElem?_map] at h2
   cases e:vs[i]? with
   | none=>rw[e] at h2;cases h2
   | some a=>rw[e] at h2;cases h2;rfl
  obtain⟨u,hu,rv⟩:=r.get ha
  have hp:ps[i]? = some y:=by
   rw[<- S.pre,List.getElem?_take_of_lt (by omega)];exact h1
  have ndP:ps.Nodup:=by rw[<- S.pre];exact S.nd.sublist (List.take_sublist _ _)
  refine⟨u,rv,?_⟩
  rcases S.par y (List.mem_of_getElem? hp) with k | k
  ·exact .inl ⟨k,zc7 ndP hp hu k⟩
  ·obtain⟨c,e⟩:=zeR (n:=s.heap.objs.size+1) k
   refine .inr ⟨.inl k,c,e,?_⟩
   have q:=x.cell y c e
   rw[zc9 ndP hp hu (by show scope.names.lookup y ≠ _;rw[k];decide)] at q
   exact q
 ·exact e0.hok.fresh (Nat.le_of_lt (x.above y c (PySem.mem_of_lookup h)))
 ·unfold start
  show _=N.length
  rw[List.length_append,List.length_map,List.length_replicate]
  omega
theorem fn_of {CX:CXT}{P:Program}{w:World}{K:PySem.W.Frag}{mg:Str->Option Value}{base:Heap}{k:Nat}{f:Addr}{name qual:Str}{params:Arguments}{body:List Stmt}{scope:Scope}{dV kV doc pm cdv ct oc:Value}{an od:Option Addr}
  {osl:Array (Option Value)}{N ps:List Str}{sp:Sp}(lk:K.lookup f=some ⟨oc,od,.func (PySem.W.fnOf name qual params body scope dV kV doc pm an cdv ct),osl⟩) (hcd:PySem.W.codeIn K cdv qual=true) (S:FnScope N ps scope)
  (len:∀vs H Q E,sp vs H Q E->vs.length=ps.length)
  (hbody:∀(A:Around) (outer:List Env) (s:Shared) (H:Hp) (vs:List V) (Q:VK) (E:XK),Room k (A.deeper (envOfC qual scope s.heap.objs.size f cdv))->sp vs H Q E ->
   ∃t,PSs (cxOf CX P w K mg base N qual scope f cdv A outer s H E) body t/\t { nx:=fun _ H'=>Q .non H',rt:=Q } (start N vs) H) :
  FnOk P w K mg base CX (k+1) f (PySem.W.fnOf name qual params body scope dV kV doc pm an cdv ct) ps sp:=by
 refine⟨len,fun A outer s H args us vs Q E hr e0 hb r hsp=>?_⟩
 have hl:=len _ _ _ _ hsp
 have KX:K.In s.heap:=e0.mod.kin.keeps fun b o e=>(e0.bs b o e).1
 have lim:s.heap.NoLimit:=e0.mod.nolimit.keeps fun b o e=>(e0.bs b o e).1
 have hkind:∀y ∈ ps.zip us,scope.names.lookup y.1=some .local\/(scope.names.lookup y.1=some .cell/\((cellsFrom (s.heap.objs.size+1) scope.names []).lookup y.1).isSome=true):=fun⟨n,v⟩ hy=>by
  rcases S.par n (List.of_mem_zip hy).1 with q | q
  ·exact .inl q
  ·exact .inr ⟨q,PySem.W.cellsFrom_some _ _ _ (.inl q)⟩
 refine codeAny_call_function hr.depth (KX _ _ lk) rfl S.co S.gen rfl (PySem.W.codeRec_of KX hcd) (hb _ _ _ _ ?_)
 refine wpAny_newFunctionEnv_cells S.kind hkind fun env he s1 x=>?_
 subst he
 refine⟨lim.keeps x.toInCall.keep,codeAny_func ?_⟩
 obtain⟨t,ht,hq⟩:=hbody A outer s H vs Q E (hr.deeper _) hsp
 have I:Inv (cxOf CX P w K mg base N qual scope f cdv A outer s H E) [] (start N vs) H s1:=zhc S hr.hd e0 hl r x
 refine wpAny_mono (ht [] s1 (start N vs) H _ I hq) (fun fl s' hs=>?_) fun e s' hs=>hs
 have fin:∀{σ':St}{H':Hp}{v:V}{u:Value},Inv (cxOf CX P w K mg base N qual scope f cdv A outer s H E) [] σ' H' s'->RelV v u->Q v H'->CE outer P w H s Q u s':=
  fun {σ' H' v u} J rv q=>⟨v,H',J.os,J.bare,J.base,J.hok,rv,q⟩
 cases fl with
 | ret u=>
  obtain⟨v,σ',H',J,rv,q⟩:=hs
  exact fin J rv q
 | next=>
  obtain⟨σ',H',J,q⟩:=hs
  exact fin (v:=V.non) (u:=Value.none) J rfl q
 | brk=>
  obtain⟨_,_,_,q⟩:=hs
  exact False.elim q
 | cont=>
  obtain⟨_,_,_,q⟩:=hs
  exact False.elim q
end L2
namespace L2
open PySem PySem.Spec PyProof.Rows
section
variable {X:Cx}{x:Str}{p pos:Pos}{e:Expr}{es:List Expr}{t:TA}{id T:String}{r:List V->Hp->VK->Prop}
def tCB (r:List V->Hp->VK->Prop) (t:TA):TE:=fun σ H Q=>t σ H fun vs H1=>r vs H1 Q
theorem UQ (hc:Jg X (.builtin id) r) (hg:Gl X x) (hm:X.mg x=none) (hv:bootBuiltins x=some (.builtin id)) (ha:PA X (e::es) t) (hn:x ≠ "__name__":=by decide) (hdb:(x == ("__debug__" : Str))=false:=by decide)
  (he:starEach (e::es) X.env=(false,eval e X.env)::starEach es X.env:=by rfl) (hpl:(backTo pos (starEach es X.env)).any (·.1)=false:=by rfl):PE X (.Call (.Name x p) (e::es) [] pos) (tCB r t):=by
 intro pins s σ H Q I h
 refine wpAny_Call_Name_kw (UT I hg hm hv ?_ hn hdb)
 exact PyProof.Rows.callWith_builtin1 (thn (ha pos pins s σ H _ I h) fun us s1 ⟨vs,H1,I1,r1,q1⟩=>hc pins s1 σ H1 vs us Q I1 r1 q1) he hpl
theorem Wv (hc:Jg X (.type T) r) (hg:Gl X x) (hm:X.mg x=none) (hv:bootBuiltins x=some (.type T)) (ha:PA X (e::es) t) (hn:x ≠ "__name__":=by decide) (hdb:(x == ("__debug__" : Str))=false:=by decide)
  (he:starEach (e::es) X.env=(false,eval e X.env)::starEach es X.env:=by rfl) (hpl:(backTo pos (starEach es X.env)).any (·.1)=false:=by rfl):PE X (.Call (.Name x p) (e::es) [] pos) (tCB r t):=by
 intro pins s σ H Q I h
 refine wpAny_Call_Name_kw (UT I hg hm hv ?_ hn hdb)
 exact PyProof.Rows.callWith_type1 (thn (ha pos pins s σ H _ I h) fun us s1 ⟨vs,H1,I1,r1,q1⟩=>hc pins s1 σ H1 vs us Q I1 r1 q1) he hpl
end
end L2
namespace HT
open PySem PyProof.Rows
def zfm:List Int->List Int->Bool
 | [],[]=>false
 | [],_::_=>true
 | _::_,[]=>false
 | x::xs,y::ys=>if x=y then zfm xs ys else decide (x < y)
theorem lexLt_cons (x y:Int) (xs ys:List Int):zfm (x::xs) (y::ys)=if x=y then zfm xs ys else decide (x < y):=rfl
theorem lexLt_nil_nil:zfm [] []=false:=rfl
theorem lexLt_nil_cons (y:Int) (ys:List Int):zfm [] (y::ys)=true:=rfl
theorem lexLt_cons_nil (x:Int) (xs:List Int):zfm (x::xs) []=false:=rfl
section
open PySem.SeqAt
open PySem.AutoSeq1 (wpAny_loadPart')
open PySem.MeetsSeq PySem.MeetsSeq2 PySem.MeetsSeq3
end
section
variable {prog:Program}{w:World}{A:Around}{E:Value->Shared->Prop}{s:Shared}
def sIx (n d:Nat):Option Int->Nat
 | none=>d
 | some v=>if v < 0 then(v+(n:Int)).toNat else min v.toNat n
theorem sIx_none (n d:Nat):sIx n d none=d:=rfl
end
end HT
namespace L2
open PySem PySem.Spec PyProof.Rows
abbrev TO:=St->Hp->(Option Int->Hp->Prop)->Prop
def PO (X:Cx) (e:Option Expr) (t:TO):Prop:=
 ∀(pins:List (Addr × Obj)) (s:Shared) (σ:St) (H:Hp) (Q:Option Int->Hp->Prop),Inv X pins σ H s->t σ H Q ->
  wpAny (model X.prog X.w) X.A (evalPart e X.env) (fun u s'=>∃o H',Inv X pins σ H' s'/\IsPart u o/\Q o H') X.xe s
def tNoPart:TO:=fun _ H Q=>Q none H
def tPart (t:TE):TO:=fun σ H Q=>t σ H fun x H1=>∃i,x=.int i/\Q (some i) H1
section
variable {X:Cx}{e:Expr}{te:TE}{lo hi:Option Expr}{tl th:TO}{pos p2:Pos}
theorem po_none:PO X none tNoPart:=by
 intro pins s σ H Q I h
 rw[evalPart_none]
 exact wpAny_pure ⟨none,H,I,.none,h⟩
theorem po_some (h:PE X e te):PO X (some e) (tPart te):=by
 intro pins s σ H Q I hw
 rw[evalPart_some]
 refine thn (h pins s σ H _ I hw) fun u s1 ⟨x,H1,I1,r1,q1⟩=>?_
 obtain⟨i,rfl,q⟩:=q1
 obtain⟨t,rfl⟩:=r1
 exact⟨some i,H1,I1,.int i t,q⟩
def SlR (X:Cx) (r:V->Option Int->Option Int->Hp->VK->Prop):Prop:=
 ∀(pins:List (Addr × Obj)) (s:Shared) (σ:St) (H:Hp) (x:V) (v vl vu:Value) (lo hi:Option Int) (sl:Addr) (Q:VK),Inv X pins σ H s->RelV x v->s.heap.IsSliceOf sl vl vu .none->IsPart vl lo->IsPart vu hi->r x lo hi H Q ->
  ∃T id,typeLookup (.type T) "__getitem__" = pure (some (.builtin id))/\s.TypeIs v T/\wpAny (model X.prog X.w) X.A (getItem v (.ref sl)) (EP X pins σ Q) X.xe s
def tSl (r:V->Option Int->Option Int->Hp->VK->Prop) (te:TE) (tl th:TO):TE:=fun σ H Q=>te σ H fun x H1=>tl σ H1 fun l H2=>th σ H2 fun u H3=>r x l u H3 Q
theorem pe_slice {r:V->Option Int->Option Int->Hp->VK->Prop}(hr:SlR X r) (he:PE X e te) (hl:PO X lo tl) (hu:PO X hi th):PE X (.Subscript e (.Slice lo hi none p2) pos) (tSl r te tl th):=by
 intro pins s σ H Q I h
 refine Subscript_ (thn (he pins s σ H _ I h) fun v s1 ⟨x,H1,I1,r1,q1⟩=>?_)
 refine wpAny_Slice (thn (hl pins s1 σ H1 _ I1 q1) fun vl s2 ⟨l,H2,I2,pl,q2⟩=>thn (hu pins s2 σ H2 _ I2 q2) fun vu s3 ⟨u,H3,I3,pu,q3⟩=>?_)
 rw[evalPart_none]
 refine wpAny_pure ?_
 have I4:Inv X pins σ H3 { s3 with heap:=s3.heap.push { cls:=.type "slice",data:=.fields #[vl,vu,.none] } }:=I3.kept (t':=s3.toks) fun b ob q=>Heap.get?_push_of_some _ q
 obtain⟨T,id,hT,ht,hg⟩:=hr pins { s3 with heap:=s3.heap.push { cls:=.type "slice",data:=.fields #[vl,vu,.none] } } σ H3 x v vl vu l u s3.heap.objs.size Q I4 r1 (Heap.IsSliceOf.new ..) pl pu q3
 show wpAny (model X.prog X.w) X.A (subscriptTail e (.Slice lo hi none p2) v (.ref s3.heap.objs.size)) (EP X pins σ Q) X.xe { s3 with heap:=s3.heap.push { cls:=.type "slice",data:=.fields #[vl,vu,.none] } }
 exact tail_any (ops:=[.ref s3.heap.objs.size,v]) ht hT hg (by with_unfolding_all rfl)
def cutV (xs:List V) (lo hi:Option Int):List V:=(xs.drop (HT.sIx xs.length 0 lo)).take (HT.sIx xs.length xs.length hi - HT.sIx xs.length 0 lo)
theorem zdV (xs:List V) (lo hi:Option Int):(cutV xs lo hi).length<=xs.length:=by
 unfold cutV
 rw[List.length_take,List.length_drop]
 omega
end
end L2
namespace L2
open PySem PySem.Spec PyProof.Rows
def ixN (n:Nat) (i:Int):Option Nat:=if 0<=i then(if i < n then some i.toNat else none) else if -(n:Int)<=i then some (i+n).toNat else none
def atI {α:Type}(xs:List α) (i:Int):Option α:=(ixN xs.length i).bind fun j=>xs[j]?
theorem zg7 {n:Nat}{i:Int}{j:Nat}(h:ixN n i=some j):seqIndex? i n=some j/\j < n/\-(n:Int)<=i/\i < n:=by
 unfold ixN at h
 by_cases h0:0<=i
 ·rw[if_pos h0] at h
  by_cases h1:i < n
  ·rw[if_pos h1] at h
   have e:i.toNat=j:=Option.some.inj h
   exact⟨by rw[seqIndex_of h0 h1,e],by omega,by omega,h1⟩
  ·rw[if_neg h1] at h;cases h
 ·rw[if_neg h0] at h
  by_cases h1:-(n:Int)<=i
  ·rw[if_pos h1] at h
   have e:(i+n).toNat=j:=Option.some.inj h
   exact⟨by rw[seqIndex_neg (by omega) h1,e],by omega,h1,by omega⟩
  ·rw[if_neg h1] at h;cases h
theorem zhW {α:Type}{xs:List α}{i:Int}{v:α}(h:atI xs i=some v):∃j,seqIndex? i xs.length=some j/\xs[j]? = some v/\j < xs.length/\-(xs.length:Int)<=i/\i < xs.length:=by
 unfold atI at h
 cases e:ixN xs.length i with
 | none=>rw[e] at h;cases h
 | some j=>
  rw[e] at h
  obtain⟨h1,h2,h3,h4⟩:=zg7 e
  exact⟨j,h1,h,h2,h3,h4⟩
def zhY (b:Expr):Prop:=∀o i,subscripted b false o i=operate [o,i] (getItem o i)
def IxR (X:Cx) (r:R2):Prop:=
 ∀(value slice:Expr) (pins:List (Addr × Obj)) (s:Shared) (σ:St) (H:Hp) (x y:V) (v u:Value) (Q:VK),Inv X pins σ H s->RelV x v->RelV y u->r x y H Q ->
  subscripted slice false v u=operate [v,u] (getItem v u)->wpAny (model X.prog X.w) X.A (subscriptTail value slice v u) (EP X pins σ Q) X.xe s
def MtR (X:Cx) (id:String) (r:V->List V->Hp->VK->Prop):Prop:=
 ∀(pins:List (Addr × Obj)) (s:Shared) (σ:St) (H:Hp) (x:V) (xs:List V) (v:Value) (us:List Value) (Q:VK),Inv X pins σ H s->RelV x v->Vals xs us->r x xs H Q ->
  wpAny (model X.prog X.w) X.A (call (.builtin id) (v::us)) (EP X pins σ Q) X.xe s
section
variable {X:Cx}{a b:Expr}{ta tb:TE}{pos:Pos}
theorem IxR.or {r r':R2}(h:IxR X r) (h':IxR X r'):IxR X (fun x y H Q=>r x y H Q\/r' x y H Q):=by
 intro value slice pins s σ H x y v u Q I rx ry q hs
 rcases q with q | q
 ·exact h value slice pins s σ H x y v u Q I rx ry q hs
 ·exact h' value slice pins s σ H x y v u Q I rx ry q hs
theorem pe_ix {r:R2}(hr:IxR X r) (ha:PE X a ta) (hb:PE X b tb) (hs:zhY b):PE X (.Subscript a b pos) (tOp r ta tb):=by
 intro pins s σ H Q I h
 exact Subscript_ (binT ha hb I h fun v u s2 x y H2 I2 rx ry q=>hr a b pins s2 σ H2 x y v u Q I2 rx ry q (hs _ _))
def rIxL (K:PySem.W.Frag):R2:=fun x y H Q=>∃p xs i v,x=.ref p/\y=.int i/\SqL K H p xs/\atI xs i=some v/\Q v H
def rIxT (K:PySem.W.Frag):R2:=fun x y H Q=>∃p xs i v,x=.ref p/\y=.int i/\SqT K H p xs/\atI xs i=some v/\Q v H
theorem ix_list:IxR X (rIxL X.K):=by
 intro value slice pins s σ H x y v u Q I rx ry h hs
 obtain⟨p,xs,i,z,rfl,rfl,hq,he,q⟩:=h
 cases rx
 obtain⟨t,rfl⟩:=ry
 obtain⟨its,r,pl,hz⟩:=I.list hq
 obtain⟨j,h1,h2,h3,h4,h5⟩:=zhW he
 obtain⟨w,ew,rw'⟩:=r.get h2
 have hl:=r.length
 have hn:=zcH
 have fin:EP X pins σ Q w s:=⟨z,H,I,rw',q⟩
 by_cases h0:0<=i
 ·have hj:i.toNat=j:=by
   rw[seqIndex_of h0 h5] at h1
   exact Option.some.inj h1
  exact item_listR pl.isList h0 (by omega) (by rw[hj];simpa using ew) fin hs
 ·have hj:(i+(its.toArray.size:Int)).toNat=j:=by
   rw[seqIndex_neg (by omega) h4] at h1
   rw[List.size_toArray,<- hl]
   exact Option.some.inj h1
  exact subscriptTail_builtinR (x:=w) pl.isList.typeIs slot_list_getitem.lookup
   (wpAny_getItem_list_neg (Q:=fun r s'=>r=w/\EP X pins σ Q r s') pl.isList (by omega) (by rw[List.size_toArray] <;> omega) (by omega) (by rw[hj];simpa using ew) ⟨rfl,fin⟩) hs
theorem ix_tup:IxR X (rIxT X.K):=by
 intro value slice pins s σ H x y v u Q I rx ry h hs
 obtain⟨p,xs,i,z,rfl,rfl,hq,he,q⟩:=h
 cases rx
 obtain⟨t,rfl⟩:=ry
 obtain⟨its,r,pl,hz⟩:=I.tuple hq
 obtain⟨j,h1,h2,h3,h4,h5⟩:=zhW he
 obtain⟨w,ew,rw'⟩:=r.get h2
 have hl:=r.length
 have hn:=zcH
 have fin:EP X pins σ Q w s:=⟨z,H,I,rw',q⟩
 exact subscriptTail_builtinR (x:=w) pl.typeIs slot_tuple_getitem.lookup
  (getItem_tuple (j:=j) (Q:=fun r s'=>r=w/\EP X pins σ Q r s') pl (by omega) (by omega) (by rw[List.size_toArray,<- hl];exact h1) (by simpa using ew) ⟨rfl,fin⟩) hs
theorem zfj (its:List Value) (n j:Nat) (u:Value):Obj.mapSeq (·.setIfInBounds j u) { cls:=.type "list",data:=.seq its.toArray n }={ cls:=.type "list",data:=.seq (its.set j u).toArray n }:=by
 simp[Obj.mapSeq]
theorem Inv.lst {pins:List (Addr × Obj)}{σ:St}{H:Hp}{s:Shared}{p:Addr}{xs:List V}(I:Inv X pins σ H s) (h:H p=some (.lst xs)) :
  ∃(its:List Value) (n:Nat),Vals xs its/\s.heap.get? p=some { cls:=.type "list",data:=.seq its.toArray n }/\xs.length<=sizeLine:=by
 obtain⟨z,its,n,r,e⟩:=I.hok p _ h
 exact⟨its,n,r,e,z⟩
theorem Inv.lstUpd {pins:List (Addr × Obj)}{σ:St}{H:Hp}{s:Shared}{p:Addr}{xs ys:List V}{its its':List Value}{n n':Nat}{f:Obj->Obj}(I:Inv X pins σ H s) (h:H p=some (.lst xs))
  (ho:s.heap.get? p=some { cls:=.type "list",data:=.seq its.toArray n }) (hf:f { cls:=.type "list",data:=.seq its.toArray n }={ cls:=.type "list",data:=.seq its'.toArray n' }) (r:Vals ys its') (hz:ys.length<=sizeLine) (t:Nat) :
  Inv X pins σ (upd H p (.lst ys)) { s with heap:=s.heap.update p f,toks:=t }:=by
 have e:(s.heap.update p f).get? p=some { cls:=.type "list",data:=.seq its'.toArray n' }:=by
  rw[Heap.get?_update_self f ho (by rw[hf] <;> rfl),hf]
 refine I.write (x:=p) (e:=p) (by rw[h];trivial) (.inl rfl) (fun b u hb q=>(Heap.get?_update_other _ _ (Ne.symm hb)).trans q) ⟨_,e⟩ ?_
 exact⟨hz,its',n',r,e⟩
def rSetL:V->V->V->Hp->(Hp->Prop)->Prop:=fun o i v H Q=>∃p xs k j,o=.ref p/\i=.int k/\H p=some (.lst xs)/\ixN xs.length k=some j/\Q (upd H p (.lst (xs.set j v)))
theorem set_list:PSet X rSetL:=by
 intro pins s σ H o i v ov iv u Q I ro ri rv h
 obtain⟨p,xs,k,j,rfl,rfl,hp,hj,q⟩:=h
 cases ro
 obtain⟨t,rfl⟩:=ri
 obtain⟨its,n,r,ho,hz⟩:=I.lst hp
 obtain⟨h1,h2,h3,h4⟩:=zg7 hj
 have hl:=r.length
 have hn:=zcH
 have I':Inv X pins σ (upd H p (.lst (xs.set j v))) { s with heap:=s.heap.update p (Obj.mapSeq (·.setIfInBounds j u)) }:=
  I.lstUpd hp ho (zfj its n j u) (r.set rv j) (by rw[List.length_set];exact hz) s.toks
 by_cases h0:0<=k
 ·have hk:k.toNat=j:=by
   rw[seqIndex_of h0 h4] at h1
   exact Option.some.inj h1
  exact PySem.W.ki_setAt ho h0 (by omega) (by rw[List.size_toArray,<- hl];exact h4) (by rw[hk];exact⟨_,I',q⟩)
 ·have hk:(k+(its.toArray.size:Int)).toNat=j:=by
   rw[seqIndex_neg (by omega) h3] at h1
   rw[List.size_toArray,<- hl]
   exact Option.some.inj h1
  exact PySem.W.ki_setBack ho (by omega) (by rw[List.size_toArray,<- hl];exact h3) (by omega) (by rw[hk];exact⟨_,I',q⟩)
theorem zcj (lo hi:Option Int) (n:Nat):(sliceBounds lo hi none n).1=((HT.sIx n 0 lo:Nat):Int)/\(sliceBounds lo hi none n).2.1=((HT.sIx n n hi:Nat):Int)/\(sliceBounds lo hi none n).2.2=1:=by
 refine⟨?_,?_,rfl⟩
 ·cases lo with
  | none=>simp[sliceBounds,HT.sIx]
  | some i=>
   simp only[sliceBounds,HT.sIx,Option.getD_none,show(1:Int) > 0 by decide,if_true]
   by_cases h:i < 0
   ·simp only[h,if_true] <;> omega
   ·simp only[h,if_false] <;> omega
 ·cases hi with
  | none=>simp[sliceBounds,HT.sIx]
  | some i=>
   simp only[sliceBounds,HT.sIx,Option.getD_none,show(1:Int) > 0 by decide,if_true]
   by_cases h:i < 0
   ·simp only[h,if_true] <;> omega
   ·simp only[h,if_false] <;> omega
theorem zbl (its:List Value) (lo hi:Option Int):slicePick its.toArray lo hi none=((its.drop (HT.sIx its.length 0 lo)).take (HT.sIx its.length its.length hi - HT.sIx its.length 0 lo)).toArray:=by
 obtain⟨h1,h2,h3⟩:=zcj lo hi its.toArray.size
 unfold slicePick
 rw[h1,h2,h3]
 simp only[sliceRange_one,pick_run,List.size_toArray] <;> rfl
def rSlL (K:PySem.W.Frag):V->Option Int->Option Int->Hp->VK->Prop:=fun x lo hi H Q=>∃a xs,x=.ref a/\SqL K H a xs/\∀p,H p=none->Q (.ref p) (upd H p (.lst (cutV xs lo hi)))
theorem sl_list:SlR X (rSlL X.K):=by
 intro pins s σ H x v vl vu lo hi sl Q I rx hs pl pu h
 obtain⟨a,xs,rfl,hx,q⟩:=h
 cases rx
 obtain⟨its,r,ht,hz⟩:=I.list hx
 have hlen:=r.length
 refine⟨"list",_,slot_list_getitem.lookup,ht.isList.typeIs,?_⟩
 refine wpAny_getItem_list_slice ht.isList hs pl pu .none (by simp) ?_ (by rw[List.size_toArray] <;> omega)
 rw[zbl,<- hlen]
 refine⟨.ref s.heap.objs.size,_,I.laid (t':=s.toks) (o:=.lst (cutV xs lo hi)) (fun b ob q=>Heap.get?_push_of_some _ q) (Nat.le_refl _) ?_,rfl,q _ (I.hok.fresh (Nat.le_refl _))⟩
 exact⟨Nat.le_trans (zdV xs lo hi) hz,_,0,(r.drop (HT.sIx xs.length 0 lo)).take (HT.sIx xs.length xs.length hi - HT.sIx xs.length 0 lo),Heap.get?_push_size _ rfl⟩
theorem zc5:Jg X (.builtin "len") (fun xs H Q=>∃p ys,xs=[.ref p]/\(SqL X.K H p ys\/SqT X.K H p ys)/\Q (.int ys.length) H):=by
 intro pins s σ H xs us Q I r h
 obtain⟨p,ys,rfl,hq,q⟩:=h
 obtain⟨u,rfl,rx⟩:=Ja r
 cases rx
 have hn:=zcH
 rcases hq with hq | hq
 ·obtain⟨its,r',pl,hz⟩:=I.list hq
  have hlen:=r'.length
  exact Calls.call_len_list pl.isList (by simp only[List.size_toArray] <;> omega) ⟨.int ys.length,H,I.tok _,⟨s.toks+1,by rw[List.size_toArray,hlen]⟩,q⟩
 ·obtain⟨its,r',pl,hz⟩:=I.tuple hq
  have hlen:=r'.length
  exact len_tuple pl (by simp only[List.size_toArray] <;> omega) ⟨.int ys.length,H,I.tok _,⟨s.toks+1,by rw[List.size_toArray,hlen]⟩,q⟩
theorem zc4:Jg X (.type "list") (fun xs H Q=>∃p ys,xs=[.ref p]/\(SqL X.K H p ys\/SqT X.K H p ys)/\∀l,H l=none->Q (.ref l) (upd H l (.lst ys))):=by
 intro pins s σ H xs us Q I r h
 obtain⟨p,ys,rfl,hq,q⟩:=h
 obtain⟨u,rfl,rx⟩:=Ja r
 cases rx
 have fin:∀(its:List Value),Vals ys its->ys.length<=sizeLine->∀(h':Heap) (c':Nat),(∀b o',s.heap.get? b=some o'->h'.get? b=some o') ->
   h'.get? s.heap.objs.size=some { cls:=.type "list",dict:=none,data:=.seq its.toArray c',slots:=#[] }->EP X pins σ Q (.ref s.heap.objs.size) { s with heap:=h' }:=fun its r' hz h' c' kp e=>
  ⟨.ref s.heap.objs.size,_,I.laid (t':=s.toks) kp (Nat.le_refl _) (show Vd X.prog X.w _ h' _ (.lst ys) from⟨hz,its,c',r',e⟩),rfl,q _ (I.hok.fresh (Nat.le_refl _))⟩
 rcases hq with hq | hq
 ·obtain⟨its,r',pl,hz⟩:=I.list hq
  have hlen:=r'.length
  obtain⟨o,ho,hc,n,hd⟩:=pl.isList
  exact call_list_seq p (.inl rfl) ho hc hd (fun h' c' kp e=>fin its r' hz h' c' kp e) (by simp only[List.size_toArray] <;> omega)
 ·obtain⟨its,r',pl,hz⟩:=I.tuple hq
  have hlen:=r'.length
  obtain⟨o,ho,hc,n,hd⟩:=pl
  exact call_list_seq p (.inr rfl) ho hc hd (fun h' c' kp e=>fin its r' hz h' c' kp e) (by simp only[List.size_toArray] <;> omega)
theorem zb6:Jg X (.type "tuple") (fun xs H Q=>∃p ys,xs=[.ref p]/\((SqL X.K H p ys/\∀l,H l=none->Q (.ref l) (upd H l (.tup ys)))\/(SqT X.K H p ys/\Q (.ref p) H))):=by
 intro pins s σ H xs us Q I r h
 obtain⟨p,ys,rfl,h⟩:=h
 obtain⟨u,rfl,rx⟩:=Ja r
 cases rx
 rcases h with ⟨hq,q⟩ | ⟨hq,q⟩
 ·obtain⟨its,r',pl,hz⟩:=I.list hq
  have hlen:=r'.length
  refine call_tuple_list pl.isList (fun h' kp=>?_) (by simp only[List.size_toArray] <;> omega)
  have I1:Inv X pins σ H { s with heap:=h' }:=I.kept (t':=s.toks) kp
  have I2:Inv X pins σ (upd H h'.objs.size (.tup ys)) { s with heap:=h'.push { cls:=.type "tuple",data:=.seq its.toArray } }:=
   I1.laid (t':=s.toks) (fun b o e=>Heap.get?_push_of_some _ e) (Nat.le_refl _) (show Vd X.prog X.w _ _ _ (.tup ys) from⟨hz,its,r',IsTup.new _ _⟩)
  exact⟨.ref h'.objs.size,_,I2,rfl,q _ (I1.hok.fresh (Nat.le_refl _))⟩
 ·obtain⟨its,r',pl,hz⟩:=I.tuple hq
  exact call_tuple_same pl ⟨.ref p,H,I,rfl,q⟩
def tyV (K:PySem.W.Frag) (T:String) (x:V) (H:Hp):Prop:=match x with
 | .str _=>T = "str"
 | .int _=>T = "int"
 | .ref p=>(T = "list" /\ ∃xs,SqL K H p xs)\/(T = "tuple" /\ ∃o,K.lookup p=some o/\o.cls=.type "tuple" /\ o.dict=none) \/
   (T = "dict" /\ ((∃kvs,H p=some (.dK kvs))\/∃kvs,H p=some (.dT kvs)))\/(T = "set" /\ ∃S n,H p=some (.set S n))
 | _=>False
theorem tyV_is {pins:List (Addr × Obj)}{σ:St}{H:Hp}{s:Shared}{T:String}{x:V}{v:Value}(I:Inv X pins σ H s) (r:RelV x v) (ty:tyV X.K T x H) :
  s.TypeIs v T/\∀a,v=.ref a->∃ob,s.heap.get? a=some ob/\ob.dict=none:=by
 cases x with
 | str z=>
  obtain⟨t,rfl⟩:=r
  cases(show T = "str" from ty)
  exact⟨typeIs_str s z t,fun _ e=>nomatch e⟩
 | int i=>
  obtain⟨t,rfl⟩:=r
  cases(show T = "int" from ty)
  exact⟨typeIs_int s i t,fun _ e=>nomatch e⟩
 | ref p=>
  cases r
  rcases ty with ⟨rfl,xs,hq⟩ | ⟨rfl,o,hk,hc,hd⟩ | ⟨rfl,hk⟩ | ⟨rfl,S,n,hk⟩
  ·obtain⟨its,_,pl,_⟩:=I.list hq
   refine⟨pl.isList.typeIs,fun a e=>?_⟩
   cases e
   obtain⟨o,n,e,c,hd,_⟩:=pl
   exact⟨o,e,hd⟩
  ·refine⟨⟨o,I.kIn p o hk,hc⟩,fun a e=>?_⟩
   cases e
   exact⟨o,I.kIn _ o hk,hd⟩
  ·have z:∃o,s.heap.get? p=some o/\o.ExactDict:=by
    rcases hk with ⟨kvs,hk⟩ | ⟨kvs,hk⟩
    ·obtain⟨_,_,_,_,o,_,_,e,ex,_⟩:=I.hok p _ hk
     exact⟨o,e,ex⟩
    ·obtain⟨_,_,_,_,o,_,_,e,ex,_⟩:=I.hok p _ hk
     exact⟨o,e,ex⟩
   obtain⟨o,e,ex⟩:=z
   refine⟨⟨o,e,ex.1⟩,fun a e2=>?_⟩
   cases e2
   exact⟨o,e,ex.2.1⟩
  ·obtain⟨o,_,_,_,e,ex,_⟩:=I.hok p _ hk
   refine⟨⟨o,e,ex.1⟩,fun a e2=>?_⟩
   cases e2
   exact⟨o,e,ex.2.1⟩
 | _=>exact False.elim ty
def tBM (K:PySem.W.Frag) (T:String) (r:V->List V->Hp->VK->Prop) (to:TE) (t:TA):TE:=fun σ H Q=>to σ H fun x H1=>tyV K T x H1/\t σ H1 fun xs H2=>r x xs H2 Q
variable {o e:Expr}{es:List Expr}{to:TE}{t:TA}{name:Str}{apos cpos:Pos}{T id:String}{r:V->List V->Hp->VK->Prop}
theorem pe_bm (pa:PlainAttrs T) (slot:Slot T name id) (hty:typeOf (.builtin id)=pure (.type "method_descriptor")) (hm:MtR X id r) (ho:PE X o to) (ha:PA X (e::es) t)
  (hbase:attributeBase o name X.env (eval o X.env)=eval o X.env:=by rfl)
  (hfew:((backTo cpos (starEach (e::es) X.env)).all (fun x=>!x.1) && (backToKw cpos (keywordEach [] X.env)).all (fun x=>x.1.isSome)
   && decide ((e::es).length+([]:List Keyword).length+(if([]:List Keyword).isEmpty then 0 else 1) < 30))=true:=by rfl)
  (hline:(apos.endLine == cpos.line)=true:=by rfl) (hs:starEach (e::es) X.env=(false,eval e X.env)::starEach es X.env:=by rfl) (hplain:(backTo cpos (starEach es X.env)).any (·.1)=false:=by rfl) :
  PE X (.Call (.Attribute o name apos) (e::es) [] cpos) (tBM X.K T r to t):=by
 intro pins s σ H Q I h
 refine wpAny_Call_method_late hbase hfew hline rfl (thn (ho pins s σ H _ I h) fun v s1 ⟨x,H1,I1,r1,ty,q1⟩=>?_)
 obtain⟨h1,h2⟩:=tyV_is I1 r1 ty
 refine⟨T,id,pa,slot,hty,h1,h2,?_⟩
 have hA:=ha cpos pins s1 σ H1 _ I1 q1
 rw[hs] at hA ⊢
 refine Calls.callWith_builtin (by show(false || (backTo cpos (starEach es X.env)).any (·.1))=false;rw[hplain] <;> rfl) (Calls.evalArgs_plain ?_)
 exact thn hA fun us s2 ⟨vs,H2,I2,r2,q2⟩=>hm pins s2 σ H2 x vs v us Q I2 r1 r2 q2
end
end L2
namespace L2
open PySem PySem.Spec PyProof.Rows
def MtM (X:Cx) (id:String) (r:V->List V->Hp->VK->Prop):Prop:=
 ∀(pins:List (Addr × Obj)) (s:Shared) (σ:St) (H:Hp) (x:V) (xs:List V) (v:Value) (us:List Value) (Q:VK),Inv X pins σ H s->RelV x v->Vals xs us->r x xs H Q ->
  wpAny (model X.prog X.w) X.A (call (.builtin id) (v::us)) (EP X pins σ Q) X.xe s
theorem Vals.one:∀{x:V}{us:List Value},Vals [x] us->∃u,us=[u]/\RelV x u
 | _,_,.cons r .nil=>⟨_,rfl,r⟩
theorem Vals.rep {xs:List V}{us:List Value}(h:Vals xs us):∀k:Nat,Vals (List.replicate k xs).flatten (List.replicate k us).flatten
 | 0=>.nil
 | k+1=>by
  rw[List.replicate_succ,List.replicate_succ,List.flatten_cons,List.flatten_cons]
  exact Vals.append h (Vals.rep h k)
theorem zcR (its:List Value):∀(k:Nat) (acc:List Value),
  List.foldl (fun x1 x2=>x1++x2) acc.toArray (List.replicate k its.toArray)=(acc++(List.replicate k its).flatten).toArray
 | 0,acc=>by simp
 | k+1,acc=>by
  have e:acc.toArray++its.toArray=(acc++its).toArray:=by simp
  have e2:(acc++its)++(List.replicate k its).flatten=acc++(List.replicate (k+1) its).flatten:=by
   rw[List.replicate_succ,List.flatten_cons,List.append_assoc]
  rw[<- e2,<- zcR its k (acc++its),<- e,List.replicate_succ,List.foldl_cons]
section
variable {X:Cx}{pins:List (Addr × Obj)}{σ:St}{H:Hp}{s:Shared}{l b:Addr}{xs ys zs:List V}
theorem Inv.lset {its its':List Value}{n:Nat}{f:Array Value->Array Value}{t':Nat}(I:Inv X pins σ H s) (hH:H l=some (.lst xs))
  (e:s.heap.get? l=some { cls:=.type "list",data:=.seq its.toArray n }) (hf:f its.toArray=its'.toArray) (hv:Vals ys its') (hz:ys.length<=sizeLine) :
  Inv X pins σ (upd H l (.lst ys)) { s with heap:=s.heap.update l (Obj.mapSeq f),toks:=t' }:=by
 have q:=PySem.IsL.update e f
 rw[hf] at q
 refine I.write (x:=l) (e:=l) (by rw[hH];exact trivial) (.inl rfl) (fun b' u hb hu=>(Heap.get?_update_other s.heap (Obj.mapSeq f) (Ne.symm hb)).trans hu) ⟨_,q⟩ ?_
 exact⟨hz,its',_,hv,q⟩
theorem Inv.lnew {its:List Value}{t':Nat}(I:Inv X pins σ H s) (hv:Vals ys its) (hz:ys.length<=sizeLine) :
  Inv X pins σ (upd H s.heap.objs.size (.lst ys)) { s with heap:=s.heap.push { cls:=.type "list",data:=.seq its.toArray },toks:=t' }:=
 I.laid (fun _ _ q=>Heap.get?_push_of_some _ q) (Nat.le_refl _) ⟨hz,its,0,hv,Heap.get?_push_size _ rfl⟩
theorem Inv.fresh (I:Inv X pins σ H s):H s.heap.objs.size=none:=I.hok.fresh (Nat.le_refl _)
theorem Inv.lstM (I:Inv X pins σ H s) (hH:H l=some (.lst xs)):xs.length<=sizeLine/\∃(its:List Value) (n:Nat),Vals xs its/\xs.length=its.length/\s.heap.get? l=some { cls:=.type "list",data:=.seq its.toArray n }:=by
 obtain⟨z,its,n,r,e⟩:=I.hok l _ hH
 exact⟨z,its,n,r,r.length,e⟩
theorem notLongL {n:Nat}(h:n<=sizeLine):Builtin.List.listTooLong n=false:=by
 unfold Builtin.List.listTooLong
 exact decide_eq_false (by omega)
end
section
variable {X:Cx}
def rAppend:V->List V->Hp->VK->Prop:=fun x vs H Q=>∃l xs y,x=.ref l/\vs=[y]/\H l=some (.lst xs)/\xs.length < sizeLine/\Q .non (upd H l (.lst (xs++[y])))
theorem zcG:MtM X "list.append" rAppend:=by
 intro pins s σ H x vs v us Q I rx rv h
 obtain⟨l,xs,y,rfl,rfl,hH,hz,q⟩:=h
 cases rx
 obtain⟨u,rfl,ru⟩:=rv.one
 obtain⟨z,its,n,r,hl,e⟩:=I.lstM hH
 refine call_meets F.slot_list_append ⟨_,e,rfl⟩ F.entry_list_append (F.args_list_append_2 _ _) (PySem.list_append l its.toArray n u (by rw[List.size_toArray];omega)) ⟨e,?_⟩
 refine⟨.non,_,I.lset (its':=its++[u]) hH e (by simp) (r.append (.cons ru .nil)) ?_,rfl,q⟩
 rw[List.length_append,List.length_singleton]
 omega
def rRep:R2:=fun x y H Q=>∃l k xs,x=.ref l/\y=.int k/\H l=some (.lst xs)/\-(2 ^ 63)<=k/\k < 2 ^ 63/\xs.length * k.toNat<=sizeLine /\
 ∀p,H p=none->Q (.ref p) (upd H p (.lst (List.replicate k.toNat xs).flatten))
theorem len_rep {α:Type}(xs:List α) (k:Nat):(List.replicate k xs).flatten.length=k * xs.length:=by
 induction k with
 | zero=>simp
 | succ k ih=>rw[List.replicate_succ,List.flatten_cons,List.length_append,ih,Nat.succ_mul,Nat.add_comm]
theorem op_rep:OpR X (binaryOp .Mult) rRep:=by
 intro pins s σ H x y v u Q I rx ry h
 obtain⟨l,k,xs,rfl,rfl,hH,h1,h2,hz,q⟩:=h
 cases rx
 obtain⟨t,rfl⟩:=ry
 obtain⟨z,its,n,r,hl,e⟩:=I.lstM hH
 have hlen:its.toArray.size * k.toNat<=sizeLine:=by rw[List.size_toArray,<- hl];exact hz
 have hcap:¬its.toArray.size * k.toNat > (2 ^ 63 - 1) / 8:=by
  have:(sizeLine:Nat)<=(2 ^ 63 - 1) / 8:=by decide
  omega
 have hfit:¬(!Builtin.List.listFitsIndex k)=true:=by
  rw[fitsIndex_both h1 h2]
  exact Bool.false_ne_true
 have hlong:¬Builtin.List.listTooLong (its.toArray.size * k.toNat)=true:=by
  rw[notLongL hlen]
  exact Bool.false_ne_true
 have hnew:List.foldl (fun x1 x2=>x1++x2) #[] (List.replicate (if its.toArray.isEmpty=true then 0 else k.toNat) its.toArray)=(List.replicate k.toNat its).flatten.toArray:=by
  have f0:∀m:Nat,List.foldl (fun x1 x2=>x1++x2) #[] (List.replicate m its.toArray)=(List.replicate m its).flatten.toArray:=fun m=>by
   have:=zcR its m []
   rw[List.nil_append] at this
   exact this
  rw[f0]
  cases its with
  | nil=>simp
  | cons a r'=>rw[if_neg (by simp)]
 refine wpAny_binaryOp_repeat_ref (T:="list") (U:="int") (by decide) ⟨_,e,rfl⟩ (fun s'=>typeIs_int s' k t) noFill_list_mul F.fills_int_mul F.slot_int_rmul repeat_list F.slot_int_index.lookup
  (call_meets F.slot_int_rmul (typeIs_int s k t) F.entry_int_rmul (F.args_int_rmul_2 _ _) (int___rmul___int_list k t l its.toArray n)
   ⟨e,rfl,⟨_,e,rfl⟩,call_meets F.slot_list_mul ⟨_,e,rfl⟩ F.entry_list_mul (F.args_list_mul_2 _ _) (AutoListH.list___mul___list_int_3 l its.toArray n k t hfit hcap hlong) ⟨e,?_⟩⟩)
 rw[hnew]
 exact⟨.ref _,_,I.lnew (t':=s.toks) (r.rep k.toNat) (by rw[len_rep,Nat.mul_comm];exact hz),rfl,q _ I.fresh⟩
end
end L2
namespace Att
open PySem PySem.W PySem.Calls PyProof.Rows
theorem JN {P:Params}{h:Heap}:∀(ns:List Int) (vs:List Value),WellAll P h vs (ns.map WData.int)->IntsAre vs ns:=by
 intro ns
 induction ns with
 | nil=>
  intro vs w
  rw[List.map_nil] at w
  cases w
  exact .nil
 | cons n ns ih=>
  intro vs w
  rw[List.map_cons] at w
  cases w with
  | cons a b=>
   cases a
   exact .cons _ _ (ih _ b)
theorem zf9 {l:OpenLaw}{n:Nat}(hn:l.most=some n) {P:Params}{h:Heap}{args:List WData}{vals:List Value}
  (hpre:l.row.toRowW.claim.pre args=true) (hwl:WellAll P h vals args) :
  ∃a vs ns,vals=[Value.ref a]/\args=[WData.list (ns.map WData.int)]/\h.get? a=some { cls:=.type "list",data:=.seq vs.toArray }/\IntsAre vs ns/\ns.length<=n:=by
 have hsh:WShape.hasAll [] args [.list .int]=true:=(pre_splitW hpre).1
 have hc:l.pre.holds [] { args:=args }=true:=(pre_splitW hpre).2
 obtain⟨d,r,rfl,h1,h2⟩:=hasAllW_cons hsh
 obtain rfl:=hasAllW_nil h2
 obtain⟨xs,rfl,h3⟩:=hasW_list h1
 obtain⟨ns,rfl⟩:=items_int h3
 have hlen:ns.length<=n:=by
  unfold OpenLaw.pre at hc
  have h4:(WTm.not (.lt (.lit (.int (n:Int))) (.len (.arg 0)))).holds [] { args:=[.list (ns.map .int)] }=true:=by
   have h4:=(holds_andW hc).1
   rw[hn] at h4
   exact h4
  have h5:=condW_of h4 (w_not (w_lt w_lit (w_len_list (w_arg rfl))))
  rw[List.length_map] at h5
  refine Nat.le_of_not_lt fun q=>?_
  have q':(n:Int) < ((ns.length:Nat):Int):=by omega
  first
   | (rw[decide_eq_true q'] at h5;exact absurd h5 (by decide))
   | (simp at h5;omega)
 cases hwl with
 | cons w1 w2=>
  cases w2
  cases w1 with
  | list ho hall=>exact⟨_,_,ns,rfl,rfl,ho,JN ns _ hall,hlen⟩
theorem zgw (l:OpenLaw) (args:List WData):l.row.toRowW.claim.post args (.bool true) args=true:=
 postW_of (r:=l.row.toRowW) (X:=(true == true))
  (show WShape.has [] (.bool true) .bool=true by first | rfl | decide | simp[WShape.has,WShape.arms,WShape.armsAll])
  (show(WTm.eq .res (.lit (.bool true))).value [] { args:=args,res:=some (.bool true),after:=args }=some (.bool (true == true)) from w_eq_bool (w_res rfl) w_lit) rfl
theorem attach_call {l:OpenLaw}{n:Nat}{q:Program}{loose:List Str}{XP:(Str->Option Value)->Heap->Prop}{YP:World->Heap->Prop}{d:DefRec}
  (hn:l.most=some n) (hdf:d.params.defaults=[])
  (call:∀(w:World) (s₀ s₁:Shared) (mg mb:Str->Option Value) (fa:Addr) (o:Obj) (pm cd doc:Value) (a:Addr) (vs:List Value) (ns:List Int),
   Ground q loose [] XP w s₀ mg mb s₁.heap->YP w s₁.heap ->
   s₁.heap.get? fa=some o->o.data=.func (docDef d.name d.params d.body d.scope pm cd doc)->s₁.heap.CodeRec cd d.name->mg d.name=some (.ref fa) ->
   s₁.heap.get? a=some { cls:=.type "list",data:=.seq vs.toArray }->IntsAre vs ns->ns.length<=n->s₁.gens=#[] ->
   codeAny (model l.prog w) callerA (.call (.ref fa) ⟨[.ref a],[]⟩) (fun r s'=>r=.ok (.ret (.bool true))/\OldK s₁.heap s'.heap/\s'.os=s₁.os/\AllBare s'.gens) s₁) :
  WalkO q loose XP YP l.row.toRowW d [] (fun f vs=>PySem.call f vs):=by
 intro w s₀ s₁ mg mb G Y fa o pm cd doc dV kV ho hd hcd hD hmg hg args vals as hpre hlay hrd hwl hlo
 obtain rfl:dV=.none:=Dflts.none hD hdf
 obtain rfl:kV=.none:=Dflts.noKw hD
 obtain⟨a,vs,ns,rfl,rfl,hobj,hints,hlen⟩:=zf9 hn hpre hwl
 refine enter_call (codeAny_mono (call w s₀ s₁ mg mb fa o pm cd doc a vs ns G Y ho (fd_plain hd) hcd hmg hobj hints hlen hg) fun r s' hq=>?_)
 obtain⟨rfl,h2,h3,h4⟩:=hq
 exact⟨.inl ⟨.bool true,.bool true,[],rfl,fun _=>rfl,.bool true,zgw l _,fun _=>⟨List.Pairwise.nil,fun _ hm=>(nomatch hm)⟩⟩,h2,h3,h4⟩
end Att
namespace L2
open PySem PySem.Spec PyProof.Rows
theorem zce:∀{vs:List Value}{ns:List Int},IntsAre vs ns->Vals (ns.map V.int) vs
 | _,_,.nil=>.nil
 | _,_,.cons n t h=>.cons ⟨t,rfl⟩ (zce h)
end L2
namespace L2
open PySem PySem.Spec PyProof.Rows
def Zn (s:Stmt):Arguments:=match s with
 | .FunctionDef _ a _ _ _ _ _ _ _ _=>a
 | _=>{ posonlyargs:=[],args:=[],vararg:=none,kwonlyargs:=[],kw_defaults:=[],kwarg:=none,defaults:=[] }
def Zl (s:Stmt):List Stmt:=match s with
 | .FunctionDef _ _ b _ _ _ _ _ _ _=>b
 | _=>[]
def Zd (s:Stmt):Scope:=match s with
 | .FunctionDef _ _ _ _ _ _ sc _ _ _=>sc
 | _=>{ kind:=.function,names:=[],isGenerator:=false,isCoroutine:=false }
abbrev CX0:CXT:=fun _ _ _ _ _ _=>False
abbrev E0:XK:=fun _ _ _=>False
theorem pass0 {X:Cx}:Q8 CX0 X E0:=fun _ _ _ _ _ _ _ h=>h.elim
structure Fun (K:PySem.W.Frag) (x qual:Str) (st:Stmt) (f:Addr) (fd:FuncData):Prop where
 ex:∃(oc:Value) (od:Option Addr) (kV doc pm:Value) (an:Option Addr) (cdv ct:Value) (osl:Array (Option Value)),
  fd=PySem.W.fnOf x qual (Zn st) (Zl st) (Zd st) .none kV doc pm an cdv ct/\K.lookup f=some ⟨oc,od,.func fd,osl⟩/\PySem.W.codeIn K cdv qual=true
 kp:PySem.W.keepIn K (.ref f)=true
section
variable {P:Program}{w:World}{K:PySem.W.Frag}{mg:Str->Option Value}{base:Heap}
theorem Fun.ok {x qual:Str}{st:Stmt}{f:Addr}{fd:FuncData}{N ps:List Str}{k:Nat}{sp:Sp}(F:Fun K x qual st f fd) (S:FnScope N ps (Zd st)) (len:∀vs H Q E,sp vs H Q E->vs.length=ps.length)
  (hbody:∀(cdv:Value) (A:Around) (outer:List Env) (s:Shared) (H:Hp) (vs:List V) (Q:VK) (E:XK),Room k (A.deeper (envOfC qual (Zd st) s.heap.objs.size f cdv))->sp vs H Q E ->
   ∃t,PSs (cxOf CX0 P w K mg base N qual (Zd st) f cdv A outer s H E).nox (Zl st) t/\t { nx:=fun _ H'=>Q .non H',rt:=Q } (start N vs) H):FnOk P w K mg base CX0 (k+1) f fd ps sp:=by
 obtain⟨oc,od,kV,doc,pm,an,cdv,ct,osl,rfl,lk,hcd⟩:=F.ex
 refine fn_of lk hcd S len fun A outer s H vs Q E hr hsp=>?_
 obtain⟨t,h,q⟩:=hbody cdv A outer s H vs Q E hr hsp
 exact⟨t,h.nox,q⟩
theorem Fun.binds {x qual:Str}{st:Stmt}{f:Addr}{fd:FuncData}{ps:List Str}(F:Fun K x qual st f fd)
  (h:∀(kV doc pm:Value) (an:Option Addr) (cdv ct:Value) (us:List Value),us.length=ps.length->bindArgs (PySem.W.fnOf x qual (Zn st) (Zl st) (Zd st) .none kV doc pm an cdv ct) ⟨us,[]⟩=pure (ps.zip us)):ZG K fd ps []:=by
 obtain⟨oc,od,kV,doc,pm,an,cdv,ct,osl,rfl,lk,hcd⟩:=F.ex
 exact .all (h kV doc pm an cdv ct)
theorem Zx {x qual:Str}{st:Stmt}{f:Addr}{oc:Value}{od an:Option Addr}{osl:Array (Option Value)}{kV doc pm cdv ct:Value}(l:K.lookup f=some ⟨oc,od,.func (PySem.W.fnOf x qual (Zn st) (Zl st) (Zd st) .none kV doc pm an cdv ct),osl⟩)
  (c:PySem.W.codeIn K cdv qual=true) (k:PySem.W.keepIn K (.ref f)=true):Fun K x qual st f (PySem.W.fnOf x qual (Zn st) (Zl st) (Zd st) .none kV doc pm an cdv ct):=⟨⟨oc,od,kV,doc,pm,an,cdv,ct,osl,rfl,l,c⟩,k⟩
end
section
variable {X:Cx}
theorem pv (i:Nat) {x:Str}{pos:Pos}(hN:X.N[i]? = some x:=by rfl) (hv:Vis X.env.scope x:=by first | exact Or.inl rfl | exact Or.inr (Or.inl rfl) | exact Or.inr (Or.inr rfl)) (hd:(x == ("__debug__" : Str))=false:=by decide)
  (hcd:(x == ("__classdict__" : Str))=false:=by decide):PE X (.Name x pos) (tVar i):=zcA hN hv hd hcd
end
theorem iteF {A B:Prop}(h:B):if false=true then A else B:=by
 rw[if_neg Bool.false_ne_true]
 exact h
theorem iteT {A B:Prop}(h:A):if true=true then A else B:=by
 rw[if_pos rfl]
 exact h
end L2
namespace Fx
open PySem
inductive Sl where
 | emp | val (t:PyData) | own (xs:List PyData) | dct (es:List (PyData × PyData))
inductive Res (α:Type) where
 | ok (a:α) | exc (c:Str) | stuck
def Res.bind {α β:Type}(r:Res α) (f:α->Res β):Res β:=
 match r with
 | .ok a=>f a
 | .exc c=>.exc c
 | .stuck=>.stuck
@[simp] theorem Res.bind_ok {α β : Type} (a : α) (f : α -> Res β) : Res.bind (.ok a) f = f a := rfl
@[simp] theorem Res.bind_exc {α β : Type} (c : Str) (f : α -> Res β) : Res.bind (.exc c) f = .exc c := rfl
@[simp] theorem Res.bind_stuck {α β : Type} (f : α -> Res β) : Res.bind .stuck f = .stuck := rfl
abbrev DE:=List Sl->Res PyData
abbrev DT:=List Sl->Res Bool
abbrev DA:=List Sl->Res (List PyData)
inductive Out where
 | nx (G:List Sl) | rt (t:PyData) | bk (G:List Sl) | ct (G:List Sl)
abbrev DS:=List Sl->Res Out
abbrev DF:=List PyData->Res PyData
@[simp] def frz1 (G : List Sl) (i : Nat) : List Sl :=
 match G[i]? with
 | some (.own xs)=>G.set i (.val (.list xs))
 | _=>G
@[simp] def frz (is : List Nat) (G : List Sl) : List Sl := is.foldl frz1 G
@[simp] def frzA : List Sl -> List Sl
 | []=>[]
 | .own xs::r=>.val (.list xs)::frzA r
 | .emp::r=>.emp::frzA r
 | .val t::r=>.val t::frzA r
 | .dct _::r=>.emp::frzA r
@[simp] def frzS : Sl -> Sl
 | .own xs=>.val (.list xs)
 | .emp=>.emp
 | .val t=>.val t
 | .dct _=>.emp
@[simp] theorem frzA_cons (s : Sl) (G : List Sl) : frzA (s :: G) = frzS s :: frzA G := by cases s <;> simp
mutual
def XC:PyData->Bool
 | .none | .bool _ | .int _ | .str _=>true
 | .tuple xs=>Vj xs
 | .list _=>false
 | .dict _=>false
def Vj:List PyData->Bool
 | []=>true
 | x::xs=>XC x && Vj xs
end
@[simp] theorem scalT_tuple (xs : List PyData) : XC (.tuple xs) = Vj xs := by simp [XC]
@[simp] theorem scalT_dict (xs : List (PyData × PyData)) : XC (.dict xs) = false := by simp [XC]
@[simp] theorem scalT_list (xs : List PyData) : XC (.list xs) = false := by simp [XC]
@[simp] theorem zcn (x : PyData) (xs : List PyData) : Vj (x :: xs) = (XC x && Vj xs) := by simp [Vj]
@[simp] def dC (t : PyData) : DE := fun _ => .ok t
@[simp] def dVar (i : Nat) : DE := fun G => match G[i]? with
 | some (.val t)=>.ok t
 | _=>.stuck
@[simp] def d1 (f : PyData -> Res PyData) (a : DE) : DE := fun G => (a G).bind f
@[simp] def d2 (f : PyData -> PyData -> Res PyData) (a b : DE) : DE := fun G => (a G).bind fun x => (b G).bind fun y => f x y
@[simp] def dNil : DA := fun _ => .ok []
@[simp] def Zc (a : DE) (r : DA) : DA := fun G => (a G).bind fun x => (r G).bind fun xs => .ok (x :: xs)
@[simp] def zfn (xs : List PyData) : Bool := decide (xs.length <= 16777216)
@[simp] def dTup (a : DA) : DE := fun G => (a G).bind fun xs => if zfn xs then .ok (.tuple xs) else .stuck
@[simp] def dLst (a : DA) : DE := fun G => (a G).bind fun xs => if zfn xs then .ok (.list xs) else .stuck
@[simp] def Zk (f : DF) (a : DA) : DE := fun G => (a G).bind f
@[simp] def dIfE (c : DT) (a b : DE) : DE := fun G => (c G).bind fun k => if k then a G else b G
@[simp] def zfw (a b : DE) : DE := fun G => (a G).bind fun x => match x with
 | .bool k=>if k then b G else .ok (.bool false)
 | _=>.stuck
@[simp] def dOrV (a b : DE) : DE := fun G => (a G).bind fun x => match x with
 | .bool k=>if k then .ok (.bool true) else b G
 | _=>.stuck
@[simp] def dNotV (a : DE) : DE := fun G => (a G).bind fun x => match x with
 | .bool k=>.ok (.bool (!k))
 | _=>.stuck
def XL (i j:Int):Bool:=decide (i.natAbs.log2+j.natAbs.log2+2<=134217728) || decide (i.natAbs < 18446744073709551616) || decide (j.natAbs < 18446744073709551616)
def Qu (j:Int):Bool:=decide (j ≠ 0) && decide (j.natAbs.log2 < 9000)
@[simp] def fAdd : PyData -> PyData -> Res PyData
 | .int i,.int j=>.ok (.int (i+j))
 | .list xs,.list ys=>if xs.length+ys.length<=16777216 then .ok (.list (xs++ys)) else .stuck
 | _,_=>.stuck
@[simp] def fSub : PyData -> PyData -> Res PyData
 | .int i,.int j=>.ok (.int (i - j))
 | _,_=>.stuck
@[simp] def fMul : PyData -> PyData -> Res PyData
 | .int i,.int j=>if XL i j then .ok (.int (i * j)) else .stuck
 | _,_=>.stuck
@[simp] def fDiv : PyData -> PyData -> Res PyData
 | .int i,.int j=>if Qu j then .ok (.int (i.fdiv j)) else .stuck
 | _,_=>.stuck
@[simp] def fMod : PyData -> PyData -> Res PyData
 | .int i,.int j=>if j=0 then .stuck else .ok (.int (i.fmod j))
 | _,_=>.stuck
@[simp] def fPow : PyData -> PyData -> Res PyData
 | .int i,.int j=>if 0<=j/\j<=1000000/\i.natAbs < 2 ^ 64 then .ok (.int (i ^ j.toNat)) else .stuck
 | _,_=>.stuck
@[simp] def fNeg : PyData -> Res PyData
 | .int i=>.ok (.int (-i))
 | _=>.stuck
@[simp] def fLt : PyData -> PyData -> Res PyData
 | .int i,.int j=>.ok (.bool (decide (i < j)))
 | _,_=>.stuck
@[simp] def fLe : PyData -> PyData -> Res PyData
 | .int i,.int j=>.ok (.bool (decide (i<=j)))
 | _,_=>.stuck
@[simp] def fGt : PyData -> PyData -> Res PyData
 | .int i,.int j=>.ok (.bool (decide (j < i)))
 | _,_=>.stuck
@[simp] def fGe : PyData -> PyData -> Res PyData
 | .int i,.int j=>.ok (.bool (decide (j<=i)))
 | _,_=>.stuck
def Xl (d:PyData):Bool:=d.canLay0 && decide (d.depth<=64)
def fEq:PyData->PyData->Res PyData
 | .int i,.int j=>.ok (.bool (decide (i=j)))
 | x,y=>if Xl x && Xl y then .ok (.bool (x.eqv y)) else .stuck
def fNe:PyData->PyData->Res PyData
 | .int i,.int j=>.ok (.bool (!decide (i=j)))
 | x,y=>if Xl x && Xl y then .ok (.bool (!x.eqv y)) else .stuck
@[simp] def fIsN : PyData -> Res PyData
 | .none=>.ok (.bool true)
 | _=>.ok (.bool false)
@[simp] def UZ : PyData -> Res PyData
 | .none=>.ok (.bool false)
 | _=>.ok (.bool true)
@[simp] def fLen : PyData -> Res PyData
 | .list xs=>.ok (.int xs.length)
 | .tuple xs=>.ok (.int xs.length)
 | _=>.stuck
@[simp] def fAbs : PyData -> Res PyData
 | .int i=>.ok (.int (if i < 0 then -i else i))
 | _=>.stuck
def ixP (n:Nat) (i:Int):Option Nat:=if 0<=i then(if i < n then some i.toNat else none) else if -(n:Int)<=i then some (i+n).toNat else none
def atP (xs:List PyData) (i:Int):Option PyData:=(ixP xs.length i).bind fun j=>xs[j]?
@[simp] def ofO {α : Type} : Option α -> Res α
 | some a=>.ok a
 | none=>.stuck
@[simp] def fIx : PyData -> PyData -> Res PyData
 | .list xs,.int i=>ofO (atP xs i)
 | .tuple xs,.int i=>ofO (atP xs i)
 | _,_=>.stuck
@[simp] def isInt : PyData -> Bool
 | .int _=>true
 | .bool _=>true
 | _=>false
@[simp] def isBool : PyData -> Bool
 | .bool _=>true
 | _=>false
@[simp] def zdK : PyData -> Bool
 | .tuple _=>true
 | _=>false
@[simp] def isList : PyData -> Bool
 | .list _=>true
 | _=>false
@[simp] def fIs (p : PyData -> Bool) : PyData -> Res PyData
 | .dict _=>.stuck
 | .none=>.ok (.bool (p .none))
 | .bool b=>.ok (.bool (p (.bool b)))
 | .int b=>.ok (.bool (p (.int b)))
 | .str b=>.ok (.bool (p (.str b)))
 | .list b=>.ok (.bool (p (.list b)))
 | .tuple b=>.ok (.bool (p (.tuple b)))
@[simp] def fIsX : PyData -> Res PyData
 | .dict []=>.ok (.bool true)
 | _=>.stuck
@[simp] def fList : PyData -> Res (List PyData)
 | .list xs=>.ok xs
 | .tuple xs=>.ok xs
 | _=>.stuck
@[simp] def zhn : PyData -> Res PyData
 | .list xs=>.ok (.tuple xs)
 | .tuple xs=>.ok (.tuple xs)
 | _=>.stuck
@[simp] def truth : PyData -> Res Bool
 | .none=>.ok false
 | .bool b=>.ok b
 | .int i=>.ok (i != 0)
 | .list xs=>.ok (!xs.isEmpty)
 | .tuple xs=>.ok (!xs.isEmpty)
 | _=>.stuck
@[simp] def tV (a : DE) : DT := fun G => (a G).bind truth
@[simp] def tAnd (a b : DT) : DT := fun G => (a G).bind fun k => if k then b G else .ok false
@[simp] def tOr (a b : DT) : DT := fun G => (a G).bind fun k => if k then .ok true else b G
@[simp] def tNot (a : DT) : DT := fun G => (a G).bind fun k => .ok (!k)
@[simp] def dSeq (a b : DS) : DS := fun G => (a G).bind fun o => match o with
 | .nx G'=>b G'
 | .rt t=>.ok (.rt t)
 | .bk G'=>.ok (.bk G')
 | .ct G'=>.ok (.ct G')
@[simp] def Z2 : DS := fun G => .ok (.nx G)
@[simp] def dNev : DS := fun _ => .stuck
@[simp] def X6 (c : Str) (a : DA) : DS := fun G => (a (frzA G)).bind fun _ => .exc c
def dSet (i:Nat) (is:List Nat) (e:DE):DS:=fun G=>(e (frz is G)).bind fun t=>.ok (.nx ((if XC t then G else frz is G).set i (.val t)))
@[simp] theorem zb3 (i : Nat) (e : DE) (G : List Sl) : dSet i [] e G = (e G).bind fun t => .ok (.nx (G.set i (.val t))) := by
 unfold dSet
 show(e G).bind _=_
 congr 1
 funext t
 show Res.ok (Out.nx ((if XC t=true then G else G).set i (.val t)))=_
 rw[ite_self]
@[simp] theorem dSet_cons (i j : Nat) (is : List Nat) (e : DE) (G : List Sl) : dSet i (j :: is) e G = (e (frz (j :: is) G)).bind fun t => .ok (.nx ((if XC t then G else frz (j :: is) G).set i (.val t))) := rfl
@[simp] def Jf (i : Nat) (is : List Nat) (e : DA) : DS := fun G => (e (frz is G)).bind fun xs => if i < G.length then .ok (.nx ((frz is G).set i (.own xs))) else .stuck
@[simp] def dRet (e : DE) : DS := fun G => (e (frzA G)).bind fun t => .ok (.rt t)
@[simp] def dIf (c : DT) (a b : DS) : DS := fun G => (c (frzA G)).bind fun k => if k then a G else b G
@[simp] def zc2 (e : DE) : DS := fun G => (e (frzA G)).bind fun _ => .ok (.nx G)
@[simp] def zdc (i : Nat) (G' : List Sl) (t : PyData) : Res Out :=
 match G'[i]? with
 | some (.own xs)=>if xs.length < 16777216 then .ok (.nx (G'.set i (.own (xs++[t])))) else .stuck
 | _=>.stuck
@[simp] def zbM (G : List Sl) (i : Nat) : Bool := match G[i]? with
 | some (.own _)=>true
 | _=>false
def dApp (i:Nat) (is:List Nat) (e:DE):DS:=fun G=>if zbM G i then(e (frz is G)).bind fun t=>zdc i (if XC t then G else frz is G) t else .stuck
@[simp] theorem dApp_nil (i : Nat) (e : DE) (G : List Sl) : dApp i [] e G = if zbM G i then (e G).bind fun t => zdc i G t else .stuck := by
 unfold dApp
 congr 1
 show(e G).bind _=_
 congr 1
 funext t
 show zdc i (if XC t=true then G else G) t=_
 rw[ite_self]
@[simp] theorem dApp_cons (i j : Nat) (is : List Nat) (e : DE) (G : List Sl) : dApp i (j :: is) e G = if zbM G i then (e (frz (j :: is) G)).bind fun t => zdc i (if XC t then G else frz (j :: is) G) t else .stuck := rfl
def forL (st:PyData->List Sl->Res (List Sl)) (b:DS):List PyData->List Sl->Res Out
 | [],G=>.ok (.nx G)
 | t::ts,G=>(st t G).bind fun G1=>(b G1).bind fun o=>match o with
  | .nx G'=>forL st b ts G'
  | .ct G'=>forL st b ts G'
  | .bk G'=>.ok (.nx G')
  | .rt t=>.ok (.rt t)
@[simp] def dFor (st : PyData -> List Sl -> Res (List Sl)) (is : List Nat) (it : DA) (b : DS) : DS := fun G => (it (frz is G)).bind fun ts => forL st b ts (frz is G)
@[simp] def Zw (i : Nat) : PyData -> List Sl -> Res (List Sl) := fun t G => .ok (G.set i (.val t))
def Yi (c:DT) (b:DS):Nat->List Sl->Res Out
 | 0,_=>.stuck
 | n+1,G=>(c (frzA G)).bind fun k=>if k then(b G).bind fun o=>match o with
   | .nx G'=>Yi c b n G'
   | .ct G'=>Yi c b n G'
   | .bk G'=>.ok (.nx G')
   | .rt t=>.ok (.rt t)
  else .ok (.nx G)
@[simp] def zam (fuel : List Sl -> Nat) (c : DT) (b : DS) : DS := fun G => Yi c b (fuel G) G
@[simp] def noX {α : Type} : Res α -> Res α
 | .ok a=>.ok a
 | _=>.stuck
@[simp] def dTry (b : DS) (sub : Str -> Bool) (h : DS) : DS := fun G => match b G with
 | .exc c=>if sub c then noX (h G) else .stuck
 | .ok o=>.ok o
 | .stuck=>.stuck
@[simp] def zan (f : DF) (a : DA) : DE := fun G => (noX (a G)).bind f
@[simp] def dTryA (i : Nat) (b : DS) (sub : Str -> Bool) (h : DS) : DS := fun G => match b G with
 | .exc c=>if sub c then(noX (h (G.set i (.val (.dict []))))).bind fun o=>match o with
  | .nx G'=>.ok (.nx (G'.set i .emp))
  | .rt t=>.ok (.rt t)
  | _=>.stuck
  else .stuck
 | .ok o=>.ok o
 | .stuck=>.stuck
@[simp] def fInt : PyData -> Res PyData
 | .int i=>.ok (.int i)
 | .bool b=>.ok (.int (if b then 1 else 0))
 | _=>.stuck
def runF (n np:Nat) (b:DS):DF:=fun ts=>if ts.length=np then(b (ts.map .val++List.replicate (n - np) .emp)).bind fun o=>match o with
  | .rt t=>.ok t
  | .nx _=>.ok .none
  | _=>.stuck
 else .stuck
theorem US {α:Type}(r:Res α):(∃a,noX r=.ok a)\/noX r=.stuck:=by
 cases r
 ·exact .inl ⟨_,rfl⟩
 ·exact .inr rfl
 ·exact .inr rfl
theorem zek {α:Type}{r:Res α}{a:α}(h:noX r=.ok a):r=.ok a:=by
 cases r <;> simp at h
 rw[h]
def runQ (n np:Nat) (b:DS):DF:=fun ts=>noX (runF n np b ts)
theorem zbs (n np:Nat) (b:DS) (ts:List PyData) (c:Str):runQ n np b ts ≠ .exc c:=by
 unfold runQ
 cases runF n np b ts <;> simp
def rngT (lo:Int) (n:Nat):List PyData:=(List.range n).map fun(k:Nat)=>.int (lo+(k:Int))
def X7 (j:Int):Bool:=decide (j.natAbs<=1000000000000)
theorem ZK {n:Nat}(h:n<=1000000000):X7 (n:Int)=true:=by
 unfold X7
 exact decide_eq_true (by omega)
theorem XR {j:Int}(h:X7 j=true):-(2 ^ 62)<=j/\j < 2 ^ 62:=by
 have h':j.natAbs<=1000000000000:=of_decide_eq_true h
 omega
@[simp] def iRng (a : DE) : DA := fun G => (a G).bind fun x => match x with
 | .int j=>if X7 j=true then .ok (rngT 0 j.toNat) else .stuck
 | _=>.stuck
@[simp] def zcP (a b : DE) : DA := fun G => (a G).bind fun x => (b G).bind fun y => match x, y with
 | .int i,.int j=>if X7 i=true/\X7 j=true then .ok (rngT i (j - i).toNat) else .stuck
 | _,_=>.stuck
theorem fLt_b:∀x y,(∃k,fLt x y=.ok (.bool k))\/fLt x y=.stuck:=by intro x y;cases x <;> cases y <;> simp
theorem fGt_b:∀x y,(∃k,fGt x y=.ok (.bool k))\/fGt x y=.stuck:=by intro x y;cases x <;> cases y <;> simp
theorem fGe_b:∀x y,(∃k,fGe x y=.ok (.bool k))\/fGe x y=.stuck:=by intro x y;cases x <;> cases y <;> simp
theorem fEq_b:∀x y,(∃k,fEq x y=.ok (.bool k))\/fEq x y=.stuck:=by
 intro x y
 unfold fEq
 split
 ·exact .inl ⟨_,rfl⟩
 ·split
  ·exact .inl ⟨_,rfl⟩
  ·exact .inr rfl
theorem fNe_b:∀x y,(∃k,fNe x y=.ok (.bool k))\/fNe x y=.stuck:=by
 intro x y
 unfold fNe
 split
 ·exact .inl ⟨_,rfl⟩
 ·split
  ·exact .inl ⟨_,rfl⟩
  ·exact .inr rfl
@[simp] def iSeq (a : DE) : DA := fun G => (a G).bind fun x => match x with
 | .list xs=>.ok xs
 | .tuple xs=>.ok xs
 | _=>.stuck
def JU:Nat->List PyData->List PyData
 | _,[]=>[]
 | n,x::r=>.tuple [.int n,x]::JU (n+1) r
def zipT:List PyData->List PyData->List PyData
 | x::xs,y::ys=>.tuple [x,y]::zipT xs ys
 | _,_=>[]
@[simp] def iEnum (a : DA) : DA := fun G => (a G).bind fun xs => .ok (JU 0 xs)
@[simp] def iZip (a b : DA) : DA := fun G => (a G).bind fun xs => (b G).bind fun ys => .ok (zipT xs ys)
@[simp] def Uc (i j : Nat) : PyData -> List Sl -> Res (List Sl)
 | .tuple [x,y],G=>.ok ((G.set i (.val x)).set j (.val y))
 | _,_=>.stuck
@[simp] def capS (cap : List Nat) (G : List Sl) : List Sl := cap.map fun i => match (G[i]? : Option Sl) with
 | some (.val t)=>.val t
 | _=>.emp
def Yj (st:PyData->List Sl->Res (List Sl)) (c:DT) (e:DE) (C:List Sl):List PyData->Res (List PyData)
 | []=>.ok []
 | t::ts=>(noX (st t C)).bind fun G1=>(c G1).bind fun k=>if k then(e G1).bind fun y=>(Yj st c e C ts).bind fun ys=>.ok (y::ys) else Yj st c e C ts
@[simp] def Yz (nv : Nat) (cap : List Nat) (st : PyData -> List Sl -> Res (List Sl)) (it : DA) (c : DT) (e : DE) : DA := fun G => (it G).bind fun ts => if ts.length <= 16777216 then Yj st c e (List.replicate nv .emp ++ capS cap G) ts else .stuck
@[simp] def tT : DT := fun _ => .ok true
def sIxT (n d:Nat):Option Int->Nat
 | none=>d
 | some i=>if i < 0 then(i+n).toNat else min i.toNat n
def cutT (xs:List PyData) (lo hi:Option Int):List PyData:=(xs.drop (sIxT xs.length 0 lo)).take (sIxT xs.length xs.length hi - sIxT xs.length 0 lo)
abbrev DP:=List Sl->Res (Option Int)
@[simp] def pNo : DP := fun _ => .ok none
@[simp] def pAt (a : DE) : DP := fun G => (a G).bind fun x => match x with
 | .int i=>.ok (some i)
 | _=>.stuck
@[simp] def oCut (a : DE) (lo hi : DP) : DA := fun G => (a G).bind fun x => (lo G).bind fun l => (hi G).bind fun h => match x with
 | .list xs=>.ok (cutT xs l h)
 | _=>.stuck
@[simp] def subs (l : List Str) (c : Str) : Bool := l.contains c
@[simp] def dL (a : DA) : DE := fun G => (a G).bind fun xs => .ok (.list xs)
@[simp] def oLst (a : DA) : DA := fun G => (a G).bind fun xs => if zfn xs then .ok xs else .stuck
@[simp] def zgR (a : DE) : DA := fun G => (a G).bind fList
@[simp] def oCat (a b : DE) : DA := fun G => (a G).bind fun x => (b G).bind fun y => match x, y with
 | .list xs,.list ys=>if xs.length+ys.length<=16777216 then .ok (xs++ys) else .stuck
 | _,_=>.stuck
def allT:List PyData->Res Bool
 | []=>.ok true
 | .bool k::r=>(allT r).bind fun m=>.ok (k && m)
 | _=>.stuck
theorem zhX:∀{xs:List PyData}{k:Bool},allT xs=.ok k->∃bs:List Bool,xs=bs.map .bool/\k=bs.all id
 | [],k,h=>by simp[allT] at h;exact⟨[],rfl,by simp[<- h]⟩
 | x::r,k,h=>by
  cases x with
  | bool b=>
   simp only[allT] at h
   cases e:allT r with
   | ok m=>
    rw[e] at h
    simp at h
    obtain⟨bs,h1,h2⟩:=zhX e
    exact⟨b::bs,by simp[h1],by simp[<- h,h2]⟩
   | exc c=>rw[e] at h;cases h
   | stuck=>rw[e] at h;cases h
  | none=>simp[allT] at h
  | int _=>simp[allT] at h
  | str _=>simp[allT] at h
  | list _=>simp[allT] at h
  | tuple _=>simp[allT] at h
  | dict _=>simp[allT] at h
theorem zeX:∀(xs:List PyData) (c:Str),allT xs ≠ .exc c
 | [],c=>by simp[allT]
 | x::r,c=>by
  cases x with
  | bool b=>
   simp only[allT]
   cases e:allT r with
   | ok m=>simp
   | exc c'=>exact absurd e (zeX r c')
   | stuck=>simp
  | none=>simp[allT]
  | int _=>simp[allT]
  | str _=>simp[allT]
  | list _=>simp[allT]
  | tuple _=>simp[allT]
  | dict _=>simp[allT]
@[simp] def fAll : PyData -> Res PyData
 | .list xs=>(allT xs).bind fun k=>.ok (.bool k)
 | _=>.stuck
@[simp] def zcl (i : Nat) (G' : List Sl) (t kt : PyData) : Res Out :=
 match G'[i]?,kt with
 | some (.own xs),.int j=>match ixP xs.length j with
  | some m=>.ok (.nx (G'.set i (.own (xs.set m t))))
  | none=>.stuck
 | _,_=>.stuck
def VU (i:Nat) (is:List Nat) (k e:DE):DS:=fun G=>(e (frz is G)).bind fun t=>if zbM (if XC t then G else frz is G) i then(k (frz is G)).bind fun kt=>zcl i (if XC t then G else frz is G) t kt else .stuck
@[simp] theorem dSetIt_nil (i : Nat) (k e : DE) (G : List Sl) : VU i [] k e G = (e G).bind fun t => if zbM G i then (k G).bind fun kt => zcl i G t kt else .stuck := by
 unfold VU
 show(e G).bind _=_
 congr 1
 funext t
 show(if zbM (if XC t=true then G else G) i=true then(k G).bind fun kt=>zcl i (if XC t=true then G else G) t kt else .stuck)=_
 rw[ite_self]
@[simp] theorem dSetIt_cons (i j : Nat) (is : List Nat) (k e : DE) (G : List Sl) : VU i (j :: is) k e G = (e (frz (j :: is) G)).bind fun t => if zbM (if XC t then G else frz (j :: is) G) i then (k (frz (j :: is) G)).bind fun kt => zcl i (if XC t then G else frz (j :: is) G) t kt else .stuck := rfl
theorem zgg {i:Nat}:∀t G c,Zw i t G ≠ .exc c:=by intro t G c;simp
theorem zgf {i j:Nat}:∀t G c,Uc i j t G ≠ .exc c:=by
 intro t G c
 unfold Uc
 split <;> simp
def zdd (nv:Nat) (st:PyData->List Sl->Res (List Sl)):Prop:=∀t G G1,st t G=.ok G1->G1.length=G.length/\∀i,nv<=i->G1[i]? = G[i]?
theorem ZF {nv i:Nat}(h:i < nv):zdd nv (Zw i):=by
 intro t G G1 e
 simp at e
 subst e
 refine⟨by simp,fun j hj=>?_⟩
 rw[List.getElem?_set_ne (by omega)]
theorem zcM {nv i j:Nat}(h:i < nv) (h2:j < nv):zdd nv (Uc i j):=by
 intro t G G1 e
 unfold Uc at e
 split at e
 ·cases e
  refine⟨by simp,fun k hk=>?_⟩
  rw[List.getElem?_set_ne (by omega),List.getElem?_set_ne (by omega)]
 ·cases e
end Fx
namespace Fx
open PySem
@[simp] def dRetO (i : Nat) : DS := fun G => match G[i]? with
 | some (.own xs)=>.ok (.rt (.list xs))
 | _=>.stuck
@[simp] def asL : PyData -> Res (List PyData)
 | .list xs=>.ok xs
 | _=>.stuck
@[simp] def oCall (f : DF) (a : DA) : DA := fun G => (a G).bind fun ts => (f ts).bind asL
def dUnp (st:PyData->List Sl->Res (List Sl)) (is:List Nat) (e:DE):DS:=fun G=>(e (frz is G)).bind fun t=>(st t (if XC t then G else frz is G)).bind fun G'=>.ok (.nx G')
@[simp] theorem dUnp_cons (st : PyData -> List Sl -> Res (List Sl)) (i : Nat) (is : List Nat) (e : DE) (G : List Sl) : dUnp st (i :: is) e G = (e (frz (i :: is) G)).bind fun t => (st t (if XC t then G else frz (i :: is) G)).bind fun G' => .ok (.nx G') := rfl
@[simp] def set2 (i j : Nat) (G : List Sl) : List PyData -> Res Out
 | [x,y]=>.ok (.nx ((G.set i (.val x)).set j (.val y)))
 | _=>.stuck
def dPar (i j:Nat) (is:List Nat) (d:DA):DS:=fun G=>(d (frz is G)).bind fun ts=>set2 i j (if Vj ts then G else frz is G) ts
@[simp] theorem dPar_cons (i j k : Nat) (is : List Nat) (d : DA) (G : List Sl) : dPar i j (k :: is) d G = (d (frz (k :: is) G)).bind fun ts => set2 i j (if Vj ts then G else frz (k :: is) G) ts := rfl
end Fx
namespace Fx
open PySem
def lkp (f:Str):List (PyData × PyData)->Option PyData
 | []=>none
 | (.str n,t)::r=>if n=f then some t else lkp f r
 | _=>none
def fFld (f:Str):PyData->Res PyData
 | .dict kvs=>ofO (lkp f kvs)
 | _=>.stuck
def zipK:List Str->List PyData->List (PyData × PyData)
 | n::ns,t::ts=>(.str n,t)::zipK ns ts
 | _,_=>[]
@[simp] def dMk (ns : List Str) (d : DA) : DE := fun G => (d G).bind fun xs => if xs.length = ns.length /\ ns ≠ [] then .ok (.dict (zipK ns xs)) else .stuck
@[simp] def oRep (a : DA) (b : DE) : DA := fun G => (a G).bind fun xs => (b G).bind fun y => match y with
 | .int k=>if X7 k=true/\xs.length * k.toNat<=16777216 then .ok (List.replicate k.toNat xs).flatten else .stuck
 | _=>.stuck
@[simp] def zfg (a : DA) : DA := fun G => (a G).bind fun xs => if xs.length <= 16777216 then .ok xs else .stuck
def minL (key:PyData->Res PyData):PyData->Int->List PyData->Res PyData
 | b,_,[]=>.ok b
 | b,m,x::r=>(key x).bind fun y=>match y with
  | .int k=>if k < m then minL key x k r else minL key b m r
  | _=>.stuck
def minT (key:PyData->Res PyData):List PyData->Res PyData
 | []=>.ok .none
 | x::r=>(key x).bind fun y=>match y with
  | .int k=>minL key x k r
  | _=>.stuck
@[simp] def dMinK (cap : List Nat) (da : DE) (de : DE) : DE := fun G => (da G).bind fun x => match x with
 | .list xs=>minT (fun t=>noX (de (.val t::capS cap G))) xs
 | _=>.stuck
end Fx
namespace Fx
open PySem PySem.Spec PyProof.Rows L2
def LD (o:HO):Prop:=(∃vs,o=.lst vs)\/∃kvs,o=.dT kvs
def CO (c:Addr) (q:Str):HO:=.ext fun h=>∃oc vs t,h.get? c=some oc/\oc.data=.fields vs/\vs[1]? = some (.str q t)
def WG:List Str:=["raising_column"]
def lamQ (x:Str):Str:=x ++ ".<locals>." ++ "<lambda>"
def Vs (K:PySem.W.Frag) (H:Hp):Prop:=∀x c T,x ∈ WG->PySem.W.tabIn K x=some (c,T) ->
 ∃ps,H T=some (.tbl ps)/\TriplesOk ps.toList/\∀pos cv,codeAmong pos ps.toList=some cv->∃c',cv=.ref c'/\H c'=some (CO c' (lamQ x))
def Nt (o:HO):Prop:=∀ps,o ≠ .tbl ps
theorem not_nt {o:HO}(h:¬Nt o):∃ps,o=.tbl ps:=Classical.byContradiction fun z=>h fun ps e=>z ⟨ps,e⟩
theorem JF {xs:List V}:Nt (.lst xs):=fun _ z=>by cases z
theorem nt_tup {xs:List V}:Nt (.tup xs):=fun _ z=>by cases z
theorem nt_ins {C dx:Addr}{fs:List (Str × V)}:Nt (.ins C dx fs):=fun _ z=>by cases z
theorem zei {o:Obj}{u:HO}:Nt (.frz o u):=fun _ z=>by cases z
theorem zgS {φ:Heap->Prop}:Nt (.ext φ):=fun _ z=>by cases z
theorem nt_dT {kvs:List (List Key × V)}:Nt (.dT kvs):=fun _ z=>by cases z
theorem LD.nt {o:HO}(h:LD o):Nt o:=by rcases h with ⟨_,rfl⟩ | ⟨_,rfl⟩ <;> exact fun _ z=>by cases z
structure Same (H H':Hp):Prop where
 kp:∀b o,H b=some o->Nt o->H' b=some o
 free:∀{b},H' b=none->H b=none
 tab:∀K,Vs K H->Vs K H'
 tbk:∀b ps,H b=some (.tbl ps)->∃qs,H' b=some (.tbl qs)
theorem Same.refl (H:Hp):Same H H:=⟨fun _ _ h _=>h,fun h=>h,fun _ h=>h,fun _ ps h=>⟨ps,h⟩⟩
theorem Same.trans {H H1 H2:Hp}(a:Same H H1) (b:Same H1 H2):Same H H2:=⟨fun c o h n=>b.kp c o (a.kp c o h n) n,fun h=>a.free (b.free h),fun K h=>b.tab K (a.tab K h),fun c ps h=>let⟨qs,h1⟩:=a.tbk c ps h;b.tbk c qs h1⟩
theorem Vs.mono {K:PySem.W.Frag}{H H':Hp}(h:Vs K H) (e:∀b o,H b=some o->¬LD o->H' b=some o):Vs K H':=fun x c T hx ht=>by
 obtain⟨ps,h1,h2,h3⟩:=h x c T hx ht
 refine⟨ps,e _ _ h1 (fun z=>by rcases z with ⟨_,z⟩ | ⟨_,z⟩ <;> cases z),h2,fun pos cv hc=>?_⟩
 obtain⟨c',e1,e2⟩:=h3 pos cv hc
 exact⟨c',e1,e _ _ e2 (fun z=>by rcases z with ⟨_,z⟩ | ⟨_,z⟩ <;> cases z)⟩
theorem Same.of {H H':Hp}(e:∀b o,H b=some o->H' b=some o):Same H H' where
 kp:=fun b o h _=>e b o h
 free:=fun {b} h=>by
  cases q:H b with
  | none=>rfl
  | some o=>rw[e b o q] at h;cases h
 tab:=fun K h=>Vs.mono h fun b o q _=>e b o q
 tbk:=fun b ps h=>⟨ps,e b _ h⟩
structure Pv where
 own:Nat->Option Addr
 fb:Addr->Prop
def Off (P:Pv) (a:Addr):Prop:=(∀i,P.own i ≠ some a)/\¬P.fb a
def Tr (H:Hp) (P:Pv) (H':Hp) (P':Pv):Prop:=∀a o,H a=some o->Nt o->Off P a->H' a=some o/\Off P' a
theorem Tr.refl (H:Hp) (P:Pv):Tr H P H P:=fun _ _ h _ o=>⟨h,o⟩
theorem Tr.same {H H':Hp}{P:Pv}(e:Same H H'):Tr H P H' P:=fun a o h n q=>⟨e.kp a o h n,q⟩
structure Go (H:Hp) (P:Pv) (H':Hp) (P':Pv):Prop where
 mv:∀a o,H a=some o->Nt o->(∀i,P.own i ≠ some a)->H' a=some o/\∀i,P'.own i ≠ some a
 fbe:P'.fb=P.fb
 free:∀{b},H' b=none->H b=none
 tab:∀K,Vs K H->Vs K H'
 tbk:∀b ps,H b=some (.tbl ps)->∃qs,H' b=some (.tbl qs)
theorem Go.refl (H:Hp) (P:Pv):Go H P H P:=⟨fun _ _ h _ o=>⟨h,o⟩,rfl,fun h=>h,fun _ h=>h,fun _ ps h=>⟨ps,h⟩⟩
theorem Go.trans {H H1 H2:Hp}{P P1 P2:Pv}(a:Go H P H1 P1) (b:Go H1 P1 H2 P2):Go H P H2 P2:=⟨fun c o h n q=>
 let⟨h1,q1⟩:=a.mv c o h n q
 b.mv c o h1 n q1,b.fbe.trans a.fbe,fun h=>a.free (b.free h),fun K h=>b.tab K (a.tab K h),fun c ps h=>let⟨qs,h1⟩:=a.tbk c ps h;b.tbk c qs h1⟩
theorem Go.same {H H':Hp}{P:Pv}(e:Same H H'):Go H P H' P:=⟨fun a o h n q=>⟨e.kp a o h n,q⟩,rfl,fun h=>e.free h,e.tab,e.tbk⟩
theorem Go.tr {H H':Hp}{P P':Pv}(g:Go H P H' P'):Tr H P H' P':=fun a o h n q=>⟨(g.mv a o h n q.1).1,(g.mv a o h n q.1).2,by rw[g.fbe];exact q.2⟩
theorem Go.all {H H':Hp}{P P':Pv}(g:Go H P H' P') (ho:∀i,P.own i=none):Same H H':=⟨fun b o e n=>(g.mv b o e n fun i=>by rw[ho i];exact fun z=>by cases z).1,fun h=>g.free h,g.tab,g.tbk⟩
def ModL (K:PySem.W.Frag) (a:Addr) (xs:List V):Prop:=
 ∃(o:Obj) (its:Array Value) (n:Nat),K.lookup a=some o/\o.cls=.type "list" /\ o.dict=none/\o.data=.seq its n/\its.size<=sizeLine/\Vals xs its.toList
def SL (K:PySem.W.Frag) (H:Hp) (P:Pv) (a:Addr) (xs:List V):Prop:=(Rd H a (.lst xs)/\Off P a)\/ModL K a xs
def ST (K:PySem.W.Frag) (H:Hp) (P:Pv) (a:Addr) (xs:List V):Prop:=H a=some (.tup xs)/\Off P a
theorem SL.sq {K:PySem.W.Frag}{H:Hp}{P:Pv}{a:Addr}{xs:List V}(h:SL K H P a xs):SqL K H a xs:=by
 rcases h with ⟨h,_⟩ | h
 ·exact .inl h
 ·exact .inr h
theorem ST.sq {K:PySem.W.Frag}{H:Hp}{P:Pv}{a:Addr}{xs:List V}(h:ST K H P a xs):SqT K H a xs:=.inl (.inl h.1)
theorem Rd.go {H H':Hp}{P P':Pv}{a:Addr}{u:HO}(g:Tr H P H' P') (n:Nt u) (h:Rd H a u) (o:Off P a):Rd H' a u/\Off P' a:=by
 rcases h with h | ⟨ob,h⟩
 ·exact⟨.inl (g _ _ h n o).1,(g _ _ h n o).2⟩
 ·exact⟨.inr ⟨ob,(g _ _ h zei o).1⟩,(g _ _ h zei o).2⟩
theorem SL.go {K:PySem.W.Frag}{H H':Hp}{P P':Pv}{a:Addr}{xs:List V}(g:Tr H P H' P') (h:SL K H P a xs):SL K H' P' a xs:=by
 rcases h with ⟨h,o⟩ | h
 ·exact .inl (Fx.Rd.go g JF h o)
 ·exact .inr h
theorem ST.go {K:PySem.W.Frag}{H H':Hp}{P P':Pv}{a:Addr}{xs:List V}(g:Tr H P H' P') (h:ST K H P a xs):ST K H' P' a xs:=g _ _ h.1 nt_tup h.2
def XO (K:PySem.W.Frag) (a:Addr):HO:=.ext fun h=>∃ob C,h.get? a=some ob/\ob.cls=.ref C/\PySem.W.subIn K (.ref C) (.type "ValueError")=some true
mutual
def Rl (K:PySem.W.Frag) (H:Hp) (P:Pv):PyData->V->Prop
 | .none,v=>v=.non
 | .bool b,v=>v=.bl b
 | .int i,v=>v=.int i
 | .str x,v=>v=.str x
 | .list xs,v=>∃a vs,v=.ref a/\SL K H P a vs/\Rls K H P xs vs
 | .tuple xs,v=>∃a vs,v=.ref a/\ST K H P a vs/\Rls K H P xs vs
 | .dict xs,v=>(xs=[]/\∃a,v=.ref a/\H a=some (XO K a)/\Off P a)\/(xs ≠ []/\∃a C dx fs,v=.ref a/\H a=some (.ins C dx fs)/\Off P a/\Cls K C/\Rlp K H P C xs fs) \/
   ∃a ob kvs,v=.ref a/\H a=some (.frz ob (.dT kvs))/\Off P a/\Rld K H P xs kvs
def Rls (K:PySem.W.Frag) (H:Hp) (P:Pv):List PyData->List V->Prop
 | [],vs=>vs=[]
 | x::xs,vs=>∃v r,vs=v::r/\Rl K H P x v/\Rls K H P xs r
def Rlp (K:PySem.W.Frag) (H:Hp) (P:Pv) (C:Addr):List (PyData × PyData)->List (Str × V)->Prop
 | [],fs=>fs=[]
 | (k,t)::xs,fs=>∃n v r,fs=(n,v)::r/\k=.str n/\WL K C n/\Rl K H P t v/\Rlp K H P C xs r
def Rld (K:PySem.W.Frag) (H:Hp) (P:Pv):List (PyData × PyData)->List (List Key × V)->Prop
 | [],_=>False
 | (k,t)::xs,kvs=>k=.none/\t=.none/\Rlk K H P xs kvs
def Rlk (K:PySem.W.Frag) (H:Hp) (P:Pv):List (PyData × PyData)->List (List Key × V)->Prop
 | [],kvs=>kvs=[]
 | (k,t)::xs,kvs=>∃ns v r,kvs=(List.map Sum.inl ns,v)::r/\k=.tuple (List.map .int ns)/\Rl K H P t v/\Rlk K H P xs r
end
mutual
theorem Rl.go {K:PySem.W.Frag}{H H':Hp}{P P':Pv}(g:Tr H P H' P'):∀(t:PyData) (v:V),Rl K H P t v->Rl K H' P' t v
 | .none,v,h=>by simpa only[Rl] using h
 | .bool b,v,h=>by simpa only[Rl] using h
 | .int i,v,h=>by simpa only[Rl] using h
 | .str x,v,h=>by simpa only[Rl] using h
 | .list xs,v,h=>by
  simp only[Rl] at h ⊢
  obtain⟨a,vs,e,s,r⟩:=h
  exact⟨a,vs,e,s.go g,Rls.go g xs vs r⟩
 | .tuple xs,v,h=>by
  simp only[Rl] at h ⊢
  obtain⟨a,vs,e,s,r⟩:=h
  exact⟨a,vs,e,s.go g,Rls.go g xs vs r⟩
 | .dict xs,v,h=>by
  simp only[Rl] at h ⊢
  rcases h with ⟨e,a,e2,s,o⟩ | ⟨e,a,C,dx,fs,e2,s,o,c,r⟩ | ⟨a,ob,kvs,e2,s,o,r⟩
  ·exact .inl ⟨e,a,e2,g a _ s zgS o⟩
  ·exact .inr (.inl ⟨e,a,C,dx,fs,e2,(g a _ s nt_ins o).1,(g a _ s nt_ins o).2,c,Rlp.go g xs fs r⟩)
  ·exact .inr (.inr ⟨a,ob,kvs,e2,(g a _ s zei o).1,(g a _ s zei o).2,Rld.go g xs kvs r⟩)
theorem Rls.go {K:PySem.W.Frag}{H H':Hp}{P P':Pv}(g:Tr H P H' P'):∀(ts:List PyData) (vs:List V),Rls K H P ts vs->Rls K H' P' ts vs
 | [],vs,h=>by simpa only[Rls] using h
 | x::xs,vs,h=>by
  simp only[Rls] at h ⊢
  obtain⟨v,r,e,q,t⟩:=h
  exact⟨v,r,e,Rl.go g x v q,Rls.go g xs r t⟩
theorem Rlp.go {K:PySem.W.Frag}{H H':Hp}{P P':Pv}{C:Addr}(g:Tr H P H' P'):∀(ts:List (PyData × PyData)) (fs:List (Str × V)),Rlp K H P C ts fs->Rlp K H' P' C ts fs
 | [],vs,h=>by simpa only[Rlp] using h
 | (k,t)::xs,vs,h=>by
  simp only[Rlp] at h ⊢
  obtain⟨n,v,r,e,e2,na,q,z⟩:=h
  exact⟨n,v,r,e,e2,na,Rl.go g t v q,Rlp.go g xs r z⟩
theorem Rld.go {K:PySem.W.Frag}{H H':Hp}{P P':Pv}(g:Tr H P H' P'):∀(ts:List (PyData × PyData)) (kvs:List (List Key × V)),Rld K H P ts kvs->Rld K H' P' ts kvs
 | [],kvs,h=>by simp only[Rld] at h
 | (k,t)::xs,kvs,h=>by
  simp only[Rld] at h ⊢
  exact⟨h.1,h.2.1,Rlk.go g xs kvs h.2.2⟩
theorem Rlk.go {K:PySem.W.Frag}{H H':Hp}{P P':Pv}(g:Tr H P H' P'):∀(ts:List (PyData × PyData)) (kvs:List (List Key × V)),Rlk K H P ts kvs->Rlk K H' P' ts kvs
 | [],kvs,h=>by simpa only[Rlk] using h
 | (k,t)::xs,kvs,h=>by
  simp only[Rlk] at h ⊢
  obtain⟨ns,v,r,e,e2,q,z⟩:=h
  exact⟨ns,v,r,e,e2,Rl.go g t v q,Rlk.go g xs r z⟩
end
section
variable {K:PySem.W.Frag}{H H':Hp}{P P':Pv}
theorem XJ {v:V}:Rl K H P .none v ↔ v=.non:=by simp only[Rl]
theorem YE {b:Bool}{v:V}:Rl K H P (.bool b) v ↔ v=.bl b:=by simp only[Rl]
theorem ZL {i:Int}{v:V}:Rl K H P (.int i) v ↔ v=.int i:=by simp only[Rl]
theorem Jz {x:Str}{v:V}:Rl K H P (.str x) v ↔ v=.str x:=by simp only[Rl]
theorem ZR {xs:List PyData}{v:V}:Rl K H P (.list xs) v ↔ ∃a vs,v=.ref a/\SL K H P a vs/\Rls K H P xs vs:=by simp only[Rl]
theorem Z3 {xs:List PyData}{v:V}:Rl K H P (.tuple xs) v ↔ ∃a vs,v=.ref a/\ST K H P a vs/\Rls K H P xs vs:=by simp only[Rl]
theorem zbt {xs:List (PyData × PyData)}{v:V}:Rl K H P (.dict xs) v ↔ (xs=[]/\∃a,v=.ref a/\H a=some (XO K a)/\Off P a)\/(xs ≠ []/\∃a C dx fs,v=.ref a/\H a=some (.ins C dx fs)/\Off P a/\Cls K C/\Rlp K H P C xs fs)\/∃a ob kvs,v=.ref a/\H a=some (.frz ob (.dT kvs))/\Off P a/\Rld K H P xs kvs:=by simp only[Rl]
theorem rld_nil {kvs:List (List Key × V)}:Rld K H P [] kvs ↔ False:=by simp only[Rld]
theorem rld_cons {k t:PyData}{xs:List (PyData × PyData)}{kvs:List (List Key × V)}:Rld K H P ((k,t)::xs) kvs ↔ k=.none/\t=.none/\Rlk K H P xs kvs:=by simp only[Rld]
theorem rl_exc {v:V}:Rl K H P (.dict []) v ↔ ∃a,v=.ref a/\H a=some (XO K a)/\Off P a:=by
 rw[zbt]
 refine⟨fun h=>?_,fun h=>.inl ⟨rfl,h⟩⟩
 rcases h with ⟨_,h⟩ | ⟨z,_⟩ | ⟨a,ob,kvs,_,_,_,r⟩
 ·exact h
 ·exact(z rfl).elim
 ·exact(rld_nil.mp r).elim
theorem rl_obj {n:Str}{t:PyData}{xs:List (PyData × PyData)}{v:V}:Rl K H P (.dict ((.str n,t)::xs)) v ↔ ∃a C dx fs,v=.ref a/\H a=some (.ins C dx fs)/\Off P a/\Cls K C/\Rlp K H P C ((.str n,t)::xs) fs:=by
 rw[zbt]
 refine⟨fun h=>?_,fun h=>.inr (.inl ⟨by simp,h⟩)⟩
 rcases h with ⟨z,_⟩ | ⟨_,h⟩ | ⟨a,ob,kvs,_,_,_,r⟩
 ·cases z
 ·exact h
 ·cases(rld_cons.mp r).1
theorem zgn {C:Addr}{fs:List (Str × V)}:Rlp K H P C [] fs ↔ fs=[]:=by simp only[Rlp]
theorem zec {C:Addr}{k t:PyData}{xs:List (PyData × PyData)}{fs:List (Str × V)}:Rlp K H P C ((k,t)::xs) fs ↔ ∃n v r,fs=(n,v)::r/\k=.str n/\WL K C n/\Rl K H P t v/\Rlp K H P C xs r:=by simp only[Rlp]
theorem ZS {vs:List V}:Rls K H P [] vs ↔ vs=[]:=by simp only[Rls]
theorem Zy {x:PyData}{xs:List PyData}{vs:List V}:Rls K H P (x::xs) vs ↔ ∃v r,vs=v::r/\Rl K H P x v/\Rls K H P xs r:=by simp only[Rls]
theorem Rls.length:∀{ts:List PyData}{vs:List V},Rls K H P ts vs->ts.length=vs.length
 | [],vs,h=>by rw[ZS.mp h];rfl
 | t::ts,vs,h=>by
  obtain⟨v,r,rfl,_,q⟩:=Zy.mp h
  simp only[List.length_cons,Rls.length q]
theorem Rls.get:∀{ts:List PyData}{vs:List V}{i:Nat}{v:V},Rls K H P ts vs->vs[i]? = some v->∃t,ts[i]? = some t/\Rl K H P t v
 | [],vs,i,v,h,e=>by rw[ZS.mp h] at e;simp at e
 | t::ts,vs,0,v,h,e=>by
  obtain⟨v',r,rfl,q,_⟩:=Zy.mp h
  simp at e;subst e
  exact⟨t,rfl,q⟩
 | t::ts,vs,i+1,v,h,e=>by
  obtain⟨v',r,rfl,_,q⟩:=Zy.mp h
  exact Rls.get (i:=i) q (by simpa using e)
theorem Rls.getT:∀{ts:List PyData}{vs:List V}{i:Nat}{t:PyData},Rls K H P ts vs->ts[i]? = some t->∃v,vs[i]? = some v/\Rl K H P t v
 | [],vs,i,v,h,e=>by simp at e
 | t::ts,vs,0,t',h,e=>by
  obtain⟨v',r,rfl,q,_⟩:=Zy.mp h
  simp at e;subst e
  exact⟨v',rfl,q⟩
 | t::ts,vs,i+1,t',h,e=>by
  obtain⟨v',r,rfl,_,q⟩:=Zy.mp h
  exact Rls.getT (i:=i) q (by simpa using e)
theorem Rls.append:∀{ts us:List PyData}{vs ws:List V},Rls K H P ts vs->Rls K H P us ws->Rls K H P (ts++us) (vs++ws)
 | [],us,vs,ws,h,q=>by rw[ZS.mp h];exact q
 | t::ts,us,vs,ws,h,q=>by
  obtain⟨v,r,rfl,a,b⟩:=Zy.mp h
  exact Zy.mpr ⟨v,r++ws,rfl,a,Rls.append b q⟩
theorem Rls.set:∀{ts:List PyData}{vs:List V}{t:PyData}{v:V}(i:Nat),Rls K H P ts vs->Rl K H P t v->Rls K H P (ts.set i t) (vs.set i v)
 | [],vs,t,v,i,h,q=>by rw[ZS.mp h];exact ZS.mpr rfl
 | t'::ts,vs,t,v,0,h,q=>by
  obtain⟨v',r,rfl,a,b⟩:=Zy.mp h
  exact Zy.mpr ⟨v,r,rfl,q,b⟩
 | t'::ts,vs,t,v,i+1,h,q=>by
  obtain⟨v',r,rfl,a,b⟩:=Zy.mp h
  exact Zy.mpr ⟨v',r.set i v,rfl,a,Rls.set i b q⟩
theorem Rls.drop:∀{ts:List PyData}{vs:List V}(n:Nat),Rls K H P ts vs->Rls K H P (ts.drop n) (vs.drop n)
 | ts,vs,0,h=>h
 | [],vs,n+1,h=>by rw[ZS.mp h];exact ZS.mpr rfl
 | t::ts,vs,n+1,h=>by
  obtain⟨v',r,rfl,a,b⟩:=Zy.mp h
  exact Rls.drop n b
theorem Rls.take:∀{ts:List PyData}{vs:List V}(n:Nat),Rls K H P ts vs->Rls K H P (ts.take n) (vs.take n)
 | ts,vs,0,h=>ZS.mpr rfl
 | [],vs,n+1,h=>by rw[ZS.mp h];exact ZS.mpr rfl
 | t::ts,vs,n+1,h=>by
  obtain⟨v',r,rfl,a,b⟩:=Zy.mp h
  exact Zy.mpr ⟨v',r.take n,rfl,a,Rls.take n b⟩
theorem rls_ints (ns:List Int):Rls K H P (ns.map .int) (ns.map V.int):=by
 induction ns with
 | nil=>exact ZS.mpr rfl
 | cons n ns ih=>exact Zy.mpr ⟨.int n,_,rfl,ZL.mpr rfl,ih⟩
end
def SlOk (K:PySem.W.Frag) (H:Hp) (P:Pv) (i:Nat) (x:Option V):Sl->Prop
 | .emp=>True
 | .val t=>∃v,x=some v/\Rl K H P t v
 | .own xs=>∃p vs,x=some (.ref p)/\P.own i=some p/\H p=some (.lst vs)/\Rls K H P xs vs
 | .dct es=>∃p kvs,x=some (.ref p)/\P.own i=some p/\H p=some (.dT kvs)/\Rlk K H P es kvs
def Sl.mine:Sl->Prop
 | .own _ | .dct _=>True
 | _=>False
structure Hol (K:PySem.W.Frag) (H:Hp) (P:Pv) (σ:L2.St) (G:List Sl):Prop where
 sl:∀i s,G[i]? = some s->SlOk K H P i (σ.getD i none) s
 inj:∀i j a,P.own i=some a->P.own j=some a->i=j
 only:∀i a,P.own i=some a->∃s,G[i]? = some s/\s.mine
 fbd:∀a,P.fb a->∃o,H a=some o/\LD o
 nfb:∀i a,P.own i=some a->¬P.fb a
 len:σ.length=G.length
 tab:Vs K H
theorem getD_some {σ:L2.St}{i:Nat}{v:V}(h:σ.getD i none=some v):σ[i]? = some (some v):=by
 rw[List.getD_eq_getElem?_getD] at h
 cases e:σ[i]? with
 | none=>rw[e] at h;cases h
 | some x=>rw[e] at h;simp at h;rw[h]
section
variable {K:PySem.W.Frag}{H H':Hp}{P P':Pv}{σ:L2.St}{G:List Sl}
theorem Hol.dom (h:Hol K H P σ G) {i:Nat}{a:Addr}(e:P.own i=some a):∃o,H a=some o/\LD o:=by
 obtain⟨s,q,m⟩:=h.only i a e
 have z:=h.sl i _ q
 cases s with
 | emp=>exact m.elim
 | val t=>exact m.elim
 | own xs=>
  obtain⟨p,vs,_,e',q',_⟩:=z
  rw[e] at e';cases e'
  exact⟨_,q',.inl ⟨vs,rfl⟩⟩
 | dct es=>
  obtain⟨p,vs,_,e',q',_⟩:=z
  rw[e] at e';cases e'
  exact⟨_,q',.inr ⟨vs,rfl⟩⟩
theorem Hol.nofb (h:Hol K H P σ G) {p:Addr}(e:H p=none):¬P.fb p:=fun z=>by obtain⟨o,q,_⟩:=h.fbd p z;rw[e] at q;cases q
theorem Hol.off_new (h:Hol K H P σ G) {p:Addr}(e:H p=none):Off P p:=by
 refine⟨fun i z=>?_,h.nofb e⟩
 obtain⟨vs,q,_⟩:=h.dom z
 rw[e] at q
 cases q
theorem Hol.ld (h:Hol K H P σ G) {a:Addr}(z:¬Off P a):∃o,H a=some o/\LD o:=by
 by_cases q:∃i,P.own i=some a
 ·obtain⟨i,q⟩:=q;exact h.dom q
 ·by_cases w:P.fb a
  ·exact h.fbd a w
  ·exact(z ⟨fun i e=>q ⟨i,e⟩,w⟩).elim
theorem Hol.same (h:Hol K H P σ G) (e:Same H H'):Hol K H' P σ G where
 sl:=fun i s q=>by
  have z:=h.sl i s q
  cases s with
  | emp=>trivial
  | val t=>obtain⟨v,e1,r⟩:=z;exact⟨v,e1,Rl.go (.same e) t v r⟩
  | own xs=>obtain⟨p,vs,e1,e2,e3,r⟩:=z;exact⟨p,vs,e1,e2,e.kp _ _ e3 JF,Rls.go (.same e) xs vs r⟩
  | dct es=>obtain⟨p,vs,e1,e2,e3,r⟩:=z;exact⟨p,vs,e1,e2,e.kp _ _ e3 nt_dT,Rlk.go (.same e) es vs r⟩
 inj:=h.inj
 only:=h.only
 fbd:=fun a z=>let⟨o,q,m⟩:=h.fbd a z;⟨o,e.kp _ _ q m.nt,m⟩
 nfb:=h.nfb
 len:=h.len
 tab:=e.tab K h.tab
def Pv.del (P:Pv) (i:Nat):Pv:=⟨fun j=>if j=i then none else P.own j,P.fb⟩
def Pv.put (P:Pv) (i:Nat) (p:Addr):Pv:=⟨fun j=>if j=i then some p else P.own j,P.fb⟩
theorem Tr.del {i:Nat}:Tr H P H (P.del i):=fun a o h _ q=>⟨h,fun j z=>by
 have z':(if j=i then none else P.own j)=some a:=z
 split at z'
 ·cases z'
 ·exact q.1 j z',q.2⟩
theorem Go.del {i:Nat}:Go H P H (P.del i):=⟨fun a o h _ q=>⟨h,fun j z=>by
 have z':(if j=i then none else P.own j)=some a:=z
 split at z'
 ·cases z'
 ·exact q j z'⟩,rfl,fun h=>h,fun _ h=>h,fun _ ps h=>⟨ps,h⟩⟩
theorem Go.put {i:Nat}{p:Addr}(hp:H p=none):Go H P H (P.put i p):=⟨fun a o h _ q=>⟨h,fun j z=>by
 have z':(if j=i then some p else P.own j)=some a:=z
 split at z'
 ·cases z';rw[hp] at h;cases h
 ·exact q j z'⟩,rfl,fun h=>h,fun _ h=>h,fun _ ps h=>⟨ps,h⟩⟩
theorem UV {σ:L2.St}{i:Nat}{x:Option V}(h:i < σ.length):(σ.set i x).getD i none=x:=by
 rw[List.getD_eq_getElem?_getD,List.getElem?_set_self h];rfl
theorem Ux {σ:L2.St}{i j:Nat}{x:Option V}(h:j ≠ i):(σ.set i x).getD j none=σ.getD j none:=by
 rw[List.getD_eq_getElem?_getD,List.getD_eq_getElem?_getD,List.getElem?_set_ne (Ne.symm h)]
theorem Hol.setVal (h:Hol K H P σ G) (i:Nat) {t:PyData}{v:V}(r:Rl K H P t v):Hol K H (P.del i) (σ.set i (some v)) (G.set i (.val t)) where
 sl:=fun j s q=>by
  by_cases e:j=i
  ·subst e
   have hl:j < G.length:=by
    have:=(List.getElem?_eq_some_iff.mp q).1
    simpa using this
   rw[List.getElem?_set_self hl] at q
   cases q
   refine⟨v,?_,Rl.go .del t v r⟩
   exact UV (by rw[h.len];exact hl)
  ·rw[List.getElem?_set_ne (Ne.symm e)] at q
   have z:=h.sl j s q
   rw[Ux e]
   cases s with
   | emp=>trivial
   | val t'=>obtain⟨v',e1,r'⟩:=z;exact⟨v',e1,Rl.go .del t' v' r'⟩
   | own xs=>obtain⟨p,vs,e1,e2,e3,r'⟩:=z;exact⟨p,vs,e1,(by show(if j=i then none else P.own j)=_;rw[if_neg e];exact e2),e3,Rls.go .del xs vs r'⟩
   | dct es=>obtain⟨p,vs,e1,e2,e3,r'⟩:=z;exact⟨p,vs,e1,(by show(if j=i then none else P.own j)=_;rw[if_neg e];exact e2),e3,Rlk.go .del es vs r'⟩
 inj:=fun a b c h1 h2=>by
  have h1':(if a=i then none else P.own a)=some c:=h1
  have h2':(if b=i then none else P.own b)=some c:=h2
  split at h1'
  ·cases h1'
  ·split at h2'
   ·cases h2'
   ·exact h.inj a b c h1' h2'
 only:=fun j a z=>by
  have z':(if j=i then none else P.own j)=some a:=z
  split at z'
  ·cases z'
  ·rename_i ne
   obtain⟨xs,q,m⟩:=h.only j a z'
   exact⟨xs,by rw[List.getElem?_set_ne (Ne.symm ne)];exact q,m⟩
 fbd:=h.fbd
 nfb:=fun j a z=>by
  have z':(if j=i then none else P.own j)=some a:=z
  split at z'
  ·cases z'
  ·exact h.nfb j a z'
 len:=by rw[List.length_set,List.length_set];exact h.len
 tab:=h.tab
theorem ZB {p:Addr}{o:HO}(h:H p=none):Same H (upd H p o):=.of fun b u q=>by rw[Zs (Zv q h)];exact q
theorem Hol.upOwn (h:Hol K H P σ G) {i:Nat}{ys xs:List PyData}{vs:List V}{p:Addr}(hi:G[i]? = some (.own ys)) (hp:P.own i=some p) (r:Rls K H P xs vs):Hol K (upd H p (.lst vs)) P σ (G.set i (.own xs))/\Go H P (upd H p (.lst vs)) P:=by
 have hpl:=h.dom hp
 have g0:Go H P (upd H p (.lst vs)) P:=⟨fun a o e _ q=>⟨by rw[Zs (fun z=>q i (by rw[z];exact hp))];exact e,q⟩,rfl,fun {b} w=>by
  by_cases z:b=p
  ·rw[z,Zt] at w;cases w
  ·rw[Zs z] at w;exact w,fun K t=>Vs.mono t fun b o e nl=>by
  rw[Zs (fun z=>by obtain⟨us,w,m⟩:=hpl;rw[z,w] at e;cases e;exact nl m)];exact e,fun b ps e=>⟨ps,by rw[Zs (fun z=>by obtain⟨us,w,m⟩:=hpl;rw[z,w] at e;cases e;rcases m with ⟨_,m⟩ | ⟨_,m⟩ <;> cases m)];exact e⟩⟩
 have gg:=g0.tr
 have hl:i < G.length:=(List.getElem?_eq_some_iff.mp hi).1
 refine⟨⟨fun j s q=>?_,h.inj,fun j a z=>?_,fun a z=>?_,h.nfb,by rw[List.length_set];exact h.len,g0.tab K h.tab⟩,g0⟩
 ·by_cases e:j=i
  ·subst e
   rw[List.getElem?_set_self hl] at q
   cases q
   obtain⟨p',vs',e1,e2,_,_⟩:=h.sl j _ hi
   rw[hp] at e2;cases e2
   exact⟨p,vs,e1,hp,Zt,Rls.go gg xs vs r⟩
  ·rw[List.getElem?_set_ne (Ne.symm e)] at q
   have z:=h.sl j s q
   cases s with
   | emp=>trivial
   | val t'=>obtain⟨v',e1,r'⟩:=z;exact⟨v',e1,Rl.go gg t' v' r'⟩
   | own xs'=>
    obtain⟨p',vs',e1,e2,e3,r'⟩:=z
    refine⟨p',vs',e1,e2,?_,Rls.go gg xs' vs' r'⟩
    rw[Zs (fun z=>e (h.inj j i p' e2 (by rw[z];exact hp)))]
    exact e3
   | dct xs'=>
    obtain⟨p',vs',e1,e2,e3,r'⟩:=z
    refine⟨p',vs',e1,e2,?_,Rlk.go gg xs' vs' r'⟩
    rw[Zs (fun z=>e (h.inj j i p' e2 (by rw[z];exact hp)))]
    exact e3
 ·by_cases e:j=i
  ·subst e;exact⟨_,List.getElem?_set_self hl,trivial⟩
  ·obtain⟨xs',q,m⟩:=h.only j a z
   exact⟨xs',by rw[List.getElem?_set_ne (Ne.symm e)];exact q,m⟩
 ·rw[Zs (fun e=>h.nfb i p hp (by rw[<- e];exact z))]
  exact h.fbd a z
end
section
variable {K:PySem.W.Frag}{H H':Hp}{P P':Pv}{σ:L2.St}{G:List Sl}
theorem Hol.frz1 (h:Hol K H P σ G) (i:Nat):∃P',Hol K H P' σ (Fx.frz1 G i)/\Go H P H P':=by
 unfold Fx.frz1
 split
 ·rename_i xs q
  obtain⟨p,vs,e1,e2,e3,r⟩:=h.sl i _ q
  have off:Off (P.del i) p:=⟨fun j z=>by
   have z':(if j=i then none else P.own j)=some p:=z
   split at z'
   ·cases z'
   ·rename_i ne;exact ne (h.inj j i p z' e2),h.nfb i p e2⟩
  have r0:Rl K H (P.del i) (.list xs) (.ref p):=ZR.mpr ⟨p,vs,rfl,.inl ⟨.inl e3,off⟩,Rls.go .del xs vs r⟩
  refine⟨P.del i,⟨fun j s z=>?_,?_,?_,h.fbd,?_,by rw[List.length_set];exact h.len,h.tab⟩,.del⟩
  ·by_cases e:j=i
   ·subst e
    rw[List.getElem?_set_self (List.getElem?_eq_some_iff.mp q).1] at z
    cases z
    exact⟨.ref p,e1,r0⟩
   ·rw[List.getElem?_set_ne (Ne.symm e)] at z
    have z:=h.sl j s z
    cases s with
    | emp=>trivial
    | val t'=>obtain⟨v',e1,r'⟩:=z;exact⟨v',e1,Rl.go .del t' v' r'⟩
    | own xs=>obtain⟨p,vs,e1,e2,e3,r'⟩:=z;exact⟨p,vs,e1,(by show(if j=i then none else P.own j)=_;rw[if_neg e];exact e2),e3,Rls.go .del xs vs r'⟩
    | dct es=>obtain⟨p,vs,e1,e2,e3,r'⟩:=z;exact⟨p,vs,e1,(by show(if j=i then none else P.own j)=_;rw[if_neg e];exact e2),e3,Rlk.go .del es vs r'⟩
  ·intro a b c h1 h2
   have h1':(if a=i then none else P.own a)=some c:=h1
   have h2':(if b=i then none else P.own b)=some c:=h2
   split at h1'
   ·cases h1'
   ·split at h2'
    ·cases h2'
    ·exact h.inj a b c h1' h2'
  ·intro j a z
   have z':(if j=i then none else P.own j)=some a:=z
   split at z'
   ·cases z'
   ·rename_i ne
    obtain⟨xs,q,m⟩:=h.only j a z'
    exact⟨xs,by rw[List.getElem?_set_ne (Ne.symm ne)];exact q,m⟩
  ·intro j a z
   have z':(if j=i then none else P.own j)=some a:=z
   split at z'
   ·cases z'
   ·exact h.nfb j a z'
 ·exact⟨P,h,.refl _ _⟩
theorem Hol.frz (is:List Nat):∀{P:Pv}{G:List Sl},Hol K H P σ G->∃P',Hol K H P' σ (Fx.frz is G)/\Go H P H P':=by
 induction is with
 | nil=>exact fun {P G} h=>⟨P,h,.refl _ _⟩
 | cons i is ih=>
  intro P G h
  obtain⟨P1,h1,g1⟩:=h.frz1 i
  obtain⟨P2,h2,g2⟩:=ih h1
  exact⟨P2,h2,g1.trans g2⟩
theorem Vo:∀(G:List Sl) (i:Nat),(frzA G)[i]? = (G[i]?).map fun s=>match s with | .own xs=>.val (.list xs) | .dct _=>.emp | s=>s
 | [],i=>by simp[frzA]
 | .own xs::r,0=>by simp[frzA]
 | .emp::r,0=>by simp[frzA]
 | .val t::r,0=>by simp[frzA]
 | .dct t::r,0=>by simp[frzA]
 | .own xs::r,i+1=>by simp[frzA,Vo r i]
 | .emp::r,i+1=>by simp[frzA,Vo r i]
 | .val t::r,i+1=>by simp[frzA,Vo r i]
 | .dct t::r,i+1=>by simp[frzA,Vo r i]
theorem Ww:∀(G:List Sl),(frzA G).length=G.length
 | []=>rfl
 | .own xs::r=>by simp[frzA,Ww r]
 | .emp::r=>by simp[frzA,Ww r]
 | .val t::r=>by simp[frzA,Ww r]
 | .dct t::r=>by simp[frzA,Ww r]
def Pv.bare (P:Pv):Pv:=⟨fun _=>none,P.fb⟩
theorem Hol.frzA (h:Hol K H P σ G):Hol K H P.bare σ (Fx.frzA G)/\Go H P H P.bare:=by
 have g0:Go H P H P.bare:=⟨fun a o e _ q=>⟨e,fun _ z=>(by cases z)⟩,rfl,fun h=>h,fun _ h=>h,fun _ ps h=>⟨ps,h⟩⟩
 have gg:=g0.tr
 refine⟨⟨fun j s z=>?_,fun _ _ _ z=>(by cases z),fun _ _ z=>(by cases z),h.fbd,fun _ _ z=>(by cases z),by rw[Ww];exact h.len,h.tab⟩,g0⟩
 rw[Vo] at z
 cases q:G[j]? with
 | none=>rw[q] at z;cases z
 | some s'=>
  rw[q] at z
  have w:=h.sl j s' q
  cases s' with
  | emp=>cases z;trivial
  | val t=>cases z;obtain⟨v,e,r⟩:=w;exact⟨v,e,Rl.go gg t v r⟩
  | dct t=>cases z;trivial
  | own xs=>
   cases z
   obtain⟨p,vs,e1,e2,e3,r⟩:=w
   exact⟨.ref p,e1,ZR.mpr ⟨p,vs,rfl,.inl ⟨.inl e3,fun _ z=>(by cases z),h.nfb j p e2⟩,Rls.go gg xs vs r⟩⟩
end
end Fx
namespace Fx
open PySem PySem.Spec PyProof.Rows L2
def YZ (K:PySem.W.Frag) (W:Str->Hp->Prop) (H:Hp) (P:Pv) (r:Res PyData) (Q:VK):Prop:=
 match r with
 | .ok t=>∀v H',Same H H'->Rl K H' P t v->Q v H'
 | .exc c=>∀H',Same H H'->W c H'
 | .stuck=>False
def tF (K:PySem.W.Frag) (W:Str->Hp->Prop) (d:DE):TE:=fun σ H Q=>∃G P,Hol K H P σ G/\YZ K W H P (d G) Q
def zfF (K:PySem.W.Frag) (W:Str->Hp->Prop) (H:Hp) (P:Pv) (r:Res (List PyData)) (Q:List V->Hp->Prop):Prop:=
 match r with
 | .ok ts=>∀vs H',Same H H'->Rls K H' P ts vs->Q vs H'
 | .exc c=>∀H',Same H H'->W c H'
 | .stuck=>False
def tFA (K:PySem.W.Frag) (W:Str->Hp->Prop) (d:DA):TA:=fun σ H Q=>∃G P,Hol K H P σ G/\zfF K W H P (d G) Q
def zaq (W:Str->Hp->Prop) (H:Hp) (r:Res Bool) (Q:Bool->Hp->Prop):Prop:=
 match r with
 | .ok b=>∀H',Same H H'->Q b H'
 | .exc c=>∀H',Same H H'->W c H'
 | .stuck=>False
def tFT (K:PySem.W.Frag) (W:Str->Hp->Prop) (d:DT):TT:=fun σ H Q=>∃G P,Hol K H P σ G/\zaq W H (d G) Q
def Pv.fbd (P:Pv) (p:Addr):Pv:=⟨P.own,fun a=>P.fb a\/a=p⟩
def NewL (K:PySem.W.Frag) (H:Hp) (P:Pv) (H':Hp) (P':Pv) (t:PyData) (v:V):Prop:=
 ∃p us xs,v=.ref p/\t=.list xs/\H' p=some (.lst us)/\Rls K H' (P'.fbd p) xs us/\∀o,H p=some o->Nt o->∃i,P.own i=some p
theorem NewL.back {K:PySem.W.Frag}{H H1 H':Hp}{P P1 P':Pv}{t:PyData}{v:V}(g:Go H P H1 P1) (n:NewL K H1 P1 H' P' t v):NewL K H P H' P' t v:=by
 obtain⟨p,us,xs,e1,e2,e3,r,q⟩:=n
 refine⟨p,us,xs,e1,e2,e3,r,fun o e nt=>Classical.byContradiction fun z=>?_⟩
 have:=g.mv p o e nt fun i w=>z ⟨i,w⟩
 obtain⟨i,w⟩:=q o this.1 nt
 exact this.2 i w
def X9 (K:PySem.W.Frag) (W:Str->Hp->Prop) (fl:Bool) (H:Hp) (P:Pv) (r:Res Out) (D:Ends):Prop:=
 match r with
 | .ok (.nx G')=>∀σ' H' P',Go H P H' P'->Hol K H' P' σ' G'->D.nx σ' H'
 | .ok (.bk G')=>∀σ' H' P',Go H P H' P'->Hol K H' P' σ' G'->D.bk σ' H'
 | .ok (.ct G')=>∀σ' H' P',Go H P H' P'->Hol K H' P' σ' G'->D.ct σ' H'
 | .ok (.rt t)=>∀v H' P',Go H P H' P'->Rl K H' P' t v->(fl=true->NewL K H P H' P' t v)->D.rt v H'
 | .exc c=>∀H' P',Go H P H' P'->W c H'
 | .stuck=>False
def tFS (K:PySem.W.Frag) (W:Str->Hp->Prop) (fl:Bool) (d:DS):TS:=fun D σ H=>∃G P,Hol K H P σ G/\X9 K W fl H P (d G) D
def EV (X:Cx) (W:Str->Hp->Prop) (e:Expr) (d:DE):Prop:=PE X e (tF X.K W d)
def AV (X:Cx) (W:Str->Hp->Prop) (es:List Expr) (d:DA):Prop:=PA X es (tFA X.K W d)
def TV (X:Cx) (W:Str->Hp->Prop) (e:Expr) (d:DT):Prop:=PT X e (tFT X.K W d)
def TW (X:Cx) (W:Str->Hp->Prop) (e:Expr) (d:DT):Prop:=PW X e (tFT X.K W d)
def SV (X:Cx) (W:Str->Hp->Prop) (fl:Bool) (st:Stmt) (d:DS):Prop:=PS X st (tFS X.K W fl d)
def SVs (X:Cx) (W:Str->Hp->Prop) (fl:Bool) (st:List Stmt) (d:DS):Prop:=PSs X st (tFS X.K W fl d)
theorem ZE {X:Cx}{e:Expr}{t t':TE}(h:PE X e t) (w:∀σ H Q,t' σ H Q->t σ H Q):PE X e t':=fun pins s σ H Q I q=>h pins s σ H Q I (w σ H Q q)
theorem zgE {X:Cx}{e:List Expr}{t t':TA}(h:PA X e t) (w:∀σ H Q,t' σ H Q->t σ H Q):PA X e t':=fun pos pins s σ H Q I q=>h pos pins s σ H Q I (w σ H Q q)
theorem zdt {X:Cx}{e:Expr}{t t':TT}(h:PT X e t) (w:∀σ H Q,t' σ H Q->t σ H Q):PT X e t':=fun pins s σ H Q I q=>h pins s σ H Q I (w σ H Q q)
theorem zgq {X:Cx}{e:Expr}{t t':TT}(h:PW X e t) (w:∀σ H Q,t' σ H Q->t σ H Q):PW X e t':=fun wh pins s σ H Q I q=>h wh pins s σ H Q I (w σ H Q q)
theorem Wu {X:Cx}{e:Stmt}{t t':TS}(h:PS X e t) (w:∀D σ H,t' D σ H->t D σ H):PS X e t':=fun pins s σ H D I q=>h pins s σ H D I (w D σ H q)
theorem zef {X:Cx}{e:List Stmt}{t t':TS}(h:PSs X e t) (w:∀D σ H,t' D σ H->t D σ H):PSs X e t':=fun pins s σ H D I q=>h pins s σ H D I (w D σ H q)
theorem ZI {K:PySem.W.Frag}{W:Str->Hp->Prop}{σ:L2.St}{G:List Sl}{H:Hp}{P:Pv}{a:DE}(h:Hol K H P σ G) {Q:VK}
  (hx:∀c,a G=.exc c->∀H',Same H H'->W c H') (hs:a G ≠ .stuck)
  (q:∀t v H',a G=.ok t->Same H H'->Hol K H' P σ G->Rl K H' P t v->Q v H'):tF K W a σ H Q:=by
 refine⟨G,P,h,?_⟩
 unfold YZ
 cases e:a G with
 | ok t=>exact fun v H' s r=>q t v H' e s (h.same s) r
 | exc c=>exact hx c e
 | stuck=>exact hs e
theorem VW {K:PySem.W.Frag}{W:Str->Hp->Prop}{σ:L2.St}{G:List Sl}{H:Hp}{P:Pv}{a:DT}(h:Hol K H P σ G) {Q:Bool->Hp->Prop}
  (hx:∀c,a G=.exc c->∀H',Same H H'->W c H') (hs:a G ≠ .stuck)
  (q:∀t H',a G=.ok t->Same H H'->Hol K H' P σ G->Q t H'):tFT K W a σ H Q:=by
 refine⟨G,P,h,?_⟩
 unfold zaq
 cases e:a G with
 | ok t=>exact fun H' s=>q t H' e s (h.same s)
 | exc c=>exact hx c e
 | stuck=>exact hs e
theorem Vg {K:PySem.W.Frag}{W:Str->Hp->Prop}{σ:L2.St}{G:List Sl}{H:Hp}{P:Pv}{a:DA}(h:Hol K H P σ G) {Q:List V->Hp->Prop}
  (hx:∀c,a G=.exc c->∀H',Same H H'->W c H') (hs:a G ≠ .stuck)
  (q:∀t v H',a G=.ok t->Same H H'->Hol K H' P σ G->Rls K H' P t v->Q v H'):tFA K W a σ H Q:=by
 refine⟨G,P,h,?_⟩
 unfold zfF
 cases e:a G with
 | ok t=>exact fun v H' s r=>q t v H' e s (h.same s) r
 | exc c=>exact hx c e
 | stuck=>exact hs e
section
variable {X:Cx}{W:Str->Hp->Prop}{a b c e:Expr}{es:List Expr}{da db:DE}{pos:Pos}
theorem Za (i:Nat) {x:Str}{pos:Pos}(hN:X.N[i]? = some x:=by rfl) (hv:Vis X.env.scope x:=by first | exact Or.inl rfl | exact Or.inr (Or.inl rfl) | exact Or.inr (Or.inr rfl)) (hd:(x == ("__debug__" : Str))=false:=by decide)
  (hcd:(x == ("__classdict__" : Str))=false:=by decide):EV X W (.Name x pos) (dVar i):=
 ZE (zcA hN hv hd hcd) fun σ H Q ⟨G,P,h,q⟩=>by
  unfold dVar at q
  cases e:G[i]? with
  | none=>rw[e] at q;exact q.elim
  | some s=>
   rw[e] at q
   cases s with
   | emp=>exact q.elim
   | own xs=>exact q.elim
   | dct xs=>exact q.elim
   | val t=>
    obtain⟨v,e1,r⟩:=h.sl i _ e
    exact⟨v,getD_some e1,q v H (Same.refl H) r⟩
theorem Zf {i j pos}:EV X W (.Constant (.int i) j pos) (dC (.int i)):=ZE pe_int fun σ H Q ⟨G,P,h,q⟩=>q _ H (Same.refl H) (ZL.mpr rfl)
theorem zaG {b j pos}:EV X W (.Constant (.bool b) j pos) (dC (.bool b)):=ZE pe_bl fun σ H Q ⟨G,P,h,q⟩=>q _ H (Same.refl H) (YE.mpr rfl)
theorem QF {j pos}:EV X W (.Constant .none j pos) (dC .none):=ZE pe_non fun σ H Q ⟨G,P,h,q⟩=>q _ H (Same.refl H) (XJ.mpr rfl)
theorem YG {x j pos}:EV X W (.Constant (.str x) j pos) (dC (.str x)):=ZE pe_str fun σ H Q ⟨G,P,h,q⟩=>q _ H (Same.refl H) (Jz.mpr rfl)
theorem Jp {x:Str}{i:Int}{t:Tok}{pos:Pos}(hg:Gl X x) (hm:X.mg x=some (.int i t)) (hd:(x == ("__debug__" : Str))=false:=by decide):EV X W (.Name x pos) (dC (.int i)):=
 ZE (pe_glob (v:=.int i) hg hm ⟨t,rfl⟩ hd) fun σ H Q ⟨G,P,h,q⟩=>q _ H (Same.refl H) (ZL.mpr rfl)
def Fop (X:Cx) (W:Str->Hp->Prop) (r:R2) (f:PyData->PyData->Res PyData):Prop:=
 ∀(H:Hp) (P:Pv) (σ:L2.St) (G:List Sl) (x y:V) (tx ty:PyData) (Q:VK),Hol X.K H P σ G->Rl X.K H P tx x->Rl X.K H P ty y->YZ X.K W H P (f tx ty) Q->r x y H Q
theorem QA {a:Res PyData}{f:PyData->Res PyData}{K:PySem.W.Frag}{H:Hp}{P:Pv}{Q:VK}(q:YZ K W H P (a.bind f) Q) :
  (∀c,a=.exc c->∀H',Same H H'->W c H')/\a ≠ .stuck/\∀t,a=.ok t->YZ K W H P (f t) Q:=by
 cases a with
 | ok t=>exact⟨fun c e=>(by cases e),(by intro e;cases e),fun t' e=>by cases e;exact q⟩
 | exc c=>exact⟨fun c' e=>by cases e;exact q,(by intro e;cases e),fun t e=>by cases e⟩
 | stuck=>exact q.elim
theorem YZ.up {K:PySem.W.Frag}{H H':Hp}{P:Pv}{r:Res PyData}{Q:VK}(q:YZ K W H P r Q) (s:Same H H'):YZ K W H' P r Q:=by
 cases r with
 | ok t=>exact fun v H2 s2 r2=>q v H2 (s.trans s2) r2
 | exc c=>exact fun H2 s2=>q H2 (s.trans s2)
 | stuck=>exact q
theorem zd5 {r:R2}{f:PyData->PyData->Res PyData}(hf:Fop X W r f) {σ:L2.St}{H:Hp}{Q:VK}(h:tF X.K W (d2 f da db) σ H Q):tOp r (tF X.K W da) (tF X.K W db) σ H Q:=by
 obtain⟨G,P,h,q⟩:=h
 unfold d2 at q
 obtain⟨q1,q2,q3⟩:=QA q
 refine ZI h q1 q2 fun tx x H1 ex s1 h1 rx=>?_
 obtain⟨q4,q5,q6⟩:=QA (q3 tx ex)
 refine ZI h1 (fun c e H' s=>q4 c e H' (s1.trans s)) q5 fun ty y H2 ey s2 h2 ry=>?_
 exact hf H2 P σ G x y tx ty Q h2 (Rl.go (.same s2) tx x rx) ry ((q6 ty ey).up (s1.trans s2))
theorem Zz {op:Operator}{r:R2}{f:PyData->PyData->Res PyData}(ho:OpR X (binaryOp op) r/\Fop X W r f) (ha:EV X W a da) (hb:EV X W b db):EV X W (.BinOp a op b pos) (d2 f da db):=
 ZE (pe_op ho.1 ha hb) fun σ H Q h=>zd5 ho.2 h
theorem Wx {op:CmpOp}{r:R2}{f:PyData->PyData->Res PyData}(ho:OpR X (compareOp op) r/\Fop X W r f) (ha:EV X W a da) (hb:EV X W b db) (hm:behindInMarks op b=false):EV X W (.Compare a [op] [b] pos) (d2 f da db):=
 ZE (pe_cmpR ho.1 ha hb hm) fun σ H Q h=>zd5 ho.2 h
theorem zet {C:Int->Int->Prop}{g:Int->Int->V}{f:PyData->PyData->Res PyData}
  (h:∀(H:Hp) (P:Pv) (tx ty:PyData) (Q:VK),YZ X.K W H P (f tx ty) Q->∃i j,tx=.int i/\ty=.int j/\C i j/\Q (g i j) H):Fop X W (rI C g) f:=fun H P σ G x y tx ty Q hh rx ry q=>by
 obtain⟨i,j,rfl,rfl,c,q'⟩:=h H P tx ty Q q
 exact⟨i,j,ZL.mp rx,ZL.mp ry,c,q'⟩
theorem JP {g:Int->Int->V}{f:PyData->PyData->Res PyData}
  (h:∀(H:Hp) (P:Pv) (tx ty:PyData) (Q:VK),YZ X.K W H P (f tx ty) Q->∃i j,tx=.int i/\ty=.int j/\Q (g i j) H):Fop X W (rI0 g) f:=fun H P σ G x y tx ty Q hh rx ry q=>by
 obtain⟨i,j,rfl,rfl,q'⟩:=h H P tx ty Q q
 exact⟨i,j,ZL.mp rx,ZL.mp ry,q'⟩
theorem Y2 {K:PySem.W.Frag}{H:Hp}{P:Pv}{Q:VK}{i:Int}(q:YZ K W H P (.ok (.int i)) Q):Q (.int i) H:=q _ H (Same.refl H) (ZL.mpr rfl)
theorem ZO {K:PySem.W.Frag}{H:Hp}{P:Pv}{Q:VK}{i:Bool}(q:YZ K W H P (.ok (.bool i)) Q):Q (.bl i) H:=q _ H (Same.refl H) (YE.mpr rfl)
theorem SL.off {K:PySem.W.Frag}{H:Hp}{P:Pv}{a:Addr}{xs:List V}(h:H a=some (.lst xs)) (o:Off P a):SL K H P a xs:=.inl ⟨.inl h,o⟩
def rCatS (K:PySem.W.Frag):R2:=fun x y H Q=>∃l b xs zs,x=.ref l/\y=.ref b/\SqL K H l xs/\SqL K H b zs/\xs.length+zs.length<=sizeLine/\∀p,H p=none->Q (.ref p) (upd H p (.lst (xs++zs)))
theorem zgJ:OpR X (binaryOp .Add) (rCatS X.K):=by
 intro pins s σ H x y v u Q I rx ry h
 obtain⟨l,b,xs,zs,rfl,rfl,hH,hB,hz,q⟩:=h
 cases rx
 cases ry
 obtain⟨its,r,⟨o,n,e,hc,hd,hs⟩,z⟩:=I.list hH
 obtain⟨its2,r2,⟨o2,n2,e2,hc2,hd2,hs2⟩,z2⟩:=I.list hB
 obtain⟨c1,c2,c3,c4⟩:=o
 obtain⟨k1,k2,k3,k4⟩:=o2
 simp only at hc hd hs hc2 hd2 hs2
 subst hc hd hs hc2 hd2 hs2
 have l1:=r.length
 have l2:=r2.length
 refine concat_meets ⟨_,e,rfl⟩ ⟨_,e2,rfl⟩ noFill_list_add seq_list_add PySem.F.slot_list_add PySem.F.entry_list_add (PySem.F.args_list_add_2 _ _) (list_addW l b its.toArray its2.toArray n n2 none none c4 k4 (by simp;omega)) ⟨e,e2,?_⟩
 have ea:its.toArray++its2.toArray=(its++its2).toArray:=by simp
 rw[ea]
 exact⟨.ref _,_,I.lnew (t':=s.toks) (r.append r2) (by rw[List.length_append];omega),rfl,q _ I.fresh⟩
theorem Z0:OpR X (binaryOp .Add) (fun x y H Q=>rI0 (fun i j=>.int (i+j)) x y H Q\/rCatS X.K x y H Q)/\Fop X W (fun x y H Q=>rI0 (fun i j=>.int (i+j)) x y H Q\/rCatS X.K x y H Q) fAdd:=
 ⟨op_add.or zgJ,fun H P σ G x y tx ty Q h rx ry q=>by
  cases tx <;> cases ty <;> try exact q.elim
  ·exact .inl ⟨_,_,ZL.mp rx,ZL.mp ry,Y2 q⟩
  ·rename_i xs ys
   refine .inr ?_
   obtain⟨l,us,rfl,s1,r1⟩:=ZR.mp rx
   obtain⟨m,ws,rfl,s2,r2⟩:=ZR.mp ry
   simp only[fAdd] at q
   split at q
   ·rename_i hz
    have e1:=r1.length
    have e2:=r2.length
    refine⟨l,m,us,ws,rfl,rfl,s1.sq,s2.sq,by rw[sizeLine_eq];omega,fun p hp=>q _ _ (ZB hp) (ZR.mpr ⟨p,us++ws,rfl,.off Zt (h.off_new hp),?_⟩)⟩
    exact(Rls.go (.same (ZB hp)) xs us r1).append (Rls.go (.same (ZB hp)) ys ws r2)
   ·exact q.elim⟩
theorem WM:OpR X (binaryOp .Sub) (rI0 fun i j=>.int (i - j))/\Fop X W (rI0 fun i j=>.int (i - j)) fSub:=
 ⟨op_sub,JP fun H P tx ty Q q=>by
  cases tx <;> cases ty <;> try exact q.elim
  exact⟨_,_,rfl,rfl,Y2 q⟩⟩
theorem mulOk_ok {i j:Int}(h:XL i j=true):IntMulOk i j:=by
 have bits:∀k:Int,Builtin.Int.intBits k<=k.natAbs.log2+1:=fun k=>by
  unfold Builtin.Int.intBits
  split <;> omega
 simp only[XL,Bool.or_eq_true,decide_eq_true_eq] at h
 rcases h with (h | h) | h
 ·have h1:=bits i
  have h2:=bits j
  unfold IntMulOk
  intro z
  simp only[Bool.and_eq_true,decide_eq_true_eq,Builtin.Int.intTooBig] at z
  have:=z.2
  simp only[bitsLine] at this
  omega
 ·exact .of_left (intBits_le_64 (by omega) (by omega))
 ·exact .of_right (intBits_le_64 (by omega) (by omega))
theorem Yo:OpR X (binaryOp .Mult) (rI (fun i j=>XL i j=true) fun i j=>.int (i * j))/\Fop X W (rI (fun i j=>XL i j=true) fun i j=>.int (i * j)) fMul:=
 ⟨opI fun _ _ _ _ _ _ _ hc q=>mul_int q (mulOk_ok hc),zet fun H P tx ty Q q=>by
  cases tx <;> cases ty <;> try exact q.elim
  simp only[fMul] at q
  split at q
  ·rename_i hc;exact⟨_,_,rfl,rfl,hc,Y2 q⟩
  ·exact q.elim⟩
theorem zeA {i j:Int}(h:Qu j=true):j ≠ 0/\Builtin.divisionGoesByPylong i j=false:=by
 simp only[Qu,Bool.and_eq_true,decide_eq_true_eq] at h
 refine⟨h.1,?_⟩
 unfold Builtin.divisionGoesByPylong
 have e:(j == 0)=false:=by simpa using h.1
 simp only[e]
 have:¬(j.natAbs.log2 / 30+1 > 300):=by omega
 simp[this]
theorem VB:OpR X (binaryOp .FloorDiv) (rI (fun _ j=>Qu j=true) fun i j=>.int (i.fdiv j))/\Fop X W (rI (fun _ j=>Qu j=true) fun i j=>.int (i.fdiv j)) fDiv:=
 ⟨opI fun _ _ _ _ _ _ _ hc q=>floordiv_int (zeA (i:=0) hc).1 q (.inl (zeA hc).2),zet fun H P tx ty Q q=>by
  cases tx <;> cases ty <;> try exact q.elim
  simp only[fDiv] at q
  split at q
  ·rename_i hc;exact⟨_,_,rfl,rfl,hc,Y2 q⟩
  ·exact q.elim⟩
theorem Xp:OpR X (binaryOp .Mod) (rI (fun _ j=>j ≠ 0) fun i j=>.int (i.fmod j))/\Fop X W (rI (fun _ j=>j ≠ 0) fun i j=>.int (i.fmod j)) fMod:=
 ⟨op_modN,zet fun H P tx ty Q q=>by
  cases tx <;> cases ty <;> try exact q.elim
  simp only[fMod] at q
  split at q
  ·exact q.elim
  ·rename_i hc;exact⟨_,_,rfl,rfl,hc,Y2 q⟩⟩
theorem op_powF:OpR X (binaryOp .Pow) (rI CPow fun i j=>.int (i ^ j.toNat))/\Fop X W (rI CPow fun i j=>.int (i ^ j.toNat)) fPow:=
 ⟨op_pow,zet fun H P tx ty Q q=>by
  cases tx <;> cases ty <;> try exact q.elim
  simp only[fPow] at q
  split at q
  ·rename_i hc;exact⟨_,_,rfl,rfl,hc,Y2 q⟩
  ·exact q.elim⟩
theorem VA:OpR X (compareOp .Lt) (rI0 fun i j=>.bl (decide (i < j)))/\Fop X W (rI0 fun i j=>.bl (decide (i < j))) fLt:=
 ⟨op_lt,JP fun H P tx ty Q q=>by
  cases tx <;> cases ty <;> try exact q.elim
  exact⟨_,_,rfl,rfl,ZO q⟩⟩
theorem op_leF:OpR X (compareOp .LtE) (rI0 fun i j=>.bl (decide (i<=j)))/\Fop X W (rI0 fun i j=>.bl (decide (i<=j))) fLe:=
 ⟨op_le,JP fun H P tx ty Q q=>by
  cases tx <;> cases ty <;> try exact q.elim
  exact⟨_,_,rfl,rfl,ZO q⟩⟩
theorem Ud:OpR X (compareOp .Gt) (rI0 fun i j=>.bl (decide (j < i)))/\Fop X W (rI0 fun i j=>.bl (decide (j < i))) fGt:=
 ⟨op_gt,JP fun H P tx ty Q q=>by
  cases tx <;> cases ty <;> try exact q.elim
  exact⟨_,_,rfl,rfl,ZO q⟩⟩
theorem zgI:OpR X (compareOp .GtE) (rI0 fun i j=>.bl (decide (j<=i)))/\Fop X W (rI0 fun i j=>.bl (decide (j<=i))) fGe:=
 ⟨op_ge,JP fun H P tx ty Q q=>by
  cases tx <;> cases ty <;> try exact q.elim
  exact⟨_,_,rfl,rfl,ZO q⟩⟩
mutual
theorem Rl.reads {pins:List (Addr × Obj)}{σ:L2.St}{H:Hp}{s:Shared}{P:Pv}(I:Inv X pins σ H s):∀(t:PyData) (v:V) (u:Value),t.canLay0=true->Rl X.K H P t v->RelV v u->∃as,Reads s.heap u t as
 | .none,v,u,_,h,r=>by rw[XJ.mp h] at r;cases r;exact⟨_,.none⟩
 | .bool b,v,u,hl,h,r=>by rw[YE.mp h] at r;cases r;exact⟨_,.bool b⟩
 | .int i,v,u,hl,h,r=>by rw[ZL.mp h] at r;obtain⟨t,rfl⟩:=r;exact⟨_,.int i t⟩
 | .str x,v,u,hl,h,r=>by rw[Jz.mp h] at r;obtain⟨t,rfl⟩:=r;exact⟨_,.str x t⟩
 | .list xs,v,u,hl,h,r=>by
  obtain⟨a,vs,rfl,sl,rs⟩:=ZR.mp h
  cases r
  obtain⟨its,rv,⟨o,n,e,hc,hd,hs⟩,z⟩:=I.list sl.sq
  obtain⟨as,ra⟩:=Rls.reads I xs vs its (by simpa[PyData.canLay0] using hl) rs rv
  exact⟨_,.list e hc hs (by simpa using ra)⟩
 | .tuple xs,v,u,hl,h,r=>by
  obtain⟨a,vs,rfl,sl,rs⟩:=Z3.mp h
  cases r
  obtain⟨its,rv,⟨o,e,hc,n,hs⟩,z⟩:=I.tuple sl.sq
  obtain⟨as,ra⟩:=Rls.reads I xs vs its (by simpa[PyData.canLay0] using hl) rs rv
  exact⟨_,.tuple e hc hs (by simpa using ra)⟩
 | .dict _,v,u,hl,h,r=>by simp[PyData.canLay0] at hl
theorem Rls.reads {pins:List (Addr × Obj)}{σ:L2.St}{H:Hp}{s:Shared}{P:Pv}(I:Inv X pins σ H s):∀(ts:List PyData) (vs:List V) (us:List Value),PyData.canLayAll0 ts=true->Rls X.K H P ts vs->Vals vs us->∃as,ReadsAll s.heap us ts as
 | [],vs,us,_,h,r=>by rw[ZS.mp h] at r;cases r;exact⟨_,.nil⟩
 | t::ts,vs,us,hl,h,r=>by
  simp only[PyData.canLayAll0,Bool.and_eq_true] at hl
  obtain⟨v,vs',rfl,h1,h2⟩:=Zy.mp h
  cases r with
  | cons r1 r2=>
   obtain⟨as,ra⟩:=Rl.reads I t v _ hl.1 h1 r1
   obtain⟨bs,rb⟩:=Rls.reads I ts vs' _ hl.2 h2 r2
   exact⟨_,.cons ra rb⟩
end
theorem VX {t:PyData}(h:Xl t=true):t.canLay0=true:=by
 unfold Xl at h
 rw[Bool.and_eq_true] at h
 exact h.1
def rEqD (K:PySem.W.Frag) (k:Bool->Bool):R2:=fun x y H Q=>∃P tx ty,Rl K H P tx x/\Rl K H P ty y/\Xl tx=true/\Xl ty=true/\Q (.bl (k (tx.eqv ty))) H
theorem op_eqD (hu:X.A.units+64 < cLine):OpR X (compareOp .Eq) (rEqD X.K fun k=>k):=by
 intro pins s σ H x y v u Q I rx ry h
 obtain⟨P,tx,ty,hx,hy,sx,sy,q⟩:=h
 obtain⟨as,ra⟩:=Rl.reads I tx x v (VX sx) hx rx
 obtain⟨bs,rb⟩:=Rl.reads I ty y u (VX sy) hy ry
 exact SeqAt.compareEq_shaped ra rb sx sy hu ⟨.bl _,H,I,rfl,q⟩
theorem op_neD (hu:X.A.units+64 < cLine):OpR X (compareOp .NotEq) (rEqD X.K fun k=>!k):=by
 intro pins s σ H x y v u Q I rx ry h
 obtain⟨P,tx,ty,hx,hy,sx,sy,q⟩:=h
 obtain⟨as,ra⟩:=Rl.reads I tx x v (VX sx) hx rx
 obtain⟨bs,rb⟩:=Rl.reads I ty y u (VX sy) hy ry
 exact SeqAt.compareNe_shaped ra rb sx sy hu ⟨.bl _,H,I,rfl,q⟩
def rEqI (k:Bool->Bool):R2:=rI0 fun i j=>.bl (k (decide (i=j)))
theorem op_eqI:OpR X (compareOp .Eq) (rEqI fun k=>k):=opB0 fun i j _ _ _ _ _ q=>eq_int (by rw[Bool.beq_eq_decide_eq];exact q)
theorem op_neI:OpR X (compareOp .NotEq) (rEqI fun k=>!k):=opB0 fun i j _ _ _ _ _ q=>ne_int (by rw[bne,Bool.beq_eq_decide_eq];exact q)
theorem XS (hu:X.A.units+64 < cLine):OpR X (compareOp .Eq) (fun x y H Q=>rEqI (fun k=>k) x y H Q\/rEqD X.K (fun k=>k) x y H Q)/\Fop X W (fun x y H Q=>rEqI (fun k=>k) x y H Q\/rEqD X.K (fun k=>k) x y H Q) fEq:=
 ⟨op_eqI.or (op_eqD hu),fun H P σ G x y tx ty Q h rx ry q=>by
  unfold fEq at q
  split at q
  ·exact .inl ⟨_,_,ZL.mp rx,ZL.mp ry,ZO q⟩
  ·split at q
   ·rename_i hc
    rw[Bool.and_eq_true] at hc
    exact .inr ⟨P,tx,ty,rx,ry,hc.1,hc.2,ZO q⟩
   ·exact q.elim⟩
theorem JD (hu:X.A.units+64 < cLine):OpR X (compareOp .NotEq) (fun x y H Q=>rEqI (fun k=>!k) x y H Q\/rEqD X.K (fun k=>!k) x y H Q)/\Fop X W (fun x y H Q=>rEqI (fun k=>!k) x y H Q\/rEqD X.K (fun k=>!k) x y H Q) fNe:=
 ⟨op_neI.or (op_neD hu),fun H P σ G x y tx ty Q h rx ry q=>by
  unfold fNe at q
  split at q
  ·exact .inl ⟨_,_,ZL.mp rx,ZL.mp ry,ZO q⟩
  ·split at q
   ·rename_i hc
    rw[Bool.and_eq_true] at hc
    exact .inr ⟨P,tx,ty,rx,ry,hc.1,hc.2,ZO q⟩
   ·exact q.elim⟩
theorem tUn_of {r:V->Hp->VK->Prop}{f:PyData->Res PyData}(hf:∀(H:Hp) (P:Pv) (x:V) (tx:PyData) (Q:VK),Rl X.K H P tx x->YZ X.K W H P (f tx) Q->r x H Q) {σ:L2.St}{H:Hp}{Q:VK}(h:tF X.K W (d1 f da) σ H Q) :
  tUn r (tF X.K W da) σ H Q:=by
 obtain⟨G,P,h,q⟩:=h
 unfold d1 at q
 obtain⟨q1,q2,q3⟩:=QA q
 exact ZI h q1 q2 fun tx x H1 ex s1 h1 rx=>hf H1 P x tx Q rx ((q3 tx ex).up s1)
theorem YH (ha:EV X W a da):EV X W (.UnaryOp .USub a pos) (d1 fNeg da):=
 ZE (pe_un un_neg ha) fun σ H Q h=>tUn_of (r:=rU fun i=>.int (-i)) (fun H P x tx Q rx q=>by
  cases tx <;> try exact q.elim
  exact⟨_,ZL.mp rx,Y2 q⟩) h
theorem bindA {a:Res PyData}{f:PyData->Res (List PyData)}{K:PySem.W.Frag}{H:Hp}{P:Pv}{Q:List V->Hp->Prop}(q:zfF K W H P (a.bind f) Q) :
  (∀c,a=.exc c->∀H',Same H H'->W c H')/\a ≠ .stuck/\∀t,a=.ok t->zfF K W H P (f t) Q:=by
 cases a with
 | ok t=>exact⟨fun c e=>(by cases e),(by intro e;cases e),fun t' e=>by cases e;exact q⟩
 | exc c=>exact⟨fun c' e=>by cases e;exact q,(by intro e;cases e),fun t e=>by cases e⟩
 | stuck=>exact q.elim
theorem bindAA {a:Res (List PyData)}{f:List PyData->Res (List PyData)}{K:PySem.W.Frag}{H:Hp}{P:Pv}{Q:List V->Hp->Prop}(q:zfF K W H P (a.bind f) Q) :
  (∀c,a=.exc c->∀H',Same H H'->W c H')/\a ≠ .stuck/\∀t,a=.ok t->zfF K W H P (f t) Q:=by
 cases a with
 | ok t=>exact⟨fun c e=>(by cases e),(by intro e;cases e),fun t' e=>by cases e;exact q⟩
 | exc c=>exact⟨fun c' e=>by cases e;exact q,(by intro e;cases e),fun t e=>by cases e⟩
 | stuck=>exact q.elim
theorem zeW {a:Res (List PyData)}{f:List PyData->Res PyData}{K:PySem.W.Frag}{H:Hp}{P:Pv}{Q:VK}(q:YZ K W H P (a.bind f) Q) :
  (∀c,a=.exc c->∀H',Same H H'->W c H')/\a ≠ .stuck/\∀t,a=.ok t->YZ K W H P (f t) Q:=by
 cases a with
 | ok t=>exact⟨fun c e=>(by cases e),(by intro e;cases e),fun t' e=>by cases e;exact q⟩
 | exc c=>exact⟨fun c' e=>by cases e;exact q,(by intro e;cases e),fun t e=>by cases e⟩
 | stuck=>exact q.elim
theorem bindTE {a:Res Bool}{f:Bool->Res PyData}{K:PySem.W.Frag}{H:Hp}{P:Pv}{Q:VK}(q:YZ K W H P (a.bind f) Q) :
  (∀c,a=.exc c->∀H',Same H H'->W c H')/\a ≠ .stuck/\∀t,a=.ok t->YZ K W H P (f t) Q:=by
 cases a with
 | ok t=>exact⟨fun c e=>(by cases e),(by intro e;cases e),fun t' e=>by cases e;exact q⟩
 | exc c=>exact⟨fun c' e=>by cases e;exact q,(by intro e;cases e),fun t e=>by cases e⟩
 | stuck=>exact q.elim
theorem bindT {a:Res Bool}{f:Bool->Res Bool}{H:Hp}{Q:Bool->Hp->Prop}(q:zaq W H (a.bind f) Q) :
  (∀c,a=.exc c->∀H',Same H H'->W c H')/\a ≠ .stuck/\∀t,a=.ok t->zaq W H (f t) Q:=by
 cases a with
 | ok t=>exact⟨fun c e=>(by cases e),(by intro e;cases e),fun t' e=>by cases e;exact q⟩
 | exc c=>exact⟨fun c' e=>by cases e;exact q,(by intro e;cases e),fun t e=>by cases e⟩
 | stuck=>exact q.elim
theorem bindET {a:Res PyData}{f:PyData->Res Bool}{H:Hp}{Q:Bool->Hp->Prop}(q:zaq W H (a.bind f) Q) :
  (∀c,a=.exc c->∀H',Same H H'->W c H')/\a ≠ .stuck/\∀t,a=.ok t->zaq W H (f t) Q:=by
 cases a with
 | ok t=>exact⟨fun c e=>(by cases e),(by intro e;cases e),fun t' e=>by cases e;exact q⟩
 | exc c=>exact⟨fun c' e=>by cases e;exact q,(by intro e;cases e),fun t e=>by cases e⟩
 | stuck=>exact q.elim
theorem zaq.up {H H':Hp}{r:Res Bool}{Q:Bool->Hp->Prop}(q:zaq W H r Q) (s:Same H H'):zaq W H' r Q:=by
 cases r with
 | ok t=>exact fun H2 s2=>q H2 (s.trans s2)
 | exc c=>exact fun H2 s2=>q H2 (s.trans s2)
 | stuck=>exact q
theorem Ze:AV X W [] dNil:=zgE Xg fun σ H Q ⟨G,P,h,q⟩=>q [] H (Same.refl H) (ZS.mpr rfl)
theorem Zb {dr:DA}(ha:EV X W e da) (hr:AV X W es dr) (hs:starEach (e::es) X.env=(false,eval e X.env)::starEach es X.env:=by rfl):AV X W (e::es) (Zc da dr):=
 zgE (ZZ ha hr hs) fun σ H Q ⟨G,P,h,q⟩=>by
  unfold Zc at q
  obtain⟨q1,q2,q3⟩:=bindA q
  refine ZI h q1 q2 fun tx x H1 ex s1 h1 rx=>?_
  obtain⟨q4,q5,q6⟩:=bindAA (q3 tx ex)
  refine Vg h1 (fun c e H' s=>q4 c e H' (s1.trans s)) q5 fun ts vs H2 es' s2 h2 rs=>?_
  exact(q6 ts es') (x::vs) H2 (s1.trans s2) (Zy.mpr ⟨x,vs,rfl,Rl.go (.same s2) tx x rx,rs⟩)
theorem zbK {xs:List PyData}{vs:List V}{K:PySem.W.Frag}{H:Hp}{P:Pv}(h:zfn xs=true) (r:Rls K H P xs vs):vs.length<=sizeLine:=by
 have:=r.length
 have h':xs.length<=16777216:=of_decide_eq_true h
 rw[sizeLine_eq];omega
theorem ST.off {K:PySem.W.Frag}{H:Hp}{P:Pv}{a:Addr}{xs:List V}(h:H a=some (.tup xs)) (o:Off P a):ST K H P a xs:=⟨h,o⟩
theorem Ya {da:DA}{x1}(h:AV X W es da):EV X W (.Tuple es x1 pos) (dTup da):=
 ZE (pe_tup h) fun σ H Q ⟨G,P,h,q⟩=>by
  unfold dTup at q
  obtain⟨q1,q2,q3⟩:=zeW q
  refine Vg h q1 q2 fun ts vs H1 es' s1 h1 rs=>?_
  have q4:=q3 ts es'
  split at q4
  ·rename_i hl
   exact⟨zbK hl rs,fun p hp=>q4 _ _ (s1.trans (ZB hp)) (Z3.mpr ⟨p,vs,rfl,.off Zt (h1.off_new hp),Rls.go (.same (ZB hp)) ts vs rs⟩)⟩
  ·exact q4.elim
theorem YB {da:DA}(h:AV X W es da):EV X W (.List es pos) (dLst da):=
 ZE (pe_lst h) fun σ H Q ⟨G,P,h,q⟩=>by
  unfold dLst at q
  obtain⟨q1,q2,q3⟩:=zeW q
  refine Vg h q1 q2 fun ts vs H1 es' s1 h1 rs=>?_
  have q4:=q3 ts es'
  split at q4
  ·rename_i hl
   exact⟨zbK hl rs,fun p hp=>q4 _ _ (s1.trans (ZB hp)) (ZR.mpr ⟨p,vs,rfl,.off Zt (h1.off_new hp),Rls.go (.same (ZB hp)) ts vs rs⟩)⟩
  ·exact q4.elim
theorem ixP_eq (n:Nat) (i:Int):ixP n i=ixN n i:=rfl
theorem atP_rl {K:PySem.W.Frag}{H:Hp}{P:Pv}{ts:List PyData}{vs:List V}{i:Int}{t:PyData}(r:Rls K H P ts vs) (h:atP ts i=some t):∃v,atI vs i=some v/\Rl K H P t v:=by
 unfold atP at h
 unfold atI
 rw[<- r.length,<- ixP_eq]
 cases e:ixP ts.length i with
 | none=>rw[e] at h;cases h
 | some j=>
  rw[e] at h
  exact r.getT (i:=j) h
theorem Zu (ha:EV X W a da) (hb:EV X W b db) (hs:zhY b):EV X W (.Subscript a b pos) (d2 fIx da db):=
 ZE (pe_ix (ix_list.or ix_tup) ha hb hs) fun σ H Q h=>zd5 (r:=fun x y H Q=>rIxL X.K x y H Q\/rIxT X.K x y H Q) (fun H P σ G x y tx ty Q h rx ry q=>by
  cases tx <;> cases ty <;> try exact q.elim
  ·rename_i xs i
   obtain⟨l,us,rfl,s1,r1⟩:=ZR.mp rx
   simp only[fIx] at q
   cases e:atP xs i with
   | none=>rw[e] at q;exact q.elim
   | some t=>
    rw[e] at q
    obtain⟨v,e1,r⟩:=atP_rl r1 e
    exact .inl ⟨l,us,i,v,rfl,ZL.mp ry,s1.sq,e1,q v H (Same.refl H) r⟩
  ·rename_i xs i
   obtain⟨l,us,rfl,s1,r1⟩:=Z3.mp rx
   simp only[fIx] at q
   cases e:atP xs i with
   | none=>rw[e] at q;exact q.elim
   | some t=>
    rw[e] at q
    obtain⟨v,e1,r⟩:=atP_rl r1 e
    exact .inr ⟨l,us,i,v,rfl,ZL.mp ry,s1.sq,e1,q v H (Same.refl H) r⟩) h
theorem zcf {r:List V->Hp->VK->Prop}{f:PyData->Res PyData}(hf:∀(H:Hp) (P:Pv) (σ:L2.St) (G:List Sl) (x:V) (tx:PyData) (Q:VK),Hol X.K H P σ G->Rl X.K H P tx x->YZ X.K W H P (f tx) Q->r [x] H Q) {σ:L2.St}{H:Hp}{Q:VK}(h:tF X.K W (d1 f da) σ H Q) :
  tCB r (tCons (tF X.K W da) tNil) σ H Q:=by
 obtain⟨G,P,h,q⟩:=h
 unfold d1 at q
 obtain⟨q1,q2,q3⟩:=QA q
 exact ZI h q1 q2 fun tx x H1 ex s1 h1 rx=>hf H1 P σ G x tx Q h1 rx ((q3 tx ex).up s1)
theorem Xj {p:Pos}(hg:Gl X "len") (hm:X.mg "len" = none) (ha:EV X W a da) (hs:starEach [a] X.env=(false,eval a X.env)::starEach [] X.env:=by rfl):EV X W (.Call (.Name "len" p) [a] [] pos) (d1 fLen da):=
 ZE (UQ zc5 hg hm PySem.boot_len (ZZ ha Xg hs) (he:=hs)) fun σ H Q h=>zcf (fun H P σ G x tx Q h rx q=>by
  cases tx <;> try exact q.elim
  ·obtain⟨l,us,rfl,s1,r1⟩:=ZR.mp rx
   have e:=r1.length
   refine⟨l,us,rfl,.inl s1.sq,?_⟩
   rw[<- e];exact Y2 q
  ·obtain⟨l,us,rfl,s1,r1⟩:=Z3.mp rx
   have e:=r1.length
   refine⟨l,us,rfl,.inr s1.sq,?_⟩
   rw[<- e];exact Y2 q) h
theorem zcU {p:Pos}(hg:Gl X "abs") (hm:X.mg "abs" = none) (ha:EV X W a da) (hs:starEach [a] X.env=(false,eval a X.env)::starEach [] X.env:=by rfl):EV X W (.Call (.Name "abs" p) [a] [] pos) (d1 fAbs da):=
 ZE (UQ call_abs hg hm (show bootBuiltins "abs" = some (.builtin "abs") by decide +kernel) (ZZ ha Xg hs) (he:=hs)) fun σ H Q h=>zcf (fun H P σ G x tx Q h rx q=>by
  cases tx <;> try exact q.elim
  exact⟨_,by rw[ZL.mp rx],Y2 q⟩) h
def tyN:PyData->String
 | .none=>"NoneType"
 | .bool _=>"bool"
 | .int _=>"int"
 | .str _=>"str"
 | .list _=>"list"
 | .tuple _=>"tuple"
 | .dict _=>"dict"
def Kit (T:String) (p:PyData->Bool):Prop:=∀(K:PySem.W.Frag) (t:PyData),PySem.W.kitOne K (.type (tyN t)) (.type T)=some (p t)
theorem kit_int:Kit "int" isInt:=fun K t=>by cases t <;> rfl
theorem kit_bool:Kit "bool" isBool:=fun K t=>by cases t <;> rfl
theorem zcK:Kit "tuple" zdK:=fun K t=>by cases t <;> rfl
theorem Jn:Kit "list" isList:=fun K t=>by cases t <;> rfl
theorem call_isi {T:String}{p:PyData->Bool}(hk:Kit T p):Jg X (.builtin "isinstance") (fun xs H Q=>∃x t P,xs=[x,.ty T]/\(∀ys,t ≠ .dict ys)/\Rl X.K H P t x/\Q (.bl (p t)) H):=by
 intro pins s σ H xs us Q I r h
 obtain⟨x,t,P,rfl,nd,rx,q⟩:=h
 obtain⟨u,w',rfl,ru,rw'⟩:=vals2 r
 cases rw'
 have e:=hk X.K t
 have fin:∀tk,EP X pins σ Q (.bool (p t)) { s with toks:=tk }:=fun tk=>⟨.bl (p t),H,I.tok tk,rfl,q⟩
 cases t with
 | none=>rw[XJ.mp rx] at ru;cases ru;exact PySem.W.kia_one PySem.W.kitx_none I.kIn True.intro e (fun z=>nomatch z) fin
 | bool b=>rw[YE.mp rx] at ru;cases ru;exact PySem.W.kia_one PySem.W.kitx_bool I.kIn True.intro e (fun z=>nomatch z) fin
 | int i=>rw[ZL.mp rx] at ru;obtain⟨t,rfl⟩:=ru;exact PySem.W.kia_one PySem.W.kitx_int I.kIn True.intro e (fun z=>nomatch z) fin
 | str y=>rw[Jz.mp rx] at ru;obtain⟨t,rfl⟩:=ru;exact PySem.W.kia_one PySem.W.kitx_str I.kIn True.intro e (fun z=>nomatch z) fin
 | list ys=>
  obtain⟨l,vs,rfl,s1,r1⟩:=ZR.mp rx
  cases ru
  obtain⟨its,rv,⟨o,n,e1,hc,hd,hs⟩,z⟩:=I.list s1.sq
  exact PySem.W.kia_one PySem.W.kitx_list I.kIn ⟨o,e1,hc⟩ e (fun z=>nomatch z) fin
 | tuple ys=>
  obtain⟨l,vs,rfl,s1,r1⟩:=Z3.mp rx
  cases ru
  obtain⟨its,rv,⟨o,e1,hc,n,hs⟩,z⟩:=I.tuple s1.sq
  exact PySem.W.kia_one PySem.W.kitx_tuple I.kIn ⟨o,e1,hc⟩ e (fun z=>nomatch z) fin
 | dict ys=>exact absurd rfl (nd ys)
theorem XY {T:String}{x:Str}{f:PyData->Bool}{p p2:Pos}(hk:Kit T f) (hv:bootBuiltins x=some (.type T)) (hg:Gl X "isinstance") (hm:X.mg "isinstance" = none) (hg2:Gl X x) (hm2:X.mg x=none) (ha:EV X W a da)
  (hs:starEach [a,.Name x p2] X.env=(false,eval a X.env)::starEach [.Name x p2] X.env:=by rfl) (hs2:starEach [.Name x p2] X.env=(false,eval (.Name x p2) X.env)::starEach [] X.env:=by rfl)
  (hpl:(backTo pos (starEach [.Name x p2] X.env)).any (·.1)=false:=by rfl) (hn:x ≠ "__name__":=by decide) (hdb:(x == ("__debug__" : Str))=false:=by decide) :
  EV X W (.Call (.Name "isinstance" p) [a,.Name x p2] [] pos) (d1 (fIs f) da):=
 ZE (UQ (call_isi hk) hg hm (show bootBuiltins "isinstance" = some (.builtin "isinstance") by decide +kernel) (ZZ ha (ZZ (zgC (v:=.ty T) hg2 hm2 hv rfl hn hdb) Xg hs2) hs) (he:=hs) (hpl:=hpl)) fun σ H Q ⟨G,P,h,q⟩=>by
  unfold d1 at q
  obtain⟨q1,q2,q3⟩:=QA q
  refine ZI h q1 q2 fun tx x H1 ex s1 h1 rx=>?_
  have q4:=YZ.up (q3 tx ex) s1
  refine⟨x,tx,P,rfl,fun ys z=>(by subst z;exact q4.elim),rx,?_⟩
  cases tx <;> first | exact ZO q4 | exact q4.elim
theorem zcT {op}(h:EV X W a da):EV X W (.BoolOp op [a] pos) da:=pe_one h
theorem zew {rest:List Expr}(ha:EV X W a da) (hb:EV X W (.BoolOp .And (b::rest) pos) db):EV X W (.BoolOp .And (a::b::rest) pos) (zfw da db):=
 ZE (pe_and ha hb) fun σ H Q ⟨G,P,h,q⟩=>by
  unfold zfw at q
  obtain⟨q1,q2,q3⟩:=QA q
  refine ZI h q1 q2 fun tx x H1 ex s1 h1 rx=>?_
  have q4:=q3 tx ex
  cases tx <;> try exact q4.elim
  rename_i k
  refine⟨k,YE.mp rx,?_⟩
  cases k with
  | true=>exact iteT ⟨G,P,h1,YZ.up q4 s1⟩
  | false=>exact iteF (ZO (YZ.up q4 s1))
theorem ev_or {rest:List Expr}(ha:EV X W a da) (hb:EV X W (.BoolOp .Or (b::rest) pos) db):EV X W (.BoolOp .Or (a::b::rest) pos) (dOrV da db):=
 ZE (pe_or ha hb) fun σ H Q ⟨G,P,h,q⟩=>by
  unfold dOrV at q
  obtain⟨q1,q2,q3⟩:=QA q
  refine ZI h q1 q2 fun tx x H1 ex s1 h1 rx=>?_
  have q4:=q3 tx ex
  cases tx <;> try exact q4.elim
  rename_i k
  refine⟨k,YE.mp rx,?_⟩
  cases k with
  | true=>exact iteT (ZO (YZ.up q4 s1))
  | false=>exact iteF ⟨G,P,h1,YZ.up q4 s1⟩
theorem ev_not (ha:EV X W a da):EV X W (.UnaryOp .Not a pos) (dNotV da):=
 ZE (pe_not ha) fun σ H Q ⟨G,P,h,q⟩=>by
  unfold dNotV at q
  obtain⟨q1,q2,q3⟩:=QA q
  refine ZI h q1 q2 fun tx x H1 ex s1 h1 rx=>?_
  have q4:=q3 tx ex
  cases tx <;> try exact q4.elim
  exact⟨_,YE.mp rx,ZO (YZ.up q4 s1)⟩
theorem zbS {dc:DT}(hc:TV X W c dc) (ha:EV X W a da) (hb:EV X W b db):EV X W (.IfExp c a b pos) (dIfE dc da db):=
 ZE (pe_ifExp hc ha hb) fun σ H Q ⟨G,P,h,q⟩=>by
  unfold dIfE at q
  obtain⟨q1,q2,q3⟩:=bindTE q
  refine VW h q1 q2 fun k H1 ek s1 h1=>?_
  have q4:=q3 k ek
  cases k with
  | true=>exact iteT ⟨G,P,h1,YZ.up q4 s1⟩
  | false=>exact iteF ⟨G,P,h1,YZ.up q4 s1⟩
theorem truth_ok {H:Hp}{P:Pv}{x:V}{tx:PyData}{k:Bool}(r:Rl X.K H P tx x) (e:truth tx=.ok k):TruV X.K x H k:=by
 cases tx with
 | none=>rw[XJ.mp r];cases e;rfl
 | bool b=>rw[YE.mp r];cases e;rfl
 | int i=>rw[ZL.mp r];cases e;rfl
 | str x=>cases e
 | list xs=>
  obtain⟨l,us,rfl,s1,r1⟩:=ZR.mp r
  cases e
  refine .inl ⟨us,s1.sq,?_⟩
  have:=r1.length
  cases xs <;> cases us <;> first | rfl | simp at this
 | tuple xs=>
  obtain⟨l,us,rfl,s1,r1⟩:=Z3.mp r
  cases e
  refine .inr (.inl ⟨us,s1.sq,?_⟩)
  have:=r1.length
  cases xs <;> cases us <;> first | rfl | simp at this
 | dict _=>cases e
theorem Xk (ha:EV X W a da) (he:∀whole,isTrue a X.env whole=(do let v <- whole;standAt a.pos;holding [v] (truthy v))):TV X W a (tV da):=
 zdt (pt_truth ha he) fun σ H Q ⟨G,P,h,q⟩=>by
  unfold Fx.tV at q
  obtain⟨q1,q2,q3⟩:=bindET q
  refine ZI h q1 q2 fun tx x H1 ex s1 h1 rx=>?_
  have q4:=q3 tx ex
  cases e:truth tx with
  | stuck=>rw[e] at q4;exact q4.elim
  | exc c=>cases tx <;> cases e
  | ok k=>rw[e] at q4;exact⟨k,truth_ok rx e,q4 H1 s1⟩
theorem ZX {op:CmpOp}{r:R2}{f:PyData->PyData->Res PyData}(ho:OpR X (compareOp op) r/\Fop X W r f) (ha:EV X W a da) (hb:EV X W b db) (hm:behindInMarks op b=false)
  (hf:∀x y,(∃k,f x y=.ok (.bool k))\/f x y=.stuck:=by first | exact fLt_b | exact fLe_b | exact fGt_b | exact fGe_b | exact fEq_b | exact fNe_b):TV X W (.Compare a [op] [b] pos) (tV (d2 f da db)):=
 zdt (pt_cmpR ho.1 ha hb hm) fun σ H Q ⟨G,P,h,q⟩=>by
  refine zd5 ho.2 ⟨G,P,h,?_⟩
  unfold Fx.tV at q
  cases e:d2 f da db G with
  | stuck=>rw[e] at q;exact q
  | exc c=>rw[e] at q;exact q
  | ok t=>
   rw[e] at q
   have hb:∃k,t=.bool k:=by
    unfold d2 at e
    cases e1:da G with
    | stuck=>rw[e1] at e;cases e
    | exc c=>rw[e1] at e;cases e
    | ok tx=>
     rw[e1,Res.bind_ok] at e
     cases e2:db G with
     | stuck=>rw[e2] at e;cases e
     | exc c=>rw[e2] at e;cases e
     | ok ty=>
      rw[e2,Res.bind_ok] at e
      rcases hf tx ty with ⟨k,e3⟩ | e3
      ·rw[e3] at e;cases e;exact⟨k,rfl⟩
      ·rw[e3] at e;cases e
   obtain⟨k,rfl⟩:=hb
   exact fun v H' s r=>⟨k,YE.mp r,q H' s⟩
theorem tw_and1 {dt:DT}(ha:TV X W a dt):TW X W (.BoolOp .And [a] pos) dt:=pw_and1 ha
theorem Vz {dt:DT}(ha:TV X W a dt):TW X W (.BoolOp .Or [a] pos) dt:=pw_or1 ha
theorem tw_and {dt du:DT}{rest:List Expr}(ha:TV X W a dt) (hb:TW X W (.BoolOp .And (b::rest) pos) du):TW X W (.BoolOp .And (a::b::rest) pos) (tAnd dt du):=
 zgq (pw_and ha hb) fun σ H Q ⟨G,P,h,q⟩=>by
  unfold Fx.tAnd at q
  obtain⟨q1,q2,q3⟩:=bindT q
  refine VW h q1 q2 fun k H1 ek s1 h1=>?_
  have q4:=q3 k ek
  cases k with
  | true=>exact iteT ⟨G,P,h1,zaq.up q4 s1⟩
  | false=>exact iteF (q4 H1 s1)
theorem Qf {dt du:DT}{rest:List Expr}(ha:TV X W a dt) (hb:TW X W (.BoolOp .Or (b::rest) pos) du):TW X W (.BoolOp .Or (a::b::rest) pos) (tOr dt du):=
 zgq (pw_or ha hb) fun σ H Q ⟨G,P,h,q⟩=>by
  unfold Fx.tOr at q
  obtain⟨q1,q2,q3⟩:=bindT q
  refine VW h q1 q2 fun k H1 ek s1 h1=>?_
  have q4:=q3 k ek
  cases k with
  | true=>exact iteT (q4 H1 s1)
  | false=>exact iteF ⟨G,P,h1,zaq.up q4 s1⟩
theorem tv_w {dt:DT}(h:TW X W a dt):TV X W a dt:=PW.pt h
theorem WB {dt:DT}(ha:TV X W a dt):TV X W (.UnaryOp .Not a pos) (tNot dt):=
 zdt (pt_not ha) fun σ H Q ⟨G,P,h,q⟩=>by
  unfold Fx.tNot at q
  obtain⟨q1,q2,q3⟩:=bindT q
  exact VW h q1 q2 fun k H1 ek s1 h1=>(q3 k ek) H1 s1
end
end Fx
namespace Fx
open PySem PySem.Spec PyProof.Rows L2
section
variable {X:Cx}{W:Str->Hp->Prop}{fl:Bool}{a b c e:Expr}{es:List Expr}{da db:DE}{pos:Pos}
theorem X9.up {K:PySem.W.Frag}{H H':Hp}{P P':Pv}{r:Res Out}{D:Ends}(q:X9 K W fl H P r D) (g:Go H P H' P'):X9 K W fl H' P' r D:=by
 cases r with
 | ok o=>
  cases o with
  | nx G=>exact fun σ2 H2 P2 g2 h2=>q σ2 H2 P2 (g.trans g2) h2
  | bk G=>exact fun σ2 H2 P2 g2 h2=>q σ2 H2 P2 (g.trans g2) h2
  | ct G=>exact fun σ2 H2 P2 g2 h2=>q σ2 H2 P2 (g.trans g2) h2
  | rt t=>exact fun v H2 P2 g2 h2 n2=>q v H2 P2 (g.trans g2) h2 fun z=>(n2 z).back g
 | exc c=>exact fun H2 P2 g2=>q H2 P2 (g.trans g2)
 | stuck=>exact q
theorem zbg {a:Res PyData}{f:PyData->Res Out}{K:PySem.W.Frag}{H:Hp}{P:Pv}{D:Ends}(q:X9 K W fl H P (a.bind f) D) :
  (∀c,a=.exc c->∀H' P',Go H P H' P'->W c H')/\a ≠ .stuck/\∀t,a=.ok t->X9 K W fl H P (f t) D:=by
 cases a with
 | ok t=>exact⟨fun c e=>(by cases e),(by intro e;cases e),fun t' e=>by cases e;exact q⟩
 | exc c=>exact⟨fun c' e=>by cases e;exact q,(by intro e;cases e),fun t e=>by cases e⟩
 | stuck=>exact q.elim
theorem bindTS {a:Res Bool}{f:Bool->Res Out}{K:PySem.W.Frag}{H:Hp}{P:Pv}{D:Ends}(q:X9 K W fl H P (a.bind f) D) :
  (∀c,a=.exc c->∀H' P',Go H P H' P'->W c H')/\a ≠ .stuck/\∀t,a=.ok t->X9 K W fl H P (f t) D:=by
 cases a with
 | ok t=>exact⟨fun c e=>(by cases e),(by intro e;cases e),fun t' e=>by cases e;exact q⟩
 | exc c=>exact⟨fun c' e=>by cases e;exact q,(by intro e;cases e),fun t e=>by cases e⟩
 | stuck=>exact q.elim
theorem zhT {a:Res (List PyData)}{f:List PyData->Res Out}{K:PySem.W.Frag}{H:Hp}{P:Pv}{D:Ends}(q:X9 K W fl H P (a.bind f) D) :
  (∀c,a=.exc c->∀H' P',Go H P H' P'->W c H')/\a ≠ .stuck/\∀t,a=.ok t->X9 K W fl H P (f t) D:=by
 cases a with
 | ok t=>exact⟨fun c e=>(by cases e),(by intro e;cases e),fun t' e=>by cases e;exact q⟩
 | exc c=>exact⟨fun c' e=>by cases e;exact q,(by intro e;cases e),fun t e=>by cases e⟩
 | stuck=>exact q.elim
theorem ZJ:SVs X W fl [] Z2:=zef pss_nil fun D σ H ⟨G,P,h,q⟩=>q σ H P (.refl H P) h
theorem Zi {st:Stmt}{d:DS}(h:SV X W fl st d):SVs X W fl [st] d:=zgt h
theorem Zg {st:Stmt}{rest:List Stmt}{d1 d2:DS}(h1:SV X W fl st d1) (h2:SVs X W fl rest d2):SVs X W fl (st::rest) (dSeq d1 d2):=
 zef (zbu h1 h2) fun D σ H ⟨G,P,h,q⟩=>by
  refine⟨G,P,h,?_⟩
  unfold dSeq at q
  cases e:d1 G with
  | stuck=>rw[e] at q;exact q.elim
  | exc c=>rw[e] at q;exact q
  | ok o=>
   rw[e,Res.bind_ok] at q
   cases o with
   | nx G1=>exact fun σ' H' P' g h'=>⟨G1,P',h',X9.up q g⟩
   | rt t=>exact q
   | bk G1=>exact q
   | ct G1=>exact q
theorem ss_never {st:Stmt}:SV X W fl st dNev:=Wu ps_never fun D σ H ⟨G,P,h,q⟩=>q
theorem Zp (he:EV X W e da):SV X W false (.Return (some e) pos) (dRet da):=
 Wu (ps_ret he) fun D σ H ⟨G,P,h,q⟩=>by
  unfold dRet at q
  obtain⟨h',g⟩:=h.frzA
  obtain⟨q1,q2,q3⟩:=zbg q
  exact ZI h' (fun c e H' s=>q1 c e H' P.bare (g.trans (.same s))) q2 fun t v H1 et s1 h1 r=>(q3 t et) v H1 P.bare (g.trans (.same s1)) r fun z=>by cases z
theorem Yl {x y:List Stmt}{dc:DT}{dx dy:DS}(hc:TV X W c dc) (hx:SVs X W fl x dx) (hy:SVs X W fl y dy):SV X W fl (.If c x y pos) (dIf dc dx dy):=
 Wu (ps_if hc hx hy) fun D σ H ⟨G,P,h,q⟩=>by
  unfold dIf at q
  obtain⟨h',g⟩:=h.frzA
  obtain⟨q1,q2,q3⟩:=bindTS q
  refine VW h' (fun c e H' s=>q1 c e H' P.bare (g.trans (.same s))) q2 fun k H1 ek s1 _=>?_
  have q4:=q3 k ek
  cases k with
  | true=>exact iteT ⟨G,P,h.same s1,X9.up q4 (.same s1)⟩
  | false=>exact iteF ⟨G,P,h.same s1,X9.up q4 (.same s1)⟩
theorem zdh (he:EV X W e da) (hs:swapsWith e none pos.line X.env=pure false:=by rfl):SV X W fl (.Expr e pos) (zc2 da):=
 Wu (zgv he hs) fun D σ H ⟨G,P,h,q⟩=>by
  unfold zc2 at q
  obtain⟨h',g⟩:=h.frzA
  obtain⟨q1,q2,q3⟩:=zbg q
  exact ZI h' (fun c e H' s=>q1 c e H' P.bare (g.trans (.same s))) q2 fun t v H1 et s1 h1 r=>(q3 t et) σ H1 P (.same s1) (h.same s1)
mutual
theorem zgp {K:PySem.W.Frag}{H:Hp}{P P':Pv}(hd:∀i a,P'.own i=some a->∃o,H a=some o/\LD o) (hf:P'.fb=P.fb):∀(t:PyData) (v:V),XC t=true->Rl K H P t v->Rl K H P' t v
 | .none,v,_,r=>XJ.mpr (XJ.mp r)
 | .bool b,v,_,r=>YE.mpr (YE.mp r)
 | .int i,v,_,r=>ZL.mpr (ZL.mp r)
 | .str x,v,_,r=>Jz.mpr (Jz.mp r)
 | .list _,v,h,r=>by simp at h
 | .dict _,v,h,r=>by simp at h
 | .tuple xs,v,h,r=>by
  obtain⟨a,vs,e,s,rs⟩:=Z3.mp r
  refine Z3.mpr ⟨a,vs,e,?_,zeb hd hf xs vs (by simpa using h) rs⟩
  refine⟨s.1,fun i z=>?_,by rw[hf];exact s.2.2⟩
  obtain⟨ws,q,m⟩:=hd i a z
  rw[s.1] at q
  cases q
  rcases m with ⟨_,m⟩ | ⟨_,m⟩ <;> cases m
theorem zeb {K:PySem.W.Frag}{H:Hp}{P P':Pv}(hd:∀i a,P'.own i=some a->∃o,H a=some o/\LD o) (hf:P'.fb=P.fb):∀(ts:List PyData) (vs:List V),Vj ts=true->Rls K H P ts vs->Rls K H P' ts vs
 | [],vs,_,r=>ZS.mpr (ZS.mp r)
 | t::ts,vs,h,r=>by
  obtain⟨v,r',e,a,b⟩:=Zy.mp r
  simp only[zcn,Bool.and_eq_true] at h
  exact Zy.mpr ⟨v,r',e,zgp hd hf t v h.1 a,zeb hd hf ts r' h.2 b⟩
end
theorem after {K:PySem.W.Frag}{H H1:Hp}{P P1:Pv}{σ:L2.St}{G:List Sl}{is:List Nat}{t:PyData}{v:V}(h:Hol K H P σ G) (h1:Hol K H P1 σ (frz is G)) (g:Go H P H P1) (s:Same H H1) (r:Rl K H1 P1 t v) :
  ∃P2,Hol K H1 P2 σ (if XC t then G else frz is G)/\Rl K H1 P2 t v/\Go H P H1 P2:=by
 cases e:XC t with
 | true=>exact⟨P,by rw[if_pos rfl];exact h.same s,zgp (fun i a z=>(h.same s).dom z) g.2.symm t v e r,.same s⟩
 | false=>exact⟨P1,by rw[if_neg Bool.false_ne_true];exact h1.same s,r,g.trans (.same s)⟩
theorem Zq {i:Nat}{x:Str}{is:List Nat}{pos':Pos}(hN:X.N.Nodup) (hi:X.N[i]? = some x) (hx:Loc X.env.scope x) (he:EV X W e da) (hs:swapsWith e (some (.Name x pos')) pos.line X.env=pure false:=by rfl)
  (hf:X.fn x=true\/X.env.scope.names.lookup x=some .local:=by first | exact .inl rfl | exact .inr rfl | assumption):SV X W fl (.Assign [.Name x pos'] e pos) (dSet i is da):=
 Wu (ps_set hN hi hx he hs hf) fun D σ H ⟨G,P,h,q⟩=>by
  unfold dSet at q
  obtain⟨P1,h1,g⟩:=h.frz is
  obtain⟨q1,q2,q3⟩:=zbg q
  refine ZI h1 (fun c e H' s=>q1 c e H' P1 (g.trans (.same s))) q2 fun t v H1 et s1 h2 r=>?_
  obtain⟨P2,h3,r3,g3⟩:=after h h1 g s1 r
  exact(q3 t et) _ H1 (P2.del i) (g3.trans .del) (h3.setVal i r3)
theorem zbj {body:List Stmt}{fuel:List Sl->Nat}{dc:DT}{d:DS}(hp:PassesOwn (model X.prog X.w) X.A X.env X.xe) (hc:TV X W c dc) (hb:SVs X W fl body d):SV X W fl (.While c body [] pos) (zam fuel dc d):=
 Wu (ps_while hp hc hb) fun D σ H ⟨G,P,h,q⟩=>by
  refine⟨fun m σ' H'=>∃G' P',Go H P H' P'/\Hol X.K H' P' σ' G'/\X9 X.K W fl H P (Yi dc d m G') D,⟨fuel G,G,P,.refl H P,h,q⟩,?_⟩
  rintro m σ' H' ⟨G',P',g',h',q'⟩
  cases m with
  | zero=>exact q'.elim
  | succ m=>
   unfold Yi at q'
   obtain⟨h2,g2⟩:=h'.frzA
   obtain⟨q1,q2,q3⟩:=bindTS q'
   refine VW h2 (fun c e H1 s=>q1 c e H1 P'.bare (g'.trans (g2.trans (.same s)))) q2 fun k H1 ek s1 _=>?_
   have q4:=q3 k ek
   cases k with
   | false=>exact iteF (q4 σ' H1 P' (g'.trans (.same s1)) (h'.same s1))
   | true=>
    refine iteT ⟨fun σ2 H2=>∃m',m' < m+1/\∃G' P',Go H P H2 P'/\Hol X.K H2 P' σ2 G'/\X9 X.K W fl H P (Yi dc d m' G') D,fun σ2 H2 z=>z,?_⟩
    refine⟨G',P',h'.same s1,?_⟩
    have q5:X9 X.K W fl H P ((d G').bind fun o=>match o with
     | .nx G'=>Yi dc d m G'
     | .ct G'=>Yi dc d m G'
     | .bk G'=>.ok (.nx G')
     | .rt t=>.ok (.rt t)) D:=q4
    cases e:d G' with
    | stuck=>rw[e] at q5;exact q5.elim
    | exc c=>rw[e] at q5;exact X9.up (r:=.exc c) q5 (g'.trans (.same s1))
    | ok o=>
     rw[e,Res.bind_ok] at q5
     cases o with
     | nx G1=>exact fun σ2 H2 P2 g3 h3=>⟨m,Nat.lt_succ_self m,G1,P2,g'.trans ((Go.same s1).trans g3),h3,q5⟩
     | ct G1=>exact fun σ2 H2 P2 g3 h3=>⟨m,Nat.lt_succ_self m,G1,P2,g'.trans ((Go.same s1).trans g3),h3,q5⟩
     | bk G1=>exact fun σ2 H2 P2 g3 h3=>q5 σ2 H2 P2 (g'.trans ((Go.same s1).trans g3)) h3
     | rt t=>exact fun v H2 P2 g3 h3 n3=>q5 v H2 P2 (g'.trans ((Go.same s1).trans g3)) h3 fun z=>((n3 z).back (.same s1)).back g'
end
theorem zaQ {a:DE}:∀G ts,Zc a dNil G=.ok ts->ts.length=1:=fun G ts h=>by
 unfold Zc dNil at h
 cases e:a G <;> rw[e] at h <;> first | (cases h;done) | (cases h;rfl)
theorem zg0 {a:DE}{r:DA}{n:Nat}(hr:∀G ts,r G=.ok ts->ts.length=n):∀G ts,Zc a r G=.ok ts->ts.length=n+1:=fun G ts h=>by
 unfold Zc at h
 cases e:a G with
 | stuck=>rw[e] at h;cases h
 | exc c=>rw[e] at h;cases h
 | ok x=>
  rw[e,Res.bind_ok] at h
  cases e2:r G with
  | stuck=>rw[e2] at h;cases h
  | exc c=>rw[e2] at h;cases h
  | ok xs=>rw[e2] at h;cases h;simp[hr G xs e2]
theorem zcJ {a b:DE}:∀G ts,Zc a (Zc b dNil) G=.ok ts->ts.length=2:=zg0 zaQ
theorem zcI {a b c:DE}:∀G ts,Zc a (Zc b (Zc c dNil)) G=.ok ts->ts.length=3:=zg0 zcJ
theorem zel {a b c d:DE}:∀G ts,Zc a (Zc b (Zc c (Zc d dNil))) G=.ok ts->ts.length=4:=zg0 zcI
def spX (E:XK) (H:Hp) (c:Str):Option (Str->Value)->Prop
 | none=>False
 | some cl=>∀dx H',Same H H'->E (cl c) dx H'
def spF (K:PySem.W.Frag) (cl:Option (Str->Value)) (np:Nat) (f:DF):Sp:=fun vs H Q E=>vs.length=np/\∃ts P,Rls K H P ts vs/\(∀i,P.own i=none)/\((∀a,P.fb a->∃o,H a=some o/\LD o)/\Vs K H) /\
 match f ts with
 | .ok t=>∀v H',Same H H'->Rl K H' P t v->Q v H'
 | .exc c=>spX E H c cl
 | .stuck=>False
def EX (cl:Option (Str->Value)) (W:Str->Hp->Prop):XK:=fun v _ H=>∃c f,cl=some f/\v=f c/\W c H
structure Cal (X:Cx) (W:Str->Hp->Prop) (cl:Option (Str->Value)) (k:Nat) (x:Str) (np:Nat) (f:DF):Prop where
 ex:∃(CX:CXT) (fa:Addr) (fd:FuncData) (ps:List Str),FnOk X.prog X.w X.K X.mg X.base CX k fa fd ps (spF X.K cl np f)/\X.mg x=some (.ref fa)/\PySem.W.keepIn X.K (.ref fa)=true/\ZG X.K fd ps []/\Q8 CX X (EX cl W)
 nox:cl=none->∀ts c,f ts ≠ .exc c
section
variable {X:Cx}{W:Str->Hp->Prop}{fl:Bool}{a b c e:Expr}{es:List Expr}{da db:DE}{pos:Pos}
theorem Zh {cl:Option (Str->Value)}{k np:Nat}{x:Str}{f:DF}{d:DA}{p:Pos}(C:Cal X W cl k x np f) (hr:Room k X.A) (hg:Gl X x) (ha:AV X W (e::es) d) (hL:∀G ts,d G=.ok ts->ts.length=np:=by first | exact zaQ | exact zcJ | exact zcI | exact zel) (hdb:(x == ("__debug__" : Str))=false:=by decide)
  (he:starEach (e::es) X.env=(false,eval e X.env)::starEach es X.env:=by rfl) (hpl:(backTo pos (starEach es X.env)).any (·.1)=false:=by rfl):EV X W (.Call (.Name x p) (e::es) [] pos) (Zk f d):=by
 obtain⟨CX,fa,fd,ps,F,hm,hk,hb,hx⟩:=C.ex
 refine ZE (zgB (x:=x) (p:=p) F hr hg hm hk hb .nil hx ha (hdb:=hdb) (he:=he) (hpl:=hpl)) fun σ H Q ⟨G,P,h,q⟩=>?_
 unfold Zk at q
 obtain⟨q1,q2,q3⟩:=zeW q
 refine Vg h q1 q2 fun ts vs H1 es' s1 h1 rs=>?_
 have q4:=YZ.up (q3 ts es') s1
 have el:(vs++[])=vs:=List.append_nil vs
 rw[el]
 -- the callee sees all that the caller may not hand on as forbidden
 have gg:Tr H1 P H1 ⟨fun _=>none,fun a=>¬Off P a⟩:=fun a o e1 _ o1=>⟨e1,fun _ z=>(by cases z),fun z=>z o1⟩
 have back:∀H2,Tr H2 ⟨fun _=>none,fun a=>¬Off P a⟩ H2 P:=fun H2 a o e1 _ o1=>⟨e1,Classical.byContradiction fun z=>o1.2 z⟩
 refine⟨by rw[<- rs.length];exact hL G ts es',ts,⟨fun _=>none,fun a=>¬Off P a⟩,Rls.go gg ts vs rs,fun _=>rfl,⟨fun a z=>h1.ld z,h1.tab⟩,?_⟩
 ·cases e:f ts with
  | ok t=>rw[e] at q4;exact fun v H' s r=>q4 v H' s (Rl.go (back H') t v r)
  | exc c=>
   rw[e] at q4
   cases ec:cl with
   | none=>exact absurd e (C.nox ec ts c)
   | some g=>exact fun dx H' s=>⟨c,g,rfl,rfl,q4 H' s⟩
  | stuck=>rw[e] at q4;exact q4
end
theorem UU {K:PySem.W.Frag}{H:Hp}{P:Pv}{ts:List PyData}{vs:List V}{N:List Str}(r:Rls K H P ts vs) (ho:∀i,P.own i=none) (hf:(∀a,P.fb a->∃o,H a=some o/\LD o)/\Vs K H) :
  Hol K H P (L2.start N vs) (ts.map .val++List.replicate (N.length - ts.length) .emp) where
 sl:=fun i s e=>by
  by_cases hi:i < ts.length
  ·rw[List.getElem?_append_left (by simpa using hi),List.getElem?_map] at e
   cases et:ts[i]? with
   | none=>rw[et] at e;cases e
   | some t=>
    rw[et] at e
    cases e
    obtain⟨v,ev,rv⟩:=r.getT et
    refine⟨v,?_,rv⟩
    have hl:=r.length
    unfold L2.start
    rw[List.getD_eq_getElem?_getD,List.getElem?_append_left (by simp;omega),List.getElem?_map,ev]
    rfl
  ·rw[List.getElem?_append_right (by simpa using hi)] at e
   rw[List.getElem?_replicate] at e
   split at e
   ·cases e;trivial
   ·cases e
 inj:=fun i j a h _=>by rw[ho i] at h;cases h
 only:=fun i a h=>by rw[ho i] at h;cases h
 fbd:=hf.1
 tab:=hf.2
 nfb:=fun i a h=>by rw[ho i] at h;cases h
 len:=by
  have hl:=r.length
  unfold L2.start
  simp[hl]
theorem fn_ok {P:Program}{w:World}{K:PySem.W.Frag}{mg:Str->Option Value}{base:Heap}{x qual:Str}{st:Stmt}{f:Addr}{fd:FuncData}{N ps:List Str}{k np:Nat}{d:DS}(F:Fun K x qual st f fd) (S:FnScope N ps (Zd st)) (hnp:ps.length=np)
  (hb:∀(cdv:Value) (A:Around) (outer:List Env) (s:Shared) (H:Hp) (E:XK),Room k (A.deeper (envOfC qual (Zd st) s.heap.objs.size f cdv)) ->
   SVs (cxOf CX0 P w K mg base N qual (Zd st) f cdv A outer s H E).nox (fun _ _=>False) false (Zl st) d):FnOk P w K mg base CX0 (k+1) f fd ps (spF K none np (runQ N.length np d)):=by
 refine F.ok S (fun vs H Q E h=>by rw[hnp];exact h.1) fun cdv A outer s H vs Q E hr h=>⟨_,hb cdv A outer s H E hr,?_⟩
 obtain⟨hl,ts,P',rs,ho,hf,q⟩:=h
 have hlt:ts.length=np:=by rw[rs.length];exact hl
 refine⟨_,P',UU rs ho hf,?_⟩
 unfold runQ runF at q
 rw[if_pos hlt] at q
 have en:N.length - np=N.length - ts.length:=by rw[hlt]
 rw[en] at q
 have sm:∀H' P2,Go H P' H' P2->Same H H':=fun H' P2 g=>g.all ho
 have bk:∀H' P2,Go H P' H' P2->Tr H' P2 H' P':=fun H' P2 g b o e _ z=>⟨e,fun i=>by rw[ho i];exact fun z=>(by cases z),by rw[<- g.fbe];exact z.2⟩
 cases e:d (ts.map .val++List.replicate (N.length - ts.length) .emp) with
 | stuck=>rw[e] at q;exact q.elim
 | exc c=>rw[e] at q;exact q.elim
 | ok o=>
  rw[e,Res.bind_ok] at q
  cases o with
  | nx G=>exact fun σ' H' P2 g h'=>q .non H' (sm H' P2 g) (XJ.mpr rfl)
  | rt t=>exact fun v H' P2 g r _=>q v H' (sm H' P2 g) (Rl.go (bk H' P2 g) t v r)
  | bk G=>exact q.elim
  | ct G=>exact q.elim
end Fx
namespace Fx
open PySem PySem.Spec PyProof.Rows L2
structure Cle (P:Program) (w:World) (K:PySem.W.Frag) (mg:Str->Option Value) (base:Heap) (k:Nat) (x:Str) (np:Nat) (f:DF):Prop where
 ex:∃(fa:Addr) (fd:FuncData) (ps:List Str),FnOk P w K mg base CX0 k fa fd ps (spF K none np f)/\mg x=some (.ref fa)/\PySem.W.keepIn K (.ref fa)=true/\ZG K fd ps []
 nox:∀ts c,f ts ≠ .exc c
section
variable {P:Program}{w:World}{K:PySem.W.Frag}{mg:Str->Option Value}{base:Heap}
theorem Cle.cal {X:Cx}{W:Str->Hp->Prop}{k np:Nat}{x:Str}{f:DF}(C:Cle X.prog X.w X.K X.mg X.base k x np f):Cal X W none k x np f:=by
 obtain⟨fa,fd,ps,F,hm,hk,hb⟩:=C.ex
 exact⟨⟨CX0,fa,fd,ps,F,hm,hk,hb,fun _ _ _ _ _ _ _ h=>h.elim⟩,fun _=>C.nox⟩
theorem Cle.mono {j k np:Nat}{x:Str}{f:DF}(C:Cle P w K mg base j x np f) (h:j<=k):Cle P w K mg base k x np f:=by
 obtain⟨fa,fd,ps,F,r⟩:=C.ex
 exact⟨⟨fa,fd,ps,F.mono h,r⟩,C.nox⟩
theorem ZQ {x:Str}{st:Stmt}{fa:Addr}{fd:FuncData}{N ps:List Str}{k n np:Nat}{d:DS}(F:Fun K x x st fa fd) (hm:mg x=some (.ref fa)) (b:ZG K fd ps []) (S:FnScope N ps (Zd st)) (hnp:ps.length=np) (hN:N.length=n)
  (hb:∀(cdv:Value) (A:Around) (outer:List Env) (s:Shared) (H:Hp) (E:XK),Room k (A.deeper (envOfC x (Zd st) s.heap.objs.size fa cdv)) ->
   SVs (cxOf CX0 P w K mg base N x (Zd st) fa cdv A outer s H E).nox (fun _ _=>False) false (Zl st) d):Cle P w K mg base (k+1) x np (runQ n np d):=by
 subst hN
 exact⟨⟨fa,fd,ps,fn_ok F S hnp hb,hm,F.kp,b⟩,fun ts c=>zbs _ _ _ ts c⟩
theorem law_sp {f:DF}{ns:List Int}(h:f [.list (ns.map .int)]=.ok (.bool true)) {H:Hp}{a:Addr}(hT:Vs K H) (hS:SqL K H a (ns.map V.int)):spF K none 1 f [.ref a] H (fun v _=>v=.bl true) (fun _ _ _=>False):=by
 refine⟨rfl,[.list (ns.map .int)],⟨fun _=>none,fun _=>False⟩,Zy.mpr ⟨.ref a,[],rfl,ZR.mpr ⟨a,ns.map V.int,rfl,?_,rls_ints ns⟩,ZS.mpr rfl⟩,fun _=>rfl,⟨fun _ z=>z.elim,hT⟩,?_⟩
 ·rcases hS with h | h
  ·exact .inl ⟨h,fun _ z=>(by cases z),fun z=>z⟩
  ·exact .inr h
 ·rw[h]
  exact fun v H' _ r=>YE.mp r
end
end Fx
namespace Fx
open PySem PySem.Spec PyProof.Rows L2
def Yld (K:PySem.W.Frag) (J:It) (ts:List PyData) (H:Hp) (P:Pv):Prop:=∀H' P',Tr H P H' P'->(∀p,H' p=none->Off P' p)->∀i,
 (∀t,ts[i]? = some t->J.go i H'/\∀x H'',J.yld i H' x H''->Same H' H''/\Rl K H'' P' t x)/\(ts.length<=i->J.stop i H')
def PostI (K:PySem.W.Frag) (W:Str->Hp->Prop) (H:Hp) (P:Pv) (r:Res (List PyData)) (R:It->Hp->Prop):Prop:=
 match r with
 | .ok ts=>∀J H',Same H H'->Yld K J ts H' P->R J H'
 | .exc c=>∀H',Same H H'->W c H'
 | .stuck=>False
def tFI (K:PySem.W.Frag) (W:Str->Hp->Prop) (d:DA):TI:=fun σ H R=>∃G P,Hol K H P σ G/\PostI K W H P (d G) R
def IV (X:Cx) (W:Str->Hp->Prop) (tg iter:Expr) (d:DA):Prop:=PI X tg iter (tFI X.K W d)
theorem Qp {X:Cx}{tg e:Expr}{t t':TI}(h:PI X tg e t) (w:∀σ H Q,t' σ H Q->t σ H Q):PI X tg e t':=fun pins s σ H Q I q=>h pins s σ H Q I (w σ H Q q)
theorem zeU {a:Res PyData}{f:PyData->Res (List PyData)}{K:PySem.W.Frag}{W:Str->Hp->Prop}{H:Hp}{P:Pv}{Q:It->Hp->Prop}(q:PostI K W H P (a.bind f) Q) :
  (∀c,a=.exc c->∀H',Same H H'->W c H')/\a ≠ .stuck/\∀t,a=.ok t->PostI K W H P (f t) Q:=by
 cases a with
 | ok t=>exact⟨fun c e=>(by cases e),(by intro e;cases e),fun t' e=>by cases e;exact q⟩
 | exc c=>exact⟨fun c' e=>by cases e;exact q,(by intro e;cases e),fun t e=>by cases e⟩
 | stuck=>exact q.elim
section
variable {X:Cx}{W:Str->Hp->Prop}{fl:Bool}{tg a b c e:Expr}{da db:DE}{pos:Pos}
def iSq (K:PySem.W.Frag) (tl:TE):TI:=fun σ H R=>tl σ H fun x H1=>(∃a,x=.ref a/\(∃xs,SqL K H1 a xs)/\R (Itl K a) H1)\/(∃a,x=.ref a/\(∃xs,SqT K H1 a xs)/\R (Itt K a) H1)
theorem pi_sq {l:Expr}{tl:TE}(hl:PE X l tl):PI X tg l (iSq X.K tl):=by
 intro pins s σ H R I h
 refine thn (hl pins s σ H _ I h) fun v s1 ⟨x,H1,I1,r1,q1⟩=>?_
 rcases q1 with ⟨a,e,⟨xs,hq⟩,q⟩ | ⟨a,e,⟨xs,hq⟩,q⟩
 ·subst e
  cases r1
  obtain⟨its,rv,p,hz⟩:=I1.list hq
  refine wpAny_pyIter_list p.isList ?_
  refine⟨s1.heap.objs.size,[s1.heap.objs.size],_,_,H1,rfl,I1.kept (t':=s1.toks) fun b o e=>Heap.get?_push_of_some _ e,zfP a _,⟨_,Heap.get?_push_size _ rfl,rfl,rfl⟩,fun b hb=>?_,q⟩
  have e:b=s1.heap.objs.size:=by simpa using hb
  subst e
  exact I1.fpOk (Nat.le_refl _) (I1.hok.fresh (Nat.le_refl _))
 ·subst e
  cases r1
  obtain⟨its,rv,p,hz⟩:=I1.tuple hq
  refine wpAny_pyIter_tuple (show s1.heap.IsTuple a its.toArray from p) ?_
  refine⟨s1.heap.objs.size,[s1.heap.objs.size],_,_,H1,rfl,I1.kept (t':=s1.toks) fun b o e=>Heap.get?_push_of_some _ e,ze0 a _,⟨_,Heap.get?_push_size _ rfl,rfl,rfl⟩,fun b hb=>?_,q⟩
  have e:b=s1.heap.objs.size:=by simpa using hb
  subst e
  exact I1.fpOk (Nat.le_refl _) (I1.hok.fresh (Nat.le_refl _))
theorem yld_list {H:Hp}{P:Pv}{l:Addr}{xs:List PyData}{vs:List V}(s:SL X.K H P l vs) (r:Rls X.K H P xs vs):Yld X.K (Itl X.K l) xs H P:=fun H' P' tr nf i=>
 ⟨fun t e=>by
  have r':=Rls.go tr xs vs r
  have s':=(s.go tr).sq
  obtain⟨v,ev,rv⟩:=r'.getT e
  refine⟨⟨vs,v,s',ev⟩,fun x H'' y=>?_⟩
  obtain⟨rfl,y⟩:=y
  have:=y vs s'
  rw[ev] at this
  cases this
  exact⟨Same.refl _,rv⟩,fun hl=>⟨vs,(s.go tr).sq,by rw[<- r.length];exact hl⟩⟩
theorem zfG {H:Hp}{P:Pv}{l:Addr}{xs:List PyData}{vs:List V}(s:ST X.K H P l vs) (r:Rls X.K H P xs vs):Yld X.K (Itt X.K l) xs H P:=fun H' P' tr nf i=>
 ⟨fun t e=>by
  have r':=Rls.go tr xs vs r
  have s':=(s.go tr).sq
  obtain⟨v,ev,rv⟩:=r'.getT e
  refine⟨⟨vs,v,s',ev⟩,fun x H'' y=>?_⟩
  obtain⟨rfl,y⟩:=y
  have:=y vs s'
  rw[ev] at this
  cases this
  exact⟨Same.refl _,rv⟩,fun hl=>⟨vs,(s.go tr).sq,by rw[<- r.length];exact hl⟩⟩
theorem XA (ha:EV X W a da):IV X W tg a (iSeq da):=
 Qp (pi_sq ha) fun σ H R ⟨G,P,h,q⟩=>by
  unfold iSeq at q
  obtain⟨q1,q2,q3⟩:=zeU q
  refine ZI h q1 q2 fun tx x H1 ex s1 h1 rx=>?_
  have q4:=q3 tx ex
  cases tx <;> try exact q4.elim
  ·obtain⟨l,vs,rfl,sl,rs⟩:=ZR.mp rx
   exact .inl ⟨l,rfl,⟨vs,sl.sq⟩,q4 _ H1 s1 (yld_list sl rs)⟩
  ·obtain⟨l,vs,rfl,sl,rs⟩:=Z3.mp rx
   exact .inr ⟨l,rfl,⟨vs,sl.sq⟩,q4 _ H1 s1 (zfG sl rs)⟩
theorem rngT_get (lo:Int) (n i:Nat):(rngT lo n)[i]? = if i < n then some (.int (lo+(i:Int))) else none:=by
 unfold rngT
 rw[List.getElem?_map]
 by_cases h:i < n
 ·rw[if_pos h,List.getElem?_eq_getElem (by simpa using h)]
  simp
 ·rw[if_neg h,List.getElem?_eq_none (by simpa using h)]
  rfl
theorem zcc {H:Hp}{P:Pv}(lo:Int) (n:Nat):Yld X.K (Itr lo n) (rngT lo n) H P:=by
 intro H' P' tr nf i
 refine⟨fun t e=>?_,fun hl=>?_⟩
 ·rw[rngT_get] at e
  split at e
  ·rename_i hi
   cases e
   refine⟨hi,fun x H'' y=>?_⟩
   obtain⟨rfl,rfl⟩:=y
   exact⟨Same.refl _,ZL.mpr rfl⟩
  ·cases e
 ·have:(rngT lo n).length=n:=by simp[rngT]
  rw[this] at hl
  exact hl
theorem Yk {p:Pos}(hg:Gl X "range") (hm:X.mg "range" = none) (ha:EV X W a da) (hs:starEach [a] X.env=[(false,eval a X.env)]:=by rfl) (hs':starEach [a] X.env=(false,eval a X.env)::starEach [] X.env:=by rfl):IV X W tg (.Call (.Name "range" p) [a] [] pos) (iRng da):=
 Qp (zgA hg hm (ZZ ha Xg hs') hs) fun σ H R ⟨G,P,h,q⟩=>by
  unfold Fx.iRng at q
  obtain⟨q1,q2,q3⟩:=zeU q
  refine ZI h q1 q2 fun tx x H1 ex s1 h1 rx=>?_
  have q4:=q3 tx ex
  cases tx <;> try exact q4.elim
  rename_i j
  simp only at q4
  split at q4
  ·rename_i hj
   exact⟨j,by rw[ZL.mp rx],(XR hj).1,(XR hj).2,q4 _ H1 s1 (zcc 0 j.toNat)⟩
  ·exact q4.elim
theorem zg9 {p:Pos}(hg:Gl X "range") (hm:X.mg "range" = none) (ha:EV X W a da) (hb:EV X W b db) (hs:starEach [a,b] X.env=[(false,eval a X.env),(false,eval b X.env)]:=by rfl) (hs2:starEach [b] X.env=[(false,eval b X.env)]:=by rfl)
  (hs3:starEach [a,b] X.env=(false,eval a X.env)::starEach [b] X.env:=by rfl) (hs4:starEach [b] X.env=(false,eval b X.env)::starEach [] X.env:=by rfl):IV X W tg (.Call (.Name "range" p) [a,b] [] pos) (zcP da db):=
 Qp (zgz hg hm (ZZ ha (ZZ hb Xg hs4) hs3) hs hs2) fun σ H R ⟨G,P,h,q⟩=>by
  unfold zcP at q
  obtain⟨q1,q2,q3⟩:=zeU q
  refine ZI h q1 q2 fun tx x H1 ex s1 h1 rx=>?_
  obtain⟨q4,q5,q6⟩:=zeU (q3 tx ex)
  refine ZI h1 (fun c e H' s=>q4 c e H' (s1.trans s)) q5 fun ty y H2 ey s2 h2 ry=>?_
  have q7:=q6 ty ey
  cases tx <;> cases ty <;> try exact q7.elim
  rename_i i j
  simp only at q7
  split at q7
  ·rename_i hj
   exact⟨i,j,by rw[ZL.mp rx,ZL.mp ry],⟨(XR hj.1).1,(XR hj.1).2,(XR hj.2).1,(XR hj.2).2⟩,q7 _ H2 (s1.trans s2) (zcc i (j - i).toNat)⟩
  ·exact q7.elim
def GV (X:Cx) (tg:Expr) (st:PyData->List Sl->Res (List Sl)):Prop:=
 ∃g,PG X tg g/\∀(t:PyData) (v:V) (σ:L2.St) (H:Hp) (P:Pv) (G:List Sl) (Q:L2.St->Hp->Prop),Hol X.K H P σ G->Rl X.K H P t v ->
  (∃G',st t G=.ok G'/\∀σ' P',Go H P H P'->Hol X.K H P' σ' G'->Q σ' H)->g v σ H Q
theorem ZD {i:Nat}{x:Str}(hN:X.N.Nodup) (hi:X.N[i]? = some x) (hx:Loc X.env.scope x) (hf:X.fn x=true\/X.env.scope.names.lookup x=some .local:=by first | exact .inl rfl | exact .inr rfl | assumption):GV X (.Name x pos) (Zw i):=
 ⟨gName i,zdv hN hi hx hf,fun t v σ H P G Q h r ⟨G',e,q⟩=>by
  cases e
  exact q _ (P.del i) .del (h.setVal i r)⟩
theorem zbN {i j:Nat}{x y:Str}{p1 p2:Pos}{k:Nat}(hc:X.calm=true) (hN:X.N.Nodup) (hi:X.N[i]? = some x) (hx:Loc X.env.scope x) (hj:X.N[j]? = some y) (hy:Loc X.env.scope y)
  (hf:X.fn x=true\/X.env.scope.names.lookup x=some .local:=by first | exact .inl rfl | exact .inr rfl | assumption) (hf2:X.fn y=true\/X.env.scope.names.lookup y=some .local:=by first | exact .inl rfl | exact .inr rfl | assumption)
  (hs:(assignEach [.Name x p1,.Name y p2] X.env).map (·.2)=assign (.Name x p1) X.env::(assignEach [.Name y p2] X.env).map (·.2):=by rfl)
  (hs2:(assignEach [.Name y p2] X.env).map (·.2)=assign (.Name y p2) X.env::(assignEach [] X.env).map (·.2):=by rfl)
  (hn:(assignEach [.Name x p1,.Name y p2] X.env).length=2:=by rfl) (hst:(assignEach [.Name x p1,.Name y p2] X.env).findIdx? (·.1)=none:=by rfl):GV X (.Tuple [.Name x p1,.Name y p2] k pos) (Uc i j):=
 ⟨_,pg_tup hc (zeh (zdv hN hi hx hf) (zeh (zdv hN hj hy hf2) pgs_nil hs2) hs) hn hst,fun t v σ H P G Q h r ⟨G',e,q⟩=>by
  unfold Uc at e
  split at e
  ·rename_i tx ty G0
   cases e
   obtain⟨l,vs,rfl,s1,rs⟩:=Z3.mp r
   obtain⟨v1,r1,rfl,a1,b1⟩:=Zy.mp rs
   obtain⟨v2,r2,rfl,a2,b2⟩:=Zy.mp b1
   cases ZS.mp b2
   have h1:=h.setVal i a1
   have h2:=h1.setVal j (Rl.go .del ty v2 a2)
   exact⟨l,[v1,v2],rfl,s1.sq,rfl,v1,[v2],rfl,v2,[],rfl,rfl,q _ _ (Go.del.trans .del) h2⟩
  ·cases e⟩
theorem Hol.offn {K:PySem.W.Frag}{H:Hp}{P:Pv}{σ:L2.St}{G:List Sl}(h:Hol K H P σ G):∀p,H p=none->Off P p:=fun p e=>h.off_new e
theorem Wr {body:List Stmt}{is:List Nat}{st:PyData->List Sl->Res (List Sl)}{it:DA}{d:DS}{iter:Expr}(hp:PassesOwn (model X.prog X.w) X.A X.env X.xe) (hc:X.calm=true) (hi:IV X W tg iter it) (hg:GV X tg st) (hb:SVs X W fl body d)
  (hst:∀t G c,st t G ≠ .exc c:=by first | exact zgg | exact zgf) (hs:∀x,foldedSetIterable iter X.env x=pure x:=by intro _;rfl):SV X W fl (.For tg iter body [] pos) (dFor st is it d):=by
 obtain⟨g,pg,gp⟩:=hg
 refine Wu (ps_for hp hc hi pg hb hs) fun D σ H ⟨G,P,h,q⟩=>?_
 unfold dFor at q
 obtain⟨P1,h1,g1⟩:=h.frz is
 obtain⟨q1,q2,q3⟩:=zhT q
 refine⟨frz is G,P1,h1,?_⟩
 cases e:it (frz is G) with
 | stuck=>exact absurd e q2
 | exc c=>exact fun H' s=>q1 c e H' P1 (g1.trans (.same s))
 | ok ts=>
  intro J H1 s1 y
  have q4:=q3 ts e
  have g2:Go H P H1 P1:=g1.trans (.same s1)
  refine⟨fun i m σ' H'=>m=ts.length - i/\i<=ts.length/\∃G' P',Go H1 P1 H' P'/\Hol X.K H' P' σ' G'/\X9 X.K W fl H P (forL st d (ts.drop i) G') D,⟨ts.length,by simp,Nat.zero_le _,frz is G,P1,.refl _ _,h1.same s1,q4⟩,?_⟩
  rintro i m σ' H' ⟨rfl,hi,G',P',g',h',q'⟩
  obtain⟨y1,y2⟩:=y H' P' g'.tr h'.offn i
  by_cases hlt:i < ts.length
  ·have et:ts[i]? = some ts[i]:=by simp[hlt]
   obtain⟨go,yl⟩:=y1 _ et
   rw[List.drop_eq_getElem_cons hlt] at q'
   unfold forL at q'
   refine .inr ⟨go,fun σ2 H2=>∃G2 P2,Go H1 P1 H2 P2/\Hol X.K H2 P2 σ2 G2/\X9 X.K W fl H P (forL st d (ts.drop (i+1)) G2) D,fun σ2 H2 z=>⟨_,by omega,rfl,hlt,z⟩,fun x H2 yy=>?_⟩
   obtain⟨s2,r2⟩:=yl x H2 yy
   have h2:=h'.same s2
   cases es:st ts[i] G' with
   | stuck=>rw[es] at q';exact q'.elim
   | exc c=>exact absurd es (hst _ _ c)
   | ok G1=>
    rw[es,Res.bind_ok] at q'
    refine gp ts[i] x σ' H2 P' G' _ h2 r2 ⟨G1,es,fun σ3 P3 g3 h3=>⟨G1,P3,h3,?_⟩⟩
    have gg:Go H1 P1 H2 P3:=g'.trans ((Go.same s2).trans g3)
    cases ed:d G1 with
    | stuck=>rw[ed] at q';exact q'.elim
    | exc c=>rw[ed] at q';exact X9.up (r:=.exc c) q' (g2.trans gg)
    | ok o=>
     rw[ed,Res.bind_ok] at q'
     cases o with
     | nx G4=>exact fun σ4 H4 P4 g4 h4=>⟨G4,P4,gg.trans g4,h4,q'⟩
     | ct G4=>exact fun σ4 H4 P4 g4 h4=>⟨G4,P4,gg.trans g4,h4,q'⟩
     | bk G4=>exact fun σ4 H4 P4 g4 h4=>q' σ4 H4 P4 (g2.trans (gg.trans g4)) h4
     | rt t=>exact fun v H4 P4 g4 h4 n4=>q' v H4 P4 (g2.trans (gg.trans g4)) h4 fun z=>(n4 z).back (g2.trans gg)
  ·have ei:i=ts.length:=by omega
   subst ei
   rw[List.drop_length] at q'
   exact .inl ⟨y2 (Nat.le_refl _),q' σ' H' P' (g2.trans g') h'⟩
end
end Fx
namespace Fx
open PySem PySem.Spec PyProof.Rows L2
theorem Same.updL {H H8:Hp}{D:Addr}{vs ws:List V}(s:Same H H8) (hD:H D=none) (h8:H8 D=some (.lst vs)):Same H (upd H8 D (.lst ws)) where
 kp:=fun b o e n=>by rw[Zs (Zv e hD)];exact s.kp b o e n
 free:=fun {b} w=>by
  by_cases z:b=D
  ·rw[z];exact hD
  ·rw[Zs z] at w;exact s.free w
 tab:=fun K t=>Vs.mono (s.tab K t) fun b o e nl=>by
  rw[Zs (fun z=>by rw[z,h8] at e;cases e;exact nl (.inl ⟨_,rfl⟩))];exact e
 tbk:=fun b ps e=>by rw[Zs (Zv e hD)];exact s.tbk b ps e
def zdY (K:PySem.W.Frag) (W:Str->Hp->Prop) (H:Hp) (P:Pv) (r:Res (List PyData)) (Q:VK):Prop:=
 match r with
 | .ok xs=>∀p vs H',Same H H'->H p=none->H' p=some (.lst vs)->Rls K H' (P.fbd p) xs vs->Q (.ref p) H'
 | .exc c=>∀H',Same H H'->W c H'
 | .stuck=>False
def tFO (K:PySem.W.Frag) (W:Str->Hp->Prop) (d:DA):TE:=fun σ H Q=>∃G P,Hol K H P σ G/\zdY K W H P (d G) Q
def OV (X:Cx) (W:Str->Hp->Prop) (e:Expr) (d:DA):Prop:=PE X e (tFO X.K W d)
theorem Tr.fbd {H:Hp}{P:Pv}{p:Addr}:Tr H (P.fbd p) H P:=fun a o e _ q=>⟨e,q.1,fun z=>q.2 (.inl z)⟩
theorem Tr.tofbd {H:Hp}{P:Pv}{p:Addr}(hp:H p=none):Tr H P H (P.fbd p):=fun a o e _ q=>⟨e,q.1,fun z=>z.elim q.2 fun z=>by rw[z,hp] at e;cases e⟩
theorem rl_new {K:PySem.W.Frag}{H H':Hp}{P:Pv}{σ:L2.St}{G:List Sl}{p:Addr}{vs:List V}{xs:List PyData}(h:Hol K H P σ G) (s:Same H H') (hp:H p=none) (hl:H' p=some (.lst vs)) (r:Rls K H' (P.fbd p) xs vs):Rl K H' P (.list xs) (.ref p):=
 ZR.mpr ⟨p,vs,rfl,.off hl (h.off_new hp),Rls.go .fbd xs vs r⟩
theorem Hol.own' {K:PySem.W.Frag}{H H':Hp}{P:Pv}{σ:L2.St}{G:List Sl}{p:Addr}{vs:List V}{xs:List PyData}{i:Nat}(h:Hol K H P σ G) (hi:i < G.length) (s:Same H H') (hp:H p=none) (hl:H' p=some (.lst vs)) (r:Rls K H' (P.fbd p) xs vs) :
  Hol K H' (P.put i p) (σ.set i (some (.ref p))) (G.set i (.own xs))/\Go H P H' (P.put i p):=by
 have g0:Go H P H' (P.put i p):=(Go.put hp).trans (.same s)
 have gg:=g0.tr
 have tt:Tr H' (P.fbd p) H' (P.put i p):=fun a o e _ q=>⟨e,fun j z=>by
  have z':(if j=i then some p else P.own j)=some a:=z
  split at z'
  ·cases z';exact q.2 (Or.inr rfl)
  ·exact q.1 j z',fun z=>q.2 (Or.inl z)⟩
 have rr:Rls K H' (P.put i p) xs vs:=Rls.go tt xs vs r
 refine⟨⟨fun j s' q=>?_,?_,?_,?_,?_,?_,s.tab K h.tab⟩,g0⟩
 ·by_cases e:j=i
  ·subst e
   rw[List.getElem?_set_self hi] at q
   cases q
   exact⟨p,vs,UV (by rw[h.len];exact hi),if_pos rfl,hl,rr⟩
  ·rw[List.getElem?_set_ne (Ne.symm e)] at q
   have z:=h.sl j s' q
   rw[Ux e]
   cases s' with
   | emp=>trivial
   | val t'=>obtain⟨v',e1,r'⟩:=z;exact⟨v',e1,Rl.go gg t' v' r'⟩
   | own xs'=>
    obtain⟨p',vs',e1,e2,e3,r'⟩:=z
    exact⟨p',vs',e1,(by show(if j=i then some p else P.own j)=_;rw[if_neg e];exact e2),s.kp _ _ e3 JF,Rls.go gg xs' vs' r'⟩
   | dct xs'=>
    obtain⟨p',vs',e1,e2,e3,r'⟩:=z
    exact⟨p',vs',e1,(by show(if j=i then some p else P.own j)=_;rw[if_neg e];exact e2),s.kp _ _ e3 nt_dT,Rlk.go gg xs' vs' r'⟩
 ·intro a b c h1 h2
  have h1':(if a=i then some p else P.own a)=some c:=h1
  have h2':(if b=i then some p else P.own b)=some c:=h2
  split at h1'
  ·split at h2'
   ·rename_i z1 z2;rw[z1,z2]
   ·cases h1';obtain⟨ws,q,_⟩:=h.dom h2';rw[hp] at q;cases q
  ·split at h2'
   ·cases h2';obtain⟨ws,q,_⟩:=h.dom h1';rw[hp] at q;cases q
   ·exact h.inj a b c h1' h2'
 ·intro j a z
  have z':(if j=i then some p else P.own j)=some a:=z
  split at z'
  ·rename_i e;subst e;exact⟨_,List.getElem?_set_self hi,trivial⟩
  ·rename_i ne
   obtain⟨xs,q,m⟩:=h.only j a z'
   exact⟨xs,by rw[List.getElem?_set_ne (Ne.symm ne)];exact q,m⟩
 ·intro a z
  obtain⟨o,q,m⟩:=h.fbd a z
  refine⟨o,?_,m⟩
  exact s.kp _ _ q m.nt
 ·intro j a z
  have z':(if j=i then some p else P.own j)=some a:=z
  split at z'
  ·cases z';exact h.nofb hp
  ·exact h.nfb j a z'
 ·rw[List.length_set,List.length_set];exact h.len
def ZW (env:Env):List (Str × NameKind)->List (Str × Addr)->List (Str × Addr)
 | [],cs=>cs
 | (n,k)::r,cs=>ZW env r (if(k == NameKind.free)=true then(n,(env.cells.lookup n).getD 0)::cs else cs)
theorem zc3 (env:Env) (f:Str × NameKind->List (Str × Addr)->Sem (ForInStep (List (Str × Addr))))
  (hf:∀n k cs,f (n,k) cs=if(k == NameKind.free)=true then(cellOf env n >>= fun a=>pure (.yield ((n,a)::cs))) else pure (.yield cs)) :
  ∀(names:List (Str × NameKind)) (cs:List (Str × Addr)),(∀y ∈ names,y.2=.free->∃c,env.cells.lookup y.1=some c)->(forIn names cs f:Sem (List (Str × Addr)))=pure (ZW env names cs)
 | [],cs,h=>rfl
 | (n,k)::r,cs,h=>by
  rw[List.forIn_cons,hf]
  have ih:=fun cs=>zc3 env f hf r cs fun y hy=>h y (List.mem_cons_of_mem _ hy)
  by_cases hk:(k == NameKind.free)=true
  ·obtain⟨c,e⟩:=h (n,k) List.mem_cons_self (by simpa using hk)
   have e2:cellOf env n=pure c:=by unfold cellOf;rw[e]
   rw[if_pos hk,e2,pure_bind,pure_bind]
   show forIn r _ f=_
   rw[ih]
   have ec:ZW env ((n,k)::r) cs=ZW env r (if(k == NameKind.free)=true then(n,(env.cells.lookup n).getD 0)::cs else cs):=rfl
   rw[ec,if_pos hk,e]
   rfl
  ·rw[if_neg hk,pure_bind]
   show forIn r _ f=_
   rw[ih]
   have ec:ZW env ((n,k)::r) cs=ZW env r (if(k == NameKind.free)=true then(n,(env.cells.lookup n).getD 0)::cs else cs):=rfl
   rw[ec,if_neg hk]
theorem Qb {scope:Scope}{env:Env}(h:∀y ∈ scope.names,y.2=.free->∃c,env.cells.lookup y.1=some c):closureFor scope env=pure (ZW env scope.names []):=by
 unfold closureFor
 have:=zc3 env (fun x r=>match x with
  | (name,kind)=>if(kind == NameKind.free)=true then(cellOf env name >>= fun a=>pure (.yield ((name,a)::r))) else pure (.yield r)) (fun _ _ _=>rfl) scope.names [] h
 simp only[bind_pure]
 exact this
theorem Ub (env:Env):∀(names:List (Str × NameKind)) (cs:List (Str × Addr)),(∀y ∈ names,y.2=.free->∃c,env.cells.lookup y.1=some c)->(∀x c,cs.lookup x=some c->env.cells.lookup x=some c) ->
  ∀x c,(ZW env names cs).lookup x=some c->env.cells.lookup x=some c
 | [],cs,h,hc,x,c,e=>hc x c e
 | (n,k)::r,cs,h,hc,x,c,e=>by
  unfold ZW at e
  refine Ub env r _ (fun y hy=>h y (List.mem_cons_of_mem _ hy)) (fun y d ey=>?_) x c e
  by_cases hk:(k == NameKind.free)=true
  ·rw[if_pos hk] at ey
   obtain⟨c',e'⟩:=h (n,k) List.mem_cons_self (by simpa using hk)
   rw[List.lookup_cons] at ey
   split at ey
   ·rename_i q
    have:y=n:=by simpa using q
    subst this
    rw[e'] at ey ⊢
    exact ey
   ·exact hc y d ey
  ·rw[if_neg hk] at ey
   exact hc y d ey
theorem YX {α:Type}{x:Str}{a:α}:∀{cs:List (Str × α)},(x,a) ∈ cs->∃b,cs.lookup x=some b
 | (y,b)::r,h=>by
  rw[List.lookup_cons]
  split
  ·exact⟨b,rfl⟩
  ·rename_i q
   rcases List.mem_cons.mp h with e | e
   ·cases e;simp at q
   ·exact YX e
theorem Vc (env:Env):∀(names:List (Str × NameKind)) (cs:List (Str × Addr)) (x:Str),((∃c,(x,c) ∈ cs)\/(x,NameKind.free) ∈ names)->∃c,(x,c) ∈ ZW env names cs
 | [],cs,x,h=>by
  rcases h with h | h
  ·exact h
  ·cases h
 | (n,k)::r,cs,x,h=>by
  unfold ZW
  refine Vc env r _ x ?_
  rcases h with ⟨c,h⟩ | h
  ·left
   split
   ·exact⟨c,List.mem_cons_of_mem _ h⟩
   ·exact⟨c,h⟩
  ·rcases List.mem_cons.mp h with e | e
   ·cases e
    left
    exact⟨_,by rw[if_pos (by rfl)];exact List.mem_cons_self⟩
   ·exact .inr e
theorem Yg {α:Type}{x:Str}{a:α}:∀{cs:List (Str × α)},cs.lookup x=some a->(x,a) ∈ cs
 | (y,b)::r,h=>by
  rw[List.lookup_cons] at h
  split at h
  ·rename_i q
   have:x=y:=by simpa using q
   cases h;subst this
   exact List.mem_cons_self
  ·exact List.mem_cons_of_mem _ (Yg h)
theorem QD {scope:Scope}{env:Env}{x:Str}(hcell:∀y ∈ scope.names,y.2 ≠ .cell):(relabel scope env).names.lookup x=some .cell\/(relabel scope env).names.lookup x=some .free->(x,NameKind.free) ∈ scope.names:=by
 intro h
 have:∃k,(x,k) ∈ (relabel scope env).names/\(k=.cell\/k=.free):=by
  rcases h with h | h
  ·exact⟨_,Yg h,.inl rfl⟩
  ·exact⟨_,Yg h,.inr rfl⟩
 obtain⟨k,hm,hk⟩:=this
 unfold relabel at hm
 obtain⟨⟨n,k0⟩,hm0,e⟩:=List.mem_map.mp hm
 simp only at e
 split at e
 ·rename_i q
  cases e
  simp only[Bool.and_eq_true,beq_iff_eq] at q
  rw[q.1.1] at hm0
  exact hm0
 ·cases e
  rcases hk with rfl | rfl
  ·exact absurd rfl (hcell _ hm0)
  ·exact hm0
def cxC (X:Cx) (scope:Scope) (N:List Str) (s₀:Shared) (H₀:Hp) (ex:List Addr) (pn:List (Addr × Obj):=[]):Cx:=
 { X with env:=compEnvC scope (ZW X.env scope.names []) s₀.heap.objs.size X.env,N:=N,s₀:=s₀,H₀:=H₀,outer:=X.stack,ex:=ex,fn:=fun _=>false,pn:=pn,xe:=fun _ _=>False }
structure CompOk (X:Cx) (scope:Scope) (N:List Str) (nv:Nat) (cap:List Nat):Prop where
 cell:∀y ∈ scope.names,y.2 ≠ .cell
 kind:scope.kind=.function
 names:∀y ∈ scope.names,y.2=.local->scope.names.lookup y.1=some .local
 free:∀y ∈ scope.names,y.2=.free->X.env.kindOf y.1=some .cell\/X.env.kindOf y.1=some .free
 len:N.length=nv+cap.length
 caps:∀(i j:Nat) (x:Str),cap[i]? = some j->N[nv+i]? = some x->X.N[j]? = some x/\((relabel scope X.env).names.lookup x=some .cell\/(relabel scope X.env).names.lookup x=some .free)/\(X.env.kindOf x=some .cell\/X.env.kindOf x=some .free)
def sig (nv:Nat) (cap:List Nat) (σ:L2.St):L2.St:=List.replicate nv none++cap.map fun j=>σ.getD j none
section
variable {X:Cx}{scope:Scope}{N:List Str}{nv:Nat}{cap:List Nat}{pins:List (Addr × Obj)}{σ:L2.St}{H:Hp}{s:Shared}{ex:List Addr}
theorem CompOk.has (C:CompOk X scope N nv cap) (ok:X.Ok):∀y ∈ scope.names,y.2=.free->∃c,X.env.cells.lookup y.1=some c:=fun y hy e=>ok.has y.1 (C.free y hy e)
theorem CompOk.start (C:CompOk X scope N nv cap) (I:Inv X pins σ H s) (hex:∀b ∈ ex,FpOk X pins H b/\b < s.heap.objs.size) {h':Heap}{t:Nat}{m:Str->Option Value}(hn:h'.Ns s.heap.objs.size m) (hk:∀b o,s.heap.get? b=some o->h'.get? b=some o) :
  Inv (cxC X scope N s H ex) [] (sig nv cap σ) H { s with heap:=h',toks:=t }:=by
 have hh:=C.has I.ok
 have sub:=Ub X.env scope.names [] hh (fun x c e=>by cases e)
 have hL:s.heap.objs.size<=(cxC X scope N s H ex).env.locals:=Nat.le_refl _
 have stk:∀b ∈ frs X.stack,b < s.heap.objs.size:=fun b hb=>by
  obtain⟨_,o,ho,_⟩:=I.stack.mem hb
  exact Heap.lt_size ho
 refine⟨⟨I.ok.mod,C.kind,I.ok.glob,I.ok.blt,hL,fun x y c h1 h2=>I.ok.inj x y c (sub x c h1) (sub y c h2),fun x hx=>?_,fun x c h=>?_,I.ok.hd,I.ok.frames,.inl rfl,fun b hb=>?_,fun b o e=>I.bs b o e,?_,fun b o e hb=>?_,fun b hb=>?_,I.stack,I.stkFree⟩,
  rfl,I.bare,Un.kept hk,⟨m,hn,fun i x v e1 e2 e3=>?_⟩,fun x c e=>?_,I.hok.fresh (Nat.le_refl _),fun x c e=>I.freeC x c (sub x c e),fun p hp=>?_,I.hok.kept hk,?_⟩
 ·have hx':(relabel scope X.env).names.lookup x=some .cell\/(relabel scope X.env).names.lookup x=some .free:=hx
  obtain⟨c,hc⟩:=Vc X.env scope.names [] x (.inr (QD C.cell hx'))
  exact YX hc
 ·cases h
 ·obtain⟨f,lt⟩:=hex b hb
  refine⟨Nat.ne_of_lt lt,fun x c e=>f.2.2.2.2.1 x c (sub x c e)⟩
 ·exact Nat.le_trans I.ok.bsz I.sz
 ·obtain⟨f,lt⟩:=hex b hb
  rcases f.2.2.2.1 with z | z
  ·exact I.ok.noex b o e z
  ·exact absurd (Nat.lt_of_lt_of_le (Heap.lt_size e) (Nat.le_trans I.ok.bsz z)) (Nat.lt_irrefl _)
 ·obtain⟨f,lt⟩:=hex b hb
  intro z
  rcases List.mem_cons.mp (I.stkSub b z) with e | e
  ·exact f.2.1 e
  ·exact f.2.2.1 e
 ·-- the names
  have hi:nv<=i:=by
   rcases Nat.lt_or_ge i nv with z | z
   ·unfold sig at e2
    rw[List.getElem?_append_left (by simpa using z),List.getElem?_replicate] at e2
    split at e2 <;> cases e2
   ·exact z
  obtain⟨k,rfl⟩:=Nat.exists_eq_add_of_le hi
  unfold sig at e2
  rw[List.getElem?_append_right (by simp),List.getElem?_map] at e2
  have ek:nv+k - (List.replicate nv (none:Option V)).length=k:=by simp
  rw[ek] at e2
  cases ec:cap[k]? with
  | none=>rw[ec] at e2;cases e2
  | some j=>
   rw[ec] at e2
   have e2':σ.getD j none=some v:=by simpa using e2
   obtain⟨c1,c2,c3⟩:=C.caps k j x ec e1
   obtain⟨m0,_,hl⟩:=I.loc
   have vis:Vis X.env.scope x:=c3.elim (fun z=>.inr (.inl z)) fun z=>.inr (.inr z)
   obtain⟨u,ru,lk⟩:=hl j x v c1 (getD_some e2') vis
   refine⟨u,ru,.inr ⟨c2,?_⟩⟩
   rcases lk with ⟨z,_⟩ | ⟨_,c,ec',o,ho,hd⟩
   ·rcases c3 with c3 | c3 <;> (rw[c3] at z;cases z)
   ·obtain⟨c',hc'⟩:=Vc X.env scope.names [] x (.inr (QD C.cell c2))
    obtain⟨c'',hc''⟩:=YX hc'
    have:=sub x c'' hc''
    rw[ec'] at this
    cases this
    exact⟨c,hc'',o,hk c o ho,hd⟩
 ·obtain⟨v,o,ho,hd⟩:=I.cell x c (sub x c e)
  exact⟨v,o,hk c o ho,hd⟩
 ·exact absurd (show p ∈ ([]:List (Addr × Obj)) from hp) (by simp)
 ·show(sig nv cap σ).length=N.length
  unfold sig
  rw[C.len]
  simp
theorem CompOk.stop {H':Hp}{s':Shared}{σ':L2.St}{pl:List (Addr × Obj)}(I:Inv X pins σ H s) (hex:∀b ∈ ex,FpOk X pins H b) (J:Inv (cxC X scope N s H ex) pl σ' H' s'):Inv X pins σ H' s':=
 I.call' J.os J.base J.hok J.bare fun b hb=>by
  obtain⟨f0,f1,f2,f3,f4,f5⟩:=hex b hb
  exact⟨f3,f1,f4,f5⟩
theorem inv_pn {s₀:Shared}{H₀:Hp}{E:Value->Shared->Prop}(I:Inv (cxC X scope N s₀ H₀ ex) pins σ H s):Inv ((cxC X scope N s₀ H₀ ex pins).wish E) [] σ H s:=
 ⟨⟨I.ok.mod,I.ok.kind,I.ok.glob,I.ok.blt,I.ok.above,I.ok.inj,I.ok.has,I.ok.cab,I.ok.hd,I.ok.frames,I.ok.stk,I.ok.exf,I.ok.bs,I.ok.bsz,I.ok.noex,I.ok.exfs,I.ok.funs,I.ok.frf⟩,I.os,I.bare,I.base,I.loc,I.cell,I.free,I.freeC,
  fun p hp=>I.pin p (show p ∈ []++pins by simpa using(show p ∈ pins++[] from hp)),I.hok,I.len⟩
theorem inv_np {s₀:Shared}{H₀:Hp}{pn:List (Addr × Obj)}{E:Value->Shared->Prop}(I:Inv ((cxC X scope N s₀ H₀ ex pn).wish E) pins σ H s):Inv (cxC X scope N s₀ H₀ ex) (pn++pins) σ H s:=
 ⟨⟨I.ok.mod,I.ok.kind,I.ok.glob,I.ok.blt,I.ok.above,I.ok.inj,I.ok.has,I.ok.cab,I.ok.hd,I.ok.frames,I.ok.stk,I.ok.exf,I.ok.bs,I.ok.bsz,I.ok.noex,I.ok.exfs,I.ok.funs,I.ok.frf⟩,I.os,I.bare,I.base,I.loc,I.cell,I.free,I.freeC,
  fun p hp=>I.pin p (show p ∈ pn++pins from by simpa using(show p ∈ []++(pn++pins) from hp)),I.hok,I.len⟩
end
end Fx
namespace Fx
open PySem PySem.Spec PyProof.Rows L2
theorem zfy {prog:Program}{w:World}{A:Around}{R:Result->Shared->Prop}{s:Shared}{elt target iter:Expr}{ifs:List Expr}{scope:Scope}{pos:Pos}{it acc:Value}{env:Env}(I:Nat->Shared->Prop)
  (turn:∀n s,I n s->wpAny (model prog w) A (pyNext it) (fun r s₁=>match r with
   | none=>R (.ok .next) s₁
   | some v=>wpAny (model prog w) A (letOwnedTupleGo target it v) (fun _ s₀=>wpAny (model prog w) A (assign target env v) (fun _ s₂=>
     wpAny (model prog w) A (forIn ifs true fun c r=>if r=true then do let ok <- isTrue c env (eval c env);pure (ForInStep.yield ok) else pure (ForInStep.yield r)) (fun ok s₃=>
      if ok=true then wpAny (model prog w) A (eval elt env) (fun x s₄=>
       wpAny (model prog w) A (call (.builtin "list.append") [acc,x]) (fun _ s₅=>∃m,m < n/\I m s₅) (notedBy (model prog w) A env fun e s'=>R (.error e) s') s₄) (notedBy (model prog w) A env fun e s'=>R (.error e) s') s₃
      else ∃m,m < n/\I m s₃) (notedBy (model prog w) A env fun e s'=>R (.error e) s') s₂) (notedBy (model prog w) A env fun e s'=>R (.error e) s') s₀) (notedBy (model prog w) A env fun e s'=>R (.error e) s') s₁) (notedBy (model prog w) A env fun e s'=>R (.error e) s') s)
  (n:Nat) (h:I n s) :
  codeAny (model prog w) A (.compLoop (.ListComp elt [⟨target,iter,ifs,0⟩] scope pos) 0 it acc env) R s:=by
 refine codeAny_loop rfl I (fun n s hI=>?_) n h
 show wpAny _ A ((compTurn (.ListComp elt [⟨target,iter,ifs,0⟩] scope pos) 0 it acc env).onRaise (fun x=>do noteFrame x env;theTreesLotGoes x)) _ _ s
 refine wpAny_noted ?_
 rw[compTurn_list]
 refine wpAny_bind (wpAny_standAt (wpAny_bind (wpAny_mono (turn n s hI) (fun r s₁ h₁=>?_) fun _ _ h'=>h')))
 cases r with
 | none=>exact wpAny_pure h₁
 | some v=>
  refine wpAny_bind (wpAny_mono h₁ (fun _ s₀ h₀=>?_) fun _ _ h'=>h')
  refine wpAny_bind (wpAny_mono h₀ (fun _ s₂ h₂=>wpAny_bind (wpAny_mono h₂ (fun ok s₃ h₃=>?_) fun _ _ h'=>h')) fun _ _ h'=>h')
  cases ok with
  | false=>exact wpAny_pure ⟨rfl,h₃⟩
  | true=>
   exact wpAny_bind (wpAny_bind (wpAny_mono h₃ (fun x s₄ h₄=>wpAny_bind (wpAny_mono h₄ (fun _ s₅ h₅=>wpAny_pure (wpAny_pure ⟨rfl,h₅⟩)) fun _ _ h'=>h')) fun _ _ h'=>h'))
def CT (X:Cx) (W:Str->Hp->Prop) (ifs:List Expr) (dc:DT):Prop:=(ifs=[]/\dc=tT)\/∃c,ifs=[c]/\TV X W c dc
theorem Yh {X:Cx}{W:Str->Hp->Prop}:CT X W [] tT:=.inl ⟨rfl,rfl⟩
theorem zeL {X:Cx}{W:Str->Hp->Prop}{c:Expr}{dc:DT}(h:TV X W c dc):CT X W [c] dc:=.inr ⟨c,rfl,h⟩
section
variable {X:Cx}{scope:Scope}{N:List Str}{nv:Nat}{cap:List Nat}
theorem zhf {K:PySem.W.Frag}{H H':Hp}{P P':Pv}{σ:L2.St}{G:List Sl}(h:Hol K H P σ G) (tr:Tr H P H' P') (ho:∀i,P'.own i=none) (hf:∀a,P'.fb a->∃o,H' a=some o/\LD o) (htb:Vs K H'):Hol K H' P' (sig nv cap σ) (List.replicate nv .emp++capS cap G) where
 sl:=fun i s e=>by
  by_cases hi:i < nv
  ·rw[List.getElem?_append_left (by simpa using hi),List.getElem?_replicate,if_pos hi] at e
   cases e
   trivial
  ·rw[List.getElem?_append_right (by simpa using hi)] at e
   have el:i - (List.replicate nv Sl.emp).length=i - nv:=by simp
   rw[el] at e
   unfold capS at e
   rw[List.getElem?_map] at e
   cases ec:cap[i - nv]? with
   | none=>rw[ec] at e;cases e
   | some j=>
    rw[ec] at e
    have es:(sig nv cap σ).getD i none=σ.getD j none:=by
     unfold sig
     rw[List.getD_eq_getElem?_getD,List.getElem?_append_right (by simpa using hi)]
     have el2:i - (List.replicate nv (none:Option V)).length=i - nv:=by simp
     rw[el2,List.getElem?_map,ec]
     rfl
    rw[es]
    simp only[Option.map_some,Option.some.injEq] at e
    cases eg:G[j]? with
    | none=>rw[eg] at e;subst e;trivial
    | some x=>
     rw[eg] at e
     cases x with
     | emp=>subst e;trivial
     | own xs=>subst e;trivial
     | dct xs=>subst e;trivial
     | val t=>
      subst e
      obtain⟨v,ev,rv⟩:=h.sl j _ eg
      exact⟨v,ev,Rl.go tr t v rv⟩
 inj:=fun i j a z _=>by rw[ho i] at z;cases z
 only:=fun i a z=>by rw[ho i] at z;cases z
 fbd:=hf
 nfb:=fun i a z=>by rw[ho i] at z;cases z
 len:=by simp[sig]
 tab:=htb
theorem zfp {K:PySem.W.Frag}{H:Hp}{P:Pv}{σ:L2.St}{G1:List Sl}{C:List Sl}(hC:∀i,i < nv->∀s,C[i]? = some s->s=.emp) (hC2:∀(i:Nat) (x:Sl),C[i]? = some x->¬x.mine) (h:Hol K H P σ G1) (hl:G1.length=C.length) (he:∀i,nv<=i->G1[i]? = C[i]?) :
  Hol K H P.bare σ C:=by
 obtain⟨h',g⟩:=h.frzA
 refine⟨fun i s e=>?_,fun _ _ _ z=>(by cases z),fun _ _ z=>(by cases z),h'.fbd,fun _ _ z=>(by cases z),by rw[h.len,hl],h'.tab⟩
 by_cases hi:i < nv
 ·rw[hC i hi s e];trivial
 ·have e1:G1[i]? = some s:=by rw[he i (by omega)];exact e
  cases s with
  | emp=>trivial
  | own xs=>exact(hC2 i _ e trivial).elim
  | dct xs=>exact(hC2 i _ e trivial).elim
  | val t=>
   refine h'.sl i (.val t) ?_
   rw[Vo,e1];rfl
abbrev cxT (xz:Cx->Value->Shared->Prop) (X:Cx) (scope:Scope) (N:List Str) (s₀:Shared) (H₀:Hp) (ex:List Addr) (pn:List (Addr × Obj)):Cx:=(cxC X scope N s₀ H₀ ex pn).wish (xz (cxC X scope N s₀ H₀ ex pn))
theorem zfx {xz:Cx->Value->Shared->Prop}{W:Str->Hp->Prop}{tg elt iter:Expr}{ifs:List Expr}{pos:Pos}{st:PyData->List Sl->Res (List Sl)}{dc:DT}{de:DE}{pins:List (Addr × Obj)}{σ:L2.St}{H2:Hp}{s3 s4:Shared}{P:Pv}{G:List Sl}{J:It}{fp:List Addr}{itA D:Addr}{tn:Nat->Heap->Prop}{ts:List PyData}{r:Res (List PyData)}{R:Result->Shared->Prop}{m:Str->Option Value}
  (C:CompOk X scope N nv cap) (hc:X.calm=true) (hk:zdd nv st)
  (hg:∀s₀ H₀ ex pn,GV (cxT xz X scope N s₀ H₀ ex pn) tg st) (ht:∀s₀ H₀ ex pn,(∀b ∈ ex,∃o,(b,o) ∈ pn)->CT (cxT xz X scope N s₀ H₀ ex pn) W ifs dc) (he:∀s₀ H₀ ex pn,(∀b ∈ ex,∃o,(b,o) ∈ pn)->EV (cxT xz X scope N s₀ H₀ ex pn) W elt de)
  (h2:Hol X.K H2 P σ G) (hD:H2 D=none) (I3:Inv X pins σ (upd H2 D (.lst [])) s3) (T:Turn X.prog X.w X.K tg J fp itA tn) (hf:∀b ∈ fp,FpOk X pins (upd H2 D (.lst [])) b/\b < s3.heap.objs.size) (y:Yld X.K J ts H2 P) (hlen:ts.length<=16777216)
  (hall:Yj st dc de (List.replicate nv .emp++capS cap G) ts=r) (hr:r ≠ .stuck) (hW:∀c,r=.exc c->∀H',Same H2 H'->W c H')
  (hn:s4.heap.Ns s3.heap.objs.size m) (hkp:∀b o,s3.heap.get? b=some o->s4.heap.get? b=some o) (e4:∃h' t,s4={ s3 with heap:=h',toks:=t }) (tn0:tn 0 s4.heap)
  (fin:∀s' H' σ' vs all,r=.ok all->Inv (cxC X scope N s3 (upd H2 D (.lst [])) fp) [] σ' H' s'->H' D=some (.lst vs)->Same H2 H'->Rls X.K H' (P.fbd D) all vs->R (.ok .next) s')
  (finx:∀pn e s',(∀b ∈ fp,∃o,(b,o) ∈ pn)->xz (cxC X scope N s3 (upd H2 D (.lst [])) fp pn) e s'->notedBy (model X.prog X.w) X.A (compEnvC scope (ZW X.env scope.names []) s3.heap.objs.size X.env) (fun e s'=>R (.error e) s') e s') :
  codeAny (model X.prog X.w) X.A (.compStart (.ListComp elt [⟨tg,iter,ifs,0⟩] scope pos) 0 (.ref itA) (.ref D) (compEnvC scope (ZW X.env scope.names []) s3.heap.objs.size X.env)) R s4:=by
 obtain⟨h4,t4,rfl⟩:=e4
 have J4:=C.start (t:=t4) I3 hf hn hkp
 -- what no element may hold
 have trc:∀H',Same H2 H'->(∃vs,H' D=some (.lst vs))->Tr H2 P H' ⟨fun _=>none,fun a=>¬Off P a\/a=D⟩:=fun H' s _ a o e n q=>⟨s.kp a o e n,fun _ z=>(by cases z),fun z=>z.elim (fun z=>z q) fun z=>by rw[z,hD] at e;cases e⟩
 have offc:∀H',Same H2 H'->(∃vs,H' D=some (.lst vs))->∀p,H' p=none->Off ⟨fun _=>none,fun a=>¬Off P a\/a=D⟩ p:=fun H' s ⟨vs,hv⟩ p hp=>⟨fun _ z=>(by cases z),fun z=>z.elim (fun z=>z (h2.off_new (s.free hp))) fun z=>by rw[z,hv] at hp;cases hp⟩
 have fbc:∀H',Same H2 H'->(∃vs,H' D=some (.lst vs))->∀a,(¬Off P a\/a=D)->∃o,H' a=some o/\LD o:=fun H' s ⟨vs,hv⟩ a z=>z.elim (fun z=>let⟨o,q,m⟩:=h2.ld z;⟨o,s.kp _ _ q m.nt,m⟩) fun z=>by rw[z];exact⟨_,hv,.inl ⟨vs,rfl⟩⟩
 have hCe:∀i,i < nv->∀x,(List.replicate nv Sl.emp++capS cap G)[i]? = some x->x=.emp:=fun i hi x e=>by
  rw[List.getElem?_append_left (by simpa using hi),List.getElem?_replicate,if_pos hi] at e
  cases e
  rfl
 have hCo:∀(i:Nat) xs,(List.replicate nv Sl.emp++capS cap G)[i]? = some xs->¬xs.mine:=fun i xs e m=>by
  by_cases hi:i < nv
  ·rw[hCe i hi _ e] at m;exact m
  ·rw[List.getElem?_append_right (by simpa using hi)] at e
   unfold capS at e
   rw[List.getElem?_map] at e
   cases ec:cap[i - (List.replicate nv Sl.emp).length]? with
   | none=>rw[ec] at e;cases e
   | some j=>
    rw[ec] at e
    simp only[Option.map_some,Option.some.injEq] at e
    subst e
    revert m
    cases eg:G[j]? with
    | none=>exact fun m=>m
    | some x=>cases x <;> exact fun m=>m
 have fpo:∀H',(∀b ∈ fp,H' b=none)->∀b ∈ fp,FpOk (cxC X scope N s3 (upd H2 D (.lst [])) fp) [] H' b:=fun H' hz b hb=>by
  obtain⟨f,lt⟩:=hf b hb
  refine⟨hz b hb,Nat.ne_of_lt lt,fun z=>?_,.inl hb,fun x c e=>f.2.2.2.2.1 x c (Ub X.env scope.names [] (C.has I3.ok) (fun x c e=>by cases e) x c e),fun p hp=>absurd (show p ∈ ([]:List (Addr × Obj)) from hp) (by simp)⟩
  rcases List.mem_cons.mp (I3.stkSub b z) with e | e
  ·exact f.2.1 e
  ·exact f.2.2.1 e
 have up0:Same H2 (upd H2 D (.lst [])):=ZB hD
 -- the loop
 have loop:∀s5:Shared,s5={ s3 with heap:=h4,toks:=t4 }->codeAny (model X.prog X.w) X.A (.compLoop (.ListComp elt [⟨tg,iter,ifs,0⟩] scope pos) 0 (.ref itA) (.ref D) (compEnvC scope (ZW X.env scope.names []) s3.heap.objs.size X.env)) R s5:=by
  rintro s5 rfl
  refine zfy (fun n s=>∃i σ' H' vs ys,n=ts.length - i/\i<=ts.length/\Inv (cxC X scope N s3 (upd H2 D (.lst [])) fp) [] σ' H' s/\tn i s.heap/\(∀b ∈ fp,H' b=none)/\Same H2 H'/\H' D=some (.lst vs) /\
   Rls X.K H' ⟨fun _=>none,fun a=>¬Off P a\/a=D⟩ ys vs/\Hol X.K H' ⟨fun _=>none,fun a=>¬Off P a\/a=D⟩ σ' (List.replicate nv .emp++capS cap G)/\((Yj st dc de (List.replicate nv .emp++capS cap G) (ts.drop i)).bind fun zs=>.ok (ys++zs))=r/\ys.length<=i) ?_ ts.length
   ⟨0,_,_,[],[],rfl,Nat.zero_le _,J4,tn0,fun b hb=>(hf b hb).1.1,up0,Zt,ZS.mpr rfl,zhf h2 (trc _ up0 ⟨_,Zt⟩) (fun _=>rfl) (fbc _ up0 ⟨_,Zt⟩) (up0.tab _ h2.tab),by rw[List.drop_zero,hall];cases r <;> rfl,Nat.le_refl _⟩
  rintro n s ⟨i,σ',H',vs,ys,rfl,hi,Ji,tni,fpn,sm,hDv,rys,hol,ecl,hyl⟩
  obtain⟨y1,y2⟩:=y H' ⟨fun _=>none,fun a=>¬Off P a\/a=D⟩ (trc H' sm ⟨vs,hDv⟩) (offc H' sm ⟨vs,hDv⟩) i
  by_cases hlt:i < ts.length
  ·have et:ts[i]? = some ts[i]:=by simp[hlt]
   obtain⟨go,yl⟩:=y1 _ et
   rw[List.drop_eq_getElem_cons hlt] at ecl
   unfold Yj at ecl
   -- the turn's own data
   obtain⟨G1,eG⟩:∃G1,st ts[i] (List.replicate nv .emp++capS cap G)=.ok G1:=by
    rcases US (st ts[i] (List.replicate nv .emp++capS cap G)) with ⟨G1,h⟩ | h
    ·exact⟨G1,zek h⟩
    ·rw[h] at ecl;exact absurd ecl.symm hr
   rw[eG,show noX (Res.ok G1:Res (List Sl))=.ok G1 from rfl,Res.bind_ok] at ecl
   obtain⟨kl,ke⟩:=hk _ _ _ eG
   refine wpAny_mono (T.item (cxC X scope N s3 (upd H2 D (.lst [])) fp) rfl rfl rfl hc i [] s σ' H' (fun _ _=>False) Ji (fpo H' fpn) tni go) (fun r' s1 hr'=>?_) fun _ _ z=>z.elim
   obtain⟨u,rfl,hr'⟩:=hr'
   refine wpAny_mono hr' (fun _ s2 hr2=>?_) fun _ _ z=>z.elim
   obtain⟨x,H5,J5,r5,y5,tn5,fr5⟩:=hr2
   obtain⟨sm5,rl5⟩:=yl x H5 y5
   have J5':Inv (cxT xz X scope N s3 (upd H2 D (.lst [])) fp (X5 fp s2.heap)) [] σ' H5 s2:=inv_pn (J5.pinned (fpo H5 fr5) (T.obj _ _ tn5))
   have pnn:∀b ∈ fp,∃o,(b,o) ∈ X5 fp s2.heap:=fun b hb=>by
    obtain⟨o,e,_⟩:=T.obj _ _ tn5 b hb
    exact⟨o,V7 hb e⟩
   have finx':=fun e s'=>finx (X5 fp s2.heap) e s' pnn
   obtain⟨g,pg,gp⟩:=hg s3 (upd H2 D (.lst [])) fp (X5 fp s2.heap)
   have hol5:=hol.same sm5
   refine wpAny_mono (pg _ s2 σ' H5 x u (fun σ6 H6=>H6=H5/\∃P6,Go H5 ⟨fun _=>none,fun a=>¬Off P a\/a=D⟩ H5 P6/\Hol X.K H5 P6 σ6 G1) J5' r5 (gp ts[i] x σ' H5 _ _ _ hol5 rl5 ⟨G1,eG,fun σ6 P6 g6 h6=>⟨rfl,P6,g6,h6⟩⟩)) (fun _ s6 h6=>?_) finx'
   obtain⟨σ6,H6,J6,rfl,P6,g6,hol6⟩:=h6
   -- on to the next turn
   have fr6:∀{H8:Hp}{s8:Shared},Inv (cxT xz X scope N s3 (upd H2 D (.lst [])) fp (X5 fp s2.heap)) [] σ6 H8 s8->∀b ∈ fp,H8 b=none:=fun {H8 s8} J8 b hb=>by
    obtain⟨o,e⟩:=pnn b hb
    exact(J8.pin (b,o) (List.mem_append_left _ e)).2.1
   have next:∀{H8:Hp}{s8:Shared}{ys':List PyData}{vs':List V},Inv (cxT xz X scope N s3 (upd H2 D (.lst [])) fp (X5 fp s2.heap)) [] σ6 H8 s8->Same H2 H8->H8 D=some (.lst vs')->(∀b,b ≠ D->∀o,H6 b=some o->Nt o->H8 b=some o) ->
     Rls X.K H8 ⟨fun _=>none,fun a=>¬Off P a\/a=D⟩ ys' vs'->((Yj st dc de (List.replicate nv .emp++capS cap G) (ts.drop (i+1))).bind fun zs=>.ok (ys'++zs))=r->ys'.length<=i+1 ->
     ∃m,m < ts.length - i/\∃i σ' H' vs ys,m=ts.length - i/\i<=ts.length/\Inv (cxC X scope N s3 (upd H2 D (.lst [])) fp) [] σ' H' s8/\tn i s8.heap/\(∀b ∈ fp,H' b=none)/\Same H2 H'/\H' D=some (.lst vs) /\
      Rls X.K H' ⟨fun _=>none,fun a=>¬Off P a\/a=D⟩ ys vs/\Hol X.K H' ⟨fun _=>none,fun a=>¬Off P a\/a=D⟩ σ' (List.replicate nv .emp++capS cap G)/\((Yj st dc de (List.replicate nv .emp++capS cap G) (ts.drop i)).bind fun zs=>.ok (ys++zs))=r/\ys.length<=i:=by
    intro H8 s8 ys' vs' J8 sm8 hD8 kp8 rys8 ecl8 hyl8
    refine⟨ts.length - (i+1),by omega,i+1,σ6,H8,vs',ys',rfl,hlt,Inv.unpinned (pins:=[]) (pl:=X5 fp s2.heap) (by simpa using inv_np J8),?_,fr6 J8,sm8,hD8,rys8,?_,ecl8,hyl8⟩
    ·exact T.keep _ _ _ tn5 fun b hb o e=>(J8.pin (b,o) (List.mem_append_left _ (V7 hb e))).1
    ·have hF:Hol X.K H6 P6.bare σ6 (List.replicate nv .emp++capS cap G):=zfp hCe hCo hol6 kl ke
     have ep:P6.bare=⟨fun _=>none,fun a=>¬Off P a\/a=D⟩:=by
      unfold Pv.bare
      rw[g6.fbe]
     rw[ep] at hF
     have tr8:Tr H6 ⟨fun _=>none,fun a=>¬Off P a\/a=D⟩ H8 ⟨fun _=>none,fun a=>¬Off P a\/a=D⟩:=fun a o e n q=>⟨kp8 a (fun z=>q.2 (Or.inr z)) o e n,q⟩
     refine⟨fun j x e=>?_,fun _ _ _ z=>(by cases z),fun _ _ z=>(by cases z),fbc H8 sm8 ⟨vs',hD8⟩,fun _ _ z=>(by cases z),hF.len,sm8.tab _ h2.tab⟩
     have z:=hF.sl j x e
     cases x with
     | emp=>trivial
     | val t=>obtain⟨v,e1,r1⟩:=z;exact⟨v,e1,Rl.go tr8 t v r1⟩
     | own xs=>exact(hCo j _ e trivial).elim
     | dct xs=>exact(hCo j _ e trivial).elim
   have sm6:Same H2 H6:=sm.trans sm5
   -- behind the test
   have after:∀k s7 H7,Inv (cxT xz X scope N s3 (upd H2 D (.lst [])) fp (X5 fp s2.heap)) [] σ6 H7 s7->Same H6 H7->dc G1=.ok k->(if k=true then wpAny (model X.prog X.w) X.A (eval elt (compEnvC scope (ZW X.env scope.names []) s3.heap.objs.size X.env)) (fun x s₄=>
      wpAny (model X.prog X.w) X.A (call (.builtin "list.append") [.ref D,x]) (fun _ s₅=>∃m,m < ts.length - i/\∃i σ' H' vs ys,m=ts.length - i/\i<=ts.length/\Inv (cxC X scope N s3 (upd H2 D (.lst [])) fp) [] σ' H' s₅/\tn i s₅.heap/\(∀b ∈ fp,H' b=none)/\Same H2 H'/\H' D=some (.lst vs) /\
      Rls X.K H' ⟨fun _=>none,fun a=>¬Off P a\/a=D⟩ ys vs/\Hol X.K H' ⟨fun _=>none,fun a=>¬Off P a\/a=D⟩ σ' (List.replicate nv .emp++capS cap G)/\((Yj st dc de (List.replicate nv .emp++capS cap G) (ts.drop i)).bind fun zs=>.ok (ys++zs))=r/\ys.length<=i) (notedBy (model X.prog X.w) X.A (compEnvC scope (ZW X.env scope.names []) s3.heap.objs.size X.env) fun e s'=>R (.error e) s') s₄) (notedBy (model X.prog X.w) X.A (compEnvC scope (ZW X.env scope.names []) s3.heap.objs.size X.env) fun e s'=>R (.error e) s') s7
     else ∃m,m < ts.length - i/\∃i σ' H' vs ys,m=ts.length - i/\i<=ts.length/\Inv (cxC X scope N s3 (upd H2 D (.lst [])) fp) [] σ' H' s7/\tn i s7.heap/\(∀b ∈ fp,H' b=none)/\Same H2 H'/\H' D=some (.lst vs) /\
      Rls X.K H' ⟨fun _=>none,fun a=>¬Off P a\/a=D⟩ ys vs/\Hol X.K H' ⟨fun _=>none,fun a=>¬Off P a\/a=D⟩ σ' (List.replicate nv .emp++capS cap G)/\((Yj st dc de (List.replicate nv .emp++capS cap G) (ts.drop i)).bind fun zs=>.ok (ys++zs))=r/\ys.length<=i):=by
    intro k s7 H7 J7 sm7 eK
    rw[eK,Res.bind_ok] at ecl
    have sm27:Same H2 H7:=sm6.trans sm7
    have hD7:H7 D=some (.lst vs):=sm7.kp _ _ (sm5.kp _ _ hDv JF) JF
    have r7:Rls X.K H7 ⟨fun _=>none,fun a=>¬Off P a\/a=D⟩ ys vs:=Rls.go (.same (sm5.trans sm7)) ys vs rys
    cases k with
    | false=>
     rw[if_neg Bool.false_ne_true] at ecl ⊢
     exact next J7 sm27 hD7 (fun b _ o e n=>sm7.kp b o e n) r7 ecl (by omega)
    | true=>
     rw[if_pos rfl] at ecl ⊢
     cases eY:de G1 with
     | stuck=>rw[eY] at ecl;exact absurd ecl.symm hr
     | exc c=>
      rw[eY] at ecl
      refine wpAny_mono (he s3 (upd H2 D (.lst [])) fp (X5 fp s2.heap) pnn _ s7 σ6 H7 (fun _ _=>False) J7 ⟨G1,P6,hol6.same sm7,by rw[eY];exact fun H8 s8=>hW c ecl.symm H8 (sm27.trans s8)⟩) (fun xv s8 h8=>?_) finx'
      obtain⟨_,_,_,_,z⟩:=h8
      exact z.elim
     | ok yv=>
      rw[eY,Res.bind_ok] at ecl
      refine wpAny_mono (he s3 (upd H2 D (.lst [])) fp (X5 fp s2.heap) pnn _ s7 σ6 H7 (fun v H8=>Same H7 H8/\Rl X.K H8 P6 yv v) J7 ⟨G1,P6,hol6.same sm7,by rw[eY];exact fun v H8 s r=>⟨s,r⟩⟩) (fun xv s8 h8=>?_) finx'
      obtain⟨v8,H8,J8,r8,sm8,rl8⟩:=h8
      have hD8:H8 D=some (.lst vs):=sm8.kp _ _ hD7 JF
      have lv:=rys.length
      have tr6:Tr H8 P6 H8 ⟨fun _=>none,fun a=>¬Off P a\/a=D⟩:=fun a o e _ q=>⟨e,fun _ z=>(by cases z),by rw[<- g6.fbe];exact q.2⟩
      refine wpAny_mono (zcG (X:=cxT xz X scope N s3 (upd H2 D (.lst [])) fp (X5 fp s2.heap)) _ s8 σ6 H8 (.ref D) [v8] (.ref D) [xv] (fun w H9=>H9=upd H8 D (.lst (vs++[v8]))) J8 rfl (.cons r8 .nil) ⟨D,vs,v8,rfl,rfl,hD8,by rw[sizeLine_eq];omega,rfl⟩) (fun _ s9 h9=>?_) finx'
      obtain⟨_,H9,J9,_,rfl⟩:=h9
      have trD:Tr H8 ⟨fun _=>none,fun a=>¬Off P a\/a=D⟩ (upd H8 D (.lst (vs++[v8]))) ⟨fun _=>none,fun a=>¬Off P a\/a=D⟩:=fun a o e _ q=>⟨by rw[Zs (fun z=>q.2 (Or.inr z))];exact e,q⟩
      have smD:Same H2 (upd H8 D (.lst (vs++[v8]))):=(sm27.trans sm8).updL hD hD8
      refine next J9 smD Zt (fun b hb o e n=>by rw[Zs hb];exact sm8.kp b o (sm7.kp b o e n) n) (Rls.append (Rls.go trD ys vs (Rls.go (.same sm8) ys vs r7)) (Zy.mpr ⟨v8,[],rfl,Rl.go trD yv v8 (Rl.go tr6 yv v8 rl8),ZS.mpr rfl⟩)) ?_ (by simp;omega)
      rw[<- ecl]
      cases Yj st dc de (List.replicate nv .emp++capS cap G) (ts.drop (i+1)) <;> simp
   rcases ht s3 (upd H2 D (.lst [])) fp (X5 fp s2.heap) pnn with ⟨rfl,rfl⟩ | ⟨cx,rfl,tvc⟩
   ·exact wpAny_tests_nil (after true s6 H6 J6 (Same.refl _) rfl)
   ·cases eK:dc G1 with
    | stuck=>rw[eK] at ecl;exact absurd ecl.symm hr
    | exc c=>
     rw[eK] at ecl
     refine wpAny_tests_one (wpAny_mono (tvc _ s6 σ6 H6 (fun _ _=>False) J6 ⟨G1,P6,hol6,by rw[eK];exact fun H7 s=>hW c ecl.symm H7 (sm6.trans s)⟩) (fun b s7 h7=>?_) finx')
     obtain⟨_,_,z⟩:=h7
     exact z.elim
    | ok k=>
     refine wpAny_tests_one (wpAny_mono (tvc _ s6 σ6 H6 (fun b H7=>b=k/\Same H6 H7) J6 ⟨G1,P6,hol6,by rw[eK];exact fun H7 s=>⟨rfl,s⟩⟩) (fun b s7 h7=>?_) finx')
     obtain⟨H7,J7,rfl,sm7⟩:=h7
     exact after b s7 H7 J7 sm7 eK
  ·have ei:i=ts.length:=by omega
   subst ei
   rw[List.drop_length] at ecl
   have ecl':r=.ok ys:=by rw[<- ecl];simp[Yj]
   refine wpAny_mono (T.done (cxC X scope N s3 (upd H2 D (.lst [])) fp) rfl rfl rfl hc _ [] s σ' H' (fun _ _=>False) Ji (fpo H' fpn) tni (y2 (Nat.le_refl _))) (fun r' s1 hr'=>?_) fun _ _ z=>z.elim
   obtain⟨rfl,J1⟩:=hr'
   have trf:Tr H' ⟨fun _=>none,fun a=>¬Off P a\/a=D⟩ H' (P.fbd D):=fun a o e _ q=>by
    have o1:Off P a:=Classical.byContradiction fun z=>q.2 (Or.inl z)
    exact⟨e,o1.1,fun z=>z.elim o1.2 fun z=>q.2 (Or.inr z)⟩
   exact fin s1 H' σ' vs ys ecl' J1 hDv sm (Rls.go trf ys vs rys)
 exact codeAny_compStart_list (loop _ rfl) (T.self _ 0 _ _ _ tn0 (loop _ rfl))
end
end Fx
namespace Fx
open PySem PySem.Spec PyProof.Rows L2
theorem zeV {a:Res (List PyData)}{f:List PyData->Res (List PyData)}{K:PySem.W.Frag}{W:Str->Hp->Prop}{H:Hp}{P:Pv}{Q:VK}(q:zdY K W H P (a.bind f) Q) :
  (∀c,a=.exc c->∀H',Same H H'->W c H')/\a ≠ .stuck/\∀t,a=.ok t->zdY K W H P (f t) Q:=by
 cases a with
 | ok t=>exact⟨fun c e=>(by cases e),(by intro e;cases e),fun t' e=>by cases e;exact q⟩
 | exc c=>exact⟨fun c' e=>by cases e;exact q,(by intro e;cases e),fun t e=>by cases e⟩
 | stuck=>exact q.elim
theorem Q7 {a:Res PyData}{f:PyData->Res (List PyData)}{K:PySem.W.Frag}{W:Str->Hp->Prop}{H:Hp}{P:Pv}{Q:VK}(q:zdY K W H P (a.bind f) Q) :
  (∀c,a=.exc c->∀H',Same H H'->W c H')/\a ≠ .stuck/\∀t,a=.ok t->zdY K W H P (f t) Q:=by
 cases a with
 | ok t=>exact⟨fun c e=>(by cases e),(by intro e;cases e),fun t' e=>by cases e;exact q⟩
 | exc c=>exact⟨fun c' e=>by cases e;exact q,(by intro e;cases e),fun t e=>by cases e⟩
 | stuck=>exact q.elim
def zd0 (X:Cx) (scope:Scope) (N:List Str) (xz:Cx->Value->Shared->Prop):Prop:=
 ∀(pins:List (Addr × Obj)) (σ:L2.St) (H3:Hp) (s3:Shared) (fp:List Addr) (pn:List (Addr × Obj)) (e:Value) (s':Shared),Inv X pins σ H3 s3->(∀b ∈ fp,FpOk X pins H3 b/\b < s3.heap.objs.size)->(∀b ∈ fp,∃o,(b,o) ∈ pn) ->
  xz (cxC X scope N s3 H3 fp pn) e s'->notedBy (model X.prog X.w) X.A (compEnvC scope (ZW X.env scope.names []) s3.heap.objs.size X.env) (fun x s'=>∃m,s'.heap.Ns s3.heap.objs.size m/\∀h',Heap.SameBut s3.heap.objs.size s'.heap h'->∀cenv:Env,cenv.locals=s3.heap.objs.size ->
   wpAny (model X.prog X.w) X.A (PySem.passOn "comprehension.variables-let-go" x cenv:Sem Value) (fun _ _=>False) X.xe { s' with heap:=h' }) e s'
theorem YC {X:Cx}{scope:Scope}{N:List Str}:zd0 X scope N (fun _ _ _=>False):=fun _ _ _ _ _ _ _ _ _ _ _ h=>h.elim
section
variable {X:Cx}{W:Str->Hp->Prop}{fl:Bool}{scope:Scope}{N:List Str}{nv:Nat}{cap:List Nat}{tg elt iter:Expr}{ifs:List Expr}{pos:Pos}{st:PyData->List Sl->Res (List Sl)}{it:DA}{dc:DT}{de:DE}{xz:Cx->Value->Shared->Prop}
theorem zeM {pins:List (Addr × Obj)}{σ:L2.St}{H:Hp}{s:Shared}{P:Pv}{G:List Sl}{use:Option (Value->Sem Unit)}{Q:Value->Shared->Prop}{pos':Pos}
  (C:CompOk X scope N nv cap) (hc:X.calm=true) (hk:zdd nv st) (hi:IV X W tg iter it)
  (hX:zd0 X scope N xz) (hg:∀s₀ H₀ ex pn,GV (cxT xz X scope N s₀ H₀ ex pn) tg st) (ht:∀s₀ H₀ ex pn,(∀b ∈ ex,∃o,(b,o) ∈ pn)->CT (cxT xz X scope N s₀ H₀ ex pn) W ifs dc) (he:∀s₀ H₀ ex pn,(∀b ∈ ex,∃o,(b,o) ∈ pn)->EV (cxT xz X scope N s₀ H₀ ex pn) W elt de)
  (I:Inv X pins σ H s) (h:Hol X.K H P σ G)
  (hx:∀c,it G=.exc c->∀H',Same H H'->W c H') (hs0:it G ≠ .stuck)
  (fin:∀ts,it G=.ok ts->ts.length<=16777216/\Yj st dc de (List.replicate nv .emp++capS cap G) ts ≠ .stuck/\(∀c,Yj st dc de (List.replicate nv .emp++capS cap G) ts=.exc c->∀H',Same H H'->W c H')/\∀all,Yj st dc de (List.replicate nv .emp++capS cap G) ts=.ok all ->
   ∀D vs H' s' c,Inv X pins σ H' s'->FpOk X pins H' c->(∃m,s'.heap.Ns c m)->(X.env.locals ≠ c/\∀x a,X.env.cells.lookup x=some a->a ≠ c)->Same H H'->H D=none->H' D=some (.lst vs)->Rls X.K H' (P.fbd D) all vs ->
    compPost (model X.prog X.w) X.A X.xe use Q (.ref D) c (.ok .next) s')
  (hs:∀x,foldedSetIterable iter X.env x=pure x:=by intro _;rfl) :
  wpAny (model X.prog X.w) X.A (comprehension (.ListComp elt [⟨tg,iter,ifs,0⟩] scope pos) scope X.env pos' (newList []) false (eval iter X.env) use) Q X.xe s:=by
 refine wpAny_comprehension_free rfl hs (Qb (C.has I.ok)) C.kind C.names (wpAny_mono (hi pins s σ H (fun J H'=>Same H H'/\∃ts,it G=.ok ts/\Yld X.K J ts H' P) I ⟨G,P,h,?_⟩) (fun v s1 h1=>wpAny_mono h1 (fun itv s2 h2=>?_) fun _ _ z=>z) fun _ _ z=>z)
 ·cases e:it G with
  | ok ts=>exact fun J H' s y=>⟨s,ts,rfl,y⟩
  | exc c=>exact hx c e
  | stuck=>exact absurd e hs0
 obtain⟨itA,fp,tn,J,H2,rfl,I2,T,tn0,f2,sm2,ts,ets,y⟩:=h2
 obtain⟨hlen,hns,hex,fin⟩:=fin ts ets
 have hD:H2 s2.heap.objs.size=none:=I2.hok.fresh (Nat.le_refl _)
 refine wpAny_newObj_type (wpAny_newFunctionEnv C.cell (by intro y hy;simp at hy) (fun h₁ hns₁ hsb₁=>?_) C.kind)
 have I3:Inv X pins σ (upd H2 s2.heap.objs.size (.lst [])) { s2 with heap:=s2.heap.push { cls:=.type "list",dict:=none,data:=.seq ([]:List Value).toArray } }:=
  I2.laid (t':=s2.toks) (fun b u e=>Heap.get?_push_of_some _ e) (Nat.le_refl _) ⟨by show 0<=sizeLine;exact Nat.zero_le _,[],0,.nil,Heap.get?_push_size _ rfl⟩
 have sz:(s2.heap.push { cls:=.type "list",dict:=none,data:=.seq ([]:List Value).toArray }).objs.size=s2.heap.objs.size+1:=Heap.size_push _ _
 have hf3:∀b ∈ fp,FpOk X pins (upd H2 s2.heap.objs.size (.lst [])) b/\b < (s2.heap.push { cls:=.type "list",dict:=none,data:=.seq ([]:List Value).toArray }).objs.size:=fun b hb=>by
  obtain⟨o,ho,_⟩:=T.obj 0 _ tn0 b hb
  have lt:=Heap.lt_size ho
  obtain⟨a1,a2⟩:=f2 b hb
  exact⟨⟨by rw[Zs (Nat.ne_of_lt lt)];exact a1,a2⟩,by rw[sz];exact Nat.lt_succ_of_lt lt⟩
 have kp:∀b o,(s2.heap.push { cls:=.type "list",dict:=none,data:=.seq ([]:List Value).toArray }).get? b=some o->h₁.get? b=some o:=fun b o e=>
  hsb₁.extBut b o (Nat.ne_of_lt (Heap.lt_size e)) (Heap.get?_push_of_some _ e)
 have tn3:tn 0 h₁:=T.keep 0 _ _ tn0 fun b _ o e=>kp b o (Heap.get?_push_of_some _ e)
 refine zfx (s3:={ s2 with heap:=s2.heap.push { cls:=.type "list",dict:=none,data:=.seq ([]:List Value).toArray } }) (D:=s2.heap.objs.size) C hc hk hg ht he (h.same sm2) hD I3 T hf3 y hlen rfl hns (fun c ec H' sm=>hex c ec H' (sm2.trans sm)) hns₁ kp ⟨h₁,_,rfl⟩ tn3 (fun s' H' σ' vs all hall J' hl sm r=>?_) fun pn e s' pnn hx=>hX pins σ _ _ fp pn e s' I3 hf3 pnn hx
 have IX:=CompOk.stop I3 (fun b hb=>(hf3 b hb).1) J'
 have fo:FpOk X pins H' (s2.heap.push { cls:=.type "list",dict:=none,data:=.seq ([]:List Value).toArray }).objs.size:=I3.fpOk (Nat.le_refl _) J'.free
 obtain⟨m,hm,_⟩:=J'.loc
 exact fin all hall _ vs H' s' _ IX fo ⟨m,hm⟩ ⟨Ne.symm fo.2.1,fun x a e=>fo.2.2.2.2.1 x a e⟩ (sm2.trans sm) (sm2.free hD) hl r
theorem atC {pins:List (Addr × Obj)}{σ:L2.St}{H:Hp}{s:Shared}{c:Addr}{h':Heap}(I:Inv X pins σ H s) (f:FpOk X pins H c) (hs:Heap.SameBut c s.heap h'):Inv X pins σ H { s with heap:=h' }:=
 I.turned (t':=s.toks) (fun b o hb e=>(hs.2 b hb).trans e) f.1 f.2.1 f.2.2.2.1 f.2.2.2.2.1 f.2.2.2.2.2
theorem Yy (C:CompOk X scope N nv cap) (hc:X.calm=true) (hk:zdd nv st) (hi:IV X W tg iter it)
  (hX:zd0 X scope N xz) (hg:∀s₀ H₀ ex pn,GV (cxT xz X scope N s₀ H₀ ex pn) tg st) (ht:∀s₀ H₀ ex pn,(∀b ∈ ex,∃o,(b,o) ∈ pn)->CT (cxT xz X scope N s₀ H₀ ex pn) W ifs dc) (he:∀s₀ H₀ ex pn,(∀b ∈ ex,∃o,(b,o) ∈ pn)->EV (cxT xz X scope N s₀ H₀ ex pn) W elt de)
  (hs:∀x,foldedSetIterable iter X.env x=pure x:=by intro _;rfl):OV X W (.ListComp elt [⟨tg,iter,ifs,0⟩] scope pos) (Yz nv cap st it dc de):=by
 intro pins s σ H Q I ⟨G,P,h,q⟩
 unfold Yz at q
 obtain⟨q1,q2,q3⟩:=zeV q
 rw[eval_ListComp]
 refine zeM (use:=none) C hc hk hi hX hg ht he I h q1 q2 (fun ts ets=>?_) hs
 have q4:=q3 ts ets
 split at q4
 ·rename_i hl
  cases e:Yj st dc de (List.replicate nv .emp++capS cap G) ts with
  | stuck=>rw[e] at q4;exact q4.elim
  | exc c=>rw[e] at q4;exact⟨hl,fun z=>(by cases z),fun c' z=>by cases z;exact q4,fun all z=>by cases z⟩
  | ok all=>
   rw[e] at q4
   refine⟨hl,fun z=>(by cases z),fun c z=>(by cases z),fun all' z D vs H' s' c IX fo hm hne sm hD hl r=>?_⟩
   cases z
   obtain⟨m,hm⟩:=hm
   exact⟨m,hm,fun h' hsb=>⟨.ref D,H',atC IX fo hsb,rfl,q4 D vs H' sm hD hl r⟩⟩
 ·exact q4.elim
theorem Yu {e:Expr}{d:DA}(h:OV X W e d):EV X W e (dL d):=
 ZE h fun σ H Q ⟨G,P,hh,q⟩=>by
  refine⟨G,P,hh,?_⟩
  unfold dL at q
  cases e:d G with
  | stuck=>rw[e] at q;exact q.elim
  | exc c=>rw[e] at q;exact q
  | ok xs=>rw[e] at q;exact fun p vs H' s hp hl r=>q _ H' s (rl_new hh s hp hl r)
theorem Up {e:Expr}{d:DA}{i:Nat}{x:Str}{is:List Nat}{pos':Pos}(hN:X.N.Nodup) (hi:X.N[i]? = some x) (hx:Loc X.env.scope x) (he:OV X W e d) (hs:swapsWith e (some (.Name x pos')) pos.line X.env=pure false:=by rfl)
  (hf:X.fn x=true\/X.env.scope.names.lookup x=some .local:=by first | exact .inl rfl | exact .inr rfl | assumption):SV X W fl (.Assign [.Name x pos'] e pos) (Jf i is d):=
 Wu (ps_set hN hi hx he hs hf) fun D σ H ⟨G,P,h,q⟩=>by
  unfold Jf at q
  obtain⟨P1,h1,g⟩:=h.frz is
  obtain⟨q1,q2,q3⟩:=zhT q
  refine⟨frz is G,P1,h1,?_⟩
  cases e:d (frz is G) with
  | stuck=>exact absurd e q2
  | exc c=>exact fun H' s=>q1 c e H' P1 (g.trans (.same s))
  | ok xs=>
   have q4:=q3 xs e
   intro p vs H' s hp hl r
   split at q4
   ·rename_i hlt
    have hlt':i < (frz is G).length:=by rw[<- h1.len,h.len];exact hlt
    obtain⟨h2,g2⟩:=h1.own' hlt' s hp hl r
    exact q4 _ H' _ (g.trans g2) h2
   ·exact q4.elim
theorem zcm {i:Nat}{x:Str}{pos':Pos}{d:DS}(C:CompOk X scope N nv cap) (hc:X.calm=true) (hk:zdd nv st) (hi:IV X W tg iter it)
  (hX:zd0 X scope N xz) (hg:∀s₀ H₀ ex pn,GV (cxT xz X scope N s₀ H₀ ex pn) tg st) (ht:∀s₀ H₀ ex pn,(∀b ∈ ex,∃o,(b,o) ∈ pn)->CT (cxT xz X scope N s₀ H₀ ex pn) W ifs dc) (he:∀s₀ H₀ ex pn,(∀b ∈ ex,∃o,(b,o) ∈ pn)->EV (cxT xz X scope N s₀ H₀ ex pn) W elt de)
  (hN:X.N.Nodup) (hix:X.N[i]? = some x) (hx:Loc X.env.scope x) {spos:Pos}(hsw:swapsWith (.ListComp elt [⟨tg,iter,ifs,0⟩] scope pos) (some (.Name x pos')) spos.line X.env=pure true)
  (hs:∀x,foldedSetIterable iter X.env x=pure x) (hf:X.fn x=true\/X.env.scope.names.lookup x=some .local)
  (hd:∀D σ H,tFS X.K W fl d D σ H->∃G P,Hol X.K H P σ G/\(∀c,it G=.exc c->∀H',Same H H'->W c H')/\it G ≠ .stuck/\∀ts,it G=.ok ts->ts.length<=16777216/\Yj st dc de (List.replicate nv .emp++capS cap G) ts ≠ .stuck/\(∀c,Yj st dc de (List.replicate nv .emp++capS cap G) ts=.exc c->∀H',Same H H'->W c H')/\∀all,Yj st dc de (List.replicate nv .emp++capS cap G) ts=.ok all ->
   ∀p vs H',Same H H'->H p=none->H' p=some (.lst vs)->Rls X.K H' (P.fbd p) all vs->D.nx (σ.set i (some (.ref p))) H'):SV X W fl (.Assign [.Name x pos'] (.ListComp elt [⟨tg,iter,ifs,0⟩] scope pos) spos) d:=by
 intro pins s σ H D I hq
 obtain⟨G,P,h,q1,q2,q3⟩:=hd D σ H hq
 rw[exec_Assign_Name_used _ _ _ _ hsw]
 refine wpAny_bind (wpAny_standAt (wpAny_bind ?_))
 show wpAny _ X.A (do let _ <- comprehension (.ListComp elt [⟨tg,iter,ifs,0⟩] scope pos) scope X.env _ (newList []) false (eval iter X.env) (some (assign (.Name x pos') X.env))) _ _ s
 refine wpAny_bind (wpAny_mono (zeM (use:=some (assign (.Name x pos') X.env)) (Q:=fun _ s'=>SP X pins D .next s') C hc hk hi hX hg ht he I h q1 q2 (fun ts ets=>?_) hs) (fun _ s' hq=>wpAny_pure (wpAny_pure hq)) fun _ _ e=>e)
 obtain⟨hl,n1,n2,q4⟩:=q3 ts ets
 refine⟨hl,n1,n2,fun all hall p vs H' s' c IX fo hm hne sm hp hl r=>?_⟩
 obtain⟨m,hm⟩:=hm
 show wpAny _ X.A (assign (.Name x pos') X.env (.ref p)) _ _ _
 refine wpAny_assign_Name (zci IX hN hix hx (v:=.ref p) rfl (fun s'' I'' ch=>?_) hf)
 obtain⟨a,hsb,ha⟩:=ch
 have hca:c ≠ a:=by
  rcases ha with rfl | ha
  ·exact Ne.symm hne.1
  ·exact Ne.symm (hne.2 x a ha)
 refine⟨m,hm.sameBut hsb hca,fun h' hs'=>⟨_,H',atC I'' fo hs',q4 all hall p vs H' sm hp hl r⟩⟩
theorem Qk {i:Nat}{x:Str}{is:List Nat}{pos' spos:Pos}(C:CompOk X scope N nv cap) (hc:X.calm=true) (hk:zdd nv st) (hi:IV X W tg iter it)
  (hX:zd0 X scope N xz) (hg:∀s₀ H₀ ex pn,GV (cxT xz X scope N s₀ H₀ ex pn) tg st) (ht:∀s₀ H₀ ex pn,(∀b ∈ ex,∃o,(b,o) ∈ pn)->CT (cxT xz X scope N s₀ H₀ ex pn) W ifs dc) (he:∀s₀ H₀ ex pn,(∀b ∈ ex,∃o,(b,o) ∈ pn)->EV (cxT xz X scope N s₀ H₀ ex pn) W elt de)
  (hN:X.N.Nodup) (hix:X.N[i]? = some x) (hx:Loc X.env.scope x) (hsw:swapsWith (.ListComp elt [⟨tg,iter,ifs,0⟩] scope pos) (some (.Name x pos')) spos.line X.env=pure true:=by rfl)
  (hs:∀x,foldedSetIterable iter X.env x=pure x:=by intro _;rfl) (hf:X.fn x=true\/X.env.scope.names.lookup x=some .local:=by first | exact .inl rfl | exact .inr rfl | assumption) :
  SV X W fl (.Assign [.Name x pos'] (.ListComp elt [⟨tg,iter,ifs,0⟩] scope pos) spos) (dSet i is (dL (Yz nv cap st it dc de))):=
 zcm C hc hk hi hX hg ht he hN hix hx hsw hs hf fun D σ H ⟨G,P,h,q⟩=>by
  unfold dSet dL Yz at q
  obtain⟨P1,h1,g⟩:=h.frz is
  refine⟨frz is G,P1,h1,?_⟩
  cases e:it (frz is G) with
  | stuck=>rw[e] at q;exact q.elim
  | exc c=>rw[e] at q;exact⟨fun c' ec H' s=>by cases ec;exact q H' P1 (g.trans (.same s)),(by intro z;cases z),fun ts z=>by cases z⟩
  | ok ts=>
   refine⟨fun c' ec=>(by cases ec),(by intro z;cases z),fun ts' z=>?_⟩
   cases z
   rw[e,Res.bind_ok] at q
   split at q
   ·rename_i hl
    refine⟨hl,?_⟩
    cases e2:Yj st dc de (List.replicate nv .emp++capS cap (frz is G)) ts with
    | stuck=>rw[e2] at q;exact q.elim
    | exc c=>rw[e2] at q;exact⟨fun z=>(by cases z),fun c' z H' s=>by cases z;exact q H' P1 (g.trans (.same s)),fun all z=>by cases z⟩
    | ok all=>
     rw[e2] at q
     refine⟨fun z=>(by cases z),fun c z=>(by cases z),fun all' z p vs H' s hp hl r=>?_⟩
     cases z
     have h2:=(h1.same s).setVal i (rl_new h1 s hp hl r)
     exact q _ H' _ (g.trans ((Go.same s).trans .del)) h2
   ·exact q.elim
theorem ss_setCO {i:Nat}{x:Str}{is:List Nat}{pos' spos:Pos}(C:CompOk X scope N nv cap) (hc:X.calm=true) (hk:zdd nv st) (hi:IV X W tg iter it)
  (hX:zd0 X scope N xz) (hg:∀s₀ H₀ ex pn,GV (cxT xz X scope N s₀ H₀ ex pn) tg st) (ht:∀s₀ H₀ ex pn,(∀b ∈ ex,∃o,(b,o) ∈ pn)->CT (cxT xz X scope N s₀ H₀ ex pn) W ifs dc) (he:∀s₀ H₀ ex pn,(∀b ∈ ex,∃o,(b,o) ∈ pn)->EV (cxT xz X scope N s₀ H₀ ex pn) W elt de)
  (hN:X.N.Nodup) (hix:X.N[i]? = some x) (hx:Loc X.env.scope x) (hsw:swapsWith (.ListComp elt [⟨tg,iter,ifs,0⟩] scope pos) (some (.Name x pos')) spos.line X.env=pure true:=by rfl)
  (hs:∀x,foldedSetIterable iter X.env x=pure x:=by intro _;rfl) (hf:X.fn x=true\/X.env.scope.names.lookup x=some .local:=by first | exact .inl rfl | exact .inr rfl | assumption) :
  SV X W fl (.Assign [.Name x pos'] (.ListComp elt [⟨tg,iter,ifs,0⟩] scope pos) spos) (Jf i is (Yz nv cap st it dc de)):=
 zcm C hc hk hi hX hg ht he hN hix hx hsw hs hf fun D σ H ⟨G,P,h,q⟩=>by
  unfold Jf Yz at q
  obtain⟨P1,h1,g⟩:=h.frz is
  refine⟨frz is G,P1,h1,?_⟩
  cases e:it (frz is G) with
  | stuck=>rw[e] at q;exact q.elim
  | exc c=>rw[e] at q;exact⟨fun c' ec H' s=>by cases ec;exact q H' P1 (g.trans (.same s)),(by intro z;cases z),fun ts z=>by cases z⟩
  | ok ts=>
   refine⟨fun c' ec=>(by cases ec),(by intro z;cases z),fun ts' z=>?_⟩
   cases z
   rw[e,Res.bind_ok] at q
   split at q
   ·rename_i hl
    refine⟨hl,?_⟩
    cases e2:Yj st dc de (List.replicate nv .emp++capS cap (frz is G)) ts with
    | stuck=>rw[e2] at q;exact q.elim
    | exc c=>rw[e2] at q;exact⟨fun z=>(by cases z),fun c' z H' s=>by cases z;exact q H' P1 (g.trans (.same s)),fun all z=>by cases z⟩
    | ok all=>
     rw[e2,Res.bind_ok] at q
     refine⟨fun z=>(by cases z),fun c z=>(by cases z),fun all' z p vs H' s hp hl r=>?_⟩
     cases z
     split at q
     ·rename_i hlt
      have hlt':i < (frz is G).length:=by rw[<- h1.len,h.len];exact hlt
      obtain⟨h2,g2⟩:=h1.own' hlt' s hp hl r
      exact q _ H' _ (g.trans g2) h2
     ·exact q.elim
   ·exact q.elim
end
end Fx
namespace Fx
open PySem PySem.Spec PyProof.Rows L2
open AutoSeq1 (wpAny_loadPart')
def SrI (h:Heap) (it l:Addr) (i:Nat):Bool->Prop
 | true=>h.IsTupleIter it l i
 | false=>h.IsListIter it l i
def SrS (h:Heap) (l:Addr) (xs:Array Value):Bool->Prop
 | true=>h.IsTuple l xs
 | false=>h.IsList l xs
theorem SrI.at {h h':Heap}{it l:Addr}{i:Nat}{t:Bool}(x:SrI h it l i t) (k:∀o,h.get? it=some o->h'.get? it=some o):SrI h' it l i t:=by
 cases t <;> (obtain⟨o,e,r⟩:=x;exact⟨o,k o e,r⟩)
theorem SrS.at {h h':Heap}{l:Addr}{xs:Array Value}{t:Bool}(x:SrS h l xs t) (k:∀o,h.get? l=some o->h'.get? l=some o):SrS h' l xs t:=by
 cases t <;> (obtain⟨o,e,r⟩:=x;exact⟨o,k o e,r⟩)
theorem SrI.obj {h:Heap}{it l:Addr}{i:Nat}{t:Bool}(x:SrI h it l i t):∃o,h.get? it=some o/\∀v,o.data ≠ .cell v:=by
 cases t <;> (obtain⟨o,e,c,d⟩:=x;exact⟨o,e,fun v z=>by rw[d] at z;cases z⟩)
theorem SrS.lt {h:Heap}{l:Addr}{xs:Array Value}{t:Bool}(x:SrS h l xs t):l < h.objs.size:=by
 cases t <;> (obtain⟨o,e,_⟩:=x;exact Heap.lt_size e)
def zaE (l:Addr) (t:Bool):Obj:={ cls:=.type (if t then "tuple_iterator" else "list_iterator"),data:=.fields #[.ref l,.int 0 0] }
theorem SrI.new {h:Heap}{l:Addr}{t:Bool}:SrI (h.push (zaE l t)) h.objs.size l 0 t:=by
 cases t <;> exact⟨_,Heap.get?_push_size _ rfl,rfl,rfl⟩
section
variable {prog:Program}{w:World}{A:Around}{E:Value->Shared->Prop}{s:Shared}
theorem Jx {l:Addr}{xs:Array Value}{t:Bool}{Q:Value->Shared->Prop}(x:SrS s.heap l xs t) (q:Q (.ref s.heap.objs.size) { s with heap:=s.heap.push (zaE l t) }):wpAny (model prog w) A (pyIter (.ref l)) Q E s:=by
 cases t
 ·exact wpAny_pyIter_list x q
 ·exact wpAny_pyIter_tuple x q
theorem zbk {it l:Addr}{i:Nat}{xs:Array Value}{t:Bool}{x:Value}{Q:Value->Shared->Prop}(hi:SrI s.heap it l i t) (hs:SrS s.heap l xs t) (hx:xs[i]? = some x)
  (hQ:∀h',SrI h' it l (i+1) t->Heap.SameBut it s.heap h'->Q x { s with heap:=h' }):wpAny (model prog w) A (Builtin.SmallTypes.nextOf (.ref it)) Q E s:=by
 cases t
 ·exact wpAny_nextOf_list_item hi hs hx hQ
 ·have ty:=Heap.IsTupleIter.typeIs hi
  obtain⟨o,ho,hc,hd⟩:=hi
  obtain⟨ol,hol,_,nl,hdl⟩:=hs
  unfold Builtin.SmallTypes.nextOf
  refine wpAny_bind (wpAny_callSpecial?_slot (name:=Str.ofString "__next__") ty F.slot_tuple_iterator_next (wpAny_call_entry F.slot_tuple_iterator_next ty F.entry_tuple_iterator_next ?_ (F.args_tuple_iterator_next_1 _)))
  show wpAny _ _ (field (.ref it) 0 >>= _) _ _ s
  refine wpAny_bind (wpAny_field ho hd (x:=.ref l) rfl ?_)
  show wpAny _ _ (if(Value.ref l == Value.none)=true then _ else _) _ _ s
  rw[if_neg (show ¬((Value.ref l == Value.none)=true) from Bool.false_ne_true)]
  show wpAny _ _ (field (.ref it) 1 >>= _) _ _ s
  refine wpAny_bind (wpAny_field ho hd (x:=.int i 0) rfl ?_)
  show wpAny _ _ (seqItems? (.ref l) >>= _) _ _ s
  refine wpAny_bind (wpAny_seqItems hol hdl ?_)
  simp only[Int.toNat_natCast,hx]
  refine wpAny_bind (wpAny_setField ho hd (by simp) (wpAny_pure ⟨x,rfl,wpAny_pure (hQ _ ?_ (Heap.SameBut.update ..))⟩))
  exact⟨_,Heap.get?_update_self _ ho (Obj.isFreed_of_fields (Obj.data_mapFields hd _)),(Obj.cls_mapFields ..).trans hc,by rw[Obj.data_mapFields hd];simp[rawInt]⟩
theorem zd7 {it l:Addr}{i:Nat}{xs:Array Value}{t:Bool}{Q:Value->Shared->Prop}(hh:A.handled=none) (hi:SrI s.heap it l i t) (hs:SrS s.heap l xs t) (hx:xs[i]? = none)
  (hE:∀h' e,Heap.ExtBut it s.heap h'->(∃o,h'.get? e=some o/\o.cls=.type "StopIteration")->E (.ref e) { s with heap:=h' }):wpAny (model prog w) A (Builtin.SmallTypes.nextOf (.ref it)) Q E s:=by
 cases t
 ·exact wpAny_nextOf_list_end hh hi hs hx hE
 ·have ty:=Heap.IsTupleIter.typeIs hi
  obtain⟨o,ho,hc,hd⟩:=hi
  obtain⟨ol,hol,_,nl,hdl⟩:=hs
  unfold Builtin.SmallTypes.nextOf
  refine wpAny_bind (wpAny_callSpecial?_slot (name:=Str.ofString "__next__") ty F.slot_tuple_iterator_next (wpAny_call_entry F.slot_tuple_iterator_next ty F.entry_tuple_iterator_next ?_ (F.args_tuple_iterator_next_1 _)))
  show wpAny _ _ (field (.ref it) 0 >>= _) _ _ s
  refine wpAny_bind (wpAny_field ho hd (x:=.ref l) rfl ?_)
  show wpAny _ _ (if(Value.ref l == Value.none)=true then _ else _) _ _ s
  rw[if_neg (show ¬((Value.ref l == Value.none)=true) from Bool.false_ne_true)]
  show wpAny _ _ (field (.ref it) 1 >>= _) _ _ s
  refine wpAny_bind (wpAny_field ho hd (x:=.int i 0) rfl ?_)
  show wpAny _ _ (seqItems? (.ref l) >>= _) _ _ s
  refine wpAny_bind (wpAny_seqItems hol hdl ?_)
  simp only[Int.toNat_natCast,hx]
  refine wpAny_bind (wpAny_rule (wpAny_bind (wpAny_setField ho hd (by simp) ?_)))
  show wpAny _ _ (newExc (.type "StopIteration") [] >>= _) _ _ _
  refine wpAny_bind ?_
  simp only[newExc,newTuple]
  refine wpAny_bind (wpAny_newObj_type ?_ (by size_fits))
  refine wpAny_bind (m:=firstArgMember _ _) (wpAny_of_eq (a:=Value.none) (by first | rfl | (simp only[firstArgMember];rfl)) ?_)
  refine wpAny_newObj_type ?_ (by size_fits)
  simp only[raiseNew]
  refine wpAny_bind (wpAny_handled ?_)
  first | rw[show A.in1.handled=none from hh] | rw[hh]
  refine wpAny_bind (wpAny_pure (wpAny_throw ?_))
  exact hE _ _ (((Heap.SameBut.update ..).extBut.push _).push _) ⟨_,Heap.get?_push_size _ rfl,rfl⟩
theorem zd8 (hh:A.handled=none) (it l:Addr) (hne:l ≠ it) (xs:Array Value) (t:Bool):Draws prog w A it [it,l] xs.size (fun i v=>xs[i]? = some v) (fun i h=>SrI h it l i t/\SrS h l xs t) where
 live:=fun _ _ st=>let⟨o,ho,_⟩:=st.1.obj;⟨o,ho⟩
 frame:=fun _ _ _ st hk=>⟨st.1.at fun o e=>hk it (by simp) o e,st.2.at fun o e=>hk l (by simp) o e⟩
 item:=fun i s Q E hi st hQ=>zbk st.1 st.2 (x:=xs[i]) (by simp[hi]) fun h' hit hs=>hQ _ h' s.toks (by simp[hi]) ⟨hit,st.2.at fun o e=>hs.extBut _ _ hne e⟩ hs
 done:=fun s Q E st hE=>zd7 hh st.1 st.2 (by simp) hE
theorem zfi (l:Addr) (xs:Array Value) (t:Bool) :
  Meets (Builtin.«enumerate.__new__» ⟨[.type "enumerate",.ref l],[]⟩) (fun _ R s=>SrS s.heap l xs t /\
   R (.ok (.ret (.ref (s.heap.push (zaE l t)).objs.size))) { s with heap:=(s.heap.push (zaE l t)).push { cls:=.type "enumerate",data:=.fields #[.none,.bool false,.ref s.heap.objs.size,rawInt 0,.none,.none] } }):=
 .of_wp fun prog w A R s h=>by
  obtain⟨hp,g,d,tk,os⟩:=s
  obtain⟨hl,h⟩:=h
  have hsub:=sub_enumerate
  have hL:SrS (Shared.heap ⟨hp,g,d,tk,os⟩) l xs t:=hl
  wp_walk using Jx hL
  refine wpAny_stack_any fun st=>wpAny_pure ?_
  split
  ·rename_i c _ _ _ _ _
   cases(c == Value.type "enumerate") <;> (wp_walk using Jx hL;exact⟨_,rfl,h⟩)
  ·wp_walk using Jx hL
   exact⟨_,rfl,h⟩
theorem zhR {l:Addr}{xs:Array Value}{t:Bool}{Q:Value->Shared->Prop}(hL:SrS s.heap l xs t)
  (h:∀h',IsEnum h' (s.heap.objs.size+1) s.heap.objs.size 0 .none->SrI h' s.heap.objs.size l 0 t->(∀b o,s.heap.get? b=some o->h'.get? b=some o)->Q (.ref (s.heap.objs.size+1)) { s with heap:=h' }) :
  wpAny (model prog w) A (call (.type "enumerate") [.ref l]) Q E s:=by
 refine callType_new F.called_enumerate (by decide) (F.typeCall_enumerate_1 _) (F.newCall_enumerate_1 _) (fun obj=>F.args_object_init_2 obj _) F.entry_enumerate_new (zfi l xs t) ⟨hL,?_⟩
 have hz:(s.heap.push (zaE l t)).objs.size=s.heap.objs.size+1:=Heap.size_push ..
 show _/\_
 rw[hz]
 have he:IsEnum ((s.heap.push (zaE l t)).push { cls:=.type "enumerate",data:=.fields #[.none,.bool false,.ref s.heap.objs.size,rawInt 0,.none,.none] }) (s.heap.objs.size+1) s.heap.objs.size 0 .none:=by
  have z:=Heap.get?_push_size (s.heap.push (zaE l t)) (o:={ cls:=.type "enumerate",data:=.fields #[.none,.bool false,.ref s.heap.objs.size,rawInt 0,.none,.none] }) rfl
  rw[hz] at z
  exact z
 exact⟨⟨_,he,rfl⟩,h _ he (SrI.new.at fun o e=>Heap.get?_push_of_some _ e) fun b o x=>Heap.get?_push_of_some _ (Heap.get?_push_of_some _ x)⟩
end
end Fx
namespace Fx
open PySem PySem.Spec PyProof.Rows L2
section
variable {X:Cx}{W:Str->Hp->Prop}{pins:List (Addr × Obj)}{σ:L2.St}{H:Hp}{s s':Shared}{ch:List Addr}
theorem inv_ch (I:Inv X pins σ H s) (hch:∀b ∈ ch,FpOk X pins H b) (ho:s'.os=s.os) (hg:s'.gens=s.gens) (k:∀b o,b ∉ ch->s.heap.get? b=some o->s'.heap.get? b=some o):Inv X pins σ H s':=by
 have nch:∀b u,H b=some u->b ∉ ch:=fun b u e z=>by rw[(hch b z).1] at e;cases e
 refine I.call' (ch:=ch) ho ⟨fun b o e _ _ hx=>k b o hx e,fun b o e _ _ hx=>⟨o.slots,k b o hx e⟩,fun b o e n _=>n,fun b o e hx=>⟨o,k b o hx e⟩,fun _ _ e=>e,fun _ _ _ e=>e,fun b ps e=>⟨#[],by rw[e];simp⟩⟩ (fun b u e=>?_) (by rw[hg];exact I.bare) fun b hb=>?_
 ·refine(I.hok b u e).stay (fun c v hc q=>k c v ?_ q) (fun _ q=>q) fun _ _ q=>q
  rcases hc with z | z
  ·rw[z];exact nch b u e
  ·exact nch c _ z
 ·obtain⟨f0,f1,f2,f3,f4,f5⟩:=hch b hb
  exact⟨f3,f1,f4,f5⟩
theorem zhd {xs:List V}{its:List Value}(I:Inv X pins σ H s) (hch:∀b ∈ ch,FpOk X pins H b) (ho:s'.os=s.os) (hg:s'.gens=s.gens) (k:∀b o,b ∉ ch->s.heap.get? b=some o->s'.heap.get? b=some o)
  (ht:s'.heap.get? s.heap.objs.size=some { cls:=.type "tuple",data:=.seq its.toArray }) (rv:Vals xs its) (hz:xs.length<=sizeLine):Inv X pins σ (upd H s.heap.objs.size (.tup xs)) s':=by
 have hp:H s.heap.objs.size=none:=I.hok.fresh (Nat.le_refl _)
 have nch:∀b u,H b=some u->b ∉ ch:=fun b u e z=>by rw[(hch b z).1] at e;cases e
 have ne:∀b o,s.heap.get? b=some o->b ≠ s.heap.objs.size:=fun b o e=>Nat.ne_of_lt (Heap.lt_size e)
 refine I.call' (ch:=ch) ho ⟨fun b o e _ _ hx=>k b o hx e,fun b o e _ _ hx=>⟨o.slots,k b o hx e⟩,fun b o e n _=>by rw[Zs (ne b o e)];exact n,fun b o e hx=>⟨o,k b o hx e⟩,fun b ys e=>by rw[Zs (Zv e hp)];exact e,
  fun b o u e=>by rw[Zs (Zv e hp)];exact e,fun b ps e=>⟨#[],by rw[Zs (Zv e hp),e];simp⟩⟩ (fun b u e=>?_) (by rw[hg];exact I.bare) fun b hb=>?_
 ·by_cases hb:b=s.heap.objs.size
  ·subst hb
   rw[Zt] at e
   cases e
   exact⟨hz,its,rv,⟨_,ht,rfl,_,rfl⟩⟩
  ·rw[Zs hb] at e
   refine(I.hok b u e).stay (fun c v hc q=>k c v ?_ q) (fun c q=>by rw[Zs (Zv q hp)];exact q) fun c ys q=>by rw[Zs (Zv q hp)];exact q
   rcases hc with z | z
   ·rw[z];exact nch b u e
   ·exact nch c _ z
 ·obtain⟨f0,f1,f2,f3,f4,f5⟩:=hch b hb
  exact⟨f3,f1,f4,f5⟩
end
def Sq (K:PySem.W.Frag) (H:Hp) (a:Addr) (xs:List V):Bool->Prop
 | true=>SqT K H a xs
 | false=>SqL K H a xs
theorem UM {X:Cx}{pins:List (Addr × Obj)}{σ:L2.St}{H:Hp}{s:Shared}{a:Addr}{xs:List V}{t:Bool}(I:Inv X pins σ H s) (h:Sq X.K H a xs t):∃its:List Value,Vals xs its/\SrS s.heap a its.toArray t/\xs.length<=sizeLine:=by
 cases t
 ·obtain⟨its,r,p,z⟩:=I.list h;exact⟨its,r,p.isList,z⟩
 ·obtain⟨its,r,p,z⟩:=I.tuple h;exact⟨its,r,p,z⟩
theorem zf2 {X:Cx}{pins:List (Addr × Obj)}{σ:L2.St}{H:Hp}{s:Shared}{a:Addr}{xs ys:List V}{t:Bool}(I:Inv X pins σ H s) (h:Sq X.K H a xs t) (h':Sq X.K H a ys t):xs=ys:=by
 cases t
 ·exact I.list_inj h h'
 ·exact I.tuple_inj h h'
def Ite (K:PySem.W.Frag) (l:Addr) (t:Bool):It:=
 ⟨fun i H=>∃xs x,Sq K H l xs t/\xs[i]? = some x,fun i H x H'=>∃p v,x=.ref p/\H p=none/\H'=upd H p (.tup [.int i,v])/\∀xs,Sq K H l xs t->xs[i]? = some v,fun i H=>∃xs,Sq K H l xs t/\xs.length<=i⟩
theorem zfQ {P:Program}{w:World}{K:PySem.W.Frag}{elts:List Expr}{k:Nat}{pos:Pos}(l e it:Addr) (t:Bool) (hne:e ≠ it) (hle:l ≠ e) (hli:l ≠ it) :
  Turn P w K (.Tuple elts k pos) (Ite K l t) [e,it] e (fun i h=>∃old,IsEnum h e it i old/\SrI h it l i t) where
 mem:=by simp
 obj:=fun i h st b hb=>by
  obtain⟨old,he,hi⟩:=st
  rcases List.mem_cons.mp hb with z | z
  ·subst z;exact⟨_,he,fun v z=>by cases z⟩
  ·have:b=it:=by simpa using z
   subst this;exact hi.obj
 keep:=fun i h h' st kk=>by
  obtain⟨old,he,hi⟩:=st
  exact⟨old,kk e (by simp) _ he,hi.at fun o q=>kk it (by simp) o q⟩
 item:=by
  intro X hP hw hK hc i pins s σ H E I hf st hg
  subst hP hw hK
  obtain⟨xs,x,hq,hx⟩:=hg
  obtain⟨its,rv,hs,hz⟩:=UM I hq
  obtain⟨u,hu,ru⟩:=rv.get hx
  obtain⟨old,he,hi⟩:=st
  have hil:i < its.toArray.size:=by
   have:=(List.getElem?_eq_some_iff.mp hu).1
   simpa using this
  refine wpAny_pyNext_enum_itemD (zd8 (A:=X.A.in1) (I.ok.hd hc) it l hli its.toArray t) he ⟨hi,hs⟩ hil hne (by simp[hne,Ne.symm hle]) fun y h' tk hy heo hst ht hsz kk=>?_
  have ey:y=u:=by
   have:its.toArray[i]? = some u:=by simpa using hu
   rw[this] at hy;cases hy;rfl
  subst ey
  refine⟨_,rfl,wpAny_letOwnedTupleGo_enum heo fun h'' he'' hsb=>?_⟩
  have nel:e < s.heap.objs.size:=Heap.lt_size he
  have ke:∀b o,b ∉ [e,it]->s.heap.get? b=some o->h''.get? b=some o:=fun b o hb q=>by
   simp only[List.mem_cons,List.not_mem_nil,or_false,not_or] at hb
   exact hsb.extBut b o hb.1 (kk b o hb.1 hb.2 q)
  refine⟨.ref s.heap.objs.size,upd H s.heap.objs.size (.tup [.int i,x]),zhd (s':={ s with heap:=h'',toks:=tk+1 }) (its:=[.int i tk,y]) I hf rfl rfl ke (hsb.extBut _ _ (Nat.ne_of_gt nel) ht) (.cons ⟨tk,rfl⟩ (.cons ru .nil)) (by show 2<=sizeLine;decide),rfl,?_,?_,fun b hb=>?_⟩
  ·exact⟨_,x,rfl,I.hok.fresh (Nat.le_refl _),rfl,fun ys hy=>by rw[zf2 I hy hq];exact hx⟩
  ·exact⟨y,he'',hst.1.at fun o q=>hsb.extBut _ _ (Ne.symm hne) q⟩
  ·have z:=(hf b hb).1
   obtain⟨o,ho⟩:∃o,s.heap.get? b=some o:=by
    rcases List.mem_cons.mp hb with q | q
    ·subst q;exact⟨_,he⟩
    ·have:b=it:=by simpa using q
     subst this;obtain⟨o,ho,_⟩:=hi.obj;exact⟨o,ho⟩
   rw[Zs (Nat.ne_of_lt (Heap.lt_size ho))];exact z
 done:=by
  intro X hP hw hK hc i pins s σ H E I hf st hg
  subst hP hw hK
  obtain⟨xs,hq,hx⟩:=hg
  obtain⟨its,rv,hs,hz⟩:=UM I hq
  obtain⟨old,he,hi⟩:=st
  have hl:=rv.length
  have D:=zd8 (prog:=X.prog) (w:=X.w) (A:=X.A.in1) (I.ok.hd hc) it l hli its.toArray t
  -- the draws beyond the end: at the place i
  have D':Draws X.prog X.w X.A.in1 it [it,l] i (fun j v=>j < i/\its.toArray[j]? = some v\/True) (fun j h=>SrI h it l j t/\SrS h l its.toArray t/\i<=j):=⟨fun _ _ st=>let⟨o,ho,_⟩:=st.1.obj;⟨o,ho⟩,
   fun _ _ _ st hk=>⟨st.1.at fun o e=>hk it (by simp) o e,st.2.1.at fun o e=>hk l (by simp) o e,st.2.2⟩,
   fun j s Q E hj st hQ=>absurd st.2.2 (by omega),fun s Q E st hE=>zd7 (I.ok.hd hc) st.1 st.2.1 (by simp;omega) hE⟩
  exact wpAny_pyNext_enum_endD D' he ⟨hi,hs,Nat.le_refl _⟩ fun h' eb=>⟨rfl,inv_ch (ch:=[e,it]) (s':={ s with heap:=h' }) I hf rfl rfl fun b o hb q=>eb b o (fun z=>hb (by simp[z])) q⟩
 self:=fun _ _ _ _ _ st h=>by
  obtain⟨old,he,hi⟩:=st
  exact wpAny_pyIter_enum he h
section
variable {X:Cx}{W:Str->Hp->Prop}{tg a b c e:Expr}{es elts:List Expr}{da db:DE}{pos:Pos}
def iEn (K:PySem.W.Frag) (ta:TA):TI:=fun σ H R=>ta σ H fun vs H1=>∃a t,vs=[.ref a]/\(∃xs,Sq K H1 a xs t)/\R (Ite K a t) H1
theorem pi_enum {l:Expr}{ta:TA}{p tp:Pos}{k:Nat}(hg:Gl X "enumerate") (hm:X.mg "enumerate" = none) (hl:PA X [l] ta) (hs:starEach [l] X.env=(false,eval l X.env)::starEach [] X.env:=by rfl):PI X (.Tuple elts k tp) (.Call (.Name "enumerate" p) [l] [] pos) (iEn X.K ta):=by
 intro pins s σ H R I h
 refine Call_ (UT I hg hm (show bootBuiltins "enumerate" = some (.type "enumerate") by decide +kernel) (PyProof.Rows.callWith_type1 (thn (hl pos pins s σ H _ I h) fun us s1 ⟨vs,H1,I1,r1,q1⟩=>?_) hs rfl))
 obtain⟨l,t,rfl,⟨xs,hq⟩,q⟩:=q1
 obtain⟨u,rfl,ru⟩:=Ja r1
 cases ru
 obtain⟨its,rv,hsr,hz⟩:=UM I1 hq
 have lt:=hsr.lt
 refine zhR hsr fun h' he hi kk=>wpAny_pyIter_enum he ?_
 have I2:Inv X pins σ H1 { s1 with heap:=h' }:=I1.kept (t':=s1.toks) kk
 refine⟨_,[s1.heap.objs.size+1,s1.heap.objs.size],_,Ite X.K l t,H1,rfl,I2,zfQ l _ _ t (Nat.succ_ne_self _) (Nat.ne_of_lt (Nat.lt_succ_of_lt lt)) (Nat.ne_of_lt lt),⟨_,he,hi⟩,fun b hb=>?_,q⟩
 have hb':s1.heap.objs.size<=b:=by
  rcases List.mem_cons.mp hb with z | z
  ·rw[z];exact Nat.le_succ _
  ·have:b=s1.heap.objs.size:=by simpa using z
   rw[this];exact Nat.le_refl _
 exact I1.fpOk hb' (I1.hok.fresh hb')
theorem zcX:∀(xs:List PyData) (n i:Nat),(JU n xs)[i]? = (xs[i]?).map fun x=>.tuple [.int ((n+i:Nat):Int),x]
 | [],n,i=>by simp[JU]
 | x::r,n,0=>by simp[JU]
 | x::r,n,i+1=>by
  simp only[JU,List.getElem?_cons_succ,zcX r (n+1) i]
  have:n+1+i=n+(i+1):=by omega
  rw[this]
theorem zcW:∀(xs:List PyData) (n:Nat),(JU n xs).length=xs.length
 | [],n=>rfl
 | x::r,n=>by simp[JU,zcW r (n+1)]
theorem zd3 {H:Hp}{P:Pv}{l:Addr}{t:Bool}{xs:List PyData}{vs:List V}(sq:∀H' P',Tr H P H' P'->Sq X.K H' l vs t) (r:Rls X.K H P xs vs):Yld X.K (Ite X.K l t) (JU 0 xs) H P:=by
 intro H' P' tr nf i
 have r':=Rls.go tr xs vs r
 have s':=sq H' P' tr
 refine⟨fun tt e=>?_,fun hl=>⟨vs,s',by rw[zcW] at hl;rw[<- r.length];exact hl⟩⟩
 rw[zcX] at e
 cases ex:xs[i]? with
 | none=>rw[ex] at e;cases e
 | some x=>
  rw[ex] at e
  simp only[Option.map_some,Option.some.injEq] at e
  subst e
  obtain⟨v,ev,rv⟩:=r'.getT ex
  refine⟨⟨vs,v,s',ev⟩,fun y H'' yy=>?_⟩
  obtain⟨p,v',rfl,hp,rfl,hv⟩:=yy
  have:=hv vs s'
  rw[ev] at this
  cases this
  refine⟨ZB hp,Z3.mpr ⟨p,_,rfl,.off Zt (nf p hp),Zy.mpr ⟨.int i,[v],rfl,ZL.mpr (by simp),Zy.mpr ⟨v,[],rfl,Rl.go (.same (ZB hp)) x v rv,ZS.mpr rfl⟩⟩⟩⟩
theorem iv_enum {p tp:Pos}{k:Nat}(hg:Gl X "enumerate") (hm:X.mg "enumerate" = none) (ha:EV X W a da) (hs:starEach [a] X.env=(false,eval a X.env)::starEach [] X.env:=by rfl):IV X W (.Tuple elts k tp) (.Call (.Name "enumerate" p) [a] [] pos) (iEnum (iSeq da)):=
 Qp (pi_enum hg hm (ZZ ha Xg hs) hs) fun σ H R ⟨G,P,h,q⟩=>by
  unfold iEnum iSeq at q
  cases e:da G with
  | stuck=>rw[e] at q;exact q.elim
  | exc c=>rw[e] at q;exact⟨G,P,h,by rw[e];exact q⟩
  | ok tx=>
   rw[e,Res.bind_ok] at q
   refine⟨G,P,h,?_⟩
   rw[e]
   intro x H1 s1 rx
   have h1:=h.same s1
   cases tx <;> try exact q.elim
   ·obtain⟨l,vs,rfl,sl,rs⟩:=ZR.mp rx
    exact⟨l,false,rfl,⟨vs,sl.sq⟩,q _ H1 s1 (zd3 (t:=false) (fun H' P' tr=>(sl.go tr).sq) rs)⟩
   ·obtain⟨l,vs,rfl,sl,rs⟩:=Z3.mp rx
    exact⟨l,true,rfl,⟨vs,sl.sq⟩,q _ H1 s1 (zd3 (t:=true) (fun H' P' tr=>(sl.go tr).sq) rs)⟩
end
end Fx
namespace Fx
open PySem PySem.Spec PyProof.Rows L2
section
variable {prog:Program}{w:World}{A:Around}{E:Value->Shared->Prop}{s:Shared}
theorem zip_item {z TI TO i1 i2 l1 l2:Addr}{k1 k2:Nat}{xs ys:Array Value}{x y a b:Value}{t1 t2:Bool}{Q:Value->Shared->Prop}(D:ZipApart z TI TO i1 i2 l1 l2)
  (hz:IsZip s.heap z TI TO .none) (hTI:IsPair s.heap TI (.ref i1) (.ref i2)) (hTO:IsPair s.heap TO a b)
  (h1:SrI s.heap i1 l1 k1 t1) (h2:SrI s.heap i2 l2 k2 t2) (hl1:SrS s.heap l1 xs t1) (hl2:SrS s.heap l2 ys t2) (hx:xs[k1]? = some x) (hy:ys[k2]? = some y)
  (hQ:∀h',IsZip h' z TI TO (rawInt s.heap.objs.size)->IsPair h' TO x y->SrI h' i1 l1 (k1+1) t1->SrI h' i2 l2 (k2+1) t2->IsPair h' s.heap.objs.size x y ->
   (∀c o,c ∉ [z,TO,i1,i2]->s.heap.get? c=some o->h'.get? c=some o)->Q (.ref s.heap.objs.size) { s with heap:=h' }) :
  wpAny (model prog w) A (Builtin.«zip.__next__» ⟨[.ref z],[]⟩) (fun fin s'=>∃v,fin=.done (.ret v)/\Q v s') E s:=by
 show wpAny _ _ (field (.ref z) 2 >>= _) _ _ _
 refine wpAny_bind (wpAny_field hz rfl (x:=.bool false) rfl ?_)
 show wpAny _ _ (field (.ref z) 3 >>= _) _ _ _
 refine wpAny_bind (wpAny_field hz rfl (x:=.ref TI) rfl ?_)
 refine wpAny_bind (wpAny_seqItems hTI rfl ?_)
 show wpAny _ _ (Builtin.SmallTypes.ownedTupleIsFree (.ref z) >>= _) _ _ _
 refine wpAny_bind ?_
 unfold Builtin.SmallTypes.ownedTupleIsFree
 refine wpAny_bind (wpAny_field hz rfl (x:=.none) rfl (wpAny_pure ?_))
 simp only[if_true]
 refine wpAny_bind (wpAny_rule ?_)
 refine wpAny_bind (wpAny_field hz rfl (x:=.ref TO) rfl ?_)
 refine wpAny_bind (wpAny_setField_rec hz (by simp) fun g1 z1 e1=>?_)
 replace z1:IsZip g1 z TI TO .ellipsis:=z1
 refine wpAny_bind ?_
 simp only[List.zipIdx_cons,List.zipIdx_nil,List.forIn_cons,List.forIn_nil]
 -- the first draw
 refine wpAny_bind (wpAny_bind (wpAny_onRaise ?_))
 show wpAny _ _ (Builtin.SmallTypes.nextOf (.ref i1) >>= _) _ _ _
 refine wpAny_bind (zbk (h1.at fun o e=>e1.extBut _ _ D.i1z e) (hl1.at fun o e=>e1.extBut _ _ D.l1z e) hx fun g2 d2 e2=>wpAny_pure ?_)
 have o2:IsPair g2 TO a b:=e2.extBut _ _ D.TOi1 (e1.extBut _ _ D.TOz hTO)
 refine wpAny_bind (wpAny_seqItems o2 rfl ?_)
 refine wpAny_bind (wpAny_updateSeq_pair o2 fun g3 o3 e3=>?_)
 replace o3:IsPair g3 TO x b:=o3
 refine wpAny_bind (wpAny_letGo (wpAny_pure ?_))
 -- the second
 refine wpAny_bind (wpAny_bind (wpAny_onRaise ?_))
 show wpAny _ _ (Builtin.SmallTypes.nextOf (.ref i2) >>= _) _ _ _
 refine wpAny_bind (zbk (h2.at fun o e=>e3.extBut _ _ D.TOi2.symm (e2.extBut _ _ D.i12.symm (e1.extBut _ _ D.i2z e))) (hl2.at fun o e=>e3.extBut _ _ D.l2TO (e2.extBut _ _ D.l2i1 (e1.extBut _ _ D.l2z e))) hy fun g4 d4 e4=>wpAny_pure ?_)
 have o4:IsPair g4 TO x b:=e4.extBut _ _ D.TOi2 o3
 refine wpAny_bind (wpAny_seqItems o4 rfl ?_)
 refine wpAny_bind (wpAny_updateSeq_pair o4 fun g5 o5 e5=>?_)
 replace o5:IsPair g5 TO x y:=o5
 refine wpAny_bind (wpAny_letGo (wpAny_pure (wpAny_pure ?_)))
 -- the pair
 refine wpAny_bind (wpAny_seqItems o5 rfl ?_)
 refine wpAny_bind (wpAny_newTuple ?_)
 have sz:g5.objs.size=s.heap.objs.size:=by rw[e5.1,e4.1,e3.1,e2.1,e1.1]
 have z5:IsZip g5 z TI TO .ellipsis:=e5.extBut _ _ D.TOz.symm (e4.extBut _ _ D.i2z.symm (e3.extBut _ _ D.TOz.symm (e2.extBut _ _ D.i1z.symm z1)))
 have k5:∀c o,c ∉ [z,TO,i1,i2]->s.heap.get? c=some o->g5.get? c=some o:=fun c o hc e=>by
  simp only[List.mem_cons,List.not_mem_nil,or_false,not_or] at hc
  exact e5.extBut _ _ hc.2.1 (e4.extBut _ _ hc.2.2.2 (e3.extBut _ _ hc.2.1 (e2.extBut _ _ hc.2.2.1 (e1.extBut _ _ hc.1 e))))
 have i5:SrI g5 i1 l1 (k1+1) t1:=d2.at fun o e=>e5.extBut _ _ D.TOi1.symm (e4.extBut _ _ D.i12 (e3.extBut _ _ D.TOi1.symm e))
 have j5:SrI g5 i2 l2 (k2+1) t2:=d4.at fun o e=>e5.extBut _ _ D.TOi2.symm e
 have zlt:z < g5.objs.size:=Heap.lt_size z5
 show wpAny _ _ (Builtin.SmallTypes.ownedTupleHandOut (.ref z) (.ref g5.objs.size) >>= _) _ _ _
 refine wpAny_bind ?_
 unfold Builtin.SmallTypes.ownedTupleHandOut
 have z6:IsZip (g5.push { cls:=.type "tuple",data:=.seq #[x,y] }) z TI TO .ellipsis:=Heap.get?_push_of_some _ z5
 refine wpAny_bind (wpAny_setField_rec z6 (by simp) fun g7 z7 e7=>?_)
 replace z7:IsZip g7 z TI TO (rawInt g5.objs.size):=z7
 refine wpAny_setField_rec z7 (by simp) fun g8 z8 e8=>?_
 replace z8:IsZip g8 z TI TO (rawInt g5.objs.size):=z8
 have up:∀c o,c ≠ z->g5.get? c=some o->g8.get? c=some o:=fun c o c1 e=>e8.extBut _ _ c1 (e7.extBut _ _ c1 (Heap.get?_push_of_some _ e))
 have t8:IsPair g8 g5.objs.size x y:=e8.extBut _ _ (Nat.ne_of_gt zlt) (e7.extBut _ _ (Nat.ne_of_gt zlt) (Heap.get?_push_size _ rfl))
 rw[sz] at z8 t8
 refine wpAny_pure ⟨_,rfl,?_⟩
 show Q (.ref g5.objs.size) _
 rw[sz]
 exact hQ g8 z8 (up _ _ D.TOz o5) (i5.at fun o e=>up _ o D.i1z e) (j5.at fun o e=>up _ o D.i2z e) t8 fun c o hc e=>up c o (fun q=>hc (by simp[q])) (k5 c o hc e)
theorem zip_end {z TI TO i1 i2 l1 l2:Addr}{k1 k2:Nat}{xs ys:Array Value}{a b:Value}{t1 t2:Bool}{Q:Fin->Shared->Prop}(hh:A.handled=none) (D:ZipApart z TI TO i1 i2 l1 l2)
  (hz:IsZip s.heap z TI TO .none) (hTI:IsPair s.heap TI (.ref i1) (.ref i2)) (hTO:IsPair s.heap TO a b)
  (h1:SrI s.heap i1 l1 k1 t1) (h2:SrI s.heap i2 l2 k2 t2) (hl1:SrS s.heap l1 xs t1) (hl2:SrS s.heap l2 ys t2) (hend:xs[k1]? = none\/ys[k2]? = none)
  (hE:∀h' e,(∀c o,c ∉ [z,TO,i1,i2]->s.heap.get? c=some o->h'.get? c=some o)->(∃o,h'.get? e=some o/\o.cls=.type "StopIteration")->E (.ref e) { s with heap:=h' }) :
  wpAny (model prog w) A (Builtin.«zip.__next__» ⟨[.ref z],[]⟩) Q E s:=by
 show wpAny _ _ (field (.ref z) 2 >>= _) _ _ _
 refine wpAny_bind (wpAny_field hz rfl (x:=.bool false) rfl ?_)
 show wpAny _ _ (field (.ref z) 3 >>= _) _ _ _
 refine wpAny_bind (wpAny_field hz rfl (x:=.ref TI) rfl ?_)
 refine wpAny_bind (wpAny_seqItems hTI rfl ?_)
 show wpAny _ _ (Builtin.SmallTypes.ownedTupleIsFree (.ref z) >>= _) _ _ _
 refine wpAny_bind ?_
 unfold Builtin.SmallTypes.ownedTupleIsFree
 refine wpAny_bind (wpAny_field hz rfl (x:=.none) rfl (wpAny_pure ?_))
 simp only[if_true]
 refine wpAny_bind (wpAny_rule ?_)
 refine wpAny_bind (wpAny_field hz rfl (x:=.ref TO) rfl ?_)
 refine wpAny_bind (wpAny_setField_rec hz (by simp) fun g1 z1 e1=>?_)
 replace z1:IsZip g1 z TI TO .ellipsis:=z1
 refine wpAny_bind ?_
 simp only[List.zipIdx_cons,List.zipIdx_nil,List.forIn_cons,List.forIn_nil]
 refine wpAny_bind (wpAny_bind (wpAny_onRaise ?_))
 show wpAny _ _ (Builtin.SmallTypes.nextOf (.ref i1) >>= _) _ _ _
 cases hx:xs[k1]? with
 | none=>
  refine wpAny_bind (zd7 hh (h1.at fun o e=>e1.extBut _ _ D.i1z e) (hl1.at fun o e=>e1.extBut _ _ D.l1z e) hx fun g2 e e2 he=>?_)
  obtain⟨oe,hoe,hce⟩:=he
  have z2:IsZip g2 z TI TO .ellipsis:=e2 _ _ D.i1z.symm z1
  have hez:e ≠ z:=fun q=>by subst q;rw[z2] at hoe;cases hoe;simp at hce
  refine wpAny_setField_rec z2 (by simp) fun g3 _ e3=>hE g3 e (fun c o hc q=>?_) ⟨oe,e3.extBut _ _ hez hoe,hce⟩
  simp only[List.mem_cons,List.not_mem_nil,or_false,not_or] at hc
  exact e3.extBut _ _ hc.1 (e2 _ _ hc.2.2.1 (e1.extBut _ _ hc.1 q))
 | some x=>
  have hy:ys[k2]? = none:=by
   rcases hend with h | h
   ·rw[hx] at h;cases h
   ·exact h
  refine wpAny_bind (zbk (h1.at fun o e=>e1.extBut _ _ D.i1z e) (hl1.at fun o e=>e1.extBut _ _ D.l1z e) hx fun g2 d2 e2=>wpAny_pure ?_)
  have o2:IsPair g2 TO a b:=e2.extBut _ _ D.TOi1 (e1.extBut _ _ D.TOz hTO)
  refine wpAny_bind (wpAny_seqItems o2 rfl ?_)
  refine wpAny_bind (wpAny_updateSeq_pair o2 fun g3 o3 e3=>?_)
  refine wpAny_bind (wpAny_letGo (wpAny_pure ?_))
  refine wpAny_bind (wpAny_bind (wpAny_onRaise ?_))
  show wpAny _ _ (Builtin.SmallTypes.nextOf (.ref i2) >>= _) _ _ _
  refine wpAny_bind (zd7 hh (h2.at fun o e=>e3.extBut _ _ D.TOi2.symm (e2.extBut _ _ D.i12.symm (e1.extBut _ _ D.i2z e))) (hl2.at fun o e=>e3.extBut _ _ D.l2TO (e2.extBut _ _ D.l2i1 (e1.extBut _ _ D.l2z e))) hy fun g4 e e4 he=>?_)
  obtain⟨oe,hoe,hce⟩:=he
  have z4:IsZip g4 z TI TO .ellipsis:=e4 _ _ D.i2z.symm (e3.extBut _ _ D.TOz.symm (e2.extBut _ _ D.i1z.symm z1))
  have hez:e ≠ z:=fun q=>by subst q;rw[z4] at hoe;cases hoe;simp at hce
  refine wpAny_setField_rec z4 (by simp) fun g5 _ e5=>hE g5 e (fun c o hc q=>?_) ⟨oe,e5.extBut _ _ hez hoe,hce⟩
  simp only[List.mem_cons,List.not_mem_nil,or_false,not_or] at hc
  exact e5.extBut _ _ hc.1 (e4 _ _ hc.2.2.2 (e3.extBut _ _ hc.2.1 (e2.extBut _ _ hc.2.2.1 (e1.extBut _ _ hc.1 q))))
theorem zip_pn {z TI TO i1 i2 l1 l2:Addr}{k1 k2:Nat}{xs ys:Array Value}{x y a b:Value}{t1 t2:Bool}{Q:Option Value->Shared->Prop}(D:ZipApart z TI TO i1 i2 l1 l2)
  (hz:IsZip s.heap z TI TO .none) (hTI:IsPair s.heap TI (.ref i1) (.ref i2)) (hTO:IsPair s.heap TO a b)
  (h1:SrI s.heap i1 l1 k1 t1) (h2:SrI s.heap i2 l2 k2 t2) (hl1:SrS s.heap l1 xs t1) (hl2:SrS s.heap l2 ys t2) (hx:xs[k1]? = some x) (hy:ys[k2]? = some y)
  (hQ:∀h',IsZip h' z TI TO (rawInt s.heap.objs.size)->IsPair h' TO x y->SrI h' i1 l1 (k1+1) t1->SrI h' i2 l2 (k2+1) t2->IsPair h' s.heap.objs.size x y ->
   (∀c o,c ∉ [z,TO,i1,i2]->s.heap.get? c=some o->h'.get? c=some o)->Q (some (.ref s.heap.objs.size)) { s with heap:=h' }) :
  wpAny (model prog w) A (pyNext (.ref z)) Q E s:=by
 have hT:s.TypeIs (.ref z) "zip":=⟨_,hz,rfl⟩
 unfold pyNext
 exact wpAny_bind (wpAny_attempt (wpAny_callSpecial?_slot (name:=Str.ofString "__next__") hT F.slot_zip_next
  (wpAny_call_entry F.slot_zip_next hT F.entry_zip_next (zip_item D hz hTI hTO h1 h2 hl1 hl2 hx hy fun h' a1 a2 a3 a4 a5 a6=>wpAny_pure (hQ h' a1 a2 a3 a4 a5 a6)) (F.args_zip_next_1 _))))
theorem zip_pe {z TI TO i1 i2 l1 l2:Addr}{k1 k2:Nat}{xs ys:Array Value}{a b:Value}{t1 t2:Bool}{Q:Option Value->Shared->Prop}(hh:A.handled=none) (D:ZipApart z TI TO i1 i2 l1 l2)
  (hz:IsZip s.heap z TI TO .none) (hTI:IsPair s.heap TI (.ref i1) (.ref i2)) (hTO:IsPair s.heap TO a b)
  (h1:SrI s.heap i1 l1 k1 t1) (h2:SrI s.heap i2 l2 k2 t2) (hl1:SrS s.heap l1 xs t1) (hl2:SrS s.heap l2 ys t2) (hend:xs[k1]? = none\/ys[k2]? = none)
  (hQ:∀h',(∀c o,c ∉ [z,TO,i1,i2]->s.heap.get? c=some o->h'.get? c=some o)->Q none { s with heap:=h' }):wpAny (model prog w) A (pyNext (.ref z)) Q E s:=by
 have hT:s.TypeIs (.ref z) "zip":=⟨_,hz,rfl⟩
 unfold pyNext
 refine wpAny_bind (wpAny_attempt (wpAny_callSpecial?_slot (name:=Str.ofString "__next__") hT F.slot_zip_next
  (wpAny_call_entry F.slot_zip_next hT F.entry_zip_next (zip_end hh D hz hTI hTO h1 h2 hl1 hl2 hend fun h' e hk he=>?_) (F.args_zip_next_1 _))))
 obtain⟨o,ho,hc⟩:=he
 exact wpAny_bind (wpAny_isInstance (T:="StopIteration") (b:=true) ⟨o,ho,hc⟩ isSubtype_stop (wpAny_pure (hQ _ hk)))
abbrev zH1 (h:Heap) (l1:Addr) (t1:Bool):Heap:=h.push (zaE l1 t1)
abbrev zH2 (h:Heap) (l1 l2:Addr) (t1 t2:Bool):Heap:=(zH1 h l1 t1).push (zaE l2 t2)
abbrev zH3 (h:Heap) (l1 l2:Addr) (t1 t2:Bool):Heap:=(zH2 h l1 l2 t1 t2).push { cls:=.type "tuple",data:=.seq #[.ref h.objs.size,.ref (zH1 h l1 t1).objs.size] }
abbrev zH4 (h:Heap) (l1 l2:Addr) (t1 t2:Bool):Heap:=(zH3 h l1 l2 t1 t2).push { cls:=.type "tuple",data:=.seq #[.none,.none] }
abbrev zH5 (h:Heap) (l1 l2:Addr) (t1 t2:Bool):Heap:=(zH4 h l1 l2 t1 t2).push { cls:=.type "zip",data:=.fields #[.none,.bool false,.bool false,.ref (zH2 h l1 l2 t1 t2).objs.size,.ref (zH3 h l1 l2 t1 t2).objs.size] }
theorem zgV (l1 l2:Addr) (xs ys:Array Value) (t1 t2:Bool) :
  Meets (Builtin.«zip.__new__» ⟨[.type "zip",.ref l1,.ref l2],[]⟩) (fun _ R s=>SrS s.heap l1 xs t1/\SrS s.heap l2 ys t2/\R (.ok (.ret (.ref (zH4 s.heap l1 l2 t1 t2).objs.size))) { s with heap:=zH5 s.heap l1 l2 t1 t2 }):=
 .of_wp fun prog w A R s h=>by
  obtain⟨hp,g,d,tk,os⟩:=s
  obtain⟨hl1,hl2,h⟩:=h
  have hsub:=sub_zip
  have L1:SrS (Shared.heap ⟨hp,g,d,tk,os⟩) l1 xs t1:=hl1
  have L2:SrS (Shared.heap ⟨hp.push (zaE l1 t1),g,d,tk,os⟩) l2 ys t2:=hl2.at fun o e=>Heap.get?_push_of_some _ e
  wp_walk using Jx L1,Jx L2
  exact⟨_,rfl,h⟩
theorem call_zip {l1 l2:Addr}{xs ys:Array Value}{t1 t2:Bool}{Q:Value->Shared->Prop}(hl1:SrS s.heap l1 xs t1) (hl2:SrS s.heap l2 ys t2)
  (h:∀h',IsZip h' (s.heap.objs.size+4) (s.heap.objs.size+2) (s.heap.objs.size+3) .none->IsPair h' (s.heap.objs.size+2) (.ref s.heap.objs.size) (.ref (s.heap.objs.size+1)) ->
   IsPair h' (s.heap.objs.size+3) .none .none->SrI h' s.heap.objs.size l1 0 t1->SrI h' (s.heap.objs.size+1) l2 0 t2 ->
   (∀c o,s.heap.get? c=some o->h'.get? c=some o)->Q (.ref (s.heap.objs.size+4)) { s with heap:=h' }) :
  wpAny (model prog w) A (call (.type "zip") [.ref l1,.ref l2]) Q E s:=by
 refine callType_new F.called_zip (by decide) (F.typeCall_zip_2 _ _) (F.newCall_zip_2 _ _) (fun obj=>F.args_object_init_3 obj _ _) F.entry_zip_new (zgV l1 l2 xs ys t1 t2) ⟨hl1,hl2,?_⟩
 have z1:(zH1 s.heap l1 t1).objs.size=s.heap.objs.size+1:=Heap.size_push ..
 have z2:(zH2 s.heap l1 l2 t1 t2).objs.size=s.heap.objs.size+2:=by rw[Heap.size_push,z1]
 have z3:(zH3 s.heap l1 l2 t1 t2).objs.size=s.heap.objs.size+3:=by rw[Heap.size_push,z2]
 have z4:(zH4 s.heap l1 l2 t1 t2).objs.size=s.heap.objs.size+4:=by rw[Heap.size_push,z3]
 have g5:(zH5 s.heap l1 l2 t1 t2).get? (zH4 s.heap l1 l2 t1 t2).objs.size=some _:=Heap.get?_push_size _ rfl
 have g4:(zH5 s.heap l1 l2 t1 t2).get? (zH3 s.heap l1 l2 t1 t2).objs.size=some _:=Heap.get?_push_of_some _ (Heap.get?_push_size _ rfl)
 have g3:(zH5 s.heap l1 l2 t1 t2).get? (zH2 s.heap l1 l2 t1 t2).objs.size=some _:=Heap.get?_push_of_some _ (Heap.get?_push_of_some _ (Heap.get?_push_size _ rfl))
 have g2:SrI (zH5 s.heap l1 l2 t1 t2) (zH1 s.heap l1 t1).objs.size l2 0 t2:=SrI.new.at fun o e=>Heap.get?_push_of_some _ (Heap.get?_push_of_some _ (Heap.get?_push_of_some _ e))
 have g1:SrI (zH5 s.heap l1 l2 t1 t2) s.heap.objs.size l1 0 t1:=SrI.new.at fun o e=>Heap.get?_push_of_some _ (Heap.get?_push_of_some _ (Heap.get?_push_of_some _ (Heap.get?_push_of_some _ e)))
 show _/\_
 rw[z2,z3,z4] at g5
 rw[z1,z2] at g3
 rw[z3] at g4
 rw[z1] at g2
 rw[z4]
 exact⟨⟨_,g5,rfl⟩,h _ g5 g3 g4 g1 g2 fun c o x=>Heap.get?_push_of_some _ (Heap.get?_push_of_some _ (Heap.get?_push_of_some _ (Heap.get?_push_of_some _ (Heap.get?_push_of_some _ x))))⟩
end
def Itz (K:PySem.W.Frag) (l1 l2:Addr) (t1 t2:Bool):It:=
 ⟨fun i H=>∃xs ys x y,Sq K H l1 xs t1/\Sq K H l2 ys t2/\xs[i]? = some x/\ys[i]? = some y,
   fun i H x H'=>∃p v w,x=.ref p/\H p=none/\H'=upd H p (.tup [v,w])/\(∀xs,Sq K H l1 xs t1->xs[i]? = some v)/\∀ys,Sq K H l2 ys t2->ys[i]? = some w,
   fun i H=>∃xs ys,Sq K H l1 xs t1/\Sq K H l2 ys t2/\(xs.length<=i\/ys.length<=i)⟩
theorem turn_zip {P:Program}{w:World}{K:PySem.W.Frag}{elts:List Expr}{k:Nat}{pos:Pos}(z TI TO i1 i2 l1 l2:Addr) (t1 t2:Bool) (D:ZipApart z TI TO i1 i2 l1 l2) :
  Turn P w K (.Tuple elts k pos) (Itz K l1 l2 t1 t2) [z,TI,TO,i1,i2] z (fun i h=>IsZip h z TI TO .none/\IsPair h TI (.ref i1) (.ref i2)/\(∃a b,IsPair h TO a b)/\SrI h i1 l1 i t1/\SrI h i2 l2 i t2) where
 mem:=by simp
 obj:=fun i h st b hb=>by
  obtain⟨hz,hTI,⟨a,c,hTO⟩,h1,h2⟩:=st
  simp only[List.mem_cons,List.not_mem_nil,or_false] at hb
  rcases hb with rfl | rfl | rfl | rfl | rfl
  ·exact⟨_,hz,fun v q=>by cases q⟩
  ·exact⟨_,hTI,fun v q=>by cases q⟩
  ·exact⟨_,hTO,fun v q=>by cases q⟩
  ·exact h1.obj
  ·exact h2.obj
 keep:=fun i h h' st kk=>by
  obtain⟨hz,hTI,⟨a,c,hTO⟩,h1,h2⟩:=st
  exact⟨kk z (by simp) _ hz,kk TI (by simp) _ hTI,⟨a,c,kk TO (by simp) _ hTO⟩,h1.at fun o e=>kk i1 (by simp) o e,h2.at fun o e=>kk i2 (by simp) o e⟩
 item:=by
  intro X hP hw hK hc i pins s σ H E I hf st hg
  subst hP hw hK
  obtain⟨xs,ys,x,y,hq1,hq2,hx,hy⟩:=hg
  obtain⟨a1,r1,s1,_⟩:=UM I hq1
  obtain⟨a2,r2,s2,_⟩:=UM I hq2
  obtain⟨u1,hu1,ru1⟩:=r1.get hx
  obtain⟨u2,hu2,ru2⟩:=r2.get hy
  obtain⟨hz,hTI,⟨a,c,hTO⟩,h1,h2⟩:=st
  have fresh:∀b o,s.heap.get? b=some o->b ≠ s.heap.objs.size:=fun b o e=>Nat.ne_of_lt (Heap.lt_size e)
  refine zip_pn D hz hTI hTO h1 h2 s1 s2 (x:=u1) (y:=u2) (by simpa using hu1) (by simpa using hu2) fun h' z' o' i1' i2' p' kk=>?_
  refine⟨_,rfl,wpAny_letOwnedTupleGo_zip z' fun h'' z'' hsb=>?_⟩
  have ke:∀b o,b ∉ [z,TI,TO,i1,i2]->s.heap.get? b=some o->h''.get? b=some o:=fun b o hb e=>by
   simp only[List.mem_cons,List.not_mem_nil,or_false,not_or] at hb
   exact hsb.extBut _ _ hb.1 (kk b o (by simp[hb.1,hb.2.2.1,hb.2.2.2.1,hb.2.2.2.2]) e)
  refine⟨.ref s.heap.objs.size,upd H s.heap.objs.size (.tup [x,y]),zhd (s':={ s with heap:=h'' }) (its:=[u1,u2]) I hf rfl rfl ke (hsb.extBut _ _ (Ne.symm (fresh z _ hz)) p') (.cons ru1 (.cons ru2 .nil)) (by show 2<=sizeLine;decide),rfl,?_,?_,fun b hb=>?_⟩
  ·exact⟨_,x,y,rfl,I.hok.fresh (Nat.le_refl _),rfl,fun zs hz=>by rw[zf2 I hz hq1];exact hx,fun zs hz=>by rw[zf2 I hz hq2];exact hy⟩
  ·exact⟨z'',hsb.extBut _ _ D.TIz (kk TI _ (by simp[D.TIz,D.TITO,D.TIi1,D.TIi2]) hTI),⟨_,_,hsb.extBut _ _ D.TOz o'⟩,i1'.at fun o e=>hsb.extBut _ _ D.i1z e,i2'.at fun o e=>hsb.extBut _ _ D.i2z e⟩
  ·have q:=(hf b hb).1
   obtain⟨o,ho⟩:∃o,s.heap.get? b=some o:=by
    simp only[List.mem_cons,List.not_mem_nil,or_false] at hb
    rcases hb with rfl | rfl | rfl | rfl | rfl
    ·exact⟨_,hz⟩
    ·exact⟨_,hTI⟩
    ·exact⟨_,hTO⟩
    ·obtain⟨o,ho,_⟩:=h1.obj;exact⟨o,ho⟩
    ·obtain⟨o,ho,_⟩:=h2.obj;exact⟨o,ho⟩
   rw[Zs (fresh b o ho)];exact q
 done:=by
  intro X hP hw hK hc i pins s σ H E I hf st hg
  subst hP hw hK
  obtain⟨xs,ys,hq1,hq2,hx⟩:=hg
  obtain⟨a1,r1,s1,_⟩:=UM I hq1
  obtain⟨a2,r2,s2,_⟩:=UM I hq2
  obtain⟨hz,hTI,⟨a,c,hTO⟩,h1,h2⟩:=st
  have n1:=r1.length
  have n2:=r2.length
  have he:a1.toArray[i]? = none\/a2.toArray[i]? = none:=by
   rcases hx with q | q
   ·exact .inl (by simp;omega)
   ·exact .inr (by simp;omega)
  exact zip_pe (I.ok.hd hc) D hz hTI hTO h1 h2 s1 s2 he fun h' kk=>⟨rfl,inv_ch (ch:=[z,TI,TO,i1,i2]) (s':={ s with heap:=h' }) I hf rfl rfl fun b o hb e=>kk b o (fun q=>hb (by simp at q ⊢;rcases q with q | q | q | q <;> simp[q])) e⟩
 self:=fun _ _ _ _ _ st h=>wpAny_pyIter_zip st.1 h
section
variable {X:Cx}{W:Str->Hp->Prop}{tg a b c e:Expr}{es elts:List Expr}{da db:DE}{pos:Pos}
def iZp (K:PySem.W.Frag) (ta:TA):TI:=fun σ H R=>ta σ H fun vs H1=>∃a b t1 t2,vs=[.ref a,.ref b]/\(∃xs,Sq K H1 a xs t1)/\(∃ys,Sq K H1 b ys t2)/\R (Itz K a b t1 t2) H1
theorem pi_zip {l1 l2:Expr}{ta:TA}{p tp:Pos}{k:Nat}(hg:Gl X "zip") (hm:X.mg "zip" = none) (hl:PA X [l1,l2] ta) (hs:starEach [l1,l2] X.env=(false,eval l1 X.env)::starEach [l2] X.env:=by rfl)
  (hpl:(backTo pos (starEach [l2] X.env)).any (·.1)=false:=by rfl):PI X (.Tuple elts k tp) (.Call (.Name "zip" p) [l1,l2] [] pos) (iZp X.K ta):=by
 intro pins s σ H R I h
 refine Call_ (UT I hg hm (show bootBuiltins "zip" = some (.type "zip") by decide +kernel) (PyProof.Rows.callWith_type1 (thn (hl pos pins s σ H _ I h) fun us s1 ⟨vs,H1,I1,r1,q1⟩=>?_) hs hpl))
 obtain⟨l1,l2,t1,t2,rfl,⟨xs,hq1⟩,⟨ys,hq2⟩,q⟩:=q1
 obtain⟨u1,u2,rfl,ru1,ru2⟩:=vals2 r1
 cases ru1
 cases ru2
 obtain⟨a1,rv1,s1',_⟩:=UM I1 hq1
 obtain⟨a2,rv2,s2',_⟩:=UM I1 hq2
 have lt1:=s1'.lt
 have lt2:=s2'.lt
 refine call_zip s1' s2' fun h' hz hTI hTO h1 h2 kk=>wpAny_pyIter_zip hz ?_
 have I2:Inv X pins σ H1 { s1 with heap:=h' }:=I1.kept (t':=s1.toks) kk
 have ap:ZipApart (s1.heap.objs.size+4) (s1.heap.objs.size+2) (s1.heap.objs.size+3) s1.heap.objs.size (s1.heap.objs.size+1) l1 l2:=by
  constructor <;> (intro e;simp only[Addr] at *;omega)
 refine⟨_,[s1.heap.objs.size+4,s1.heap.objs.size+2,s1.heap.objs.size+3,s1.heap.objs.size,s1.heap.objs.size+1],_,Itz X.K l1 l2 t1 t2,H1,rfl,I2,turn_zip _ _ _ _ _ l1 l2 t1 t2 ap,⟨hz,hTI,⟨_,_,hTO⟩,h1,h2⟩,fun b hb=>?_,q⟩
 have hb':s1.heap.objs.size<=b:=by
  simp only[List.mem_cons,List.not_mem_nil,or_false] at hb
  rcases hb with rfl | rfl | rfl | rfl | rfl
  ·exact Nat.le_add_right _ _
  ·exact Nat.le_add_right _ _
  ·exact Nat.le_add_right _ _
  ·exact Nat.le_refl _
  ·exact Nat.le_add_right _ _
 exact I1.fpOk hb' (I1.hok.fresh hb')
theorem zd2:∀(xs ys:List PyData) (i:Nat) (t:PyData),(zipT xs ys)[i]? = some t->∃x y,xs[i]? = some x/\ys[i]? = some y/\t=.tuple [x,y]
 | [],ys,i,t,h=>by simp[zipT] at h
 | x::xs,[],i,t,h=>by simp[zipT] at h
 | x::xs,y::ys,0,t,h=>by simp[zipT] at h;exact⟨x,y,rfl,rfl,h.symm⟩
 | x::xs,y::ys,i+1,t,h=>by
  simp only[zipT,List.getElem?_cons_succ] at h
  obtain⟨a,b,h1,h2,h3⟩:=zd2 xs ys i t h
  exact⟨a,b,by simpa using h1,by simpa using h2,h3⟩
theorem zd1:∀(xs ys:List PyData) (i:Nat),(zipT xs ys).length<=i->xs.length<=i\/ys.length<=i
 | [],ys,i,h=>.inl (Nat.zero_le _)
 | x::xs,[],i,h=>.inr (Nat.zero_le _)
 | x::xs,y::ys,0,h=>by simp[zipT] at h
 | x::xs,y::ys,i+1,h=>by
  simp only[zipT,List.length_cons] at h
  rcases zd1 xs ys i (by omega) with q | q
  ·exact .inl (by simp;omega)
  ·exact .inr (by simp;omega)
theorem yld_zip {H:Hp}{P:Pv}{l1 l2:Addr}{t1 t2:Bool}{xs ys:List PyData}{vs ws:List V}(q1:∀H' P',Tr H P H' P'->Sq X.K H' l1 vs t1) (q2:∀H' P',Tr H P H' P'->Sq X.K H' l2 ws t2) (r1:Rls X.K H P xs vs) (r2:Rls X.K H P ys ws) :
  Yld X.K (Itz X.K l1 l2 t1 t2) (zipT xs ys) H P:=by
 intro H' P' tr nf i
 have a1:=Rls.go tr xs vs r1
 have a2:=Rls.go tr ys ws r2
 refine⟨fun tt e=>?_,fun hl=>⟨vs,ws,q1 H' P' tr,q2 H' P' tr,by rw[<- r1.length,<- r2.length];exact zd1 xs ys i hl⟩⟩
 obtain⟨x,y,e1,e2,rfl⟩:=zd2 xs ys i tt e
 obtain⟨v,ev,rv⟩:=a1.getT e1
 obtain⟨w,ew,rw'⟩:=a2.getT e2
 refine⟨⟨vs,ws,v,w,q1 H' P' tr,q2 H' P' tr,ev,ew⟩,fun z H'' yy=>?_⟩
 obtain⟨p,v',w',rfl,hp,rfl,hv,hw⟩:=yy
 have z1:=hv vs (q1 H' P' tr)
 have z2:=hw ws (q2 H' P' tr)
 rw[ev] at z1
 rw[ew] at z2
 cases z1
 cases z2
 exact⟨ZB hp,Z3.mpr ⟨p,_,rfl,.off Zt (nf p hp),Zy.mpr ⟨v,[w],rfl,Rl.go (.same (ZB hp)) x v rv,Zy.mpr ⟨w,[],rfl,Rl.go (.same (ZB hp)) y w rw',ZS.mpr rfl⟩⟩⟩⟩
theorem seq_of {K:PySem.W.Frag}{H:Hp}{P:Pv}{t:PyData}{v:V}{xs:List PyData}(r:Rl K H P t v) (e:t=.list xs\/t=.tuple xs):∃l vs b,v=.ref l/\(∀H' P',Tr H P H' P'->Sq K H' l vs b)/\Rls K H P xs vs:=by
 rcases e with rfl | rfl
 ·obtain⟨l,vs,rfl,sl,rs⟩:=ZR.mp r
  exact⟨l,vs,false,rfl,fun H' P' tr=>(sl.go tr).sq,rs⟩
 ·obtain⟨l,vs,rfl,sl,rs⟩:=Z3.mp r
  exact⟨l,vs,true,rfl,fun H' P' tr=>(sl.go tr).sq,rs⟩
theorem zg8 {p tp:Pos}{k:Nat}(hg:Gl X "zip") (hm:X.mg "zip" = none) (ha:EV X W a da) (hb:EV X W b db) (hs:starEach [a,b] X.env=(false,eval a X.env)::starEach [b] X.env:=by rfl) (hs2:starEach [b] X.env=(false,eval b X.env)::starEach [] X.env:=by rfl)
  (hpl:(backTo pos (starEach [b] X.env)).any (·.1)=false:=by rfl):IV X W (.Tuple elts k tp) (.Call (.Name "zip" p) [a,b] [] pos) (iZip (iSeq da) (iSeq db)):=
 Qp (pi_zip hg hm (ZZ ha (ZZ hb Xg hs2) hs) hs hpl) fun σ H R ⟨G,P,h,q⟩=>by
  unfold iZip iSeq at q
  refine⟨G,P,h,?_⟩
  cases ea:da G with
  | stuck=>rw[ea] at q;exact q.elim
  | exc c=>rw[ea] at q;exact q
  | ok tx=>
   intro x H1 s1 rx
   refine⟨G,P,h.same s1,?_⟩
   cases eb:db G with
   | stuck=>
    rw[ea,eb,Res.bind_ok] at q
    cases tx <;> exact q.elim
   | exc c=>
    rw[ea,eb,Res.bind_ok] at q
    cases tx <;> first | exact q.elim | exact fun H' s=>q H' (s1.trans s)
   | ok ty=>
    intro y H2 s2 ry
    have q':=q
    rw[ea,eb,Res.bind_ok] at q'
    have fin:∀xs ys,(tx=.list xs\/tx=.tuple xs)->(ty=.list ys\/ty=.tuple ys)->PostI X.K W H P (.ok (zipT xs ys)) R->∃a b t1 t2,[x,y]=[V.ref a,V.ref b]/\(∃xs,Sq X.K H2 a xs t1)/\(∃ys,Sq X.K H2 b ys t2)/\R (Itz X.K a b t1 t2) H2:=fun xs ys e1 e2 q'=>by
     obtain⟨l1,v1,b1,rfl,f1,g1⟩:=seq_of (Rl.go (.same s2) tx x rx) e1
     obtain⟨l2,v2,b2,rfl,f2,g2⟩:=seq_of ry e2
     exact⟨l1,l2,b1,b2,rfl,⟨v1,f1 H2 P (.refl _ _)⟩,⟨v2,f2 H2 P (.refl _ _)⟩,q' _ H2 (s1.trans s2) (yld_zip f1 f2 g1 g2)⟩
    cases tx <;> cases ty <;> first | exact q'.elim | exact fin _ _ (.inl rfl) (.inl rfl) q' | exact fin _ _ (.inl rfl) (.inr rfl) q' | exact fin _ _ (.inr rfl) (.inl rfl) q' | exact fin _ _ (.inr rfl) (.inr rfl) q'
end
end Fx
namespace Fx
open PySem PySem.Spec PyProof.Rows L2
def cf (k:Option NameKind):Bool:=k == some .cell || k == some .free
theorem zfC {k:Option NameKind}(h:cf k=true):k=some .cell\/k=some .free:=by
 unfold cf at h
 rw[Bool.or_eq_true] at h
 rcases h with h | h
 ·exact .inl (by simpa using h)
 ·exact .inr (by simpa using h)
def capChk (scope:Scope) (env:Env) (N0 N:List Str) (nv:Nat) (cap:List Nat):Bool:=
 (List.range cap.length).all fun i=>match(cap[i]?:Option Nat),(N[nv+i]?:Option Str) with
  | some j,some x=>N0[j]? == some x && cf ((relabel scope env).names.lookup x) && cf (env.kindOf x)
  | _,_=>true
def zhN (scope:Scope) (env:Env) (N0 N:List Str) (nv:Nat) (cap:List Nat):Bool:=
 (scope.names.all fun y=>y.2 != .cell) && (scope.kind == .function) && (scope.names.all fun y=>y.2 != .local || scope.names.lookup y.1 == some .local)
  && (scope.names.all fun y=>y.2 != .free || cf (env.kindOf y.1)) && (N.length == nv+cap.length) && capChk scope env N0 N nv cap
theorem Yv {X:Cx}{scope:Scope}{N:List Str}{nv:Nat}{cap:List Nat}(h:zhN scope X.env X.N N nv cap=true):CompOk X scope N nv cap:=by
 unfold zhN at h
 simp only[Bool.and_eq_true,List.all_eq_true] at h
 obtain⟨⟨⟨⟨⟨h1,h2⟩,h3⟩,h4⟩,h5⟩,h6⟩:=h
 refine⟨fun y hy=>by simpa using h1 y hy,by simpa using h2,fun y hy e=>?_,fun y hy e=>?_,by simpa using h5,fun i j x hc hx=>?_⟩
 ·have:=h3 y hy
  rw[e] at this
  simpa using this
 ·have:=h4 y hy
  rw[e] at this
  exact zfC (by simpa using this)
 ·unfold capChk at h6
  rw[List.all_eq_true] at h6
  have hi:i < cap.length:=(List.getElem?_eq_some_iff.mp hc).1
  have:=h6 i (List.mem_range.mpr hi)
  rw[hc,hx] at this
  simp only[Bool.and_eq_true] at this
  exact⟨by simpa using this.1.1,zfC this.1.2,zfC this.2⟩
section
variable {X:Cx}{W:Str->Hp->Prop}{fl:Bool}{a b c e:Expr}{es:List Expr}{da db:DE}{pos:Pos}
theorem Uu {K:PySem.W.Frag}{H1:Hp}{P:Pv}{p:Addr}{ts:List PyData}{vs:List V}{o:HO}(hp:H1 p=none) (rs:Rls K H1 P ts vs):Rls K (upd H1 p o) (P.fbd p) ts vs:=
 Rls.go (.same (ZB hp)) ts vs (Rls.go (Tr.tofbd hp) ts vs rs)
theorem zcB {d:DA}(h:AV X W es d):OV X W (.List es pos) (oLst d):=
 ZE (pe_lst h) fun σ H Q ⟨G,P,h,q⟩=>by
  unfold oLst at q
  obtain⟨q1,q2,q3⟩:=zeV q
  refine Vg h q1 q2 fun ts vs H1 es' s1 h1 rs=>?_
  have q4:=q3 ts es'
  split at q4
  ·rename_i hl
   exact⟨zbK hl rs,fun p hp=>q4 p vs _ (s1.trans (ZB hp)) (s1.free hp) Zt (Uu hp rs)⟩
  ·exact q4.elim
theorem zgG {p:Pos}(hg:Gl X "list") (hm:X.mg "list" = none) (ha:EV X W a da) (hs:starEach [a] X.env=(false,eval a X.env)::starEach [] X.env:=by rfl):OV X W (.Call (.Name "list" p) [a] [] pos) (zgR da):=
 ZE (Wv zc4 hg hm (show bootBuiltins "list" = some (.type "list") by decide +kernel) (ZZ ha Xg hs) (he:=hs)) fun σ H Q ⟨G,P,h,q⟩=>by
  unfold zgR at q
  obtain⟨q1,q2,q3⟩:=Q7 q
  refine ZI h q1 q2 fun tx x H1 ex s1 h1 rx=>?_
  have q4:=q3 tx ex
  cases tx <;> try exact q4.elim
  ·obtain⟨l,vs,rfl,sl,rs⟩:=ZR.mp rx
   exact⟨l,vs,rfl,.inl sl.sq,fun p hp=>q4 p vs _ (s1.trans (ZB hp)) (s1.free hp) Zt (Uu hp rs)⟩
  ·obtain⟨l,vs,rfl,sl,rs⟩:=Z3.mp rx
   exact⟨l,vs,rfl,.inr sl.sq,fun p hp=>q4 p vs _ (s1.trans (ZB hp)) (s1.free hp) Zt (Uu hp rs)⟩
theorem ov_cat (ha:EV X W a da) (hb:EV X W b db):OV X W (.BinOp a .Add b pos) (oCat da db):=
 ZE (pe_op zgJ ha hb) fun σ H Q ⟨G,P,h,q⟩=>by
  unfold oCat at q
  obtain⟨q1,q2,q3⟩:=Q7 q
  refine ZI h q1 q2 fun tx x H1 ex s1 h1 rx=>?_
  obtain⟨q4,q5,q6⟩:=Q7 (q3 tx ex)
  refine ZI h1 (fun c e H' s=>q4 c e H' (s1.trans s)) q5 fun ty y H2 ey s2 h2 ry=>?_
  have q7:=q6 ty ey
  cases tx <;> cases ty <;> try exact q7.elim
  rename_i xs ys
  obtain⟨l,us,rfl,sl,rs⟩:=ZR.mp (Rl.go (.same s2) _ x rx)
  obtain⟨m,ws,rfl,sm,rm⟩:=ZR.mp ry
  simp only at q7
  split at q7
  ·rename_i hz
   have e1:=rs.length
   have e2:=rm.length
   exact⟨l,m,us,ws,rfl,rfl,sl.sq,sm.sq,by rw[sizeLine_eq];omega,fun p hp=>q7 p _ _ ((s1.trans s2).trans (ZB hp)) ((s1.trans s2).free hp) Zt ((Uu hp rs).append (Uu hp rm))⟩
  ·exact q7.elim
theorem zev {p:Pos}(hg:Gl X "tuple") (hm:X.mg "tuple" = none) (ha:EV X W a da) (hs:starEach [a] X.env=(false,eval a X.env)::starEach [] X.env:=by rfl):EV X W (.Call (.Name "tuple" p) [a] [] pos) (d1 zhn da):=
 ZE (Wv zb6 hg hm (show bootBuiltins "tuple" = some (.type "tuple") by decide +kernel) (ZZ ha Xg hs) (he:=hs)) fun σ H Q h=>zcf (fun H P σ G x tx Q h rx q=>by
  cases tx <;> try exact q.elim
  ·obtain⟨l,vs,rfl,sl,rs⟩:=ZR.mp rx
   exact⟨l,vs,rfl,.inl ⟨sl.sq,fun p hp=>q _ _ (ZB hp) (Z3.mpr ⟨p,vs,rfl,.off Zt (h.off_new hp),Rls.go (.same (ZB hp)) _ vs rs⟩)⟩⟩
  ·obtain⟨l,vs,rfl,sl,rs⟩:=Z3.mp rx
   exact⟨l,vs,rfl,.inr ⟨sl.sq,q _ H (Same.refl H) rx⟩⟩) h
theorem zcu {K:PySem.W.Frag}{H:Hp}{P:Pv}:∀{bs:List Bool}{vs:List V},Rls K H P (bs.map .bool) vs->vs=bs.map V.bl
 | [],vs,h=>ZS.mp h
 | b::bs,vs,h=>by
  obtain⟨v,r,rfl,a,q⟩:=Zy.mp h
  rw[YE.mp a,zcu q]
  rfl
theorem call_all (hc:X.calm=true):Jg X (.builtin "all") (fun xs H Q=>∃(p:Addr) (bs:List Bool),xs=[.ref p]/\SqL X.K H p (bs.map V.bl)/\Q (.bl (bs.all id)) H):=by
 intro pins s σ H xs us Q I r h
 obtain⟨l,bs,rfl,hq,q⟩:=h
 obtain⟨u,rfl,ru⟩:=Ja r
 cases ru
 obtain⟨its,rv,pl,hz⟩:=I.list hq
 have hl:s.heap.IsList l its.toArray:=pl.isList
 have hlt:l < s.heap.objs.size:=by obtain⟨_,e,_⟩:=hl;exact Heap.lt_size e
 have hb:∀(i:Nat) (v:Value),its[i]? = some v->∃b,bs[i]? = some b/\v=.bool b:=fun i v e=>by
  have hi:i < its.length:=(List.getElem?_eq_some_iff.mp e).1
  have hl2:=rv.length
  rw[List.length_map] at hl2
  have hi2:i < bs.length:=by omega
  obtain⟨u,hu,ru⟩:=rv.get (i:=i) (x:=V.bl bs[i]) (by simp[hi2])
  rw[e] at hu;cases hu
  cases ru
  exact⟨bs[i],by simp[hi2],rfl⟩
 refine call_all_walk (wpAny_pyIter_list hl ?_)
 refine⟨s.heap.objs.size,[s.heap.objs.size,l],[s.heap.objs.size],its.toArray.size,_,_,fun i=>(bs[i]?).getD true,rfl,Walks.list (A:=X.A.in1) (I.ok.hd hc) _ l (Nat.ne_of_lt hlt) its.toArray,
  ⟨⟨_,Heap.get?_push_size _ rfl,rfl,rfl⟩,hl.push _⟩,fun i v s' Q' E' hP hQ=>?_,fun h' tk hk=>?_⟩
 ·obtain⟨b,e,rfl⟩:=hb i v (by simpa using hP)
  simp only[e,Option.getD_some] at hQ
  exact wpAny_truthy_bool hQ
 ·have e:((List.range its.toArray.size).all fun i=>(bs[i]?).getD true)=bs.all id:=by
   have hl2:=rv.length
   rw[List.length_map] at hl2
   rw[List.size_toArray,<- hl2,Bool.eq_iff_iff,List.all_eq_true,List.all_eq_true]
   constructor
   ·intro h b hb
    obtain⟨i,hi,e⟩:=List.getElem_of_mem hb
    have:=h i (List.mem_range.mpr hi)
    simp only[List.getElem?_eq_getElem hi,Option.getD_some,e] at this
    exact this
   ·intro h i hi
    have hi':=List.mem_range.mp hi
    simp only[List.getElem?_eq_getElem hi',Option.getD_some]
    exact h _ (List.getElem_mem hi')
  rw[e]
  have kk:∀b x,s.heap.get? b=some x->h'.get? b=some x:=fun b x e=>hk b x (fun hm=>by rw[List.mem_singleton.mp hm] at e;exact Nat.lt_irrefl _ (Heap.lt_size e)) (Heap.get?_push_of_some _ e)
  exact⟨.bl _,H,I.kept (t':=tk) kk,rfl,q⟩
theorem zhr {p:Pos}(hg:Gl X "all") (hm:X.mg "all" = none) (ha:EV X W a da) (hc:X.calm=true:=by rfl) (hs:starEach [a] X.env=(false,eval a X.env)::starEach [] X.env:=by rfl):EV X W (.Call (.Name "all" p) [a] [] pos) (d1 fAll da):=
 ZE (UQ (call_all hc) hg hm (show bootBuiltins "all" = some (.builtin "all") by decide +kernel) (ZZ ha Xg hs) (he:=hs)) fun σ H Q h=>zcf (fun H P σ G x tx Q h rx q=>by
  cases tx <;> try exact q.elim
  rename_i xs
  obtain⟨l,vs,rfl,sl,rs⟩:=ZR.mp rx
  simp only[fAll] at q
  cases e:allT xs with
  | stuck=>rw[e] at q;exact q.elim
  | exc c=>exact absurd e (zeX xs c)
  | ok k=>
   rw[e,Res.bind_ok] at q
   obtain⟨bs,rfl,rfl⟩:=zhX e
   have:=zcu rs
   subst this
   exact⟨l,bs,rfl,sl.sq,ZO q⟩) h
theorem zep {G:List Sl}{i:Nat}(h:zbM G i=true):∃xs,G[i]? = some (.own xs):=by
 unfold zbM at h
 split at h
 ·rename_i xs e;exact⟨xs,e⟩
 ·cases h
theorem zd6 {i:Nat}{x:Str}{is:List Nat}{p1 p2 p3:Pos}(hi:X.N[i]? = some x) (he:EV X W e da) (hv:Vis X.env.scope x:=by first | exact Or.inl rfl | exact Or.inr (Or.inl rfl) | exact Or.inr (Or.inr rfl)) (hd:(x == ("__debug__" : Str))=false:=by decide)
  (hcd:(x == ("__classdict__" : Str))=false:=by decide) (hsw:swapsWith (.Call (.Attribute (.Name x p1) "append" p2) [e] [] p3) none pos.line X.env=pure false:=by rfl)
  (hbase:attributeBase (.Name x p1) "append" X.env (eval (.Name x p1) X.env)=eval (.Name x p1) X.env:=by rfl)
  (hfew:((backTo p3 (starEach [e] X.env)).all (fun x=>!x.1) && (backToKw p3 (keywordEach [] X.env)).all (fun x=>x.1.isSome)
   && decide (([e]:List Expr).length+([]:List Keyword).length+(if([]:List Keyword).isEmpty then 0 else 1) < 30))=true:=by rfl)
  (hline:(p2.endLine == p3.line)=true:=by rfl) (hs:starEach [e] X.env=(false,eval e X.env)::starEach [] X.env:=by rfl) :
  SV X W fl (.Expr (.Call (.Attribute (.Name x p1) "append" p2) [e] [] p3) pos) (dApp i is da):=
 Wu (zgv (pe_bm PySem.F.plainAttrs_list PySem.F.slot_list_append PySem.F.type_list_append zcG (zcA hi hv hd hcd) (ZZ he Xg hs) hbase hfew hline hs rfl) hsw) fun D σ H ⟨G,P,h,q⟩=>by
  unfold dApp at q
  obtain⟨P1,h1,g⟩:=h.frz is
  split at q
  ·rename_i ho
   obtain⟨xs0,e0⟩:=zep ho
   obtain⟨q1,q2,q3⟩:=zbg q
   obtain⟨p,vs,ev,ep,eh,rs⟩:=h.sl i _ e0
   refine⟨.ref p,getD_some ev,.inl ⟨rfl,vs,SqL.of eh⟩,?_⟩
   refine ZI h1 (fun c e H' s=>q1 c e H' P1 (g.trans (.same s))) q2 fun t v H1 et s1 h2 r=>?_
   obtain⟨P2,h3,r3,g3⟩:=after h h1 g s1 r
   have q4:=q3 t et
   unfold zdc at q4
   split at q4
   ·rename_i xs1 e1
    split at q4
    ·rename_i hz
     obtain⟨p',vs',ev',ep',eh',rs'⟩:=h3.sl i _ e1
     rw[ev] at ev'
     cases ev'
     have hl:=rs'.length
     obtain⟨h4,g4⟩:=h3.upOwn e1 ep' (rs'.append (Zy.mpr ⟨v,[],rfl,r3,ZS.mpr rfl⟩))
     exact⟨p,vs',v,rfl,rfl,eh',by rw[sizeLine_eq];omega,q4 σ _ P2 (g3.trans g4) h4⟩
    ·exact q4.elim
   ·exact q4.elim
  ·exact q.elim
theorem UL {i:Nat}{x:Str}{is:List Nat}{dk:DE}{k:Expr}{p1 p2:Pos}(hi:X.N[i]? = some x) (hk:EV X W k dk) (he:EV X W e da) (hv:Vis X.env.scope x:=by first | exact Or.inl rfl | exact Or.inr (Or.inl rfl) | exact Or.inr (Or.inr rfl)) (hd:(x == ("__debug__" : Str))=false:=by decide)
  (hcd:(x == ("__classdict__" : Str))=false:=by decide)
  (ha:∀v,assign (.Subscript (.Name x p1) k p2) X.env v=(do
   let ov <- holding [v] (eval (.Name x p1) X.env)
   let iv <- holding [v,ov] (eval k X.env)
   standAt p2
   holding [v,ov,iv] (setItem ov iv v)
   release [v,ov,iv] []):=by intro _;rfl)
  (hs:swapsWithSole [.Subscript (.Name x p1) k p2] e pos.line X.env=pure false:=by rfl) (hw:swappedStores [.Subscript (.Name x p1) k p2] e X.env=pure none:=by rfl)
  (h1:(assignEach [.Subscript (.Name x p1) k p2] X.env).map (·.2)=[assign (.Subscript (.Name x p1) k p2) X.env]:=by rfl) :
  SV X W fl (.Assign [.Subscript (.Name x p1) k p2] e pos) (VU i is dk da):=
 Wu (ps_asg he (pg_sub (zcA hi hv hd hcd) hk set_list ha) hs hw h1) fun D σ H ⟨G,P,h,q⟩=>by
  unfold VU at q
  obtain⟨P1,h1,g⟩:=h.frz is
  obtain⟨q1,q2,q3⟩:=zbg q
  refine ZI h1 (fun c e H' s=>q1 c e H' P1 (g.trans (.same s))) q2 fun t v H1 et s1 h2 r=>?_
  obtain⟨P2,h3,r3,g3⟩:=after h h1 g s1 r
  have q4:=q3 t et
  generalize (if XC t=true then G else frz is G)=G' at h3 q4
  split at q4
  ·rename_i ho
   obtain⟨xs0,e0⟩:=zep ho
   obtain⟨p,vs,ev,ep,eh,rs⟩:=h3.sl i _ e0
   refine⟨.ref p,getD_some ev,?_⟩
   obtain⟨q5,q6,q7⟩:=zbg q4
   refine ZI h2 (fun c e H' s=>q5 c e H' P1 ((g.trans (.same s1)).trans (.same s))) q6 fun kt kv H2 ek s2 h4 rk=>?_
   have q8:=q7 kt ek
   unfold zcl at q8
   rw[e0] at q8
   cases kt <;> try exact q8.elim
   rename_i j
   simp only at q8
   cases em:ixP xs0.length j with
   | none=>rw[em] at q8;exact q8.elim
   | some m=>
    rw[em] at q8
    have h5:=h3.same s2
    have hl:=rs.length
    obtain⟨p',vs',ev',ep',eh',rs'⟩:=h5.sl i _ e0
    rw[ev] at ev'
    cases ev'
    have hl':=rs'.length
    obtain⟨h6,g6⟩:=h5.upOwn e0 ep' (rs'.set m (Rl.go (.same s2) t v r3))
    refine⟨p,vs',j,m,rfl,ZL.mp rk,eh',by rw[<- hl',<- ixP_eq];exact em,q8 σ _ P2 ((g3.trans (.same s2)).trans g6) h6⟩
  ·exact q4.elim
end
end Fx
namespace Fx
open PySem PySem.Spec PyProof.Rows L2
theorem ex_of_ok {P:Program}{w:World}{H:Hp}{h:Heap}{a:Addr}{o:HO}(x:Vd P w H h a o):∃ob,h.get? a=some ob:=by
 cases o with
 | lst xs=>obtain⟨_,_,_,_,e⟩:=x;exact⟨_,e⟩
 | tup xs=>obtain⟨_,_,_,o,e,_⟩:=x;exact⟨_,e⟩
 | dK kvs=>obtain⟨_,_,_,_,o,_,_,e,_⟩:=x;exact⟨_,e⟩
 | dT kvs=>obtain⟨_,_,_,_,o,_,_,e,_⟩:=x;exact⟨_,e⟩
 | set S n=>obtain⟨o,_,_,_,e,_⟩:=x;exact⟨_,e⟩
 | ins C dx fs=>obtain⟨_,_,_,e,_⟩:=x;exact⟨_,e⟩
 | own y=>obtain⟨_,e⟩:=x;exact⟨_,e⟩
 | xd fs=>obtain⟨_,⟨_,_,_,e,_⟩,_⟩:=x;exact⟨_,e⟩
 | rng lo hi=>obtain⟨_,_,_,e⟩:=x;exact⟨_,e⟩
 | frz ob u=>obtain⟨e,_⟩:=x;exact⟨_,e⟩
 | tbl ps=>exact⟨_,show h.get? a=some _ from x⟩
 | met f y=>exact⟨_,show h.get? a=some _ from x⟩
 | ext φ=>obtain⟨_,⟨_,e⟩,_⟩:=x;exact⟨_,e⟩
structure Alien (X:Cx) (pins:List (Addr × Obj)) (H:Hp) (b:Addr):Prop where
 young:X.s₀.heap.get? b=none
 loc:b ≠ X.env.locals
 cell:∀x c,X.env.cells.lookup x=some c->c ≠ b
 pin:∀p ∈ X.pn++pins,p.1 ≠ b
 trk:H b=none
 frm:b ∉ frs X.stack
def ExO (h:Heap) (a:Addr) (cv:Value):Option (Addr × Value)->Prop
 | none=>∃oe vs a0,h.get? a=some oe/\oe.cls=cv/\oe.data=.fields vs/\vs[0]? = some a0/\vs[1]? = some .none
 | some (T,f)=>∃oe vs a0 oT ts,h.get? a=some oe/\oe.cls=cv/\oe.data=.fields vs/\vs[0]? = some a0/\vs[1]? = some (.ref T)/\T ≠ a/\h.get? T=some oT/\oT.data=.fields ts/\ts[3]? = some f
structure Exc (X:Cx) (pins:List (Addr × Obj)) (σ:L2.St) (H:Hp) (a:Addr) (cv:Value) (n:Option (Addr × Value)) (s:Shared):Prop where
 inv:Inv X pins σ H s
 al:Alien X pins H a
 ob:ExO s.heap a cv n
 nt:∀T f,n=some (T,f)->Alien X pins H T
section
variable {X:Cx}{pins:List (Addr × Obj)}{σ:L2.St}{H H':Hp}{s:Shared}{h':Heap}{a T:Addr}{cv fl:Value}{n:Option (Addr × Value)}
theorem Inv.stepA {t':Nat}{ch:List Addr}(I:Inv X pins σ H s)
  (hch:∀b ∈ ch,X.s₀.heap.get? b=none/\b ≠ X.env.locals/\(∀x c,X.env.cells.lookup x=some c->c ≠ b)/\∀p ∈ X.pn++pins,p.1 ≠ b)
  (keep:∀b o,b ≠ X.env.locals->b ∉ X.fs->b ∉ ch->s.heap.get? b=some o->H b=none->h'.get? b=some o)
  (slot:∀b o,b ≠ X.env.locals->b ∈ X.fs->b ∉ ch->s.heap.get? b=some o->H b=none->∃sl,h'.get? b=some { o with slots:=sl })
  (there:∀b o,b ∉ ch->s.heap.get? b=some o->∃o',h'.get? b=some o')
  (ns:∀m,s.heap.Ns X.env.locals m->h'.Ns X.env.locals m) (hok:HOk X.prog X.w H h') :
  Inv X pins σ H { s with heap:=h',toks:=t' }:=by
 have neL:∀b o,X.s₀.heap.get? b=some o->b ≠ X.env.locals:=fun b o e=>Nat.ne_of_lt (Nat.lt_of_lt_of_le (Heap.lt_size e) I.ok.above)
 have neC:∀b o,X.s₀.heap.get? b=some o->b ∉ X.ex->b ∉ ch:=fun b o e hx hb=>by
  have z:=(hch b hb).1
  rw[e] at z;cases z
 have cellK:∀x c,X.env.cells.lookup x=some c->∀v,s.heap.IsCell c v->h'.IsCell c v:=fun x c e v ⟨o,ho,hd⟩=>by
  have nch:c ∉ ch:=fun z=>(hch c z).2.2.1 x c e rfl
  by_cases hc:c ∈ X.fs
  ·obtain⟨sl,q⟩:=slot c o (I.cne x c e) hc nch ho (I.freeC x c e)
   exact⟨_,q,hd⟩
  ·exact⟨o,keep c o (I.cne x c e) hc nch ho (I.freeC x c e),hd⟩
 refine⟨I.ok,I.os,I.bare,⟨fun b o e n hb hx=>?_,fun b o e n hb hx=>?_,fun b o e n hx=>I.base.free b o e n hx,fun b o e hx=>?_,fun b xs e=>I.base.tups b xs e,fun b o xs e=>I.base.frzs b o xs e,fun b ps e=>I.base.tbls b ps e⟩,?_,fun x c e=>?_,I.free,fun x c e=>I.freeC x c e,fun p hp=>?_,hok,I.len⟩
 ·exact keep b o (neL b o e) hb (neC b o e hx) (I.base.keep b o e n hb hx) (I.base.free b o e n hx)
 ·obtain⟨sl,e1⟩:=I.base.slot b o e n hb hx
  obtain⟨sl',e2⟩:=slot b _ (neL b o e) hb (neC b o e hx) e1 (I.base.free b o e n hx)
  exact⟨sl',e2⟩
 ·obtain⟨o',e1⟩:=I.base.there b o e hx
  exact there b o' (neC b o e hx) e1
 ·obtain⟨m,hn,hl⟩:=I.loc
  refine⟨m,ns m hn,fun i x v e1 e2 e3=>?_⟩
  obtain⟨u,r,l⟩:=hl i x v e1 e2 e3
  refine⟨u,r,?_⟩
  rcases l with l | ⟨k,c,e,z⟩
  ·exact .inl l
  ·exact .inr ⟨k,c,e,cellK x c e _ z⟩
 ·obtain⟨v,z⟩:=I.cell x c e
  exact⟨v,cellK x c e v z⟩
 ·obtain⟨e,n,ne,nf,d⟩:=I.pin p hp
  have nch:p.1 ∉ ch:=fun z=>(hch p.1 z).2.2.2 p hp rfl
  exact⟨keep p.1 p.2 ne nf nch e n,n,ne,nf,d⟩
def zca (X:Cx):Prop:=∀b ∈ X.ex,∃o,(b,o) ∈ X.pn
theorem VV (hp:zca X) (I:Inv X pins σ H s) (e:s.heap.get? a=none):Alien X pins H a:=by
 refine⟨?_,fun z=>?_,fun x c ec z=>?_,fun p hp z=>?_,?_,fun z=>?_⟩
 ·by_cases hx:a ∈ X.ex
  ·obtain⟨o,ho⟩:=hp a hx
   have:=(I.pin (a,o) (List.mem_append_left _ ho)).1
   rw[e] at this;cases this
  ·cases q:X.s₀.heap.get? a with
   | none=>rfl
   | some o=>obtain⟨o',e'⟩:=I.base.there a o q hx;rw[e] at e';cases e'
 ·obtain⟨m,⟨o,_,_,ho,_⟩,_⟩:=I.loc
  rw[<- z,e] at ho;cases ho
 ·obtain⟨v,o,ho,_⟩:=I.cell x c ec
  rw[z,e] at ho;cases ho
 ·obtain⟨q,_⟩:=I.pin p hp
  rw[z,e] at q;cases q
 ·cases q:H a with
  | none=>rfl
  | some o=>
   obtain⟨o',e'⟩:∃o',s.heap.get? a=some o':=ex_of_ok (I.hok a o q)
   rw[e] at e';cases e'
 ·obtain⟨_,o,ho,_⟩:=I.stack.mem z
  rw[e] at ho;cases ho
def hid (X:Cx) (a:Addr):Option (Addr × Value)->List Addr
 | none=>a::frs X.stack
 | some (T,_)=>a::T::frs X.stack
theorem hid_frs (X:Cx) (a:Addr) (n:Option (Addr × Value)):∀b ∈ frs X.stack,b ∈ hid X a n:=by
 intro b hb
 cases n with
 | none=>exact List.mem_cons_of_mem _ hb
 | some p=>obtain⟨T,f⟩:=p;exact List.mem_cons_of_mem _ (List.mem_cons_of_mem _ hb)
theorem zcQ {X:Cx}{a b:Addr}{n:Option (Addr × Value)}(h:b ∈ hid X a n):b=a\/(∃T f,n=some (T,f)/\b=T)\/b ∈ frs X.stack:=by
 cases n with
 | none=>
  rcases List.mem_cons.mp h with h | h
  ·exact .inl h
  ·exact .inr (.inr h)
 | some p=>
  obtain⟨T,f⟩:=p
  rcases List.mem_cons.mp h with h | h
  ·exact .inl h
  ·rcases List.mem_cons.mp h with h | h
   ·exact .inr (.inl ⟨T,f,rfl,h⟩)
   ·exact .inr (.inr h)
theorem Exc.moved {t':Nat}(E:Exc X pins σ H a cv n s) (k1:(PySem.W.hideAll s.heap (hid X a n)).StaysIn h') (k2:s.heap.UpToSlots h'):Inv X pins σ H { s with heap:=h',toks:=t' }:=by
 have I:=E.inv
 have al:∀b,b ∈ hid X a n->b ∉ frs X.stack->Alien X pins H b:=fun b hb hf=>by
  rcases zcQ hb with z | ⟨T,f,z1,z2⟩ | z
  ·rw[z];exact E.al
  ·rw[z2];exact E.nt T f z1
  ·exact absurd z hf
 have up:∀b,b ∈ frs X.stack->∀o,s.heap.get? b=some o->∃sl,h'.get? b=some { o with slots:=sl }:=fun b hb o ho=>by
  obtain⟨_,o',ho',hd⟩:=I.stack.mem hb
  rw[ho] at ho';cases ho'
  exact k2 b o ho hd
 have fsub:∀b ∈ X.fs,b ∈ frs X.stack:=fun b hb=>by
  rcases I.ok.stk with z | ⟨z,_⟩
  ·rw[z];exact hb
  ·rw[z]
   unfold frs at *
   simp only[List.filterMap_cons]
   split
   ·exact hb
   ·exact List.mem_cons_of_mem _ hb
 have stay:∀b o,b ∉ hid X a n->s.heap.get? b=some o->h'.get? b=some o:=fun b o hb e=>k1 b o (PySem.W.hideAll_get _ e hb)
 have trk:∀b,H b ≠ none->b ∉ hid X a n:=fun b hb hm=>by
  by_cases hf:b ∈ frs X.stack
  ·exact hb (I.stkFree b hf)
  ·exact hb (al b hm hf).trk
 refine Inv.stepA (t':=t') (ch:=(hid X a n).filter fun b=>decide (b ∉ frs X.stack)) I (fun b hb=>?_) (fun b o hL hf hc e hn=>?_) (fun b o hL hf hc e hn=>up b (fsub b hf) o e) (fun b o hc e=>?_) (fun m hm=>k2.ns hm) fun b o e=>?_
 ·have hb':=List.mem_filter.mp hb
  have A:=al b hb'.1 (of_decide_eq_true hb'.2)
  exact⟨A.young,A.loc,A.cell,A.pin⟩
 ·by_cases hm:b ∈ hid X a n
  ·by_cases hs:b ∈ frs X.stack
   ·rcases List.mem_cons.mp (I.stkSub b hs) with z | z
    ·exact absurd z hL
    ·exact absurd z hf
   ·exact absurd (List.mem_filter.mpr ⟨hm,decide_eq_true hs⟩) hc
  ·exact stay b o hm e
 ·by_cases hs:b ∈ frs X.stack
  ·obtain⟨sl,q⟩:=up b hs o e;exact⟨_,q⟩
  ·by_cases hm:b ∈ hid X a n
   ·exact absurd (List.mem_filter.mpr ⟨hm,decide_eq_true hs⟩) hc
   ·exact⟨o,stay b o hm e⟩
 ·refine(I.hok b o e).stay (fun c v hc q=>stay c v ?_ q) (fun _ q=>q) fun _ _ q=>q
  rcases hc with z | z
  ·rw[z];exact trk b (by rw[e];simp)
  ·exact trk c (by rw[z];simp)
theorem Exc.noted {t':Nat}{a0:Value}(hp:zca X) (E:Exc X pins σ H a cv n s) (k1:(PySem.W.hideAll s.heap (hid X a n)).StaysIn h') (k2:s.heap.UpToSlots h') (ht:h'.TracedAtW (PySem.W.hideAll s.heap (hid X a n)) a cv a0 fl) :
  ∃T',Exc X pins σ H a cv (some (T',fl)) { s with heap:=h',toks:=t' }:=by
 obtain⟨oe,vs,T',oT,ts,he,⟨hc,h0⟩,hd,h1,hn,hne,hT,hdT,h3⟩:=ht
 have I:=E.inv
 refine⟨T',E.moved k1 k2,E.al,⟨oe,vs,a0,oT,ts,he,hc,hd,h0,h1,hne,hT,hdT,h3⟩,fun T f q=>?_⟩
 cases q
 cases q:s.heap.get? T' with
 | none=>exact VV hp I q
 | some o=>
  have hm:T' ∈ hid X a n:=Classical.byContradiction fun z=>by
   rw[PySem.W.hideAll_get _ q z] at hn;cases hn
  rcases zcQ hm with z | ⟨T,f,z1,z2⟩ | z
  ·exact absurd z hne
  ·rw[z2];exact E.nt T f z1
  ·obtain⟨_,o',ho',hd'⟩:=I.stack.mem z
   obtain⟨sl,hs⟩:=k2 T' o' ho' hd'
   rw[hT] at hs
   cases hs
   exact absurd hdT (hd' ts)
theorem fun_hid {as:List Addr}{base h:Heap}:∀{l:List Env},h.FunFrames base l->(∀b ∈ frs l,b ∈ as)->h.FunFrames (PySem.W.hideAll h as) l:=fun {l} hf hs=>
 PySem.W.funFrames_hide hf fun env he b hb=>hs b (List.mem_filterMap.mpr ⟨env,he,hb⟩)
theorem zfq {h:Heap}{as:List Addr}:(PySem.W.hideAll h as).StaysIn h:=fun b o e=>PySem.W.of_hideAll as e
theorem zfh {v:Value}{e1 e2:Env}(h:e1.frame=e2.frame):noteFrame v e1=noteFrame v e2:=by
 unfold noteFrame PySem.frameOf
 rw[h]
structure InFrame (X:Cx) (L:Addr):Prop where
 pin:zca X
 ex:∃e0 rest,X.stack=e0::rest/\e0.frame=some L
 env:X.env.frame=some L
theorem Exc.setT {f v:Value}{Q:Unit->Shared->Prop}{Ee:Value->Shared->Prop}(E:Exc X pins σ H a cv (some (T,f)) s) (q:∀s',Exc X pins σ H a cv (some (T,v)) s'->Q () s'):wpAny (model X.prog X.w) X.A (setField (.ref T) 3 v) Q Ee s:=by
 obtain⟨oe,vs,a0,oT,ts,he,hc,hd,h0,h1,hne,hT,hdT,h3⟩:=E.ob
 have hz:3 < ts.size:=(Array.getElem?_eq_some_iff.mp h3).1
 refine wpAny_setField hT hdT hz (q _ ?_)
 have other:∀b,b ≠ T->(s.heap.update T (Obj.mapFields (·.setIfInBounds 3 v))).get? b=s.heap.get? b:=fun b hb=>Heap.get?_update_other _ _ (Ne.symm hb)
 have self:=Heap.get?_update_self (Obj.mapFields (·.setIfInBounds 3 v)) hT (Obj.isFreed_of_fields (Obj.data_mapFields hdT _))
 have A:=E.nt T f rfl
 refine⟨E.moved (t':=s.toks) (fun b o e=>?_) (fun b o e hn=>?_),E.al,⟨oe,vs,a0,_,_,(other a (Ne.symm hne)).trans he,hc,hd,h0,h1,hne,self,Obj.data_mapFields hdT _,by simp[hz]⟩,fun T' f' z=>by cases z;exact A⟩
 ·have hb:b ≠ T:=fun z=>by
   have hh:(PySem.W.hideAll s.heap (hid X a (some (T,f)))).get? T=none:=PySem.W.hideAll_none (hid X a (some (T,f))) (List.mem_cons_of_mem _ List.mem_cons_self)
   rw[z,hh] at e;cases e
  exact(other b hb).trans (PySem.W.of_hideAll _ e)
 ·have hb:b ≠ T:=fun z=>by rw[z,hT] at e;cases e;exact hn ts hdT
  exact⟨o.slots,(other b hb).trans e⟩
theorem ExO.first {h:Heap}{a:Addr}{cv:Value}{n:Option (Addr × Value)}(x:ExO h a cv n):∃oe vs a0 b1,h.get? a=some oe/\oe.cls=cv/\oe.data=.fields vs/\vs[0]? = some a0/\vs[1]? = some b1:=by
 cases n with
 | none=>obtain⟨oe,vs,a0,h1,h2,h3,h4,h5⟩:=x;exact⟨oe,vs,a0,_,h1,h2,h3,h4,h5⟩
 | some p=>obtain⟨T,f⟩:=p;obtain⟨oe,vs,a0,_,_,h1,h2,h3,h4,h5,_⟩:=x;exact⟨oe,vs,a0,_,h1,h2,h3,h4,h5⟩
theorem Exc.entry (hp:zca X) {L:Addr}{e0:Env}{rest:List Env}{head:Value}{hadNext:Bool}{Q:Unit->Shared->Prop}{Ee:Value->Shared->Prop}(hst:X.stack=e0::rest) (hf:e0.frame=some L) (E:Exc X pins σ H a cv n s)
  (q:∀T' s',Exc X pins σ H a cv (some (T',rawInt L)) s'->Q () s') :
  wpAny (model X.prog X.w) X.A (do let fr <- PySem.frameOf e0;let pl <- entryPlaceOf L hadNext;let b <- EntryCells.newEntry head fr .none (rawInt L) .none pl;setField (.ref a) 1 b) Q Ee s:=by
 have hfr:X.A.frames=some (e0::rest):=by rw[<- hst];exact E.inv.ok.frames
 have fun0:s.heap.FunFrames (PySem.W.hideAll s.heap (hid X a n)) (e0::rest):=by rw[<- hst];exact fun_hid E.inv.stack (hid_frs X a n)
 have hen:(PySem.W.hideAll s.heap (hid X a n)).get? a=none:=PySem.W.hideAll_none _ (by cases n with | none=>exact List.mem_cons_self | some p=>exact List.mem_cons_self)
 obtain⟨oe,vs,a0,b1,he,hc,hd,h0,h1⟩:=E.ob.first
 refine wpAny_entryW hfr fun0 hf he zfq hen hd (Array.getElem?_eq_some_iff.mp h1).1 h0 fun h' x=>?_
 rw[hc] at x
 obtain⟨k1,k2,k3,k4⟩:=x
 obtain⟨T',x⟩:=E.noted (t':=s.toks) hp k1 k4 k3
 exact q T' _ x
theorem Exc.note {L:Addr}{Q:Unit->Shared->Prop}{Ee:Value->Shared->Prop}(F:InFrame X L) (E:Exc X pins σ H a cv n s)
  (q:∀T' s',Exc X pins σ H a cv (some (T',rawInt L)) s'->Q () s'):wpAny (model X.prog X.w) X.A (noteFrame (.ref a) X.env) Q Ee s:=by
 obtain⟨e0,rest,hst,hf⟩:=F.ex
 rw[zfh (e1:=X.env) (e2:=e0) (by rw[F.env,hf])]
 unfold noteFrame
 simp only[hf]
 cases n with
 | none=>
  obtain⟨oe,vs,a0,he,hc,hd,h0,h1⟩:=E.ob
  refine wpAny_bind (wpAny_field he hd h1 ?_)
  rw[if_neg (by decide)]
  exact E.entry F.pin hst hf q
 | some p=>
  obtain⟨T,f⟩:=p
  obtain⟨oe,vs,a0,oT,ts,he,hc,hd,h0,h1,hne,hT,hdT,h3⟩:=id E.ob
  refine wpAny_bind (wpAny_field he hd h1 ?_)
  rw[if_pos (show(Value.ref T != Value.none)=true from by simp)]
  refine wpAny_bind (wpAny_field hT hdT h3 ?_)
  by_cases hfl:(f == rawInt L)=true
  ·rw[if_pos hfl]
   refine wpAny_pure (q T s ?_)
   have:f=rawInt L:=by simpa using hfl
   rw[<- this]
   exact E
  ·rw[if_neg hfl]
   exact wpAny_bind (E.setT fun s1 E1=>E1.entry F.pin hst hf q)
theorem Exc.flight {f:Value}{fr:Option Addr}{Q:Unit->Shared->Prop}{Ee:Value->Shared->Prop}(E:Exc X pins σ H a cv (some (T,f)) s)
  (q:∀s',Exc X pins σ H a cv (some (T,fr.elim .none fun f=>rawInt f)) s'->Q () s'):wpAny (model X.prog X.w) X.A (setFlight (.ref a) fr) Q Ee s:=by
 obtain⟨oe,vs,a0,oT,ts,he,hc,hd,h0,h1,hne,hT,hdT,h3⟩:=id E.ob
 unfold setFlight
 refine wpAny_bind (wpAny_field he hd h1 ?_)
 rw[if_pos (show(Value.ref T != Value.none)=true from by simp)]
 exact E.setT q
theorem Exc.leave {L:Addr}{Q:Unit->Shared->Prop}{Ee:Value->Shared->Prop}(F:InFrame X L) (E:Exc X pins σ H a cv n s)
  (q:∀T' s',Exc X pins σ H a cv (some (T',.none)) s'->Q () s'):wpAny (model X.prog X.w) X.A (leaving X.env (.ref a)) Q Ee s:=by
 unfold leaving
 exact wpAny_bind (E.note F fun T' s1 E1=>E1.flight (fr:=none) fun s2 E2=>q T' s2 E2)
theorem Exc.pass {α:Type}{w:String}{f:Value}{env:Env}{Q:α->Shared->Prop}{Ee:Value->Shared->Prop}(E:Exc X pins σ H a cv (some (T,f)) s)
  (q:∀fl s',Exc X pins σ H a cv (some (T,fl)) s'->Ee (.ref a) s'):wpAny (model X.prog X.w) X.A (PySem.passOn w (.ref a) env:Sem α) Q Ee s:=by
 obtain⟨oe,vs,a0,oT,ts,he,hc,hd,h0,h1,hne,hT,hdT,h3⟩:=id E.ob
 unfold PySem.passOn
 refine wpAny_bind (wpAny_field he hd h1 ?_)
 rw[if_neg (show ¬((Value.ref T == Value.none)=true) from Bool.false_ne_true)]
 exact wpAny_bind (E.flight fun s1 E1=>wpAny_throw (q _ _ E1))
end
end Fx
namespace Fx
open PySem PySem.Spec PyProof.Rows L2
def XE (X:Cx) (cl:Str->Value) (W:Str->Hp->Prop):Value->Shared->Prop:=fun e s=>∃a c pins σ H n,e=.ref a/\Exc X pins σ H a (cl c) n s/\W c H
abbrev Cx.xw (X:Cx) (cl:Str->Value) (W:Str->Hp->Prop):Cx:=X.wish (XE X cl W)
def CX1 (P:Program) (w:World):CXT:=fun outer H s E e s'=>∃a cv T H',e=.ref a/\s'.os=s.os/\AllBare s'.gens/\Un (frs outer) [] H H' s.heap s'.heap/\HOk P w H' s'.heap/\H' a=none/\H' T=none /\
 s.heap.get? a=none/\s.heap.get? T=none/\ExO s'.heap a cv (some (T,.none))/\E cv none H'
section
variable {X:Cx}{cl:Str->Value}{W:Str->Hp->Prop}{pins:List (Addr × Obj)}{σ:L2.St}{H H':Hp}{s s':Shared}{a:Addr}
theorem Alien.to (A:Alien X pins H a) (e:H' a=none):Alien X pins H' a:=⟨A.young,A.loc,A.cell,A.pin,e,A.frm⟩
theorem JT (hp:zca X) {E:XK}{e:Value}(I:Inv X pins σ H s) (h:CX1 X.prog X.w X.stack H s E e s'):∃a cv T H',e=.ref a/\Exc X pins σ H' a cv (some (T,.none)) s'/\E cv none H':=by
 obtain⟨a,cv,T,H',rfl,os,bare,un,hok,ha,hT,na,nT,ob,hE⟩:=h
 obtain⟨hh,g,d,t,os'⟩:=s'
 obtain rfl:os'=s.os:=os
 refine⟨a,cv,T,H',rfl,⟨I.call (h':=hh) (g':=g) (d':=d) (t':=t) (ch:=[]) un hok bare (fun b z=>absurd z (by simp)),(VV hp I na).to ha,ob,fun T' f z=>?_⟩,hE⟩
 cases z
 exact(VV hp I nT).to hT
theorem pass_xw (hp:zca X):Q8 (CX1 X.prog X.w) (Cx.xw X cl W) (EX (some cl) W):=fun pins σ H s e s' I h=>by
 obtain⟨a,cv,T,H',rfl,x,c,f,e1,rfl,hw⟩:=JT hp I.unwish h
 cases e1
 exact⟨a,c,pins,σ,H',_,rfl,x,hw⟩
end
structure Clx (P:Program) (w:World) (K:PySem.W.Frag) (mg:Str->Option Value) (base:Heap) (cl:Str->Value) (k:Nat) (x:Str) (np:Nat) (f:DF):Prop where
 ex:∃(fa:Addr) (fd:FuncData) (ps:List Str),FnOk P w K mg base (CX1 P w) k fa fd ps (spF K (some cl) np f)/\mg x=some (.ref fa)/\PySem.W.keepIn K (.ref fa)=true/\ZG K fd ps []
theorem Clx.cal {X:Cx}{cl:Str->Value}{W:Str->Hp->Prop}{k np:Nat}{x:Str}{f:DF}(hp:zca X) (C:Clx X.prog X.w X.K X.mg X.base cl k x np f):Cal (Cx.xw X cl W) W (some cl) k x np f:=by
 obtain⟨fa,fd,ps,F,hm,hk,hb⟩:=C.ex
 exact⟨⟨CX1 X.prog X.w,fa,fd,ps,F,hm,hk,hb,pass_xw hp⟩,fun z=>by cases z⟩
theorem Clx.mono {P:Program}{w:World}{K:PySem.W.Frag}{mg:Str->Option Value}{base:Heap}{cl:Str->Value}{j k np:Nat}{x:Str}{f:DF}(C:Clx P w K mg base cl j x np f) (h:j<=k):Clx P w K mg base cl k x np f:=by
 obtain⟨fa,fd,ps,F,r⟩:=C.ex
 exact⟨⟨fa,fd,ps,F.mono h,r⟩⟩
theorem pss_xe {X:Cx}{E':Value->Shared->Prop}{st:List Stmt}{t:TS}(h:PSs (X.wish E') st t) (hx:∀e s,E' e s->X.xe e s):PSs X st t:=fun pins s σ H D I hw=>
 wpAny_mono (h pins s σ H D (I.wish _) hw) (fun _ _ q=>q.unwish) hx
section
variable {P:Program}{w:World}{K:PySem.W.Frag}{mg:Str->Option Value}{base:Heap}
theorem Zr {CX:CXT}{N:List Str}{qual:Str}{scope:Scope}{f:Addr}{cdv:Value}{A:Around}{outer:List Env}{s:Shared}{H:Hp}{E:XK}:InFrame (cxOf CX P w K mg base N qual scope f cdv A outer s H E) s.heap.objs.size:=
 ⟨fun b z=>absurd (show b ∈ ([]:List Addr) from z) (by simp),⟨_,_,rfl,rfl⟩,rfl⟩
theorem fn_okX {cl:Str->Value}{x qual:Str}{st:Stmt}{f:Addr}{fd:FuncData}{N ps:List Str}{k np:Nat}{d:DS}(F:Fun K x qual st f fd) (S:FnScope N ps (Zd st)) (hnp:ps.length=np)
  (hb:∀(cdv:Value) (A:Around) (outer:List Env) (s:Shared) (H:Hp) (E:XK) (W:Str->Hp->Prop),Room k (A.deeper (envOfC qual (Zd st) s.heap.objs.size f cdv)) ->
   SVs (Cx.xw (cxOf (CX1 P w) P w K mg base N qual (Zd st) f cdv A outer s H E) cl W) W false (Zl st) d):FnOk P w K mg base (CX1 P w) (k+1) f fd ps (spF K (some cl) np (runF N.length np d)):=by
 obtain⟨oc,od,kV,doc,pm,an,cdv,ct,osl,rfl,lk,hcd⟩:=F.ex
 refine fn_of lk hcd S (fun vs H Q E h=>by rw[hnp];exact h.1) fun A outer s H vs Q E hr h=>⟨_,pss_xe (hb cdv A outer s H E (fun c H'=>E (cl c) none H') hr) (fun e s1 hx=>?_),?_⟩
 ·obtain⟨a,c,pins,σ,H',n,rfl,x,hw⟩:=hx
  refine x.leave Zr fun T s2 x2=>?_
  refine⟨a,cl c,T,H',rfl,x2.inv.os,x2.inv.bare,x2.inv.base,x2.inv.hok,x2.al.trk,(x2.nt T _ rfl).trk,x2.al.young,(x2.nt T _ rfl).young,x2.ob,hw⟩
 ·obtain⟨hl,ts,P',rs,ho,hf,q⟩:=h
  have hlt:ts.length=np:=by rw[rs.length];exact hl
  refine⟨_,P',UU rs ho hf,?_⟩
  unfold runF at q
  rw[if_pos hlt] at q
  have en:N.length - np=N.length - ts.length:=by rw[hlt]
  rw[en] at q
  have sm:∀H' P2,Go H P' H' P2->Same H H':=fun H' P2 g=>g.all ho
  have bk:∀H' P2,Go H P' H' P2->Tr H' P2 H' P':=fun H' P2 g b o e _ z=>⟨e,fun i=>by rw[ho i];exact fun z=>(by cases z),by rw[<- g.fbe];exact z.2⟩
  cases e:d (ts.map .val++List.replicate (N.length - ts.length) .emp) with
  | stuck=>rw[e] at q;exact q.elim
  | exc c=>rw[e] at q;exact fun H' P2 g=>q none H' (sm H' P2 g)
  | ok o=>
   rw[e,Res.bind_ok] at q
   cases o with
   | nx G=>exact fun σ' H' P2 g h'=>q .non H' (sm H' P2 g) (XJ.mpr rfl)
   | rt t=>exact fun v H' P2 g r _=>q v H' (sm H' P2 g) (Rl.go (bk H' P2 g) t v r)
   | bk G=>exact q.elim
   | ct G=>exact q.elim
theorem WK {cl:Str->Value}{x:Str}{st:Stmt}{fa:Addr}{fd:FuncData}{N ps:List Str}{k n np:Nat}{d:DS}(F:Fun K x x st fa fd) (hm:mg x=some (.ref fa)) (b:ZG K fd ps []) (S:FnScope N ps (Zd st)) (hnp:ps.length=np) (hN:N.length=n)
  (hb:∀(cdv:Value) (A:Around) (outer:List Env) (s:Shared) (H:Hp) (E:XK) (W:Str->Hp->Prop),Room k (A.deeper (envOfC x (Zd st) s.heap.objs.size fa cdv)) ->
   SVs (Cx.xw (cxOf (CX1 P w) P w K mg base N x (Zd st) fa cdv A outer s H E) cl W) W false (Zl st) d):Clx P w K mg base cl (k+1) x np (runF n np d):=by
 subst hN
 exact⟨⟨fa,fd,ps,fn_okX F S hnp hb,hm,F.kp,b⟩⟩
end
structure XCls (K:PySem.W.Frag) (mg:Str->Option Value) (x:Str) (C:Addr):Prop where
 bd:mg x=some (.ref C)
 ex:PySem.W.excIn K C [.type "ValueError",.type "Exception",.type "BaseException",.type "object"] "ValueError.__new__" = true
theorem XCls.obj {K:PySem.W.Frag}{mg:Str->Option Value}{x:Str}{C:Addr}{h:Heap}(c:XCls K mg x C) (k:K.In h):OwnCls x C [.type "ValueError",.type "Exception",.type "BaseException",.type "object"] "ValueError.__new__" mg h:=by
 refine⟨c.bd,?_⟩
 have q:=c.ex
 unfold PySem.W.excIn at q
 split at q
 ·rename_i d0 cdat slts look
  split at q
  ·rename_i C1 tl a0 a1 a2 a3 nid a5 em es
   simp only[Bool.and_eq_true,beq_iff_eq,Bool.not_eq_true'] at q
   obtain⟨⟨⟨⟨⟨q1,q2⟩,q3⟩,q4⟩,q5⟩,q6⟩:=q
   obtain⟨c1,c2,c3,c4,c5,c6,c7,c8,c9,c10,c11⟩:=cdat
   dsimp only at em q3 q5 q6
   subst em q3 q1 q2
   obtain⟨lst⟩:=slts
   dsimp only at es
   subst es
   exact⟨tl,c4,c1,c5,c2,c6,c7,c8,c9,c10,d0,a0,a1,a2,a3,a5,_,k _ _ look,.of_isNs (PySem.W.isNs_of_in k q5),PySem.W.nsMap_none_of_in k q5 q6,PySem.W.tail_of_in k q4⟩
  ·cases q
 ·cases q
section
variable {X:Cx}{cl:Str->Value}{W:Str->Hp->Prop}{e:Expr}{es:List Expr}{d:DA}{pos:Pos}
theorem YA {x:Str}{C:Addr}{np cpos:Pos}(hp:zca X) (c:XCls X.K X.mg x C) (hcl:cl x=.ref C) (ha:AV (Cx.xw X cl W) W (e::es) d) (hg:Gl X x) (hc:X.calm=true:=by rfl) (hdb:(x == ("__debug__" : Str))=false:=by decide)
  (he:starEach (e::es) X.env=(false,eval e X.env)::starEach es X.env:=by rfl) (hpl:(backTo cpos (starEach es X.env)).any (·.1)=false:=by rfl)
  (hln:∀G ts,d G=.ok ts->ts.length<=4:=by intro G ts h;have:=zaQ G ts h;omega) :
  SV (Cx.xw X cl W) W fl (.Raise (some (.Call (.Name x np) (e::es) [] cpos)) none pos) (X6 x d):=by
 intro pins s σ H D I ⟨G,P,h,q⟩
 unfold X6 at q
 obtain⟨h',g⟩:=h.frzA
 obtain⟨q1,q2,q3⟩:=zhT q
 obtain⟨tl,N,nm,qn,bs,hd,sn,sb,ab,co,dd,k0,k1,k2,k3,k5,mN,hC,hN,hni,tail⟩:=(c.obj I.mod.kin).obj
 refine wpAny_Raise_call_subT (C:=C) (nm:=nm) (q:=qn) (N:=N) (bs:=bs) (bm:=tl) (hdct:=hd) (sn:=sn) (sub:=sb) (ab:=ab) (col:=co) (dd:=dd) (k0:=k0) (k1:=k1) (k2:=k2) (k3:=k3) (k5:=k5)
  PySem.F.excBase_ValueError (mN:=mN) (tail.hasType PySem.F.excBase_ValueError.hasBase) (I.ok.hd hc) (by rw[show starEach (e::es) (Cx.xw X cl W).env=_ from he];show(false || (backTo cpos (starEach es X.env)).any (·.1))=false;rw[hpl];rfl) hni (Uw I hg c.bd ⟨rfl,?_⟩ hdb)
 have hA:=ha cpos pins s σ H (fun vs H2=>vs.length<=4/\W x H2) I ⟨frzA G,P.bare,h',?_⟩
 ·rw[show starEach (e::es) (Cx.xw X cl W).env=_ from he] at hA ⊢
  refine Calls.evalArgs_plain (wpAny_mono hA (fun us s2 ⟨vs,H2,I2,r2,hl,hw⟩=>?_) fun _ _ z=>z)
  have hl2:=r2.length
  refine⟨rfl,by show us.length<=sizeLine;rw[sizeLine_eq];omega,I2.bk _ _ hC,hN.keeps I2.bk,tail.keeps I2.bk,fun h2 a mk=>?_⟩
  obtain⟨t,ho,_,_⟩:=mk.there
  refine⟨a,x,pins,σ,H2,none,rfl,⟨I2.unwish.kept (t':=s2.toks) mk.keeps,VV hp I2.unwish mk.new,⟨_,_,.ref t,ho,hcl.symm,rfl,rfl,rfl⟩,fun T f z=>by cases z⟩,hw⟩
 ·cases ed:d (frzA G) with
  | stuck=>exact absurd ed q2
  | exc c'=>exact fun H2 sm=>q1 c' ed H2 P.bare (g.trans (.same sm))
  | ok ts=>exact fun vs H2 sm rs=>⟨by rw[<- rs.length];exact hln _ _ ed,q3 ts ed H2 P.bare (g.trans (.same sm))⟩
end
end Fx
namespace Fx
open PySem PySem.Spec PyProof.Rows L2
section
variable {X:Cx}{cl:Str->Value}{W:Str->Hp->Prop}{L:Addr}{scope:Scope}{N:List Str}
theorem frame_c {s₀:Shared}{H₀:Hp}{ex:List Addr}{pn:List (Addr × Obj)}(F:InFrame X L) (hp:∀b ∈ ex,∃o,(b,o) ∈ pn):InFrame (cxC X scope N s₀ H₀ ex pn) L:=⟨hp,F.ex,F.env⟩
theorem InFrame.wish {E:Value->Shared->Prop}(F:InFrame X L):InFrame (X.wish E) L:=⟨F.pin,F.ex,F.env⟩
theorem Xz (F:InFrame X L):zd0 (Cx.xw X cl W) scope N (fun Y=>XE Y cl W):=by
 intro pins σ H3 s3 fp pn e s' I3 hf pnn hx
 obtain⟨a,c,pins',σ',H',n,rfl,x,hw⟩:=hx
 refine Exc.note (X:=cxC (Cx.xw X cl W) scope N s3 H3 fp pn) (L:=L) (frame_c (InFrame.wish F) pnn) x fun T s1 x1=>?_
 obtain⟨m,hm,_⟩:=x1.inv.loc
 refine⟨m,hm,fun h' hsb cenv hc=>?_⟩
 have J:Inv (cxC (Cx.xw X cl W) scope N s3 H3 fp) (pn++pins') σ' H' s1:=inv_np (x1.inv.wish fun _ _=>False)
 have I0:Inv X pins σ H' s1:=(CompOk.stop I3 (fun b hb=>(hf b hb).1) J).unwish
 have al:∀b,Alien (cxC (Cx.xw X cl W) scope N s3 H3 fp pn) pins' H' b->Alien X pins H' b:=fun b A=>(VV F.pin I3.unwish A.young).to A.trk
 have fo:FpOk X pins H' s3.heap.objs.size:=I3.unwish.fpOk (Nat.le_refl _) x1.inv.free
 have ne:∀b,Alien (cxC (Cx.xw X cl W) scope N s3 H3 fp pn) pins' H' b->h'.get? b=s1.heap.get? b:=fun b A=>hsb.2 b A.loc
 have aT:=x1.nt T _ rfl
 have x2:Exc X pins σ H' a (cl c) (some (T,rawInt L)) { s1 with heap:=h' }:=by
  refine⟨atC I0 fo hsb,al a x1.al,?_,fun T' f z=>by cases z;exact al T aT⟩
  obtain⟨oe,vs,a0,oT,ts,he,hc,hd,h0,h1,hne,hT,hdT,h3⟩:=x1.ob
  exact⟨oe,vs,a0,oT,ts,(ne a x1.al).trans he,hc,hd,h0,h1,hne,(ne T aT).trans hT,hdT,h3⟩
 exact x2.pass fun fl s2 x3=>⟨a,c,pins,σ,H',_,rfl,x3,hw⟩
end
end Fx
namespace Fx
open PySem PySem.Spec PyProof.Rows L2
def cxH (X:Cx) (a:Addr):Cx:={ X with A:=X.A.mark (some (.ref a)),calm:=false,xe:=fun _ _=>False }
section
variable {X:Cx}{pins:List (Addr × Obj)}{σ:L2.St}{H H':Hp}{s s':Shared}{a:Addr}{cv:Value}{n:Option (Addr × Value)}{cl:Str->Value}{W:Str->Hp->Prop}{L:Addr}
theorem inv_h (I:Inv X pins σ H s):Inv (cxH X a) pins σ H s:=
 ⟨⟨I.ok.mod,I.ok.kind,I.ok.glob,I.ok.blt,I.ok.above,I.ok.inj,I.ok.has,I.ok.cab,fun z=>(by cases z),I.ok.frames,I.ok.stk,I.ok.exf,I.ok.bs,I.ok.bsz,I.ok.noex,I.ok.exfs,I.ok.funs,I.ok.frf⟩,I.os,I.bare,I.base,I.loc,I.cell,I.free,I.freeC,I.pin,I.hok,I.len⟩
theorem zaS (ok:X.Ok) (I:Inv (cxH X a) pins σ H s):Inv X pins σ H s:=⟨ok,I.os,I.bare,I.base,I.loc,I.cell,I.free,I.freeC,I.pin,I.hok,I.len⟩
theorem exc_h (x:Exc X pins σ H a cv n s):Exc (cxH X a) pins σ H a cv n s:=⟨inv_h x.inv,⟨x.al.young,x.al.loc,x.al.cell,x.al.pin,x.al.trk,x.al.frm⟩,x.ob,fun T f z=>let A:=x.nt T f z;⟨A.young,A.loc,A.cell,A.pin,A.trk,A.frm⟩⟩
theorem sp_oh {D:Ends}{f:Flow}(ok:X.Ok) (h:SP (cxH X a) pins D f s'):SP X pins D f s':=by
 cases f with
 | next=>obtain⟨σ',H',I,q⟩:=h;exact⟨σ',H',zaS ok I,q⟩
 | brk=>obtain⟨σ',H',I,q⟩:=h;exact⟨σ',H',zaS ok I,q⟩
 | cont=>obtain⟨σ',H',I,q⟩:=h;exact⟨σ',H',zaS ok I,q⟩
 | ret u=>obtain⟨v,σ',H',I,r,q⟩:=h;exact⟨v,σ',H',zaS ok I,r,q⟩
theorem zcS {K:PySem.W.Frag}{M:Model}{A:Around}{E:Value->Shared->Prop}{mg:Str->Option Value}{x:Str}{C C':Addr}{ob:Obj}{Q:Bool->Shared->Prop}(k:K.In s.heap) (c:XCls K mg x C') (ho:s.heap.get? a=some ob) (hc:ob.cls=.ref C)
  (hsub:PySem.W.subIn K (.ref C) (.ref C')=some true) (q:Q true s):wpAny M A (excMatches (.ref a) (.ref C')) Q E s:=by
 obtain⟨tl,N,nm,qn,bs,hd,sn,sb,ab,co,dd,k0,k1,k2,k3,k5,mN,hC,hN,hni,tail⟩:=(c.obj k).obj
 have hB:(Value.ref C'::tl).contains (.type "BaseException")=true:=by rw[List.contains_cons,tail.hasType PySem.F.excBase_ValueError.hasBase,Bool.or_true]
 have nt:=tc_notTuple
 obtain⟨hp,g,d,tk,os⟩:=s
 unfold excMatches
 repeat (first | (with_reducible refine wpAny_loadPart_at ho ?_;rw[hc]) | with_reducible refine wpAny_loadPart_at hC ?_ | (with_reducible refine wpAny_isSubtype_exc hC ?_;rw[hB]) | (refine(PySem.W.looks_subIn k hsub).at ?_) | wp_step)
 exact q
theorem isi_exc {x:Addr}{A:Around}{Ee:Value->Shared->Prop}{Q:Value->Shared->Prop}(I:Inv X pins σ H s) (h:H x=some (XO X.K x)) (q:Q (.bool true) s):wpAny (model X.prog X.w) A (call (.builtin "isinstance") [.ref x,.type "ValueError"]) Q Ee s:=by
 obtain⟨⟨ob,C,ho,hc,hs⟩,_,_⟩:=I.hok x _ h
 have lt:PySem.W.Looks (model X.prog X.w) s.heap (typeOf (.ref x)) (.ref C):=hc ▸ (PySem.W.Looks.ld ho).andThen .now
 have li:PySem.W.Looks (model X.prog X.w) s.heap (isInstance (.ref x) (.type "ValueError")) true:=lt.andThen (PySem.W.looks_subIn I.kIn hs)
 refine call_isinstance_of ?_ (by intro e;cases e)
 unfold Builtin.«isinstance.nested»
 refine wpAny_bind (lt.at ?_)
 rw[if_neg (show ¬((Value.ref C == Value.type "ValueError")=true) from Bool.false_ne_true)]
 refine wpAny_bind (wpAny_of_eq (a:=Value.type "type") (PySem.W.kitMeta_of (by decide +kernel)) ?_)
 rw[if_pos (by decide)]
 k_delta "plainIsInstance"
 refine wpAny_bind (wpAny_bind (wpAny_of_eq (a:=true) rfl ?_))
 simp only[Bool.not_true,Bool.false_eq_true,if_false]
 refine wpAny_bind (li.at ?_)
 simp only[if_true]
 exact wpAny_pure (wpAny_pure q)
theorem call_isx:Jg X (.builtin "isinstance") (fun xs H Q=>∃x,xs=[.ref x,.ty "ValueError"]/\H x=some (XO X.K x)/\Q (.bl true) H):=by
 intro pins s σ H xs us Q I r h
 obtain⟨x,rfl,hx,q⟩:=h
 obtain⟨u,w',rfl,ru,rw'⟩:=vals2 r
 cases ru
 cases rw'
 exact isi_exc I hx ⟨.bl true,H,I,rfl,q⟩
theorem ev_isx {ex:Expr}{da:DE}{p p2 pos:Pos}(hg:Gl X "isinstance") (hm:X.mg "isinstance" = none) (hg2:Gl X "ValueError") (hm2:X.mg "ValueError" = none) (ha:EV X W ex da)
  (hs:starEach [ex,.Name "ValueError" p2] X.env=(false,eval ex X.env)::starEach [.Name "ValueError" p2] X.env:=by rfl) (hs2:starEach [.Name "ValueError" p2] X.env=(false,eval (.Name "ValueError" p2) X.env)::starEach [] X.env:=by rfl)
  (hpl:(backTo pos (starEach [.Name "ValueError" p2] X.env)).any (·.1)=false:=by rfl) :
  EV X W (.Call (.Name "isinstance" p) [ex,.Name "ValueError" p2] [] pos) (d1 fIsX da):=
 ZE (UQ call_isx hg hm (show bootBuiltins "isinstance" = some (.builtin "isinstance") by decide +kernel) (ZZ ha (ZZ (zgC (v:=.ty "ValueError") hg2 hm2 (show bootBuiltins "ValueError" = some (.type "ValueError") by decide +kernel) rfl) Xg hs2) hs) (he:=hs) (hpl:=hpl)) fun σ H Q ⟨G,P,h,q⟩=>by
  unfold d1 at q
  obtain⟨q1,q2,q3⟩:=QA q
  refine ZI h q1 q2 fun tx x H1 ex s1 h1 rx=>?_
  have q4:=YZ.up (q3 tx ex) s1
  cases tx <;> try exact q4.elim
  rename_i ys
  cases ys with
  | cons y ys=>exact q4.elim
  | nil=>
   obtain⟨y,rfl,hy,_⟩:=rl_exc.mp rx
   exact⟨y,rfl,hy,ZO q4⟩
theorem zhq {ex:Expr}{da:DE}{p pos:Pos}(hg:Gl X "int") (hm:X.mg "int" = none) (ha:EV X W ex da) (hs:starEach [ex] X.env=(false,eval ex X.env)::starEach [] X.env:=by rfl):EV X W (.Call (.Name "int" p) [ex] [] pos) (d1 fInt da):=
 ZE (Wv zhQ hg hm (show bootBuiltins "int" = some (.type "int") by decide +kernel) (ZZ ha Xg hs) (he:=hs)) fun σ H Q h=>zcf (fun H P σ G x tx Q h rx q=>by
  cases tx <;> try exact q.elim
  ·exact .inr ⟨_,by rw[YE.mp rx],Y2 q⟩
  ·exact .inl ⟨_,by rw[ZL.mp rx],Y2 q⟩) h
theorem zeS {ex:Expr}{es:List Expr}{k np:Nat}{x:Str}{f:DF}{d:DA}{p pos:Pos}(C:Clx X.prog X.w X.K X.mg X.base cl k x np f) (hr:Room k X.A) (hp:zca X) (hg:Gl X x) (ha:AV X.nox (fun _ _=>False) (ex::es) d)
  (hL:∀G ts,d G=.ok ts->ts.length=np) (hdb:(x == ("__debug__" : Str))=false) (he:starEach (ex::es) X.env=(false,eval ex X.env)::starEach es X.env) (hpl:(backTo pos (starEach es X.env)).any (·.1)=false)
  {G:List Sl}{P:Pv}(I:Inv X pins σ H s) (h:Hol X.K H P σ G) {Q:Value->Shared->Prop}{Ee:Value->Shared->Prop}{ts:List PyData}(hd:d G=.ok ts) (hns:f ts ≠ .stuck)
  (ok:∀t,f ts=.ok t->∀v u H' s',Inv X pins σ H' s'->Same H H'->Rl X.K H' P t v->RelV v u->Q u s')
  (xc:∀c,f ts=.exc c->∀a T H' s',Exc X pins σ H' a (cl c) (some (T,.none)) s'->Same H H'->Ee (.ref a) s') :
  wpAny (model X.prog X.w) X.A (eval (.Call (.Name x p) (ex::es) [] pos) X.env) Q Ee s:=by
 obtain⟨fa,fd,ps,F,hm,hk,hb⟩:=C.ex
 refine wpAny_Call_Name_kw (Uw I hg hm ?_ hdb)
 refine PySem.W.callWith_K (h₀:=X.base) I.ok.mod.kin hk (wpAny_mono (ha pos pins s σ H (fun vs H1=>Same H H1/\Rls X.K H1 P ts vs) (I.wish _) ⟨G,P,h,by rw[hd];exact fun vs H' s r=>⟨s,r⟩⟩) (fun us s1 hA=>?_) fun _ _ z=>False.elim z) he hpl
 obtain⟨vs,H1,I1,r,sm,rs⟩:=hA
 have J:=I1.unwish
 refine⟨J.kIn,?_⟩
 have h1:=h.same sm
 have el:vs++[]=vs:=List.append_nil vs
 have eu:us++[]=us:=List.append_nil us
 have gg:Tr H1 P H1 ⟨fun _=>none,fun a=>¬Off P a⟩:=fun a o e1 _ o1=>⟨e1,fun _ z=>(by cases z),fun z=>z o1⟩
 have back:∀H2,Tr H2 ⟨fun _=>none,fun a=>¬Off P a⟩ H2 P:=fun H2 a o e1 _ o1=>⟨e1,Classical.byContradiction fun z=>o1.2 z⟩
 have sp:spF X.K (some cl) np f (vs++[]) H1 (fun v H'=>∃t,f ts=.ok t/\Same H1 H'/\Rl X.K H' P t v) (fun cv _ H'=>∃c,f ts=.exc c/\cv=cl c/\Same H1 H'):=by
  rw[el]
  refine⟨by rw[<- rs.length];exact hL G ts hd,ts,⟨fun _=>none,fun a=>¬Off P a⟩,Rls.go gg ts vs rs,fun _=>rfl,⟨fun a z=>h1.ld z,h1.tab⟩,?_⟩
  cases e:f ts with
  | ok t=>exact fun v H' s r=>⟨t,rfl,s,Rl.go (back H') t v r⟩
  | exc c=>exact fun dx H' s=>⟨c,rfl,rfl,s⟩
  | stuck=>exact hns e
 have hl:(us++[]).length=ps.length:=by rw[eu,<- r.length,<- el];exact F.len _ _ _ _ sp
 refine wpAny_call (codeAny_mono (F.run X.A X.stack s1 H1 ⟨us,[]⟩ (us++[]) (vs++[]) _ _ hr J.env0 (hb s1 us J.kIn hl) (by rw[el,eu];exact r) sp) fun r' s' hq=>?_)
 cases r' with
 | error e=>
  have hq':CX1 X.prog X.w X.stack H1 s1 (fun cv _ H'=>∃c,f ts=.exc c/\cv=cl c/\Same H1 H') e s':=hq
  obtain⟨a,cv,T,H',rfl,x,c,ec,rfl,s2⟩:=JT hp J hq'
  exact xc c ec a T H' s' x (sm.trans s2)
 | ok fl=>
  cases fl with
  | ret u=>
   obtain⟨v,H',I',rv,t,et,s2,rl⟩:=J.after hq
   exact ok t et v u H' s' I' (sm.trans s2) rl rv
  | next=>exact False.elim hq
  | brk=>exact False.elim hq
  | cont=>exact False.elim hq
def zar (X:Cx) (cl:Str->Value) (sub:Str->Bool) (C':Addr):Prop:=∀c,sub c=true->∃C,cl c=.ref C/\PySem.W.subIn X.K (.ref C) (.ref C')=some true
theorem handled0 {Cn:Str}{C':Addr}{sub:Str->Bool}{c:Str}{dh:DS}{b₀:Stmt}{suite:List Stmt}{np hpos:Pos}{D:Ends}{G:List Sl}{P:Pv}(F:InFrame X L) (hcn:XCls X.K X.mg Cn C') (hgn:Gl X Cn) (hdb:(Cn == ("__debug__" : Str))=false) (hsub:zar X cl sub C') (hs:sub c=true)
  (hh:SVs (cxH X a) (fun _ _=>False) fl (b₀::suite) dh) {T:Addr}(x:Exc X pins σ H a (cl c) (some (T,.none)) s) (h:Hol X.K H P σ G) (q:X9 X.K (fun _ _=>False) fl H P (dh G) D) :
  wpAny (model X.prog X.w) X.A (noteFrame (.ref a) X.env) (fun _ s₂=>wpAny (model X.prog X.w) X.A (setFlight (.ref a) none) (fun _ s₃=>wpAny (model X.prog X.w) X.A (handleBy (.ref a) X.env [.ExceptHandler (some (.Name Cn np)) none (b₀::suite) hpos]) (SP X pins D) X.xe s₃) X.xe s₂) X.xe s:=by
 refine x.note F fun T1 s1 x1=>x1.flight (fr:=none) fun s2 x2=>?_
 obtain⟨C,ec,hC⟩:=hsub c hs
 obtain⟨oe,vs,a0,b1,ho,hc,_⟩:=x2.ob.first
 refine wpAny_handleBy_cons (codeAny_handlers_test (Uw (X:=cxH X a) (inv_h x2.inv) hgn hcn.bd ?_ hdb)) (by intro z;cases z)
 refine zcS x2.inv.kIn hcn ho (hc.trans ec) hC ?_
 refine codeAny_handlers_suite (Exc.flight (X:=cxH X a) (fr:=none) (exc_h x2) fun s3 x3=>?_)
 refine wpAny_mono (hh pins s3 σ H D x3.inv ⟨G,P,h,q⟩) (fun f s4 h4=>sp_oh x2.inv.ok h4) fun _ _ z=>False.elim z
theorem zhb {o:HO}(I:Inv X pins σ H s) (A:Alien X pins H a) (ho:Vd X.prog X.w (upd H a o) s.heap a o):Inv X pins σ (upd H a o) s:=by
 refine⟨I.ok,I.os,I.bare,⟨I.base.keep,I.base.slot,fun b u e n hx=>?_,I.base.there,fun b xs e=>?_,fun b u xs e=>?_,fun b ps e=>?_⟩,I.loc,I.cell,?_,fun x c e=>?_,fun p hp=>?_,fun b u e=>?_,I.len⟩
 ·rw[Zs (fun z=>by rw[z,A.young] at e;cases e)]
  exact I.base.free b u e n hx
 ·have q:=I.base.tups b xs e
  rw[Zs (Zv q A.trk)]
  exact q
 ·have q:=I.base.frzs b u xs e
  rw[Zs (Zv q A.trk)]
  exact q
 ·obtain⟨m,q⟩:=I.base.tbls b ps e
  exact⟨m,by rw[Zs (Zv q A.trk)];exact q⟩
 ·rw[Zs (Ne.symm A.loc)];exact I.free
 ·rw[Zs (A.cell x c e)];exact I.freeC x c e
 ·obtain⟨e,q,r⟩:=I.pin p hp
  exact⟨e,by rw[Zs (A.pin p hp)];exact q,r⟩
 ·by_cases hb:b=a
  ·subst hb
   rw[Zt] at e
   cases e
   exact ho
  ·rw[Zs hb] at e
   exact(I.hok b u e).stay (fun _ _ _ q=>q) (fun c q=>by rw[Zs (Zv q A.trk)];exact q) fun c ys q=>by rw[Zs (Zv q A.trk)];exact q
theorem zfN {M:Model}{A:Around}{Ee:Value->Shared->Prop}{i:Nat}{x:Str}{v:V}{Q:Unit->Shared->Prop}(I:Inv X pins σ H s) (hN:X.N.Nodup) (hi:X.N[i]? = some x) (hv:σ[i]? = some (some v)) (hx:X.env.kindOf x=some .local)
  (h:∀s',Inv X pins (σ.set i none) H s'->Q () s'):wpAny M A (unbindName X.env x) Q Ee s:=by
 obtain⟨m,hn,hl⟩:=id I.loc
 have hcls:(X.env.scope.kind == .class || (X.env.scope.kind == .module && X.env.locals != X.env.globals))=false:=by rw[I.ok.kind];rfl
 obtain⟨u,_,lk⟩:=hl i x v hi hv (.inl hx)
 have hm:m x=some u:=by
  rcases lk with ⟨_,e⟩ | ⟨k,_⟩
  ·exact e
  ·rw[hx] at k;rcases k with k | k <;> cases k
 have hiσ:i < σ.length:=by rw[I.len];exact(List.getElem?_eq_some_iff.mp hi).1
 obtain⟨oL,_,_,hoL,_⟩:=id hn
 have low:∀b o,X.s₀.heap.get? b=some o->b ≠ X.env.locals:=fun b o e=>Nat.ne_of_lt (Nat.lt_of_lt_of_le (Heap.lt_size e) I.ok.above)
 refine wpAny_unbindName_local hx hn hm hcls fun h' w hn' hs=>h _ ⟨I.ok,I.os,I.bare,⟨fun b o e n hb hx=>(hs.2 b (low b o e)).trans (I.base.keep b o e n hb hx),fun b o e n hb hx=>?_,I.base.free,fun b o e hx=>?_,I.base.tups,I.base.frzs,I.base.tbls⟩,
  ⟨_,hn',fun j y v' e1 e2 e3=>?_⟩,fun y c e=>?_,I.free,I.freeC,fun p hp=>?_,fun b ob e=>?_,by simpa using I.len⟩
 ·obtain⟨sl,e1⟩:=I.base.slot b o e n hb hx
  exact⟨sl,(hs.2 b (low b o e)).trans e1⟩
 ·obtain⟨o',e1⟩:=I.base.there b o e hx
  exact⟨o',(hs.2 b (low b o e)).trans e1⟩
 ·by_cases hj:j=i
  ·subst hj
   rw[List.getElem?_set_self hiσ] at e2
   cases e2
  ·rw[List.getElem?_set_ne (Ne.symm hj)] at e2
   obtain⟨u',r',q⟩:=hl j y v' e1 e2 e3
   refine⟨u',r',?_⟩
   rcases q with ⟨k,e⟩ | ⟨k,c,e,z⟩
   ·refine .inl ⟨k,?_⟩
    have:y ≠ x:=fun e=>hj (zbE hN e1 (e ▸ hi))
    simp[this,e]
   ·exact .inr ⟨k,c,e,z.sameBut hs (I.cne y c e)⟩
 ·obtain⟨w',z⟩:=I.cell y c e
  exact⟨w',z.sameBut hs (I.cne y c e)⟩
 ·obtain⟨e,n,ne,nf,d⟩:=I.pin p hp
  exact⟨(hs.2 p.1 ne).trans e,n,ne,nf,d⟩
 ·refine(I.hok b ob e).stay (fun c w' hc q=>(hs.2 c ?_).trans q) (fun _ q=>q) fun _ _ q=>q
  rintro rfl
  rcases hc with z | z
  ·rw[<- z,I.free] at e;cases e
  ·rw[I.free] at z;cases z
theorem Hol.forget {K:PySem.W.Frag}{H:Hp}{P:Pv}{σ:L2.St}{G:List Sl}(h:Hol K H P σ G) (i:Nat) (x:Option V):∃P',Hol K H P' (σ.set i x) (G.set i .emp)/\Go H P H P':=by
 refine⟨P.del i,⟨fun j s q=>?_,fun a b c h1 h2=>?_,fun j a z=>?_,h.fbd,fun j a z=>?_,by rw[List.length_set,List.length_set];exact h.len,h.tab⟩,.del⟩
 ·by_cases e:j=i
  ·subst e
   have hl:j < G.length:=by simpa using(List.getElem?_eq_some_iff.mp q).1
   rw[List.getElem?_set_self hl] at q
   cases q
   trivial
  ·rw[List.getElem?_set_ne (Ne.symm e)] at q
   have z:=h.sl j s q
   rw[Ux e]
   cases s with
   | emp=>trivial
   | val t'=>obtain⟨v',e1,r'⟩:=z;exact⟨v',e1,Rl.go .del t' v' r'⟩
   | own xs=>obtain⟨p,vs,e1,e2,e3,r'⟩:=z;exact⟨p,vs,e1,(by show(if j=i then none else P.own j)=_;rw[if_neg e];exact e2),e3,Rls.go .del xs vs r'⟩
   | dct xs=>obtain⟨p,vs,e1,e2,e3,r'⟩:=z;exact⟨p,vs,e1,(by show(if j=i then none else P.own j)=_;rw[if_neg e];exact e2),e3,Rlk.go .del xs vs r'⟩
 ·have h1':(if a=i then none else P.own a)=some c:=h1
  have h2':(if b=i then none else P.own b)=some c:=h2
  split at h1'
  ·cases h1'
  ·split at h2'
   ·cases h2'
   ·exact h.inj a b c h1' h2'
 ·have z':(if j=i then none else P.own j)=some a:=z
  split at z'
  ·cases z'
  ·rename_i ne
   obtain⟨xs,q,m⟩:=h.only j a z'
   exact⟨xs,by rw[List.getElem?_set_ne (Ne.symm ne)];exact q,m⟩
 ·have z':(if j=i then none else P.own j)=some a:=z
  split at z'
  ·cases z'
  ·exact h.nfb j a z'
def endsA (K:PySem.W.Frag) (H:Hp) (P:Pv) (i:Nat) (D:Ends):Ends where
 nx:=fun σ' H'=>∃G' P',Go H P H' P'/\Hol K H' P' σ' G'/\∀σ2 P2,Go H P H' P2->Hol K H' P2 σ2 (G'.set i .emp)->D.nx σ2 H'
 rt:=D.rt
theorem zfM {i:Nat}{n:Str}{hpos:Pos}{Q:Unit->Shared->Prop}(I:Inv X pins σ H s) (hN:X.N.Nodup) (hi:X.N[i]? = some n) (hn:X.env.kindOf n=some .local) (q:∀s',Inv X pins ((σ.set i (some .non)).set i none) H s'->Q () s') :
  wpAny (model X.prog X.w) X.A (do bindName X.env n .none;unbindBehindTheSuite X.env n hpos) Q X.xe s:=by
 refine wpAny_bind (wpAny_bindName (UK I hN hi (.inl hn) (v:=.non) rfl (fun s1 I1=>?_) (.inr hn)))
 unfold unbindBehindTheSuite
 refine wpAny_onRaise (zfN I1 hN hi (v:=.non) ?_ hn fun s2 I2=>q s2 I2)
 exact List.getElem?_set_self (by rw[I.len];exact(List.getElem?_eq_some_iff.mp hi).1)
theorem handledA {Cn n:Str}{i:Nat}{C':Addr}{sub:Str->Bool}{c:Str}{dh:DS}{b₀:Stmt}{suite:List Stmt}{np hpos:Pos}{D:Ends}{G:List Sl}{P:Pv}(F:InFrame X L) (hcn:XCls X.K X.mg Cn C') (hgn:Gl X Cn) (hdb:(Cn == ("__debug__" : Str))=false) (hsub:zar X cl sub C') (hs:sub c=true)
  (hve:∀C,cl c=.ref C->PySem.W.subIn X.K (.ref C) (.type "ValueError")=some true) (hN:X.N.Nodup) (hi:X.N[i]? = some n) (hn:X.env.kindOf n=some .local)
  (hh:SVs (cxH X a) (fun _ _=>False) fl (b₀::suite) dh) {T:Addr}(x:Exc X pins σ H a (cl c) (some (T,.none)) s) (h:Hol X.K H P σ G)
  (q:X9 X.K (fun _ _=>False) fl H P ((noX (dh (G.set i (.val (.dict []))))).bind fun o=>match o with
   | .nx G'=>.ok (.nx (G'.set i .emp))
   | .rt t=>.ok (.rt t)
   | _=>.stuck) D) :
  wpAny (model X.prog X.w) X.A (noteFrame (.ref a) X.env) (fun _ s₂=>wpAny (model X.prog X.w) X.A (setFlight (.ref a) none) (fun _ s₃=>wpAny (model X.prog X.w) X.A (handleBy (.ref a) X.env [.ExceptHandler (some (.Name Cn np)) (some n) (b₀::suite) hpos]) (SP X pins D) X.xe s₃) X.xe s₂) X.xe s:=by
 refine x.note F fun T1 s1 x1=>x1.flight (fr:=none) fun s2 x2=>?_
 obtain⟨C,ec,hC⟩:=hsub c hs
 obtain⟨oe,vs,a0,b1,ho,hc,_⟩:=x2.ob.first
 refine wpAny_handleBy_cons (codeAny_handlers_test (Uw (X:=cxH X a) (inv_h x2.inv) hgn hcn.bd ?_ hdb)) (by intro z;cases z)
 refine zcS x2.inv.kIn hcn ho (hc.trans ec) hC ?_
 refine codeAny_handlers_suite_as (Exc.flight (X:=cxH X a) (fr:=none) (exc_h x2) fun s3 x3=>?_)
 obtain⟨oe3,vs3,a03,b13,ho3,hc3,_⟩:=x3.ob.first
 have hx0:H a=none:=x3.al.trk
 have I4:Inv (cxH X a) pins σ (upd H a (XO X.K a)) s3:=by
  refine zhb x3.inv x3.al ⟨⟨oe3,C,ho3,hc3.trans ec,hve C ec⟩,⟨oe3,ho3⟩,?_⟩
  rintro h1 h2 ⟨ob,C1,e1,e2,e3⟩ k
  exact⟨ob,C1,k ob e1,e2,e3⟩
 refine UK (X:=cxH X a) I4 hN hi (.inl hn) (v:=.ref a) rfl (fun s4 I5=>?_) (.inr hn)
 have h4:Hol X.K (upd H a (XO X.K a)) (P.del i) (σ.set i (some (.ref a))) (G.set i (.val (.dict []))):=(h.same (ZB hx0)).setVal i (rl_exc.mpr ⟨a,rfl,Zt,h.off_new hx0⟩)
 have g4:Go H P (upd H a (XO X.K a)) (P.del i):=(Go.same (ZB hx0)).trans .del
 refine wpAny_mono (hh pins s4 _ _ (endsA X.K H P i D) I5 ⟨_,_,h4,?_⟩) (fun f s5 h5=>?_) fun _ _ z=>False.elim z
 ·cases ed:dh (G.set i (.val (.dict []))) with
  | stuck=>rw[ed] at q;exact q.elim
  | exc c=>rw[ed] at q;exact q.elim
  | ok o=>
   rw[ed] at q
   cases o with
   | nx G'=>exact fun σ' H' P' g' h'=>⟨G',P',g4.trans g',h',fun σ2 P2 g2 h2=>q σ2 H' P2 g2 h2⟩
   | rt t=>exact fun v H' P' g' r n=>q v H' P' (g4.trans g') r fun z=>(n z).back g4
   | bk G'=>exact q.elim
   | ct G'=>exact q.elim
 ·have ok:=x2.inv.ok
  cases f with
  | next=>
   obtain⟨σ',H',I6,G',P',g',h',q'⟩:=h5
   refine zfM (zaS ok I6) hN hi hn fun s6 I7=>⟨_,H',I7,?_⟩
   obtain⟨P2,h2,g2⟩:=h'.forget i (some .non)
   obtain⟨P3,h3,g3⟩:=h2.forget i none
   have e3:(G'.set i Sl.emp).set i Sl.emp=G'.set i Sl.emp:=List.set_set ..
   rw[e3] at h3
   exact q' _ P3 (g'.trans (g2.trans g3)) h3
  | ret u=>
   obtain⟨v,σ',H',I6,rv,q'⟩:=h5
   exact zfM (zaS ok I6) hN hi hn fun s6 I7=>⟨v,_,H',I7,rv,q'⟩
  | brk=>obtain⟨_,_,_,z⟩:=h5;exact False.elim z
  | cont=>obtain⟨_,_,_,z⟩:=h5;exact False.elim z
section
variable {Cn n:Str}{i:Nat}{C':Addr}{sub:Str->Bool}{dh:DS}{b₀:Stmt}{suite:List Stmt}{np hpos:Pos}{ex:Expr}{es:List Expr}{k nps:Nat}{x:Str}{f:DF}{d:DA}{p cpos epos pos:Pos}
theorem ss_tryA (F:InFrame X L) (C:Clx X.prog X.w X.K X.mg X.base cl k x nps f) (hr:Room k X.A) (hg:Gl X x) (ha:AV X.nox (fun _ _=>False) (ex::es) d) (hcn:XCls X.K X.mg Cn C') (hgn:Gl X Cn) (hsub:zar X cl sub C')
  (hve:∀c,sub c=true->∀C,cl c=.ref C->PySem.W.subIn X.K (.ref C) (.type "ValueError")=some true) (hN:X.N.Nodup) (hi:X.N[i]? = some n) (hn:X.env.kindOf n=some .local)
  (hh:∀a,SVs (cxH X a) (fun _ _=>False) fl (b₀::suite) dh) (hL:∀G ts,d G=.ok ts->ts.length=nps:=by first | exact zaQ | exact zcJ | exact zcI | exact zel) (hdb:(x == ("__debug__" : Str))=false:=by decide) (hdn:(Cn == ("__debug__" : Str))=false:=by decide)
  (he:starEach (ex::es) X.env=(false,eval ex X.env)::starEach es X.env:=by rfl) (hpl:(backTo cpos (starEach es X.env)).any (·.1)=false:=by rfl) (hsw:swapsWith (.Call (.Name x p) (ex::es) [] cpos) none epos.line X.env=pure false:=by rfl) :
  SV X W fl (.Try [.Expr (.Call (.Name x p) (ex::es) [] cpos) epos] [.ExceptHandler (some (.Name Cn np)) (some n) (b₀::suite) hpos] [] [] pos) (dTryA i (zc2 (zan f d)) sub dh):=by
 intro pins s σ H D I ⟨G,P,h,q⟩
 obtain⟨h',g⟩:=h.frzA
 unfold dTryA zc2 zan at q
 cases ed:noX (d (frzA G)) with
 | exc c=>rcases US (d (frzA G)) with ⟨t,z⟩ | z <;> (rw[ed] at z;cases z)
 | stuck=>rw[ed] at q;exact q.elim
 | ok ts=>
  rw[ed,Res.bind_ok] at q
  have hd:d (frzA G)=.ok ts:=zek ed
  refine wpAny_Try_except (wpAny_execs_cons (wpAny_Expr_any (zeS C hr F.pin hg ha hL hdb he hpl I h' hd (fun z=>?_) (fun t et v u H' s' I' sm rl rv=>?_) fun c ec a T H' s' xx sm=>?_) I.quiet hsw))
  ·rw[z] at q;exact q.elim
  ·rw[et] at q
   refine wpAny_execs_nil ?_
   exact wpAny_execs_nil ⟨σ,H',I',q σ H' P (.same sm) (h.same sm)⟩
  ·rw[ec] at q
   simp only[Res.bind_exc] at q
   split at q
   ·rename_i hs
    refine handledA F hcn hgn hdn hsub hs (hve c hs) hN hi hn (hh a) xx (h.same sm) ?_
    have q':=X9.up q (.same sm)
    revert q'
    cases dh (G.set i (.val (.dict []))) with
    | ok o=>cases o <;> exact fun z=>z
    | exc c'=>exact fun z=>z.elim
    | stuck=>exact fun z=>z.elim
   ·exact q.elim
end
end
end Fx
namespace Fx
open PySem PySem.Spec PyProof.Rows L2
section
variable {X:Cx}{W:Str->Hp->Prop}{a b c e:Expr}{es:List Expr}{da db:DE}{pos:Pos}
theorem zgh (n d:Nat) (o:Option Int):sIxT n d o=HT.sIx n d o:=by cases o <;> rfl
theorem cut_rls {K:PySem.W.Frag}{H:Hp}{P:Pv}{xs:List PyData}{vs:List V}(lo hi:Option Int) (r:Rls K H P xs vs):Rls K H P (cutT xs lo hi) (cutV vs lo hi):=by
 unfold cutT cutV
 rw[zgh,zgh,r.length]
 exact(r.drop _).take _
def PV (X:Cx) (W:Str->Hp->Prop) (e:Option Expr) (d:DP):Prop:=PO X e fun σ H Q=>∃G P,Hol X.K H P σ G/\match d G with
 | .ok o=>∀H',Same H H'->Q o H'
 | .exc c=>∀H',Same H H'->W c H'
 | .stuck=>False
theorem pv_no:PV X W none pNo:=fun pins s σ H Q I ⟨G,P,h,q⟩=>po_none pins s σ H Q I (q H (Same.refl H))
theorem pv_at (he:EV X W e da):PV X W (some e) (pAt da):=fun pins s σ H Q I ⟨G,P,h,q⟩=>po_some he pins s σ H Q I (by
 unfold pAt at q
 refine⟨G,P,h,?_⟩
 cases ed:da G with
 | stuck=>rw[ed] at q;exact q.elim
 | exc c=>rw[ed] at q;exact q
 | ok t=>
  rw[ed,Res.bind_ok] at q
  cases t <;> try exact q.elim
  exact fun v H' s r=>⟨_,ZL.mp r,q H' s⟩)
theorem zgH {lo hi:Option Expr}{dl dh:DP}{p2:Pos}(ha:EV X W a da) (hl:PV X W lo dl) (hh:PV X W hi dh):OV X W (.Subscript a (.Slice lo hi none p2) pos) (oCut da dl dh):=
 ZE (pe_slice sl_list ha hl hh) fun σ H Q ⟨G,P,h,q⟩=>by
  unfold oCut at q
  obtain⟨q1,q2,q3⟩:=Q7 q
  refine ZI h q1 q2 fun tx x H1 ex s1 h1 rx=>⟨G,P,h1,?_⟩
  have q4:=q3 tx ex
  cases el:dl G with
  | stuck=>rw[el] at q4;exact q4.elim
  | exc c=>rw[el] at q4;exact fun H' s=>q4 H' (s1.trans s)
  | ok l=>
   rw[el,Res.bind_ok] at q4
   refine fun H2 s2=>⟨G,P,h1.same s2,?_⟩
   cases eh:dh G with
   | stuck=>rw[eh] at q4;exact q4.elim
   | exc c=>rw[eh] at q4;exact fun H' s=>q4 H' ((s1.trans s2).trans s)
   | ok u=>
    rw[eh,Res.bind_ok] at q4
    intro H3 s3
    cases tx <;> try exact q4.elim
    obtain⟨p,vs,rfl,sl,rs⟩:=ZR.mp (Rl.go (.same (s2.trans s3)) _ x rx)
    exact⟨p,vs,rfl,sl.sq,fun p hp=>q4 p _ _ (((s1.trans s2).trans s3).trans (ZB hp)) (((s1.trans s2).trans s3).free hp) Zt (Uu hp (cut_rls l u rs))⟩
end
theorem Clx.calN {X:Cx}{cl:Str->Value}{k np:Nat}{x:Str}{f:DF}(C:Clx X.prog X.w X.K X.mg X.base cl k x np f):Cal X (fun _ _=>False) (some cl) k x np f:=by
 obtain⟨fa,fd,ps,F,hm,hk,hb⟩:=C.ex
 refine⟨⟨CX1 X.prog X.w,fa,fd,ps,F,hm,hk,hb,fun pins σ H s e s' I h=>?_⟩,fun z=>by cases z⟩
 obtain⟨_,_,_,_,_,_,_,_,_,_,_,_,_,_,c,g,_,_,z⟩:=h
 exact z.elim
theorem Qz {X:Cx}{cl:Str->Value}{C':Addr}:zar X cl (subs []) C':=fun c h=>by simp at h
theorem UH {X:Cx}{cl:Str->Value}{C' C:Addr}{x:Str}{l:List Str}(e:cl x=.ref C) (h:PySem.W.subIn X.K (.ref C) (.ref C')=some true) (r:zar X cl (subs l) C'):zar X cl (subs (x::l)) C':=fun c hc=>by
 simp only[subs,List.contains_cons,Bool.or_eq_true] at hc
 rcases hc with z | z
 ·have:c=x:=by simpa using z
  subst this
  exact⟨C,e,h⟩
 ·exact r c z
theorem ve_nil {X:Cx}{cl:Str->Value}:∀c,subs [] c=true->∀C,cl c=.ref C->PySem.W.subIn X.K (.ref C) (.type "ValueError")=some true:=fun c h=>by simp at h
theorem ve_cons {X:Cx}{cl:Str->Value}{C:Addr}{x:Str}{l:List Str}(e:cl x=.ref C) (h:PySem.W.subIn X.K (.ref C) (.type "ValueError")=some true) (r:∀c,subs l c=true->∀C,cl c=.ref C->PySem.W.subIn X.K (.ref C) (.type "ValueError")=some true) :
  ∀c,subs (x::l) c=true->∀C,cl c=.ref C->PySem.W.subIn X.K (.ref C) (.type "ValueError")=some true:=fun c hc C' ec=>by
 simp only[subs,List.contains_cons,Bool.or_eq_true] at hc
 rcases hc with z | z
 ·have:c=x:=by simpa using z
  subst this
  rw[e] at ec
  cases ec
  exact h
 ·exact r c z C' ec
end Fx
namespace Fx
open PySem PySem.Spec PyProof.Rows L2
def PostN (K:PySem.W.Frag) (H:Hp) (P:Pv) (t:PyData) (Q:VK):Prop:=match t with
 | .list xs=>∀p us H',Same H H'->H p=none->H' p=some (.lst us)->Rls K H' (P.fbd p) xs us->Q (.ref p) H'
 | t=>∀v H',Same H H'->Rl K H' P t v->Q v H'
def spN (K:PySem.W.Frag) (cl:Option (Str->Value)) (np:Nat) (f:DF):Sp:=fun vs H Q E=>vs.length=np/\∃ts P,Rls K H P ts vs/\(∀i,P.own i=none)/\((∀a,P.fb a->∃o,H a=some o/\LD o)/\Vs K H) /\
 match f ts with
 | .ok t=>PostN K H P t Q
 | .exc c=>spX E H c cl
 | .stuck=>False
theorem spN_of {K:PySem.W.Frag}{cl:Option (Str->Value)}{np:Nat}{f:DF}(vs:List V) (H:Hp) (Q:VK) (E:XK) (h:spF K cl np f vs H Q E):spN K cl np f vs H Q E:=by
 obtain⟨hl,ts,P,rs,ho,hf,q⟩:=h
 refine⟨hl,ts,P,rs,ho,hf,?_⟩
 cases e:f ts with
 | stuck=>rw[e] at q;exact q
 | exc c=>rw[e] at q;exact q
 | ok t=>
  rw[e] at q
  cases t <;> try exact q
  rename_i xs
  exact fun p us H' s hp hl' r=>q _ H' s (ZR.mpr ⟨p,us,rfl,.off hl' ⟨fun i z=>(by rw[ho i] at z;cases z),fun z=>by obtain⟨o,q',_⟩:=hf.1 p z;rw[hp] at q';cases q'⟩,Rls.go .fbd xs us r⟩)
theorem fn_new {P:Program}{w:World}{K:PySem.W.Frag}{mg:Str->Option Value}{base:Heap}{x qual:Str}{st:Stmt}{f:Addr}{fd:FuncData}{N ps:List Str}{k np:Nat}{d:DS}(F:Fun K x qual st f fd) (S:FnScope N ps (Zd st)) (hnp:ps.length=np)
  (hb:∀(cdv:Value) (A:Around) (outer:List Env) (s:Shared) (H:Hp) (E:XK),Room k (A.deeper (envOfC qual (Zd st) s.heap.objs.size f cdv)) ->
   SVs (cxOf CX0 P w K mg base N qual (Zd st) f cdv A outer s H E).nox (fun _ _=>False) true (Zl st) d):FnOk P w K mg base CX0 (k+1) f fd ps (spN K none np (runQ N.length np d)):=by
 refine F.ok S (fun vs H Q E h=>by rw[hnp];exact h.1) fun cdv A outer s H vs Q E hr h=>⟨_,hb cdv A outer s H E hr,?_⟩
 obtain⟨hl,ts,P',rs,ho,hf,q⟩:=h
 have hlt:ts.length=np:=by rw[rs.length];exact hl
 refine⟨_,P',UU rs ho hf,?_⟩
 unfold runQ runF at q
 rw[if_pos hlt] at q
 have en:N.length - np=N.length - ts.length:=by rw[hlt]
 rw[en] at q
 have sm:∀H' P2,Go H P' H' P2->Same H H':=fun H' P2 g=>g.all ho
 cases e:d (ts.map .val++List.replicate (N.length - ts.length) .emp) with
 | stuck=>rw[e] at q;exact q.elim
 | exc c=>rw[e] at q;exact q.elim
 | ok o=>
  rw[e,Res.bind_ok] at q
  cases o with
  | nx G=>exact fun σ' H' P2 g h'=>q .non H' (sm H' P2 g) (XJ.mpr rfl)
  | rt t=>
   intro v H' P2 g r n
   obtain⟨p,us,xs,rfl,rfl,e3,rr,fr⟩:=n rfl
   refine q p us H' (sm H' P2 g) ?_ e3 (Rls.go (P:=P2.fbd p) (P':=P'.fbd p) (fun b o e _ z=>⟨e,fun i w=>(by have w':P'.own i=some b:=w;rw[ho i] at w';cases w'),fun w=>z.2 (Or.elim w (fun w=>Or.inl (by rw[g.fbe];exact w)) Or.inr)⟩) xs us rr)
   cases eh:H p with
   | none=>rfl
   | some o=>
    by_cases nt:Nt o
    ·obtain⟨i,w⟩:=fr o eh nt;rw[ho i] at w;cases w
    ·obtain⟨ps',rfl⟩:=not_nt nt
     obtain⟨qs,w⟩:=g.tbk _ _ eh
     rw[e3] at w;cases w
  | bk G=>exact q.elim
  | ct G=>exact q.elim
structure Cln (P:Program) (w:World) (K:PySem.W.Frag) (mg:Str->Option Value) (base:Heap) (k:Nat) (x:Str) (np:Nat) (f:DF):Prop where
 ex:∃(fa:Addr) (fd:FuncData) (ps:List Str),FnOk P w K mg base CX0 k fa fd ps (spN K none np f)/\mg x=some (.ref fa)/\PySem.W.keepIn K (.ref fa)=true/\ZG K fd ps []
 nox:∀ts c,f ts ≠ .exc c
structure Caln (X:Cx) (W:Str->Hp->Prop) (cl:Option (Str->Value)) (k:Nat) (x:Str) (np:Nat) (f:DF):Prop where
 ex:∃(CX:CXT) (fa:Addr) (fd:FuncData) (ps:List Str),FnOk X.prog X.w X.K X.mg X.base CX k fa fd ps (spN X.K cl np f)/\X.mg x=some (.ref fa)/\PySem.W.keepIn X.K (.ref fa)=true/\ZG X.K fd ps []/\Q8 CX X (EX cl W)
 nox:cl=none->∀ts c,f ts ≠ .exc c
section
variable {P:Program}{w:World}{K:PySem.W.Frag}{mg:Str->Option Value}{base:Heap}
theorem Cln.cle {k np:Nat}{x:Str}{f:DF}(C:Cln P w K mg base k x np f):Cle P w K mg base k x np f:=by
 obtain⟨fa,fd,ps,F,r⟩:=C.ex
 exact⟨⟨fa,fd,ps,F.imp spN_of,r⟩,C.nox⟩
theorem Cln.mono {j k np:Nat}{x:Str}{f:DF}(C:Cln P w K mg base j x np f) (h:j<=k):Cln P w K mg base k x np f:=by
 obtain⟨fa,fd,ps,F,r⟩:=C.ex
 exact⟨⟨fa,fd,ps,F.mono h,r⟩,C.nox⟩
theorem Cln.cal {X:Cx}{W:Str->Hp->Prop}{k np:Nat}{x:Str}{f:DF}(C:Cln X.prog X.w X.K X.mg X.base k x np f):Caln X W none k x np f:=by
 obtain⟨fa,fd,ps,F,hm,hk,hb⟩:=C.ex
 exact⟨⟨CX0,fa,fd,ps,F,hm,hk,hb,fun _ _ _ _ _ _ _ h=>h.elim⟩,fun _=>C.nox⟩
theorem cln_of {x:Str}{st:Stmt}{fa:Addr}{fd:FuncData}{N ps:List Str}{k n np:Nat}{d:DS}(F:Fun K x x st fa fd) (hm:mg x=some (.ref fa)) (b:ZG K fd ps []) (S:FnScope N ps (Zd st)) (hnp:ps.length=np) (hN:N.length=n)
  (hb:∀(cdv:Value) (A:Around) (outer:List Env) (s:Shared) (H:Hp) (E:XK),Room k (A.deeper (envOfC x (Zd st) s.heap.objs.size fa cdv)) ->
   SVs (cxOf CX0 P w K mg base N x (Zd st) fa cdv A outer s H E).nox (fun _ _=>False) true (Zl st) d):Cln P w K mg base (k+1) x np (runQ n np d):=by
 subst hN
 exact⟨⟨fa,fd,ps,fn_new F S hnp hb,hm,F.kp,b⟩,fun ts c=>zbs _ _ _ ts c⟩
end
section
variable {X:Cx}{W:Str->Hp->Prop}{fl:Bool}{a b c e:Expr}{es:List Expr}{da db:DE}{pos:Pos}
theorem ov_call {cl:Option (Str->Value)}{k np:Nat}{x:Str}{f:DF}{d:DA}{p:Pos}(C:Caln X W cl k x np f) (hr:Room k X.A) (hg:Gl X x) (ha:AV X W (e::es) d) (hL:∀G ts,d G=.ok ts->ts.length=np:=by first | exact zaQ | exact zcJ | exact zcI | exact zel) (hdb:(x == ("__debug__" : Str))=false:=by decide)
  (he:starEach (e::es) X.env=(false,eval e X.env)::starEach es X.env:=by rfl) (hpl:(backTo pos (starEach es X.env)).any (·.1)=false:=by rfl):OV X W (.Call (.Name x p) (e::es) [] pos) (oCall f d):=by
 obtain⟨CX,fa,fd,ps,F,hm,hk,hb,hx⟩:=C.ex
 refine ZE (zgB (x:=x) (p:=p) F hr hg hm hk hb .nil hx ha (hdb:=hdb) (he:=he) (hpl:=hpl)) fun σ H Q ⟨G,P,h,q⟩=>?_
 unfold oCall at q
 obtain⟨q1,q2,q3⟩:=zeV q
 refine Vg h q1 q2 fun ts vs H1 es' s1 h1 rs=>?_
 have q4:=q3 ts es'
 have el:(vs++[])=vs:=List.append_nil vs
 rw[el]
 have gg:Tr H1 P H1 ⟨fun _=>none,fun a=>¬Off P a⟩:=fun a o e1 _ o1=>⟨e1,fun _ z=>(by cases z),fun z=>z o1⟩
 refine⟨by rw[<- rs.length];exact hL G ts es',ts,⟨fun _=>none,fun a=>¬Off P a⟩,Rls.go gg ts vs rs,fun _=>rfl,⟨fun a z=>h1.ld z,h1.tab⟩,?_⟩
 ·cases e:f ts with
  | ok t=>
   rw[e,Res.bind_ok] at q4
   cases t <;> try exact q4.elim
   rename_i xs
   intro p us H' s hp hl r
   refine q4 p us H' (s1.trans s) (s1.free hp) hl (Rls.go (fun b o eb _ z=>⟨eb,?_⟩) xs us r)
   have o1:Off P b:=Classical.byContradiction fun w=>z.2 (.inl w)
   exact⟨o1.1,fun w=>w.elim o1.2 fun w=>z.2 (.inr w)⟩
  | exc c=>
   rw[e] at q4
   cases ec:cl with
   | none=>exact absurd e (C.nox ec ts c)
   | some g=>exact fun dx H' s=>⟨c,g,rfl,rfl,q4 H' (s1.trans s)⟩
  | stuck=>rw[e] at q4;exact q4
theorem ss_retO (i:Nat) {x:Str}{p:Pos}(hN:X.N[i]? = some x:=by rfl) (hv:Vis X.env.scope x:=by first | exact Or.inl rfl | exact Or.inr (Or.inl rfl) | exact Or.inr (Or.inr rfl)) (hd:(x == ("__debug__" : Str))=false:=by decide)
  (hcd:(x == ("__classdict__" : Str))=false:=by decide):SV X W fl (.Return (some (.Name x p)) pos) (dRetO i):=
 Wu (ps_ret (zcA hN hv hd hcd)) fun D σ H ⟨G,P,h,q⟩=>by
  unfold dRetO at q
  obtain⟨h',g⟩:=h.frzA
  cases e:G[i]? with
  | none=>rw[e] at q;exact q.elim
  | some s=>
   rw[e] at q
   cases s with
   | emp=>exact q.elim
   | val t=>exact q.elim
   | dct xs=>exact q.elim
   | own xs=>
    obtain⟨p',vs,e1,e2,e3,r⟩:=h.sl i _ e
    have z:(frzA G)[i]? = some (.val (.list xs)):=by rw[Vo,e];rfl
    obtain⟨v,e4,r2⟩:=h'.sl i _ z
    rw[e1] at e4
    cases e4
    exact⟨.ref p',getD_some e1,q _ H P.bare g r2 fun _=>⟨p',vs,xs,rfl,rfl,e3,Rls.go (P:=P) (P':=P.bare.fbd p') (fun a o ea _ o1=>⟨ea,fun j w=>(by cases w),fun w=>Or.elim w o1.2 fun w=>o1.1 i (by rw[e2,w])⟩) xs vs r,fun o _ _=>⟨i,e2⟩⟩⟩
end
end Fx
namespace Fx
open PySem PySem.Spec PyProof.Rows L2
section
variable {K:PySem.W.Frag}{H H':Hp}{P P':Pv}
theorem zgo {C:Addr}{f:Str}{t:PyData}:∀{kvs:List (PyData × PyData)}{fs:List (Str × V)},Rlp K H P C kvs fs->lkp f kvs=some t->∃v,fs.lookup f=some v/\WL K C f/\Rl K H P t v
 | [],fs,_,e=>by simp[lkp] at e
 | (k,u)::r,fs,h,e=>by
  obtain⟨n,v,r',rfl,rfl,na,rv,rr⟩:=zec.mp h
  simp only[lkp] at e
  split at e
  ·rename_i z
   cases e
   subst z
   exact⟨v,by rw[List.lookup_cons,beq_self_eq_true],na,rv⟩
  ·rename_i z
   obtain⟨v',e1,e2,e3⟩:=zgo rr e
   refine⟨v',?_,e2,e3⟩
   rw[List.lookup_cons,show(f == n)=false from beq_eq_false_iff_ne.mpr fun q=>z q.symm]
   exact e1
theorem zgm {C:Addr}:∀{ns:List Str}{ts:List PyData}{vs:List V},(∀n ∈ ns,WL K C n)->Rls K H P ts vs->Rlp K H P C (zipK ns ts) (ns.zip vs)
 | [],ts,vs,_,_=>by simp only[zipK,List.zip_nil_left];exact zgn.mpr rfl
 | n::ns,[],vs,_,r=>by rw[ZS.mp r];simp only[zipK,List.zip_nil_right];exact zgn.mpr rfl
 | n::ns,t::ts,vs,h,r=>by
  obtain⟨v,r',rfl,a,b⟩:=Zy.mp r
  simp only[zipK,List.zip_cons_cons]
  exact zec.mpr ⟨n,v,_,rfl,rfl,h n (by simp),a,zgm (fun m hm=>h m (by simp[hm])) b⟩
end
def spI (C:Addr) (ns:List Str):Sp:=fun vs H Q _=>∃x dx us,vs=.ref x::us/\us.length=ns.length/\H x=some (.ins C dx [])/\Q .non (upd H x (.ins C dx (ns.zip us)))
theorem spI_len {C:Addr}{ns:List Str}{vs:List V}{H:Hp}{Q:VK}{E:XK}(h:spI C ns vs H Q E):vs.length=ns.length+1:=by
 obtain⟨x,dx,us,rfl,hl,_⟩:=h
 simp[hl]
theorem spI3 {C:Addr}{n1 n2 n3:Str}{vs:List V}{H:Hp}{Q:VK}{E:XK}(h:spI C [n1,n2,n3] vs H Q E):∃x dx u1 u2 u3,vs=[.ref x,u1,u2,u3]/\H x=some (.ins C dx [])/\Q .non (upd H x (.ins C dx [(n1,u1),(n2,u2),(n3,u3)])):=by
 obtain⟨x,dx,us,rfl,hl,hx,q⟩:=h
 match us,hl with
 | [u1,u2,u3],_=>exact⟨x,dx,u1,u2,u3,rfl,hx,q⟩
theorem putF3 {n1 n2 n3:Str}{u1 u2 u3:V}(h12:¬n1=n2) (h13:¬n1=n3) (h23:¬n2=n3):putF n3 u3 (putF n2 u2 (putF n1 u1 []))=[(n1,u1),(n2,u2),(n3,u3)]:=by
 show putF n3 u3 (putF n2 u2 [(n1,u1)])=_
 show putF n3 u3 (if n1=n2 then _ else(n1,u1)::[(n2,u2)])=_
 rw[if_neg h12]
 show(if n1=n3 then _ else(n1,u1)::(if n2=n3 then _ else(n2,u2)::[(n3,u3)]))=_
 rw[if_neg h13,if_neg h23]
structure Mko (P:Program) (w:World) (K:PySem.W.Frag) (mg:Str->Option Value) (base:Heap) (k:Nat) (x:Str) (ns:List Str):Prop where
 ex:∃(C f:Addr) (fd:FuncData) (ps:List Str),L2.Mk K C f/\FnOk P w K mg base CX0 k f fd ps (spI C ns)/\mg x=some (.ref C)/\ZG K fd ps []/\Cls K C/\∀n ∈ ns,WL K C n
theorem Mko.mono {P:Program}{w:World}{K:PySem.W.Frag}{mg:Str->Option Value}{base:Heap}{j k:Nat}{x:Str}{ns:List Str}(M:Mko P w K mg base j x ns) (h:j<=k):Mko P w K mg base k x ns:=by
 obtain⟨C,f,fd,ps,m,F,r⟩:=M.ex
 exact⟨C,f,fd,ps,m,F.mono h,r⟩
section
variable {X:Cx}{W:Str->Hp->Prop}{fl:Bool}{a b c e:Expr}{es:List Expr}{da db:DE}{pos:Pos}
theorem Yf {f:Str}(ha:EV X W a da) (hb:attributeBase a f X.env (eval a X.env)=eval a X.env:=by rfl):EV X W (.Attribute a f pos) (d1 (fFld f) da):=
 ZE (pe_fld ha hb) fun σ H Q ⟨G,P,h,q⟩=>by
  unfold d1 at q
  obtain⟨q1,q2,q3⟩:=QA q
  refine ZI h q1 q2 fun tx x H1 ex s1 h1 rx=>?_
  have q4:=YZ.up (q3 tx ex) s1
  cases tx <;> try exact q4.elim
  rename_i kvs
  cases kvs with
  | nil=>exact q4.elim
  | cons y ys=>
   obtain⟨k,w⟩:=y
   cases k <;> try exact(show False from q4).elim
   rename_i sk
   obtain⟨a,C,dx,fs,rfl,ha,off,cl,r⟩:=rl_obj.mp rx
   simp only[fFld] at q4
   cases el:lkp f ((.str sk,w)::ys) with
   | none=>rw[el] at q4;exact q4.elim
   | some t=>
    rw[el] at q4
    obtain⟨v,hv,na,rv⟩:=zgo r el
    exact⟨a,C,dx,fs,v,rfl,ha,cl,na,hv,q4 v H1 (Same.refl _) rv⟩
theorem zhp {k:Nat}{x:Str}{ns:List Str}{d:DA}{p:Pos}(M:Mko X.prog X.w X.K X.mg X.base k x ns) (hr:Room (k+1) X.A) (hg:Gl X x) (ha:AV X W (e::es) d) (hdb:(x == ("__debug__" : Str))=false:=by decide)
  (he:starEach (e::es) X.env=(false,eval e X.env)::starEach es X.env:=by rfl) (hpl:(backTo pos (starEach es X.env)).any (·.1)=false:=by rfl):EV X W (.Call (.Name x p) (e::es) [] pos) (dMk ns d):=by
 obtain⟨C,f,fd,ps,m,F,hm,hb,cl,na⟩:=M.ex
 refine ZE (pe_make (x:=x) (p:=p) (E:=E0) m F hr hg hm hb .nil pass0 ha (hdb:=hdb) (he:=he) (hpl:=hpl)) fun σ H Q ⟨G,P,h,q⟩=>?_
 unfold dMk at q
 obtain⟨q1,q2,q3⟩:=zeW q
 refine Vg h q1 q2 fun ts vs H1 es' s1 h1 rs=>?_
 have q4:=YZ.up (q3 ts es') s1
 split at q4
 ·rename_i hl
  intro x dx hx hdx hne
  have sm:Same H1 (upd (upd (upd H1 dx (.own x)) x (.ins C dx [])) x (.ins C dx (ns.zip vs))):=.of fun b o e=>by
   rw[Zs (Zv e hx),Zs (Zv e hx),Zs (Zv e hdx)];exact e
  refine⟨x,dx,vs++[],rfl,by rw[List.append_nil,<- rs.length];exact hl.1,Zt,rfl,?_⟩
  rw[List.append_nil]
  refine q4 _ _ sm ?_
  obtain⟨hl,hn⟩:=hl
  have rz:=zgm (K:=X.K) (C:=C) (ns:=ns) na (Rls.go (.same sm) ts vs rs)
  cases ns with
  | nil=>exact absurd rfl hn
  | cons n ns=>
   cases ts with
   | nil=>simp at hl
   | cons t ts=>exact rl_obj.mpr ⟨x,C,dx,_,rfl,Zt,h1.off_new hx,cl,rz⟩
 ·exact q4.elim
theorem zeu {K:PySem.W.Frag}{H:Hp}{P:Pv}{ts:List PyData}{vs:List V}(r:Rls K H P ts vs):∀n:Nat,Rls K H P (List.replicate n ts).flatten (List.replicate n vs).flatten
 | 0=>ZS.mpr rfl
 | n+1=>by
  rw[List.replicate_succ,List.flatten_cons,List.replicate_succ,List.flatten_cons]
  exact r.append (zeu r n)
theorem zgF {dl:DA}(ha:OV X W a dl) (hb:EV X W b db):OV X W (.BinOp a .Mult b pos) (oRep dl db):=
 ZE (pe_op op_rep ha hb) fun σ H Q ⟨G,P,h,q⟩=>by
  unfold oRep at q
  obtain⟨q1,q2,q3⟩:=zeV q
  refine⟨G,P,h,?_⟩
  cases el:dl G with
  | stuck=>exact absurd el q2
  | exc c=>exact fun H' s=>q1 c el H' s
  | ok xs=>
   intro p vs H1 s1 hp hl rl
   obtain⟨q4,q5,q6⟩:=Q7 (q3 xs el)
   refine ZI (h.same s1) (fun c e H' s=>q4 c e H' (s1.trans s)) q5 fun ty y H2 ey s2 h2 ry=>?_
   have q7:=q6 ty ey
   cases ty <;> try exact q7.elim
   rename_i k
   simp only at q7
   split at q7
   ·rename_i hz
    have hb1:=XR hz.1
    have el2:=rl.length
    refine⟨p,k,vs,rfl,ZL.mp ry,s2.kp _ _ hl JF,by omega,by omega,by rw[sizeLine_eq,<- el2];exact hz.2,fun p2 hp2=>?_⟩
    refine q7 p2 _ _ ((s1.trans s2).trans (ZB hp2)) ((s1.trans s2).free hp2) Zt ?_
    exact Uu hp2 (zeu (Rls.go (P:=P.fbd p) (P':=P) .fbd _ _ (Rls.go (.same s2) _ _ rl)) k.toNat)
   ·exact q7.elim
theorem zfI:∀{xs:List V}{us:List Value},xs.length=us.length->(∀(i:Nat) x u,xs[i]? = some x->us[i]? = some u->RelV x u)->Vals xs us
 | [],[],_,_=>.nil
 | [],u::us,h,_=>by simp at h
 | x::xs,[],h,_=>by simp at h
 | x::xs,u::us,h,r=>.cons (r 0 x u rfl rfl) (zfI (by simpa using h) fun i y v e1 e2=>r (i+1) y v (by simpa using e1) (by simpa using e2))
theorem Qc (hc:X.calm=true):Jg X (.type "list") (fun xs H Q=>∃r lo hi,xs=[.ref r]/\H r=some (.rng lo hi)/\-(2 ^ 62)<=lo/\lo < 2 ^ 62/\-(2 ^ 62)<=hi/\hi < 2 ^ 62/\(hi - lo).toNat<=16777216 /\
  ∀l,H l=none->Q (.ref l) (upd H l (.lst ((List.range (hi - lo).toNat).map fun(i:Nat)=>V.int (lo+(i:Int)))))):=by
 intro pins s σ H xs us Q I r h
 obtain⟨p,lo,hi,rfl,hp,h1,h2,h3,h4,hz,q⟩:=h
 obtain⟨u,rfl,rx⟩:=Ja r
 cases rx
 obtain⟨t,u,v,e⟩:=(show ∃t u v,s.heap.get? p=some { cls:=.type "range",data:=.fields #[.int lo t,.int hi u,.int 1 v] } from I.hok p _ hp)
 refine call_list_range (n:=(hi - lo).toNat) (I.ok.hd hc) (show IsRange s.heap p lo hi 1 t u v from e) (small_one h1 h2 h3 h4) (by rw[rangeSize_one];split <;> omega) hz fun h' tk acc c' kp ea it=>?_
 have rv:Vals ((List.range (hi - lo).toNat).map fun(i:Nat)=>V.int (lo+(i:Int))) acc.toList:=by
  refine zfI (by rw[List.length_map,List.length_range,Array.length_toList,it.1]) fun i x u e1 e2=>?_
  rw[List.getElem?_map] at e1
  cases ei:(List.range (hi - lo).toNat)[i]? with
  | none=>rw[ei] at e1;cases e1
  | some j=>
   rw[ei] at e1
   obtain⟨hj,ej⟩:=List.getElem?_eq_some_iff.mp ei
   rw[List.getElem_range] at ej
   subst ej
   cases e1
   obtain⟨t,rfl⟩:=it.2 i u (by simpa using e2)
   exact⟨t,by rw[Int.mul_one]⟩
 refine⟨.ref s.heap.objs.size,_,I.laid (t':=tk) kp (Nat.le_refl _) (show Vd X.prog X.w _ h' _ (.lst _) from⟨by rw[List.length_map,List.length_range,sizeLine_eq];exact hz,acc.toList,c',rv,by simpa using ea⟩),rfl,q _ (I.hok.fresh (Nat.le_refl _))⟩
theorem zeT:Jg X (.type "range") (fun xs H Q=>(∃j,xs=[.int j]/\∀r,H r=none->Q (.ref r) (upd H r (.rng 0 j)))\/(∃i j,xs=[.int i,.int j]/\∀r,H r=none->Q (.ref r) (upd H r (.rng i j)))):=by
 intro pins s σ H xs us Q I r h
 rcases h with ⟨j,rfl,q⟩ | ⟨i,j,rfl,q⟩
 ·obtain⟨u,rfl,t,rfl⟩:=Ja r
  refine call_range_1 ⟨.ref s.heap.objs.size,_,I.laid (fun b o e=>Heap.get?_push_of_some _ e) (Nat.le_refl _) (show Vd X.prog X.w _ _ _ (.rng 0 j) from⟨_,_,_,Heap.get?_push_size _ rfl⟩),rfl,q _ (I.hok.fresh (Nat.le_refl _))⟩
 ·cases r with
  | cons r1 rr=>
   cases rr with
   | cons r2 rr=>
    cases rr
    obtain⟨t,rfl⟩:=r1
    obtain⟨t',rfl⟩:=r2
    refine call_range_2 ⟨.ref s.heap.objs.size,_,I.laid (fun b o e=>Heap.get?_push_of_some _ e) (Nat.le_refl _) (show Vd X.prog X.w _ _ _ (.rng i j) from⟨_,_,_,Heap.get?_push_size _ rfl⟩),rfl,q _ (I.hok.fresh (Nat.le_refl _))⟩
theorem zea {K:PySem.W.Frag}{H:Hp}{P:Pv}(lo:Int) (n:Nat):Rls K H P (rngT lo n) ((List.range n).map fun(i:Nat)=>V.int (lo+(i:Int))):=by
 unfold rngT
 have:∀l:List Nat,Rls K H P (l.map fun(k:Nat)=>.int (lo+(k:Int))) (l.map fun(i:Nat)=>V.int (lo+(i:Int))):=by
  intro l
  induction l with
  | nil=>exact ZS.mpr rfl
  | cons x l ih=>exact Zy.mpr ⟨_,_,rfl,ZL.mpr rfl,ih⟩
 exact this _
theorem ov_rng1 {p p2 pos2:Pos}(hg:Gl X "list") (hm:X.mg "list" = none) (hg2:Gl X "range") (hm2:X.mg "range" = none) (ha:EV X W a da) (hc:X.calm=true:=by rfl) (hs:starEach [a] X.env=(false,eval a X.env)::starEach [] X.env:=by rfl)
  (hs2:starEach [.Call (.Name "range" p2) [a] [] pos2] X.env=(false,eval (.Call (.Name "range" p2) [a] [] pos2) X.env)::starEach [] X.env:=by rfl):OV X W (.Call (.Name "list" p) [.Call (.Name "range" p2) [a] [] pos2] [] pos) (zfg (iRng da)):=
 ZE (Wv (Qc hc) hg hm (show bootBuiltins "list" = some (.type "list") by decide +kernel) (ZZ (Wv zeT hg2 hm2 boot_range (ZZ ha Xg hs) (he:=hs)) Xg hs2) (he:=hs2)) fun σ H Q ⟨G,P,h,q⟩=>by
  unfold zfg iRng at q
  obtain⟨q1,q2,q3⟩:=Q7 (show zdY X.K W H P ((da G).bind fun x=>((match x with
   | .int j=>if X7 j=true then .ok (rngT 0 j.toNat) else .stuck
   | _=>.stuck:Res (List PyData)).bind fun xs=>if xs.length<=16777216 then .ok xs else .stuck)) Q by
    cases e:da G <;> rw[e] at q <;> exact q)
  refine ZI h q1 q2 fun tx x H1 ex s1 h1 rx=>?_
  have q4:=q3 tx ex
  cases tx <;> try exact q4.elim
  rename_i j
  simp only at q4
  split at q4
  ·rename_i hj
   rw[Res.bind_ok] at q4
   split at q4
   ·rename_i hz
    have hb:=XR hj
    have hl:(rngT 0 j.toNat).length=j.toNat:=by simp[rngT]
    refine .inl ⟨j,by rw[ZL.mp rx],fun r hr=>⟨r,0,j,rfl,Zt,by omega,by omega,by omega,by omega,by rw[Int.sub_zero,<- hl];exact hz,fun l hl'=>?_⟩⟩
    have s2:Same H (upd H1 r (.rng 0 j)):=s1.trans (ZB hr)
    rw[Int.sub_zero]
    exact q4 l _ _ (s2.trans (ZB hl')) (s2.free hl') Zt (zea 0 j.toNat)
   ·exact q4.elim
  ·exact q4.elim
theorem ov_rng2 {p p2 pos2:Pos}(hg:Gl X "list") (hm:X.mg "list" = none) (hg2:Gl X "range") (hm2:X.mg "range" = none) (ha:EV X W a da) (hb:EV X W b db) (hc:X.calm=true:=by rfl) (hs:starEach [a,b] X.env=(false,eval a X.env)::starEach [b] X.env:=by rfl)
  (hs3:starEach [b] X.env=(false,eval b X.env)::starEach [] X.env:=by rfl) (hpl:(backTo pos2 (starEach [b] X.env)).any (·.1)=false:=by rfl)
  (hs2:starEach [.Call (.Name "range" p2) [a,b] [] pos2] X.env=(false,eval (.Call (.Name "range" p2) [a,b] [] pos2) X.env)::starEach [] X.env:=by rfl):OV X W (.Call (.Name "list" p) [.Call (.Name "range" p2) [a,b] [] pos2] [] pos) (zfg (zcP da db)):=
 ZE (Wv (Qc hc) hg hm (show bootBuiltins "list" = some (.type "list") by decide +kernel) (ZZ (Wv zeT hg2 hm2 boot_range (ZZ ha (ZZ hb Xg hs3) hs) (he:=hs) (hpl:=hpl)) Xg hs2) (he:=hs2)) fun σ H Q ⟨G,P,h,q⟩=>by
  unfold zfg zcP at q
  obtain⟨q1,q2,q3⟩:=Q7 (show zdY X.K W H P ((da G).bind fun x=>(db G).bind fun y=>((match x,y with
   | .int i,.int j=>if X7 i=true/\X7 j=true then .ok (rngT i (j - i).toNat) else .stuck
   | _,_=>.stuck:Res (List PyData)).bind fun xs=>if xs.length<=16777216 then .ok xs else .stuck)) Q by
    cases e:da G <;> rw[e] at q <;> cases e2:db G <;> rw[e2] at q <;> exact q)
  refine ZI h q1 q2 fun tx x H1 ex s1 h1 rx=>?_
  obtain⟨q4,q5,q6⟩:=Q7 (q3 tx ex)
  refine ZI h1 (fun c e H' s=>q4 c e H' (s1.trans s)) q5 fun ty y H2 ey s2 h2 ry=>?_
  have q7:=q6 ty ey
  cases tx <;> cases ty <;> try exact q7.elim
  rename_i i j
  simp only at q7
  split at q7
  ·rename_i hj
   rw[Res.bind_ok] at q7
   split at q7
   ·rename_i hz
    have hb1:=XR hj.1
    have hb2:=XR hj.2
    have hl:(rngT i (j - i).toNat).length=(j - i).toNat:=by simp[rngT]
    refine .inr ⟨i,j,by rw[ZL.mp rx,ZL.mp ry],fun r hr=>⟨r,i,j,rfl,Zt,by omega,by omega,by omega,by omega,by rw[<- hl];exact hz,fun l hl'=>?_⟩⟩
    have s3:Same H (upd H2 r (.rng i j)):=(s1.trans s2).trans (ZB hr)
    exact q7 l _ _ (s3.trans (ZB hl')) (s3.free hl') Zt (zea i (j - i).toNat)
   ·exact q7.elim
  ·exact q7.elim
theorem isN_b (t:PyData):∃k,fIsN t=.ok (.bool k):=by cases t <;> exact⟨_,rfl⟩
theorem notN_b (t:PyData):∃k,UZ t=.ok (.bool k):=by cases t <;> exact⟨_,rfl⟩
theorem tv_of1 {f:PyData->Res PyData}(hf:∀t,∃k,f t=.ok (.bool k)) {σ:L2.St}{H:Hp}{Q:Bool->Hp->Prop}(h:tFT X.K W (tV (d1 f da)) σ H Q):tF X.K W (d1 f da) σ H fun x H1=>∃c,x=.bl c/\Q c H1:=by
 obtain⟨G,P,h,q⟩:=h
 refine⟨G,P,h,?_⟩
 unfold tV at q
 cases e:d1 f da G with
 | stuck=>rw[e] at q;exact q
 | exc c=>rw[e] at q;exact q
 | ok t=>
  rw[e] at q
  have hb:∃k,t=.bool k:=by
   unfold d1 at e
   cases e1:da G with
   | stuck=>rw[e1] at e;cases e
   | exc c=>rw[e1] at e;cases e
   | ok tx=>
    rw[e1,Res.bind_ok] at e
    obtain⟨k,e3⟩:=hf tx
    rw[e3] at e
    cases e
    exact⟨k,rfl⟩
  obtain⟨k,rfl⟩:=hb
  exact fun v H' s r=>⟨k,YE.mp r,q H' s⟩
theorem Js {j pos'}(ha:EV X W a da):TV X W (.Compare a [.Is] [.Constant .none j pos'] pos) (tV (d1 fIsN da)):=by
 intro pins s σ H Q I h
 refine pt_cmp (t:=tF X.K W (d1 fIsN da)) (fun pins s σ H Q I h=>?_) (by first | exact zbF _ (by decide) (by decide) | rfl) pins s σ H Q I (tv_of1 isN_b h)
 exact pc_isN ha pins s σ H Q I (by
  obtain⟨G,P,h,q⟩:=h
  unfold d1 at q
  obtain⟨q1,q2,q3⟩:=QA q
  refine ZI h q1 q2 fun tx x H1 ex s1 h1 rx=>?_
  have q4:=YZ.up (q3 tx ex) s1
  cases tx with
  | none=>rw[XJ.mp rx];exact ZO q4
  | bool b=>rw[YE.mp rx];exact ZO q4
  | int b=>rw[ZL.mp rx];exact ZO q4
  | str b=>rw[Jz.mp rx];exact ZO q4
  | list b=>obtain⟨l,us,rfl,_⟩:=ZR.mp rx;exact ZO q4
  | tuple b=>obtain⟨l,us,rfl,_⟩:=Z3.mp rx;exact ZO q4
  | dict b=>rcases zbt.mp rx with ⟨_,l,rfl,_⟩ | ⟨_,l,_,_,_,rfl,_⟩ | ⟨l,_,_,rfl,_⟩ <;> exact ZO q4)
theorem Jr {j pos'}(ha:EV X W a da):TV X W (.Compare a [.IsNot] [.Constant .none j pos'] pos) (tV (d1 UZ da)):=by
 intro pins s σ H Q I h
 refine pt_cmp (t:=tF X.K W (d1 UZ da)) (fun pins s σ H Q I h=>?_) (by first | exact zbF _ (by decide) (by decide) | rfl) pins s σ H Q I (tv_of1 notN_b h)
 exact pc_notN ha pins s σ H Q I (by
  obtain⟨G,P,h,q⟩:=h
  unfold d1 at q
  obtain⟨q1,q2,q3⟩:=QA q
  refine ZI h q1 q2 fun tx x H1 ex s1 h1 rx=>?_
  have q4:=YZ.up (q3 tx ex) s1
  cases tx with
  | none=>rw[XJ.mp rx];exact ZO q4
  | bool b=>rw[YE.mp rx];exact ZO q4
  | int b=>rw[ZL.mp rx];exact ZO q4
  | str b=>rw[Jz.mp rx];exact ZO q4
  | list b=>obtain⟨l,us,rfl,_⟩:=ZR.mp rx;exact ZO q4
  | tuple b=>obtain⟨l,us,rfl,_⟩:=Z3.mp rx;exact ZO q4
  | dict b=>rcases zbt.mp rx with ⟨_,l,rfl,_⟩ | ⟨_,l,_,_,_,rfl,_⟩ | ⟨l,_,_,rfl,_⟩ <;> exact ZO q4)
end
end Fx
namespace Fx
open PySem PySem.Spec PyProof.Rows L2
abbrev zen (qual:Str) (scope:Scope) (L f:Addr) (cd:Value) (cl:List (Str × Addr)):Env:=
 { scope:=scope,locals:=L,globals:=mainGlobals,cells:=cl,qual:=qual ++ ".<locals>.",func:=some f,code:=cd,frame:=some L,builtins:=builtinsNs }
def cxL (X:Cx) (qual:Str) (scope:Scope) (N:List Str) (s₀:Shared) (H₀:Hp) (f:Addr) (cd:Value):Cx:=
 { X with env:=zen qual scope s₀.heap.objs.size f cd (ZW X.env scope.names []),A:=X.A.deeper (zen qual scope s₀.heap.objs.size f cd (ZW X.env scope.names [])),N:=N,s₀:=s₀,H₀:=H₀,outer:=X.stack,stack:=zen qual scope s₀.heap.objs.size f cd (ZW X.env scope.names [])::X.stack,ex:=[],fn:=fun _=>false,pn:=[],xe:=fun _ _=>False }
structure LamOk (X:Cx) (scope:Scope) (N:List Str) (y:Str) (cap:List Nat):Prop where
 cell:∀z ∈ scope.names,z.2 ≠ .cell
 kind:scope.kind=.function
 co:scope.isCoroutine=false
 gen:scope.isGenerator=false
 par:scope.names.lookup y=some .local
 free:∀z ∈ scope.names,z.2=.free->X.env.kindOf z.1=some .cell\/X.env.kindOf z.1=some .free
 head:N[0]? = some y
 len:N.length=1+cap.length
 caps:∀(i j:Nat) (x:Str),cap[i]? = some j->N[1+i]? = some x->X.N[j]? = some x/\(scope.names.lookup x=some .cell\/scope.names.lookup x=some .free)/\(X.env.kindOf x=some .cell\/X.env.kindOf x=some .free)
def lamS (cap:List Nat) (σ:L2.St) (v:V):L2.St:=some v::cap.map fun j=>σ.getD j none
section
variable {X:Cx}{qual:Str}{scope:Scope}{N:List Str}{y:Str}{cap:List Nat}{pins:List (Addr × Obj)}{σ:L2.St}{H:Hp}{s:Shared}{f:Addr}{cd:Value}
theorem LamOk.has (C:LamOk X scope N y cap) (ok:X.Ok):∀z ∈ scope.names,z.2=.free->∃c,X.env.cells.lookup z.1=some c:=fun z hz e=>ok.has z.1 (C.free z hz e)
theorem zg2 (C:LamOk X scope N y cap) (I:Inv X pins σ H s) {h':Heap}{t:Nat}{v:V}{u:Value}(rv:RelV v u) (hn:h'.Ns s.heap.objs.size (fun x=>[(y,u)].reverse.lookup x)) (hk:∀b o,s.heap.get? b=some o->h'.get? b=some o) :
  Inv (cxL X qual scope N s H f cd) [] (lamS cap σ v) H { s with heap:=h',toks:=t }:=by
 have hh:=C.has I.ok
 have sub:=Ub X.env scope.names [] hh (fun x c e=>by cases e)
 refine⟨⟨I.ok.mod,C.kind,rfl,rfl,Nat.le_refl _,fun x z c h1 h2=>I.ok.inj x z c (sub x c h1) (sub z c h2),fun x hx=>?_,fun x c h=>?_,I.ok.hd,Around.frames_deeper I.ok.frames,.inr ⟨rfl,rfl⟩,fun b hb=>?_,fun b o e=>I.bs b o e,Nat.le_trans I.ok.bsz I.sz,fun b o e hb=>?_,fun b hb=>?_,I.stack,I.stkFree⟩,
  rfl,I.bare,Un.kept hk,⟨_,hn,fun i x w e1 e2 e3=>?_⟩,fun x c e=>?_,I.hok.fresh (Nat.le_refl _),fun x c e=>I.freeC x c (sub x c e),fun p hp=>?_,I.hok.kept hk,?_⟩
 ·have hx':scope.names.lookup x=some .cell\/scope.names.lookup x=some .free:=hx
  rcases hx' with hx' | hx'
  ·exact absurd rfl (C.cell _ (Yg hx'))
  ·obtain⟨c,hc⟩:=Vc X.env scope.names [] x (.inr (Yg hx'))
   exact YX hc
 ·cases h
 ·exact absurd (show b ∈ ([]:List Addr) from hb) (by simp)
 ·exact absurd (show b ∈ ([]:List Addr) from hb) (by simp)
 ·exact absurd (show b ∈ ([]:List Addr) from hb) (by simp)
 ·-- the names
  cases i with
  | zero=>
   have e2':some (some v)=some (some w):=e2
   cases e2'
   have e1':N[0]? = some x:=e1
   rw[C.head] at e1'
   cases e1'
   refine⟨u,rv,.inl ⟨C.par,?_⟩⟩
   show List.lookup y [(y,u)]=some u
   rw[List.lookup_cons,beq_self_eq_true]
  | succ k=>
   have e2':(cap.map fun j=>σ.getD j none)[k]? = some (some w):=by simpa[lamS] using e2
   rw[List.getElem?_map] at e2'
   cases ec:cap[k]? with
   | none=>rw[ec] at e2';cases e2'
   | some j=>
    rw[ec] at e2'
    have e3':σ.getD j none=some w:=by simpa using e2'
    obtain⟨c1,c2,c3⟩:=C.caps k j x ec (by rw[Nat.add_comm];exact e1)
    obtain⟨m0,_,hl⟩:=I.loc
    have vis:Vis X.env.scope x:=c3.elim (fun z=>.inr (.inl z)) fun z=>.inr (.inr z)
    obtain⟨u',ru,lk⟩:=hl j x w c1 (getD_some e3') vis
    refine⟨u',ru,.inr ⟨c2,?_⟩⟩
    rcases lk with ⟨z,_⟩ | ⟨_,c,ec',o,ho,hd⟩
    ·rcases c3 with c3 | c3 <;> (rw[c3] at z;cases z)
    ·have fm:(x,NameKind.free) ∈ scope.names:=by
      rcases c2 with q | q
      ·exact absurd rfl (C.cell _ (Yg q))
      ·exact Yg q
     obtain⟨c',hc'⟩:=Vc X.env scope.names [] x (.inr fm)
     obtain⟨c'',hc''⟩:=YX hc'
     have:=sub x c'' hc''
     rw[ec'] at this
     cases this
     exact⟨c,hc'',o,hk c o ho,hd⟩
 ·obtain⟨v,o,ho,hd⟩:=I.cell x c (sub x c e)
  exact⟨v,o,hk c o ho,hd⟩
 ·exact absurd (show p ∈ ([]:List (Addr × Obj)) from hp) (by simp)
 ·show(lamS cap σ v).length=N.length
  rw[C.len]
  simp[lamS,Nat.add_comm]
def LO (f:Addr) (fd:FuncData):HO:=.ext fun h=>h.get? f=some { cls:=.type "function",data:=.func fd }
theorem lam_call {k:Nat}{params:Arguments}{body:Expr}{pm ctv:Value}{c':Addr}{v:V}{u:Value}{t:TE}{Q:VK}(C:LamOk X scope N y cap) (hr:Room (k+1) X.A) (I:Inv X pins σ H s) (rv:RelV v u)
  (hf:H f=some (LO f (PySem.W.kla_fn "<lambda>" qual params body scope (ZW X.env scope.names []) pm (.ref c') ctv))) (hc:H c'=some (CO c' qual)) (hb:bindArgs (PySem.W.kla_fn "<lambda>" qual params body scope (ZW X.env scope.names []) pm (.ref c') ctv) ⟨[u],[]⟩=pure [(y,u)])
  (he:PE (cxL X qual scope N s H f (.ref c')) body t) (hq:t (lamS cap σ v) H Q):wpAny (model X.prog X.w) X.A (call (.ref f) [u]) (EP X pins σ Q) (fun _ _=>False) s:=by
 obtain⟨ho,_,_⟩:=(show(s.heap.get? f=some _/\_/\_) from I.hok f _ hf)
 obtain⟨⟨oc,vs,tq,h1,h2,h3⟩,_,_⟩:=(show((∃oc vs t,s.heap.get? c'=some oc/\oc.data=.fields vs/\vs[1]? = some (.str qual t))/\_/\_) from I.hok c' _ hc)
 refine wpAny_call (PySem.W.kla_callFunE hr.depth ho rfl C.co C.gen rfl ⟨c',oc,vs,tq,rfl,h1,h2,h3⟩ ?_)
 rw[hb]
 refine wpAny_pure (wpAny_newFunctionEnv C.cell (fun z hz=>?_) (fun h₁ hns hsb=>?_) C.kind)
 ·have:z=(y,u):=by simpa using hz
  subst this
  exact C.par
 have hk₁:∀b o,s.heap.get? b=some o->h₁.get? b=some o:=fun b o e=>hsb.extBut b o (Nat.ne_of_lt (Heap.lt_size e)) (Heap.get?_push_of_some _ e)
 refine⟨I.nolimit.keeps hk₁,?_⟩
 show codeAny _ _ (.expr body (zen qual scope s.heap.objs.size f (.ref c') (ZW X.env scope.names []))) _ _
 have J:Inv (cxL X qual scope N s H f (.ref c')) [] (lamS cap σ v) H { s with heap:=h₁,toks:=s.toks + [(y,u)].length }:=zg2 C I rv hns hk₁
 refine PySem.W.kla_codeExpr (wpAny_mono (he [] _ _ _ Q J hq) (fun r s' h=>?_) fun _ _ z=>z.elim)
 obtain⟨v',H',J',rv',q⟩:=h
 exact I.after ⟨v',H',J'.os,J'.bare,J'.base,J'.hok,rv',q⟩
def zcb (mg:Str->Option Value) (base:Heap):Prop:=∃bm ob,mg "__builtins__" = some (.ref bm)/\bm ≠ builtinsNs/\bm ≠ mainGlobals/\base.get? bm=some ob/\ob.cls=.type "module" /\ ob.dict=some builtinsNs/\ob.data=.plain
structure LamAt (X:Cx) (x:Str) (c T:Addr):Prop where
 tab:PySem.W.tabIn X.K x=some (c,T)
 nm:x ∈ WG
 code:X.env.code=.ref c
 qual:X.env.qual ++ "<lambda>" = lamQ x
 hd:∀h:Heap,X.K.In h->PySem.W.CodeHd h c T
 blt:zcb X.mg X.base
theorem zfD {pos:Pos}{a b:Int}{c:Value}:∀(l:List Value),TriplesOk l->∀cv,codeAmong pos (l++[rawInt a,rawInt b,c])=some cv->codeAmong pos l=some cv\/cv=c:=by
 intro l
 fun_induction TriplesOk l with
 | case1=>
  intro _ cv h
  simp only[List.nil_append,codeAmong,rawInt] at h
  split at h
  ·cases h;exact .inr rfl
  ·cases h
 | case2 x1 x2 x3 x4 x5 rest ih=>
  intro h cv e
  simp only[List.cons_append,codeAmong] at e ⊢
  split at e
  ·rename_i q
   rw[if_pos q];exact .inl e
  ·rename_i q
   rw[if_neg q];exact ih h cv e
 | case3=>intro h;exact h.elim
theorem zg3 {x x':Str}(h:x ∈ WG) (h':x' ∈ WG):x=x':=by
 unfold WG at h h'
 rw[List.mem_singleton.mp h,List.mem_singleton.mp h']
def tLam (X:Cx) (x:Str) (params:Arguments) (body:Expr) (scope:Scope):TE:=fun σ H Q=>Vs X.K H/\∀f c' ctv H',Same H H'->H f=none ->
 H' f=some (LO f (PySem.W.kla_fn "<lambda>" (lamQ x) params body scope (ZW X.env scope.names []) ((X.mg "__name__").getD .none) (.ref c') ctv))->H' c'=some (CO c' (lamQ x))->Q (.ref f) H'
theorem pe_lam {x:Str}{c T:Addr}{params:Arguments}{body:Expr}{lpos:Pos}(L:LamAt X x c T) (C:LamOk X scope N y cap) (hdef:defaultsOf params X.env=([],[])):PE X (.Lambda params body scope lpos) (tLam X x params body scope):=by
 intro pins s σ H Q I h
 obtain⟨tb,q⟩:=h
 obtain⟨ps,hT,tr,good⟩:=tb x c T L.nm L.tab
 have hP:s.heap.get? T=some (PySem.W.tabObj ps):=I.hok T _ hT
 have hgs:s.heap.Ns mainGlobals X.mg:=I.ok.mod.glob.keeps I.bk
 have hgP:mainGlobals ≠ T:=fun e=>by
  obtain⟨o,es,ep,e1,hd,_⟩:=hgs
  rw[e,hP] at e1;cases e1;cases hd
 have hbA:s.heap.BuiltinsAt X.mg T:=by
  obtain⟨bm,ob,b1,b2,b3,b4,b5,b6,b7⟩:=L.blt
  have e:=I.bk _ _ b4
  exact⟨bm,ob,b1,b2,b3,fun z=>(by rw[z,hP] at e;cases e;cases b5),e,b5,b6,b7⟩
 have hcl:=Qb (scope:=scope) (env:=X.env) (C.has I.ok)
 refine PySem.W.kla_eval hdef ?_
 rw[L.qual]
 cases ha:codeAmong lpos ps.toList with
 | none=>
  refine PySem.W.kla_makeFunction (mg:=X.mg) hcl I.ok.glob hgs L.code (L.hd _ I.kIn) hP tr ha hgP hbA fun c' ctv h' tk hx hge hlt hrec htb=>?_
  have hcn:H c'=none:=I.hok.fresh hge
  have hsz:s.heap.objs.size<=h'.objs.size:=Nat.le_trans hge (Nat.le_of_lt hlt)
  have hfn:H h'.objs.size=none:=I.hok.fresh hsz
  have hfc:h'.objs.size ≠ c':=Nat.ne_of_gt hlt
  have hTc:T ≠ c':=Zv hT hcn
  have hTf:T ≠ h'.objs.size:=Zv hT hfn
  obtain⟨c₂,oc,vs,t,e2,hoc,hdd,hvv⟩:=hrec
  cases e2
  generalize hmore:(#[rawInt ↑lpos.line,rawInt ↑lpos.col,Value.ref c']:Array Value)=more at htb
  generalize hob:PySem.W.kla_obj "<lambda>" (lamQ x) params body scope (ZW X.env scope.names []) ((X.mg "__name__").getD .none) c' ctv=ob
  have kp:∀b o,b ≠ T->s.heap.get? b=some o->(h'.push ob).get? b=some o:=fun b o hb e=>Heap.get?_push_of_some _ (hx b o hb e)
  have u1:∀b o,H b=some o->b ≠ T->upd (upd (upd H T (.tbl (ps++more))) c' (CO c' (lamQ x))) h'.objs.size (LO h'.objs.size (PySem.W.kla_fn "<lambda>" (lamQ x) params body scope (ZW X.env scope.names []) ((X.mg "__name__").getD .none) (.ref c') ctv)) b=some o:=fun b o e hb=>by
   rw[Zs (Zv e hfn),Zs (Zv e hcn),Zs hb];exact e
  have uT:upd (upd (upd H T (.tbl (ps++more))) c' (CO c' (lamQ x))) h'.objs.size (LO h'.objs.size (PySem.W.kla_fn "<lambda>" (lamQ x) params body scope (ZW X.env scope.names []) ((X.mg "__name__").getD .none) (.ref c') ctv)) T=some (.tbl (ps++more)):=by
   rw[Zs hTf,Zs hTc,Zt]
  have uC:upd (upd (upd H T (.tbl (ps++more))) c' (CO c' (lamQ x))) h'.objs.size (LO h'.objs.size (PySem.W.kla_fn "<lambda>" (lamQ x) params body scope (ZW X.env scope.names []) ((X.mg "__name__").getD .none) (.ref c') ctv)) c'=some (CO c' (lamQ x)):=by
   rw[Zs (Ne.symm hfc),Zt]
  have sm:Same H (upd (upd (upd H T (.tbl (ps++more))) c' (CO c' (lamQ x))) h'.objs.size (LO h'.objs.size (PySem.W.kla_fn "<lambda>" (lamQ x) params body scope (ZW X.env scope.names []) ((X.mg "__name__").getD .none) (.ref c') ctv))):=by
   refine⟨fun b o e n=>u1 b o e fun z=>?_,fun {b} w=>?_,fun K' tb' x' c0 T0 hx' ht'=>?_,fun b qs e=>?_⟩
   ·rw[z,hT] at e;cases e;exact n _ rfl
   ·cases e:H b with
    | none=>rfl
    | some o=>
     by_cases z:b=T
     ·rw[z,uT] at w;cases w
     ·rw[u1 b o e z] at w;cases w
   ·obtain⟨ps0,h0,tr0,g0⟩:=tb' x' c0 T0 hx' ht'
    have lift:∀c1,H c1=some (CO c1 (lamQ x'))->upd (upd (upd H T (.tbl (ps++more))) c' (CO c' (lamQ x))) h'.objs.size (LO h'.objs.size (PySem.W.kla_fn "<lambda>" (lamQ x) params body scope (ZW X.env scope.names []) ((X.mg "__name__").getD .none) (.ref c') ctv)) c1=some (CO c1 (lamQ x')):=fun c1 e=>u1 c1 _ e fun z=>by rw[z,hT] at e;cases e
    by_cases z:T0=T
    ·subst z
     rw[hT] at h0
     cases h0
     refine⟨ps++more,uT,by rw[<- hmore,Array.toList_append];exact TriplesOk_snoc _ _ _ _ tr0,fun pos cv hc=>?_⟩
     rw[<- hmore,Array.toList_append] at hc
     rcases zfD _ tr0 cv hc with w | w
     ·obtain⟨c1,e1,e2⟩:=g0 pos cv w
      exact⟨c1,e1,lift c1 e2⟩
     ·exact⟨c',w,by rw[zg3 hx' L.nm];exact uC⟩
    ·refine⟨ps0,u1 _ _ h0 z,tr0,fun pos cv hc=>?_⟩
     obtain⟨c1,e1,e2⟩:=g0 pos cv hc
     exact⟨c1,e1,lift c1 e2⟩
   ·by_cases z:b=T
    ·subst z;exact⟨_,uT⟩
    ·exact⟨qs,u1 b _ e z⟩
  refine⟨.ref h'.objs.size,_,I.un (t':=tk) (H':=upd (upd (upd H T (.tbl (ps++more))) c' (CO c' (lamQ x))) h'.objs.size (LO h'.objs.size (PySem.W.kla_fn "<lambda>" (lamQ x) params body scope (ZW X.env scope.names []) ((X.mg "__name__").getD .none) (.ref c') ctv))) ⟨fun b o e n _ _=>kp b o (fun z=>by rw[z,hT] at n;cases n) e,fun b o e n _ _=>⟨o.slots,kp b o (fun z=>by rw[z,hT] at n;cases n) e⟩,fun b o e n _=>?_,fun b o e _=>?_,fun b xs e=>u1 b _ e (fun z=>by rw[z,hT] at e;cases e),fun b o u e=>u1 b _ e (fun z=>by rw[z,hT] at e;cases e),fun b qs e=>?_⟩ (fun b o e=>?_),rfl,q h'.objs.size c' ctv _ sm hfn Zt uC⟩
  ·have lt:=Heap.lt_size e
   rw[Zs (Nat.ne_of_lt (Nat.lt_of_lt_of_le lt hsz)),Zs (Nat.ne_of_lt (Nat.lt_of_lt_of_le lt hge)),Zs (fun z=>by rw[z,hT] at n;cases n)]
   exact n
  ·by_cases z:b=T
   ·subst z;exact⟨_,Heap.get?_push_of_some _ htb⟩
   ·exact⟨o,kp b o z e⟩
  ·by_cases z:b=T
   ·subst z
    rw[hT] at e;cases e
    exact⟨more,uT⟩
   ·exact⟨#[],by rw[u1 b _ e z];simp⟩
  ·by_cases z1:b=h'.objs.size
   ·subst z1
    rw[Zt] at e
    cases e
    subst hob
    exact⟨Heap.get?_push_size _ rfl,⟨_,Heap.get?_push_size _ rfl⟩,fun h1 h2 w k=>k _ w⟩
   ·rw[Zs z1] at e
    by_cases z2:b=c'
    ·subst z2
     rw[Zt] at e
     cases e
     refine⟨⟨oc,vs,t,Heap.get?_push_of_some _ hoc,hdd,hvv⟩,⟨_,Heap.get?_push_of_some _ hoc⟩,fun h1 h2 ⟨oc',vs',t',w1,w2,w3⟩ k=>⟨oc',vs',t',k _ w1,w2,w3⟩⟩
    ·rw[Zs z2] at e
     by_cases z3:b=T
     ·subst z3
      rw[Zt] at e
      cases e
      exact Heap.get?_push_of_some _ htb
     ·rw[Zs z3] at e
      refine(I.hok b o e).stay (fun b' u hb' w=>kp b' u (fun z=>?_) w) (fun b' w=>u1 b' _ w fun z=>by rw[z,hT] at w;cases w) fun b' xs w=>u1 b' _ w fun z=>by rw[z,hT] at w;cases w
      rcases hb' with w1 | w1
      ·exact z3 (w1.symm.trans z)
      ·rw[z,hT] at w1;cases w1
 | some cv=>
  obtain⟨c',rfl,hc'⟩:=good lpos cv ha
  refine PySem.W.kla_makeFunctionHit (mg:=X.mg) hcl I.ok.glob hgs L.code (L.hd _ I.kIn) hP tr ha hbA fun ctv h' tk hk hsz=>?_
  have hfn:H h'.objs.size=none:=I.hok.fresh hsz
  refine⟨.ref h'.objs.size,_,I.laid (t':=tk) (a:=h'.objs.size) (o:=LO h'.objs.size (PySem.W.kla_fn "<lambda>" (lamQ x) params body scope (ZW X.env scope.names []) ((X.mg "__name__").getD .none) (.ref c') ctv)) (fun b o e=>Heap.get?_push_of_some _ (hk b o e)) hsz ⟨Heap.get?_push_size _ rfl,⟨_,Heap.get?_push_size _ rfl⟩,fun h1 h2 w k=>k _ w⟩,rfl,q _ c' ctv _ (ZB hfn) hfn Zt ?_⟩
  rw[Zs (Zv hc' hfn)]
  exact hc'
end
end Fx
namespace Fx
open PySem PySem.Spec PyProof.Rows L2
abbrev Cx.i1 (X:Cx):Cx:={ X with A:=X.A.in1,xe:=fun _ _=>False }
section
variable {X:Cx}{pins:List (Addr × Obj)}{σ:L2.St}{H:Hp}{s:Shared}
theorem Inv.toi1 (I:Inv X pins σ H s):Inv (Cx.i1 X) pins σ H s:=
 ⟨⟨I.ok.mod,I.ok.kind,I.ok.glob,I.ok.blt,I.ok.above,I.ok.inj,I.ok.has,I.ok.cab,I.ok.hd,I.ok.frames,I.ok.stk,I.ok.exf,I.ok.bs,I.ok.bsz,I.ok.noex,I.ok.exfs,I.ok.funs,I.ok.frf⟩,I.os,I.bare,I.base,I.loc,I.cell,I.free,I.freeC,I.pin,I.hok,I.len⟩
theorem Inv.ofi1 (hX:X.Ok) (I:Inv (Cx.i1 X) pins σ H s):Inv X pins σ H s:=
 ⟨hX,I.os,I.bare,I.base,I.loc,I.cell,I.free,I.freeC,I.pin,I.hok,I.len⟩
def Mine (X:Cx) (pins:List (Addr × Obj)) (b:Addr):Prop:=b ≠ X.env.locals/\b ∉ X.fs/\(b ∈ X.ex\/X.s₀.heap.objs.size<=b)/\(∀x c,X.env.cells.lookup x=some c->c ≠ b)/\∀p ∈ X.pn++pins,p.1 ≠ b
theorem Mine.of {b:Addr}(f:FpOk X pins H b):Mine X pins b:=⟨f.2.1,f.2.2.1,f.2.2.2.1,f.2.2.2.2.1,f.2.2.2.2.2⟩
theorem Inv.turn1 {t':Nat}{it:Addr}{h':Heap}(I:Inv X pins σ H s) (m:Mine X pins it) (hn:H it=none) (k:∀b o,b ≠ it->s.heap.get? b=some o->h'.get? b=some o):Inv X pins σ H { s with heap:=h',toks:=t' }:=
 I.turned k hn m.1 m.2.2.1 m.2.2.2.1 m.2.2.2.2
theorem Inv.pin2 {a b:Addr}{oa ob:Obj}(I:Inv X pins σ H s) (ma:Mine X pins a) (mb:Mine X pins b) (ha:H a=none) (hb:H b=none) (ea:s.heap.get? a=some oa) (eb:s.heap.get? b=some ob) (da:∀v,oa.data ≠ .cell v) (db:∀v,ob.data ≠ .cell v):Inv X (pins++[(a,oa),(b,ob)]) σ H s:=
 I.pins_of fun p hp=>by
  rcases List.mem_append.mp hp with hp | hp
  ·exact I.pin p (List.mem_append_right _ hp)
  ·rcases List.mem_cons.mp hp with rfl | hp
   ·exact⟨ea,ha,ma.1,ma.2.1,da⟩
   ·rw[List.mem_singleton.mp hp]
    exact⟨eb,hb,mb.1,mb.2.1,db⟩
theorem zbv {h:Heap}{a:Addr}{its:Array Value}(p:PlainL h a its):h.IsList a its:=p.isList
theorem min_args (a v d:Value):argsOk "min" ⟨[a],[(Str.ofString "key",v),(Str.ofString "default",d)]⟩:=by unfold argsOk;kernel_rfl
variable {xs:List V}{kf:Nat->Int}{H0:Hp}{l I S q:Addr}{R:Result->Shared->Prop}
theorem min_loop (hh:X.A.handled=none) (hlI:l ≠ I) (hSI:S ≠ I) (mS:Mine X pins S) (mI:Mine X pins I) (hl:∀H',Same H0 H'->SqL X.K H' l xs)
  (turn:∀(i:Nat) v u pins' s H',xs[i]? = some v->RelV v u->Inv X pins' σ H' s->Same H0 H'->wpAny (model X.prog X.w) X.A.in1 (call (.ref q) [u]) (fun r s'=>∃t H'',r=.int (kf i) t/\Inv X pins' σ H'' s'/\Same H0 H'') (fun _ _=>False) s)
  (fin:∀(i:Nat) v u s' H',xs[i]? = some v->RelV v u->(∀j,j < xs.length->kf i<=kf j/\(j < i->kf i < kf j))->Inv X pins σ H' s'->Same H0 H'->R (.ok (.ret u)) s') :
  ∀(r j i:Nat) (s:Shared) (H:Hp) (vb:Value) (v0:V) (tb:Tok) (c:Nat) (oI:Obj),xs.length - (j+1)=r->j+1<=xs.length->Inv X (pins++[(S,seqObj "list" #[vb,.int (kf i) tb] c),(I,oI)]) σ H s->Same H0 H->s.heap.IsListIter I l (j+1)->xs[i]? = some v0->RelV v0 vb->i<=j ->
   (∀j',j'<=j->kf i<=kf j'/\(j' < i->kf i < kf j')) ->
   codeAny (model X.prog X.w) X.A (.builtin "min.loop" ⟨[.ref I,.ref q,.ref S],[(Str.ofString "default",.none)]⟩) R s:=by
 have hname:(toString "min" ++ toString ".loop" : String) = "min.loop":=by decide
 intro r
 induction r with
 | zero=>
  intro j i s H vb v0 tb c oI hr hj J sm hit hvb hrb hij hbest
  have hin:j+1=xs.length:=by omega
  obtain⟨eS,nS,_⟩:=J.pin (S,seqObj "list" #[vb,.int (kf i) tb] c) (List.mem_append_right _ (List.mem_append_right _ (.head _)))
  obtain⟨eI,nI,_⟩:=J.pin (I,oI) (List.mem_append_right _ (List.mem_append_right _ (.tail _ (.head _))))
  obtain⟨its,rv,pl,hz⟩:=J.list (hl H sm)
  have hlen:=rv.length
  have W:=Walks.list (prog:=X.prog) (w:=X.w) (A:=X.A.in1) hh I l hlI its.toArray
  have hsz:its.toArray.size=its.length:=List.size_toArray ..
  have J0:Inv X pins σ H s:=J.unpinned
  refine codeAny_builtin PySem.F.entry_min_loop ?_
  rw[Around.under_plainId PySem.F.plain_min_loop _]
  show wpAny _ X.A.in1 (seqItems? (.ref S) >>= _) _ _ _
  refine wpAny_bind (wpAny_seqItems eS rfl ?_)
  show wpAny _ X.A.in1 (tryCatch (pyNext (.ref I)) _ >>= _) _ _ _
  refine wpAny_bind (wpAny_tryCatch (W.done _ _ _ ⟨by rw[hsz,<- hlen,<- hin];exact hit,zbv pl⟩ fun h' tk' hk'=>?_))
  have J1:Inv X pins σ H { s with heap:=h',toks:=tk' }:=Fx.Inv.turn1 J0 mI nI fun b o hb e=>hk' b o (by simpa using hb) e
  have hS':=hk' S _ (by simpa using hSI) eS
  have s1:=Heap.SameBut.update h' S (Obj.mapSeq fun _=>(#[]:Array Value))
  show wpAny _ X.A.in1 (updateSeq S (fun _=>#[]) >>= _) _ _ _
  refine wpAny_bind ?_
  refine wpAny_updateSeq hS' rfl (wpAny_bind (wpAny_letGo (wpAny_pure ?_)))
  exact fin i v0 vb _ H hvb hrb (fun j' hj'=>hbest j' (by omega)) (Fx.Inv.turn1 J1 mS nS fun b o hb e=>(s1.2 b hb).trans e) sm
 | succ r ih=>
  intro j i s H vb v0 tb c oI hr hj J sm hit hvb hrb hij hbest
  have hlt:j+1 < xs.length:=by omega
  obtain⟨eS,nS,_⟩:=J.pin (S,seqObj "list" #[vb,.int (kf i) tb] c) (List.mem_append_right _ (List.mem_append_right _ (.head _)))
  obtain⟨eI,nI,_⟩:=J.pin (I,oI) (List.mem_append_right _ (List.mem_append_right _ (.tail _ (.head _))))
  obtain⟨its,rv,pl,hz⟩:=J.list (hl H sm)
  have hlen:=rv.length
  have W:=Walks.list (prog:=X.prog) (w:=X.w) (A:=X.A.in1) hh I l hlI its.toArray
  have hsz:its.toArray.size=its.length:=List.size_toArray ..
  have J0:Inv X pins σ H s:=J.unpinned
  refine codeAny_builtin PySem.F.entry_min_loop ?_
  rw[Around.under_plainId PySem.F.plain_min_loop _]
  show wpAny _ X.A.in1 (seqItems? (.ref S) >>= _) _ _ _
  refine wpAny_bind (wpAny_seqItems eS rfl ?_)
  show wpAny _ X.A.in1 (tryCatch (pyNext (.ref I)) _ >>= _) _ _ _
  refine wpAny_bind (wpAny_tryCatch (W.item (j+1) _ _ _ (by rw[hsz,<- hlen];exact hlt) ⟨hit,zbv pl⟩ fun u h' tk' hP hst' hk'=>?_))
  have hu:its[j+1]? = some u:=by simpa using hP
  obtain⟨oI',hoI',hoc,hod⟩:=id hst'.1
  have J1:Inv X pins σ H { s with heap:=h',toks:=tk' }:=Fx.Inv.turn1 J0 mI nI fun b o hb e=>hk' b o (by simpa using hb) e
  have hS':=hk' S _ (by simpa using hSI) eS
  have J2:Inv X (pins++[(S,seqObj "list" #[vb,.int (kf i) tb] c),(I,oI')]) σ H { s with heap:=h',toks:=tk' }:=Fx.Inv.pin2 J1 mS mI nS nI hS' hoI' (fun v z=>by cases z) (fun v z=>by rw[hod] at z;cases z)
  obtain⟨v1,hv1⟩:∃v1,xs[j+1]? = some v1:=⟨_,List.getElem?_eq_getElem hlt⟩
  obtain⟨u',hu',ru⟩:=rv.get hv1
  rw[hu] at hu'
  cases hu'
  show wpAny _ X.A.in1 (tryCatch (holding [u] (call (.ref q) [u])) _ >>= _) _ _ _
  refine wpAny_bind (wpAny_tryCatch (wpAny_holding (wpAny_mono (turn (j+1) v1 u _ _ H hv1 ru J2 sm) (fun x s'' he=>?_) fun _ _ hF=>hF.elim)))
  obtain⟨t2,H2,rfl,J3,sm2⟩:=he
  obtain⟨eS2,nS2,_⟩:=J3.pin (S,seqObj "list" #[vb,.int (kf i) tb] c) (List.mem_append_right _ (List.mem_append_right _ (.head _)))
  obtain⟨eI2,nI2,_⟩:=J3.pin (I,oI') (List.mem_append_right _ (List.mem_append_right _ (.tail _ (.head _))))
  have hit2:s''.heap.IsListIter I l (j+1+1):=⟨oI',eI2,hoc,hod⟩
  show wpAny _ X.A.in1 (tryCatch (holding [u,.int (kf (j+1)) t2] (richCompare .Lt (.int (kf (j+1)) t2) (.int (kf i) tb) >>= _)) _ >>= _) _ _ _
  refine wpAny_bind (wpAny_tryCatch (wpAny_holding (wpAny_bind (CmpOf.ints_lt (prog:=X.prog) (w:=X.w) (A:=X.A.in1) (P:=fun i v=>∃t,v=.int (kf i) t) kf (fun i v h=>h) (j+1) i _ _ _ _ _ ⟨t2,rfl⟩ ⟨tb,rfl⟩ ?_))))
  refine wpAny_bind (wpAny_holding (wpAny_truthy_bool ?_))
  refine wpAny_bind (wpAny_letGo (wpAny_pure ?_))
  by_cases hb':kf (j+1) < kf i
  ·have s1:=Heap.SameBut.update s''.heap S (Obj.mapSeq fun _=>#[u,.int (kf (j+1)) t2])
   obtain⟨c2,hc2⟩:∃c2,(s''.heap.update S (Obj.mapSeq fun _=>#[u,.int (kf (j+1)) t2])).get? S=some (seqObj "list" #[u,.int (kf (j+1)) t2] c2):=⟨_,get?_update_seq eS2 fun _=>#[u,.int (kf (j+1)) t2]⟩
   simp only[hb',decide_true,if_true]
   refine wpAny_bind ?_
   refine wpAny_updateSeq eS2 rfl (wpAny_bind (wpAny_letGo ?_))
   rw[hname]
   have J4:Inv X pins σ H2 { s'' with heap:=s''.heap.update S (Obj.mapSeq fun _=>#[u,.int (kf (j+1)) t2]) }:=Fx.Inv.turn1 (t':=s''.toks) J3.unpinned mS nS2 fun b o hb e=>(s1.2 b hb).trans e
   refine wpAny_pure ⟨plainId_quiet PySem.F.plain_min_loop _,ih (j+1) (j+1) _ H2 u v1 t2 c2 oI' (by omega) hlt (Fx.Inv.pin2 J4 mS mI nS2 nI2 hc2 ((s1.2 I hSI.symm).trans eI2) (fun v z=>by cases z) (fun v z=>by rw[hod] at z;cases z)) sm2 ⟨oI',(s1.2 I hSI.symm).trans eI2,hoc,hod⟩ hv1 ru (Nat.le_refl _) fun j' hj'=>?_⟩
   by_cases e:j'=j+1
   ·subst e
    exact⟨by omega,fun _=>by omega⟩
   ·have hb1:=hbest j' (by omega)
    have hb2:=hb1.1
    exact⟨by omega,fun _=>by omega⟩
  ·simp only[hb',decide_false,Bool.false_eq_true,if_false]
   refine wpAny_bind (wpAny_letGo ?_)
   rw[hname]
   refine wpAny_pure ⟨plainId_quiet PySem.F.plain_min_loop _,ih (j+1) i _ H2 vb v0 tb c oI' (by omega) hlt J3 sm2 hit2 hvb hrb (by omega) fun j' hj'=>?_⟩
   by_cases e:j'=j+1
   ·subst e
    exact⟨by omega,fun _=>by omega⟩
   ·exact hbest j' (by omega)
theorem zhP {Q:Value->Shared->Prop}{E:Value->Shared->Prop}(hh:X.A.handled=none) (J:Inv X pins σ H s) (hl:∀H',Same H H'->SqL X.K H' l xs)
  (turn:∀(i:Nat) v u pins' s H',xs[i]? = some v->RelV v u->Inv X pins' σ H' s->Same H H'->wpAny (model X.prog X.w) X.A.in1 (call (.ref q) [u]) (fun r s'=>∃t H'',r=.int (kf i) t/\Inv X pins' σ H'' s'/\Same H H'') (fun _ _=>False) s)
  (fin0:xs=[]->∀s' H',Inv X pins σ H' s'->Same H H'->Q .none s')
  (fin:∀(i:Nat) v u s' H',xs[i]? = some v->RelV v u->(∀j,j < xs.length->kf i<=kf j/\(j < i->kf i < kf j))->Inv X pins σ H' s'->Same H H'->Q u s') :
  wpAny (model X.prog X.w) X.A (call (.builtin "min") [.ref l] [(Str.ofString "key",.ref q),(Str.ofString "default",.none)]) Q E s:=by
 have hname:(toString "min" ++ toString ".loop" : String) = "min.loop":=by decide
 obtain⟨its,rv,pl,hz⟩:=J.list (hl H (Same.refl H))
 have hls:=zbv pl
 have hlen:=rv.length
 obtain⟨ol,hol,_⟩:=id hls
 have hll:l < s.heap.objs.size:=Heap.lt_size hol
 refine kmk_tree PySem.F.kind_min PySem.F.plain_min PySem.F.entry_min (min_args _ _ _) ?_
 show wpAny _ X.A.in1 (Builtin.Builtins.bindParams "min" ["key","default"] 0 ⟨[],[(Str.ofString "key",.ref q),(Str.ofString "default",.none)]⟩ >>= _) _ _ s
 refine wpAny_bind (wpAny_of_eq (show Builtin.Builtins.bindParams "min" ["key","default"] 0 ⟨[],[(Str.ofString "key",.ref q),(Str.ofString "default",.none)]⟩=pure [some (.ref q),some .none] from rfl) ?_)
 refine wpAny_bind (wpAny_pure ?_)
 refine wpAny_bind (wpAny_pyIter_list hls ?_)
 refine wpAny_bind (wpAny_newList ?_ (Nat.zero_le _))
 rw[hname]
 have hS:(s.heap.push { cls:=.type "list_iterator",data:=.fields #[.ref l,.int 0 0] }).objs.size=s.heap.objs.size+1:=size_push' ..
 have hlI:l ≠ s.heap.objs.size:=Nat.ne_of_lt hll
 have hSI:(s.heap.push { cls:=.type "list_iterator",data:=.fields #[.ref l,.int 0 0] }).objs.size ≠ s.heap.objs.size:=by rw[hS];exact Nat.ne_of_gt (Nat.lt_succ_self _)
 have nI:H s.heap.objs.size=none:=J.hok.fresh (Nat.le_refl _)
 have nS:H (s.heap.push { cls:=.type "list_iterator",data:=.fields #[.ref l,.int 0 0] }).objs.size=none:=J.hok.fresh (by rw[hS];exact Nat.le_succ _)
 have mI:Mine X pins s.heap.objs.size:=.of (J.fpOk (Nat.le_refl _) nI)
 have mS:Mine X pins (s.heap.push { cls:=.type "list_iterator",data:=.fields #[.ref l,.int 0 0] }).objs.size:=.of (J.fpOk (by rw[hS];exact Nat.le_succ _) nS)
 refine wpAny_pure ⟨plainId_quiet PySem.F.plain_min_loop _,?_⟩
 have kpH:∀b o,s.heap.get? b=some o->((s.heap.push { cls:=.type "list_iterator",data:=.fields #[.ref l,.int 0 0] }).push (seqObj "list" #[] 0)).get? b=some o:=fun b o e=>Heap.get?_push_of_some _ (Heap.get?_push_of_some _ e)
 have gI:((s.heap.push { cls:=.type "list_iterator",data:=.fields #[.ref l,.int 0 0] }).push (seqObj "list" #[] 0)).get? s.heap.objs.size=some { cls:=.type "list_iterator",data:=.fields #[.ref l,.int 0 0] }:=
  Heap.get?_push_of_some _ (Heap.get?_push_size _ rfl)
 have gS:((s.heap.push { cls:=.type "list_iterator",data:=.fields #[.ref l,.int 0 0] }).push (seqObj "list" #[] 0)).get? (s.heap.push { cls:=.type "list_iterator",data:=.fields #[.ref l,.int 0 0] }).objs.size=some (seqObj "list" #[] 0):=Heap.get?_push_size _ rfl
 have W:=Walks.list (prog:=X.prog) (w:=X.w) (A:=X.A.in1) hh s.heap.objs.size l hlI its.toArray
 have hsz:its.toArray.size=its.length:=List.size_toArray ..
 have JH:Inv X pins σ H { s with heap:=(s.heap.push { cls:=.type "list_iterator",data:=.fields #[.ref l,.int 0 0] }).push (seqObj "list" #[] 0) }:=J.kept (t':=s.toks) kpH
 obtain⟨o1,ho1,ho2⟩:=hls
 have hlsH:((s.heap.push { cls:=.type "list_iterator",data:=.fields #[.ref l,.int 0 0] }).push (seqObj "list" #[] 0)).IsList l its.toArray:=⟨o1,kpH _ _ ho1,ho2⟩
 refine codeAny_builtin PySem.F.entry_min_loop ?_
 rw[Around.under_plainId PySem.F.plain_min_loop _]
 show wpAny _ X.A.in1 (seqItems? (.ref _) >>= _) _ _ _
 refine wpAny_bind (wpAny_seqItems gS rfl ?_)
 show wpAny _ X.A.in1 (tryCatch (pyNext (.ref s.heap.objs.size)) _ >>= _) _ _ _
 by_cases hne:0 < xs.length
 ·refine wpAny_bind (wpAny_tryCatch (W.item 0 _ _ _ (by rw[hsz,<- hlen];exact hne) ⟨⟨_,gI,rfl,rfl⟩,hlsH⟩ fun u h' tk' hP hst' hk'=>?_))
  have hu:its[0]? = some u:=by simpa using hP
  obtain⟨oI',hoI',hoc,hod⟩:=id hst'.1
  have J1:Inv X pins σ H { s with heap:=h',toks:=tk' }:=Fx.Inv.turn1 (s:={ s with heap:=(s.heap.push { cls:=.type "list_iterator",data:=.fields #[.ref l,.int 0 0] }).push (seqObj "list" #[] 0) }) JH mI nI fun b o hb e=>hk' b o (by simpa using hb) e
  have hS':=hk' _ _ (by simpa using hSI) gS
  have J2:=Fx.Inv.pin2 J1 mS mI nS nI hS' hoI' (fun v z=>by cases z) (fun v z=>by rw[hod] at z;cases z)
  obtain⟨v1,hv1⟩:∃v1,xs[0]? = some v1:=⟨_,List.getElem?_eq_getElem hne⟩
  obtain⟨u',hu',ru⟩:=rv.get hv1
  rw[hu] at hu'
  cases hu'
  show wpAny _ X.A.in1 (tryCatch (holding [u] (call (.ref q) [u])) _ >>= _) _ _ _
  refine wpAny_bind (wpAny_tryCatch (wpAny_holding (wpAny_mono (turn 0 v1 u _ _ H hv1 ru J2 (Same.refl H)) (fun x s'' he=>?_) fun _ _ hF=>hF.elim)))
  obtain⟨t2,H2,rfl,J3,sm2⟩:=he
  obtain⟨eS2,nS2,_⟩:=J3.pin ((s.heap.push { cls:=.type "list_iterator",data:=.fields #[.ref l,.int 0 0] }).objs.size,seqObj "list" #[] 0) (List.mem_append_right _ (List.mem_append_right _ (.head _)))
  obtain⟨eI2,nI2,_⟩:=J3.pin (s.heap.objs.size,oI') (List.mem_append_right _ (List.mem_append_right _ (.tail _ (.head _))))
  have s1:=Heap.SameBut.update s''.heap (s.heap.push { cls:=.type "list_iterator",data:=.fields #[.ref l,.int 0 0] }).objs.size (Obj.mapSeq fun _=>#[u,.int (kf 0) t2])
  obtain⟨c2,hc2⟩:∃c2,(s''.heap.update (s.heap.push { cls:=.type "list_iterator",data:=.fields #[.ref l,.int 0 0] }).objs.size (Obj.mapSeq fun _=>#[u,.int (kf 0) t2])).get? (s.heap.push { cls:=.type "list_iterator",data:=.fields #[.ref l,.int 0 0] }).objs.size=some (seqObj "list" #[u,.int (kf 0) t2] c2):=⟨_,get?_update_seq eS2 fun _=>#[u,.int (kf 0) t2]⟩
  show wpAny _ X.A.in1 (updateSeq (s.heap.push { cls:=.type "list_iterator",data:=.fields #[.ref l,.int 0 0] }).objs.size (fun _=>#[u,.int (kf 0) t2]) >>= _) _ _ _
  refine wpAny_bind ?_
  refine wpAny_updateSeq eS2 rfl ?_
  rw[hname]
  have J4:=Fx.Inv.turn1 (t':=s''.toks) (h':=s''.heap.update (s.heap.push { cls:=.type "list_iterator",data:=.fields #[.ref l,.int 0 0] }).objs.size (Obj.mapSeq fun _=>#[u,.int (kf 0) t2])) J3.unpinned mS nS2 fun b o hb e=>(s1.2 b hb).trans e
  refine wpAny_pure ⟨plainId_quiet PySem.F.plain_min_loop _,min_loop hh hlI hSI mS mI hl turn (fun i v u s' H' a b c d e=>fin i v u s' H' a b c d e) _ 0 0 _ H2 u v1 t2 c2 oI' rfl hne (Fx.Inv.pin2 J4 mS mI nS2 nI2 hc2 ((s1.2 _ hSI.symm).trans eI2) (fun v z=>by cases z) (fun v z=>by rw[hod] at z;cases z)) sm2 ⟨oI',(s1.2 _ hSI.symm).trans eI2,hoc,hod⟩ hv1 ru (Nat.le_refl _) fun j' hj'=>?_⟩
  have e:j'=0:=by omega
  subst e
  exact⟨by omega,fun h=>absurd h (Nat.lt_irrefl _)⟩
 ·have h0:xs=[]:=List.length_eq_zero_iff.mp (by omega)
  refine wpAny_bind (wpAny_tryCatch (W.done _ _ _ ⟨by rw[hsz,<- hlen,h0];exact⟨_,gI,rfl,rfl⟩,hlsH⟩ fun h' tk' hk'=>?_))
  have J1:Inv X pins σ H { s with heap:=h',toks:=tk' }:=Fx.Inv.turn1 (s:={ s with heap:=(s.heap.push { cls:=.type "list_iterator",data:=.fields #[.ref l,.int 0 0] }).push (seqObj "list" #[] 0) }) JH mI nI fun b o hb e=>hk' b o (by simpa using hb) e
  exact wpAny_bind (wpAny_rule (wpAny_pure (fin0 h0 _ H J1 (Same.refl H))))
end
end Fx
namespace Fx
open PySem PySem.Spec PyProof.Rows L2
def kOf (key:PyData->Res PyData) (ts:List PyData) (i:Nat):Int:=match ts[i]? with
 | some t=>(match key t with
  | .ok (.int k)=>k
  | _=>0)
 | none=>0
theorem zdI {key:PyData->Res PyData}(nx:∀t c,key t ≠ .exc c) {all:List PyData}{r:PyData}:∀(ts:List PyData) (b:PyData) (m:Int) (i j:Nat),all.drop (j+1)=ts->minL key b m ts=.ok r->all[i]? = some b->key b=.ok (.int m)->i<=j ->
  (∀j',j'<=j->kOf key all i<=kOf key all j'/\(j' < i->kOf key all i < kOf key all j'))->(∀j':Nat,j'<=j->∀t,all[j']? = some t->∃k,key t=.ok (.int k)) ->
  (∀(j':Nat) t,all[j']? = some t->∃k,key t=.ok (.int k))/\∃i':Nat,all[i']? = some r/\∀j',j' < all.length->kOf key all i'<=kOf key all j'/\(j' < i'->kOf key all i' < kOf key all j')
 | [],b,m,i,j,hd,h,hb,hk,hij,best,ks=>by
  have hl:all.length<=j+1:=by
   have:=congrArg List.length hd
   rw[List.length_drop] at this
   simp at this
   omega
  cases h
  exact⟨fun j' t e=>ks j' (by have:=(List.getElem?_eq_some_iff.mp e).1;omega) t e,i,hb,fun j' hj'=>best j' (by omega)⟩
 | x::ts,b,m,i,j,hd,h,hb,hk,hij,best,ks=>by
  have hx:all[j+1]? = some x:=by
   have:=congrArg (fun l=>l[0]?) hd
   simpa[List.getElem?_drop] using this
  have hd':all.drop (j+1+1)=ts:=by
   have:=congrArg (List.drop 1) hd
   rw[List.drop_drop] at this
   simpa using this
  have km:kOf key all i=m:=by unfold kOf;rw[hb];simp only[hk]
  unfold minL at h
  cases ek:key x with
  | stuck=>rw[ek] at h;cases h
  | exc c=>exact absurd ek (nx x c)
  | ok y=>
   rw[ek,Res.bind_ok] at h
   cases y <;> try (simp at h;done)
   rename_i k
   simp only at h
   have kx:kOf key all (j+1)=k:=by unfold kOf;rw[hx];simp only[ek]
   have ks':∀j',j'<=j+1->∀t,all[j']? = some t->∃k,key t=.ok (.int k):=fun j' hj' t e=>by
    by_cases z:j'=j+1
    ·subst z;rw[hx] at e;cases e;exact⟨k,ek⟩
    ·exact ks j' (by omega) t e
   split at h
   ·refine zdI nx ts x k (j+1) (j+1) hd' h hx ek (Nat.le_refl _) (fun j' hj'=>?_) ks'
    by_cases z:j'=j+1
    ·subst z;exact⟨Int.le_refl _,fun w=>by omega⟩
    ·have:=best j' (by omega)
     rw[kx]
     rw[km] at this
     exact⟨by omega,fun _=>by omega⟩
   ·refine zdI nx ts b m i (j+1) hd' h hb hk (by omega) (fun j' hj'=>?_) ks'
    by_cases z:j'=j+1
    ·subst z;rw[kx,km];exact⟨by omega,fun w=>by omega⟩
    ·exact best j' (by omega)
theorem minT_ok {key:PyData->Res PyData}(nx:∀t c,key t ≠ .exc c) {ts:List PyData}{r:PyData}(h:minT key ts=.ok r):(ts=[]/\r=.none)\/(ts ≠ []/\(∀(j':Nat) t,ts[j']? = some t->∃k,key t=.ok (.int k))/\∃i':Nat,ts[i']? = some r/\∀j',j' < ts.length->kOf key ts i'<=kOf key ts j'/\(j' < i'->kOf key ts i' < kOf key ts j')):=by
 cases ts with
 | nil=>cases h;exact .inl ⟨rfl,rfl⟩
 | cons x ts=>
  simp only[minT] at h
  cases ek:key x with
  | stuck=>rw[ek] at h;cases h
  | exc c=>exact absurd ek (nx x c)
  | ok y=>
   rw[ek,Res.bind_ok] at h
   cases y <;> try (simp at h;done)
   rename_i k
   simp only at h
   refine .inr ⟨by simp,zdI nx (all:=x::ts) ts x k 0 0 rfl h rfl ek (Nat.le_refl _) (fun j' hj'=>?_) fun j' hj' t e=>?_⟩
   ·have z:j'=0:=by omega
    subst z
    exact⟨Int.le_refl _,fun w=>by omega⟩
   ·have z:j'=0:=by omega
    subst z
    cases e
    exact⟨k,ek⟩
theorem zbI {key:PyData->Res PyData}(nx:∀t c,key t ≠ .exc c):∀(ts:List PyData) b m c,minL key b m ts ≠ .exc c
 | [],b,m,c=>by simp[minL]
 | x::ts,b,m,c=>by
  unfold minL
  cases ek:key x with
  | stuck=>simp
  | exc c'=>exact absurd ek (nx x c')
  | ok y=>
   rw[Res.bind_ok]
   cases y <;> try simp
   split
   ·exact zbI nx ts _ _ c
   ·exact zbI nx ts _ _ c
theorem minT_nox {key:PyData->Res PyData}(nx:∀t c,key t ≠ .exc c) (ts:List PyData) (c:Str):minT key ts ≠ .exc c:=by
 cases ts with
 | nil=>simp[minT]
 | cons x ts=>
  simp only[minT]
  cases ek:key x with
  | stuck=>simp
  | exc c'=>exact absurd ek (nx x c')
  | ok y=>
   rw[Res.bind_ok]
   cases y <;> try simp
   exact zbI nx ts _ _ c
theorem hol_lam {K:PySem.W.Frag}{H H':Hp}{P P':Pv}{σ:L2.St}{G:List Sl}{cap:List Nat}{t:PyData}{v:V}(h:Hol K H P σ G) (tr:Tr H P H' P') (ho:∀i,P'.own i=none) (hf:∀a,P'.fb a->∃o,H' a=some o/\LD o) (htb:Vs K H') (rv:Rl K H' P' t v) :
  Hol K H' P' (lamS cap σ v) (.val t::capS cap G):=by
 have z:=zhf (nv:=0) (cap:=cap) h tr ho hf htb
 refine⟨fun i s e=>?_,fun i j a z _=>(by rw[ho i] at z;cases z),fun i a z=>(by rw[ho i] at z;cases z),hf,fun i a z=>(by rw[ho i] at z;cases z),?_,htb⟩
 ·cases i with
  | zero=>
   cases e
   exact⟨v,rfl,rv⟩
  | succ i=>
   have w:=z.sl i s (by simpa using e)
   have es:(lamS cap σ v).getD (i+1) none=(sig 0 cap σ).getD i none:=by simp[lamS,sig]
   have w':SlOk K H' P' i ((lamS cap σ v).getD (i+1) none) s:=by rw[es];exact w
   cases s with
   | emp=>trivial
   | val t'=>exact w'
   | own xs=>
    obtain⟨p,vs,_,e2,_⟩:=w'
    rw[ho i] at e2;cases e2
   | dct xs=>
    obtain⟨p,vs,_,e2,_⟩:=w'
    rw[ho i] at e2;cases e2
 ·have:=z.len
  simp[lamS,sig] at this ⊢
  try omega
section
variable {X:Cx}{W:Str->Hp->Prop}{fl:Bool}{a b c e:Expr}{es:List Expr}{da db:DE}{pos:Pos}
theorem ev_minK {k:Nat}{x y:Str}{c T:Addr}{params:Arguments}{body:Expr}{scope:Scope}{N:List Str}{cap:List Nat}{de:DE}{p lpos kp1 kp2 cp:Pos}{jj:Nat}(L:LamAt X x c T) (C:LamOk X scope N y cap) (hr:Room (k+2) X.A) (hg:Gl X "min") (hm:X.mg "min" = none) (ha:EV X W a da)
  (he:∀s₀ H₀ f cd,EV (cxL (Cx.i1 X) (lamQ x) scope N s₀ H₀ f cd) (fun _ _=>False) body de) (hdef:defaultsOf params X.env=([],[]):=by rfl)
  (hb:∀cl pm c' ctv u,bindArgs (PySem.W.kla_fn "<lambda>" (lamQ x) params body scope cl pm (.ref c') ctv) ⟨[u],[]⟩=pure [(y,u)]:=by intros;rfl)
  (hs:starEach [a] X.env=(false,eval a X.env)::starEach [] X.env:=by rfl) :
  EV X W (.Call (.Name "min" p) [a] [⟨some "key",.Lambda params body scope lpos,kp1⟩,⟨some "default",.Constant .none jj cp,kp2⟩] pos) (dMinK cap da de):=by
 intro pins s σ H Q I ⟨G,P,h,q⟩
 unfold dMinK at q
 obtain⟨q1,q2,q3⟩:=QA q
 refine wpAny_Call_Name_kw (UT I hg hm (show bootBuiltins "min" = some (.builtin "min") by decide +kernel) ?_)
 refine callWith_kw (thn (ZZ ha Xg hs pos pins s σ H (fun vs H1=>∃tx v,vs=[v]/\da G=.ok tx/\Same H H1/\Hol X.K H1 P σ G/\Rl X.K H1 P tx v) I (ZI h q1 q2 fun tx v H1 ex s1 h1 rx=>⟨tx,v,rfl,ex,s1,h1,rx⟩)) fun us s1 ⟨vs,H1,I1,r1,tx,v,ev,ex,sm1,h1,rx⟩=>?_) (by rw[hs];rfl) (by rw[hs];rfl)
 subst ev
 obtain⟨u1,rfl,ru⟩:=Ja r1
 refine thn ((zgx (pe_lam L C hdef) (zgx pe_non pk_nil)) pos pins s1 σ H1 (fun zs H2=>∃f c' ctv,zs=[.ref f,.non]/\Same H1 H2/\H2 f=some (LO f (PySem.W.kla_fn "<lambda>" (lamQ x) params body scope (ZW X.env scope.names []) ((X.mg "__name__").getD .none) (.ref c') ctv))/\H2 c'=some (CO c' (lamQ x))) I1 ⟨h1.tab,fun f c' ctv H2 sm2 _ e1 e2=>⟨f,c',ctv,rfl,sm2,e1,e2⟩⟩) fun ws s2 ⟨zs,H2,I2,r2,f,c',ctv,ez,sm2,hf,hc⟩=>?_
 subst ez
 have hws:ws=[.ref f,.none]:=by
  cases r2 with
  | cons ra rb=>
   cases rb with
   | cons rc rd=>
    cases rd
    cases ra
    cases rc
    rfl
 subst hws
 show wpAny _ _ (call (.builtin "min") [u1] [(Str.ofString "key",.ref f),(Str.ofString "default",.none)]) _ _ _
 have q4:=q3 tx ex
 cases tx <;> try exact q4.elim
 rename_i ts
 obtain⟨l,vs,rfl,sl,rs⟩:=ZR.mp rx
 cases ru
 simp only at q4
 have nx:∀t c,noX (de (.val t::capS cap G)) ≠ .exc c:=fun t c z=>by
  rcases US (de (.val t::capS cap G)) with ⟨w,e⟩ | e <;> (rw[e] at z;cases z)
 have hlen:=rs.length
 cases em:minT (fun t=>noX (de (.val t::capS cap G))) ts with
 | stuck=>rw[em] at q4;exact q4.elim
 | exc c=>exact absurd em (minT_nox nx ts c)
 | ok r=>
  rw[em] at q4
  have mt:=minT_ok nx em
  refine zhP (X:=X) (xs:=vs) (kf:=kOf (fun t=>noX (de (.val t::capS cap G))) ts) hr.hd I2 (fun H' sm=>((sl.go (.same sm2)).go (.same sm)).sq) (fun i v u pins' s' H' hv rvu J sm=>?_) (fun h0 s' H' J sm=>?_) (fun i v u s' H' hv rvu best J sm=>?_)
  ·-- one call of the lambda
   obtain⟨t,ht,rt⟩:=rs.get hv
   obtain⟨kv,ek⟩:∃kv,noX (de (.val t::capS cap G))=.ok (.int kv):=by
    rcases mt with ⟨e0,_⟩ | ⟨_,ks,_⟩
    ·rw[e0] at ht;simp at ht
    ·exact ks i t ht
   have ed:=zek ek
   have kk:kOf (fun t=>noX (de (.val t::capS cap G))) ts i=kv:=by unfold kOf;rw[ht];simp only[ek]
   have smA:Same H1 H':=sm2.trans sm
   have gg:Tr H1 P H' ⟨fun _=>none,fun a=>¬Off P a⟩:=fun a o e1 n o1=>⟨smA.kp a o e1 n,fun _ z=>(by cases z),fun z=>z o1⟩
   refine wpAny_mono (lam_call (X:=Cx.i1 X) (k:=k) (t:=tF X.K (fun _ _=>False) de) (Q:=fun v' H''=>v'=.int kv/\Same H' H'') ⟨C.cell,C.kind,C.co,C.gen,C.par,C.free,C.head,C.len,C.caps⟩ hr.in1 (Fx.Inv.toi1 J) rvu (sm.kp _ _ hf zgS) (sm.kp _ _ hc zgS) (hb _ _ _ _ _) (he s' H' f (.ref c')) ⟨.val t::capS cap G,⟨fun _=>none,fun a=>¬Off P a⟩,hol_lam h1 gg (fun _=>rfl) (fun a z=>let⟨o,q,m⟩:=h1.ld z;⟨o,smA.kp _ _ q m.nt,m⟩) (smA.tab _ h1.tab) (Rl.go gg t v rt),?_⟩) (fun rr s'' hh=>?_) fun _ _ z=>z
   ·rw[ed]
    exact fun v' H'' sm' r'=>⟨ZL.mp r',sm'⟩
   ·obtain⟨v',H'',J',rv',e1,sm'⟩:=hh
    subst e1
    obtain⟨t',rfl⟩:=rv'
    exact⟨t',H'',by rw[kk],Fx.Inv.ofi1 J.ok J',sm.trans sm'⟩
  ·-- nothing in the list
   rcases mt with ⟨_,rfl⟩ | ⟨hne,_,_⟩
   ·exact⟨.non,H',J,rfl,q4 _ H' ((sm1.trans sm2).trans sm) (XJ.mpr rfl)⟩
   ·exact absurd (List.length_eq_zero_iff.mp (by rw[hlen,h0];rfl)) hne
  ·rcases mt with ⟨e0,_⟩ | ⟨_,_,i',hi',best'⟩
   ·rw[e0] at hlen
    have:=(List.getElem?_eq_some_iff.mp hv).1
    simp at hlen
    omega
   ·have hi1:=(List.getElem?_eq_some_iff.mp hv).1
    have hi2:=(List.getElem?_eq_some_iff.mp hi').1
    have e:i=i':=by
     have b1:=best i' (by omega)
     have b2:=best' i (by omega)
     rcases Nat.lt_trichotomy i i' with z | z | z
     ·have:=b2.2 z;have:=b1.1;omega
     ·exact z
     ·have:=b1.2 z;have:=b2.1;omega
    subst e
    obtain⟨t,ht,rt⟩:=rs.get hv
    rw[hi'] at ht
    cases ht
    exact⟨v,H',J,rvu,q4 v H' ((sm1.trans sm2).trans sm) (Rl.go (.same (sm2.trans sm)) _ v rt)⟩
end
end Fx
namespace Fx
open PySem PySem.Spec PyProof.Rows L2
def lamCap (scope:Scope) (env:Env) (N0 N:List Str) (cap:List Nat):Bool:=
 (List.range cap.length).all fun i=>match(cap[i]?:Option Nat),(N[1+i]?:Option Str) with
  | some j,some x=>N0[j]? == some x && cf (scope.names.lookup x) && cf (env.kindOf x)
  | _,_=>true
def lamChk (scope:Scope) (env:Env) (N0 N:List Str) (y:Str) (cap:List Nat):Bool:=
 (scope.names.all fun z=>z.2 != .cell) && (scope.kind == .function) && (scope.isCoroutine == false) && (scope.isGenerator == false) && (scope.names.lookup y == some .local)
  && (scope.names.all fun z=>z.2 != .free || cf (env.kindOf z.1)) && (N[0]? == some y) && (N.length == 1+cap.length) && lamCap scope env N0 N cap
theorem lamok {X:Cx}{scope:Scope}{N:List Str}{y:Str}{cap:List Nat}(h:lamChk scope X.env X.N N y cap=true):LamOk X scope N y cap:=by
 unfold lamChk at h
 simp only[Bool.and_eq_true,List.all_eq_true] at h
 obtain⟨⟨⟨⟨⟨⟨⟨⟨h1,h2⟩,h3⟩,h4⟩,h5⟩,h6⟩,h7⟩,h8⟩,h9⟩:=h
 refine⟨fun y hy=>by simpa using h1 y hy,by simpa using h2,by simpa using h3,by simpa using h4,by simpa using h5,fun y hy e=>?_,by simpa using h7,by simpa using h8,fun i j x hc hx=>?_⟩
 ·have:=h6 y hy
  rw[e] at this
  exact zfC (by simpa using this)
 ·unfold lamCap at h9
  rw[List.all_eq_true] at h9
  have hi:i < cap.length:=(List.getElem?_eq_some_iff.mp hc).1
  have:=h9 i (List.mem_range.mpr hi)
  rw[hc,hx] at this
  simp only[Bool.and_eq_true] at this
  exact⟨by simpa using this.1.1,zfC this.1.2,zfC this.2⟩
structure LamHyp (K:PySem.W.Frag) (mg:Str->Option Value) (base:Heap) (x:Str) (c T:Addr):Prop where
 tab:PySem.W.tabIn K x=some (c,T)
 hd:∀h:Heap,K.In h->PySem.W.CodeHd h c T
 blt:zcb mg base
theorem ze2 {K:PySem.W.Frag}{x:Str}{c T:Addr}(t:PySem.W.tabIn K x=some (c,T)):∃o,K.lookup c=some o:=by
 unfold PySem.W.tabIn at t
 split at t
 ·split at t
  ·split at t
   ·split at t
    ·rename_i hco
     split at t
     ·cases t;exact⟨_,hco⟩
     ·cases t
    ·cases t
   ·cases t
  ·cases t
 ·cases t
theorem tab_mk {K:PySem.W.Frag}{x:Str}{f c T:Addr}{oc occ:Value}{od odc:Option Addr}{fd:FuncData}{sl slc:Array (Option Value)}{vs:Array Value}(a:PySem.W.nsIn K mainGlobals x=some (some (.ref f))) (l:K.lookup f=some ⟨oc,od,.func fd,sl⟩) (hc:fd.code=.ref c) (lc:K.lookup c=some ⟨occ,odc,.fields vs,slc⟩) (v:vs[11]? = some (.ref T)):PySem.W.tabIn K x=some (c,T):=by
 unfold PySem.W.tabIn
 rw[a]
 simp only[l,hc,lc,v]
theorem zbd {K:PySem.W.Frag}{x:Str}{c T:Addr}{b:Heap}(t:PySem.W.tabIn K x=some (c,T)) (hb:K.In b) (h:PySem.W.CodeHd b c T):∀h':Heap,K.In h'->PySem.W.CodeHd h' c T:=fun h' hk=>by
 obtain⟨o0,e0⟩:=ze2 t
 obtain⟨o,vs,file,tf,flags,tg,inF,text,tt,e,r⟩:=h
 have:=hb _ _ e0
 rw[e] at this
 cases this
 exact⟨_,vs,file,tf,flags,tg,inF,text,tt,hk _ _ e0,r⟩
theorem lam_at {X:Cx}{x:Str}{c T:Addr}(L:LamHyp X.K X.mg X.base x c T) (nm:x ∈ WG) (hc:X.env.code=.ref c:=by rfl) (hq:X.env.qual ++ "<lambda>" = lamQ x:=by rfl):LamAt X x c T:=⟨L.tab,nm,hc,hq,L.hd,L.blt⟩
theorem cle_ofC {P:Program}{w:World}{K:PySem.W.Frag}{mg:Str->Option Value}{base:Heap}{x:Str}{st:Stmt}{fa c:Addr}{fd:FuncData}{N ps:List Str}{k n np:Nat}{d:DS}(F:Fun K x x st fa fd) (hcode:fd.code=.ref c) (hm:mg x=some (.ref fa)) (b:ZG K fd ps []) (S:FnScope N ps (Zd st)) (hnp:ps.length=np) (hN:N.length=n)
  (hb:∀(A:Around) (outer:List Env) (s:Shared) (H:Hp) (E:XK),Room k (A.deeper (envOfC x (Zd st) s.heap.objs.size fa (.ref c))) ->
   SVs (cxOf CX0 P w K mg base N x (Zd st) fa (.ref c) A outer s H E).nox (fun _ _=>False) false (Zl st) d):Cle P w K mg base (k+1) x np (runQ n np d):=by
 subst hN
 refine⟨⟨fa,fd,ps,?_,hm,F.kp,b⟩,fun ts c=>zbs _ _ _ ts c⟩
 obtain⟨oc,od,kV,doc,pm,an,cdv,ct,osl,rfl,lk,hcd⟩:=F.ex
 have hcode':cdv=.ref c:=hcode
 subst hcode'
 have F':Fun K x x st fa (PySem.W.fnOf x x (Zn st) (Zl st) (Zd st) .none kV doc pm an (.ref c) ct):=F
 refine fn_of lk hcd S (fun vs H Q E h=>by rw[hnp];exact h.1) fun A outer s H vs Q E hr h=>⟨_,(hb A outer s H E hr).nox,?_⟩
 obtain⟨hl,ts,P',rs,ho,hf,q⟩:=h
 have hlt:ts.length=np:=by rw[rs.length];exact hl
 refine⟨_,P',UU rs ho hf,?_⟩
 unfold runQ runF at q
 rw[if_pos hlt] at q
 have en:N.length - np=N.length - ts.length:=by rw[hlt]
 rw[en] at q
 have sm:∀H' P2,Go H P' H' P2->Same H H':=fun H' P2 g=>g.all ho
 have bk:∀H' P2,Go H P' H' P2->Tr H' P2 H' P':=fun H' P2 g b o e _ z=>⟨e,fun i=>by rw[ho i];exact fun z=>(by cases z),by rw[<- g.fbe];exact z.2⟩
 cases e:d (ts.map .val++List.replicate (N.length - ts.length) .emp) with
 | stuck=>rw[e] at q;exact q.elim
 | exc c=>rw[e] at q;exact q.elim
 | ok o=>
  rw[e,Res.bind_ok] at q
  cases o with
  | nx G=>exact fun σ' H' P2 g h'=>q .non H' (sm H' P2 g) (XJ.mpr rfl)
  | rt t=>exact fun v H' P2 g r _=>q v H' (sm H' P2 g) (Rl.go (bk H' P2 g) t v r)
  | bk G=>exact q.elim
  | ct G=>exact q.elim
theorem zg1 {P:Program}{w:World}{K:PySem.W.Frag}{mg mb:Str->Option Value}{k:Nat}{fa a c T:Addr}{fd:FuncData}{x x0:Str}{f:DF}{s₁:Shared}{vs:List Value}{ns:List Int}
  (KX:K.In s₁.heap) (hns:s₁.heap.Ns mainGlobals mg) (hb:s₁.heap.Ns builtinsNs mb) (hbb:∀x:Str,x ≠ "__name__" -> mb x=bootBuiltins x) (hlim:s₁.heap.NoLimit) (hg:s₁.gens=#[])
  (bmain:zcb mg s₁.heap) (htb:PySem.W.tabIn K x0=some (c,T)) (hx0:x0 ∈ WG) (hno:PySem.W.noTabs K=true) (hC:PySem.W.CodeHd s₁.heap c T) (hT:s₁.heap.get? T=some (PySem.W.tabObj #[]))
  (ha:s₁.heap.get? a=some { cls:=.type "list",data:=.seq vs.toArray }) (hi:IntsAre vs ns) (hl:ns.length<=sizeLine) (hr:Room k callerA)
  (F:∀base:Heap,K.In base->base.Ns mainGlobals mg->zcb mg base->PySem.W.CodeHd base c T->FnOk P w K mg base CX0 k fa fd [x] (spF K none 1 f)) (hbind:∀(s:Shared) (u:Value),BindsTo s fd ⟨[u],[]⟩ [(x,u)])
  (hok:f [.list (ns.map .int)]=.ok (.bool true)) :
  codeAny (model P w) callerA (.call (.ref fa) ⟨[.ref a],[]⟩) (fun r s'=>r=.ok (.ret (.bool true))/\OldK s₁.heap s'.heap/\s'.os=s₁.os/\AllBare s'.gens) s₁:=by
 have rv:=zce hi
 have lenV:=hi.length
 have haT:a ≠ T:=fun e=>by rw[e,hT] at ha;cases ha
 have hKT:∀b o,K.lookup b=some o->b ≠ T:=fun b o e z=>by
  have h2:=List.all_eq_true.mp hno (b,o) (PySem.W.mem_of_lookupK e)
  have h3:=KX _ _ e
  rw[z,hT] at h3
  cases h3
  exact absurd (show false=true from h2) Bool.false_ne_true
 -- from an abstract heap in which nothing but the table and the script may be tracked
 have core:∀H:Hp,H T=some (.tbl #[])->SqL K H a (ns.map V.int)->HOk P w H s₁.heap->(∀b,H b ≠ none->b=a\/b=T)->(∀o,H a=some o->K.lookup a=none/\∃ob xs,o=.frz ob (.lst xs)) ->
   codeAny (model P w) callerA (.call (.ref fa) ⟨[.ref a],[]⟩) (fun r s'=>r=.ok (.ret (.bool true))/\OldK s₁.heap s'.heap/\s'.os=s₁.os/\AllBare s'.gens) s₁:=by
  intro H hHT hS hok' hA hK
  have base_of:∀{b:Addr}{o:Obj},s₁.heap.get? b=some o->H b=none->(hidT s₁.heap H).get? b=some o:=fun e n=>hidT_get e n
  have noD:∀{b:Addr}{o:Obj},s₁.heap.get? b=some o->b ≠ T->(∀xs n,o.data ≠ .seq xs n)->H b=none:=fun {b o} e nt d=>by
   cases q:H b with
   | none=>rfl
   | some u=>
    rcases hA b (by rw[q];simp) with e' | e'
    ·subst e'
     rw[ha] at e;cases e
     exact absurd rfl (d _ _)
    ·exact absurd e' nt
  have nsK:∀{b:Addr}{m:Str->Option Value},s₁.heap.Ns b m->(hidT s₁.heap H).Ns b m:=fun {b m} ⟨o,es,ep,e,d,r⟩=>⟨o,es,ep,base_of e (noD e (fun z=>by rw[z,hT] at e;cases e;cases d) fun xs n z=>by rw[d] at z;cases z),d,r⟩
  have hKb:K.In (hidT s₁.heap H):=fun b o e=>base_of (KX b o e) (by
   cases q:H b with
   | none=>rfl
   | some u=>
    rcases hA b (by rw[q];simp) with e' | e'
    ·subst e'
     rw[(hK u q).1] at e;cases e
    ·exact absurd e' (hKT b o e))
  have hBb:zcb mg (hidT s₁.heap H):=by
   obtain⟨bm,ob,b1,b2,b3,b4,b5,b6,b7⟩:=bmain
   exact⟨bm,ob,b1,b2,b3,base_of b4 (noD b4 (fun z=>by rw[z,hT] at b4;cases b4;cases b5) fun xs n z=>by rw[b7] at z;cases z),b5,b6,b7⟩
  have hCb:PySem.W.CodeHd (hidT s₁.heap H) c T:=zbd htb KX hC _ hKb
  have hM:Mod K mg (hidT s₁.heap H):=⟨hKb,nsK hns,⟨mb,nsK hb,hbb⟩,let⟨mc,h1,h2⟩:=hlim;⟨mc,nsK h1,h2⟩⟩
  have e0:Env0 P w K mg (hidT s₁.heap H) callerA [] s₁ H:=⟨rfl,hM,fun b o e=>of_hidT e,Nat.le_of_eq (zhh _ _),trivial,fun b hb=>absurd (show b ∈ ([]:List Addr) from hb) (by simp),hok',.of_eq hg⟩
  have tk:Vs K H:=fun x1 c1 T1 h1 h2=>by
   have e1:x1=x0:=zg3 h1 hx0
   subst e1
   rw[htb] at h2
   cases h2
   exact⟨#[],hHT,trivial,fun pos cv z=>by simp[codeAmong] at z⟩
  refine codeAny_mono ((F _ hKb (nsK hns) hBb hCb).run callerA [] s₁ H ⟨[.ref a],[]⟩ [.ref a] [.ref a] _ (fun _ _ _=>False) hr e0 (hbind s₁ (.ref a)) (.cons rfl .nil) (law_sp hok tk hS)) fun r s' h=>?_
  cases r with
  | error e=>exact False.elim h
  | ok fl=>
   cases fl with
   | next=>exact False.elim h
   | brk=>exact False.elim h
   | cont=>exact False.elim h
   | ret u=>
    obtain⟨v,H',os,bare,un,hok2,r',q⟩:=h
    have q':v=.bl true:=q
    subst q'
    obtain rfl:u=Value.bool true:=r'
    have keep:∀b o,b ≠ T->s₁.heap.get? b=some o->s'.heap.get? b=some o:=fun b o nb e=>by
     cases q:H b with
     | none=>exact un.keep b o e q (by intro z;exact absurd (show b ∈ ([]:List Addr) from z) (by simp)) (by simp)
     | some u=>
      rcases hA b (by rw[q];simp) with e' | e'
      ·subst e'
       obtain⟨_,ob,xs,rfl⟩:=hK u q
       have z2:=un.frzs b ob _ q
       obtain⟨e1,_⟩:=hok' b _ q
       obtain⟨e2,_⟩:=hok2 b _ z2
       rw[e] at e1;cases e1
       exact e2
      ·exact absurd e' nb
    obtain⟨more,hT'⟩:=un.tbls T _ hHT
    have hTo:s'.heap.get? T=some (PySem.W.tabObj (#[]++more)):=hok2 T _ hT'
    refine⟨rfl,⟨fun b o e=>?_,fun b o e=>?_⟩,os,bare⟩
    ·by_cases nb:b=T
     ·subst nb
      rw[hT] at e
      cases e
      exact .inr (.inl ⟨(hC.tab hT).isCodeTable,rfl,#[],more,rfl,hTo⟩)
     ·exact .inl (keep b o nb e)
    ·by_cases nb:b=T
     ·subst nb;exact⟨_,hTo⟩
     ·exact⟨o,keep b o nb e⟩
 cases hk:K.lookup a with
 | some o=>
  have e:=KX a o hk
  rw[ha] at e
  cases e
  refine core (fun b=>if b=T then some (.tbl #[]) else none) (if_pos rfl) (.inr ⟨_,vs.toArray,_,hk,rfl,rfl,rfl,by rw[List.size_toArray,lenV];exact hl,by simpa using rv⟩) (fun b u z=>?_) (fun b z=>?_) fun o z=>?_
  ·by_cases hb:b=T
   ·have z':=(if_pos hb).symm.trans z
    cases z'
    subst hb
    exact hT
   ·have z':=(if_neg hb).symm.trans z
    cases z'
  ·by_cases hb:b=T
   ·exact .inr hb
   ·exact absurd (if_neg hb) z
  ·have z':=(if_neg haT).symm.trans z
   cases z'
 | none=>
  refine core (fun b=>if b=T then some (.tbl #[]) else if b=a then some (.frz { cls:=.type "list",data:=.seq vs.toArray } (.lst (ns.map V.int))) else none) (if_pos rfl) (.inl (.inr ⟨{ cls:=.type "list",data:=.seq vs.toArray },(if_neg haT).trans (if_pos rfl)⟩)) (fun b u z=>?_) (fun b z=>?_) fun o z=>?_
  ·by_cases hb:b=T
   ·have z':=(if_pos hb).symm.trans z
    cases z'
    subst hb
    exact hT
   ·have z1:=(if_neg hb).symm.trans z
    by_cases hb2:b=a
    ·have z':=(if_pos hb2).symm.trans z1
     cases z'
     subst hb2
     exact⟨ha,by rw[List.length_map];exact hl,vs,_,rv,ha⟩
    ·have z':=(if_neg hb2).symm.trans z1
     cases z'
  ·by_cases hb:b=T
   ·exact .inr hb
   ·by_cases hb2:b=a
    ·exact .inl hb2
    ·exact absurd ((if_neg hb).trans (if_neg hb2)) z
  ·have z':=((if_neg haT).trans (if_pos rfl)).symm.trans z
   cases z'
   exact⟨hk,_,_,rfl⟩
theorem walk_T {l:PySem.W.OpenLaw}{n k:Nat}{q:Program}{loose:List Str}{XP:(Str->Option Value)->Heap->Prop}{YP:World->Heap->Prop}{d d0:DefRec}{K:Params->PySem.W.Frag}{x x0:Str}{f:DF}
  (hn:l.most=some n) (hn2:n<=sizeLine) (hdf:d.params.defaults=[]) (hr:Room k callerA) (hx0:x0 ∈ WG) (hrec:(recsOf q).find? (fun e=>e.name == x0)=some d0)
  (hY:∀(w:World) (h:Heap),YP w h->(K w.params).In h)
  (F:∀(w:World) (mg:Str->Option Value) (fa:Addr) (h:Heap),(K w.params).In h->h.Ns mainGlobals mg->mg d.name=some (.ref fa) ->
   ∃(fd:FuncData) (c T:Addr),PySem.W.tabIn (K w.params) x0=some (c,T)/\PySem.W.noTabs (K w.params)=true/\(∀(s:Shared) (u:Value),BindsTo s fd ⟨[u],[]⟩ [(x,u)]) /\
    ∀base:Heap,(K w.params).In base->base.Ns mainGlobals mg->zcb mg base->PySem.W.CodeHd base c T->FnOk l.prog w (K w.params) mg base CX0 k fa fd [x] (spF (K w.params) none 1 f))
  (hok:∀ns:List Int,ns.length<=n->f [.list (ns.map .int)]=.ok (.bool true)) :
  PySem.W.WalkO q loose XP YP l.row.toRowW d [] (fun f vs=>PySem.call f vs):=by
 refine Att.attach_call hn hdf fun w s₀ s₁ mg mb fa o pm cd doc a vs ns G Y ho hd hcd hmg hobj hints hlen hg=>?_
 have KX:=hY w _ Y
 obtain⟨fd,c,T,htb,hno,hb,hF⟩:=F w mg fa _ KX G.T.g hmg
 obtain⟨hC,hT⟩:=PySem.W.tab_of G.T KX hrec htb
 have hB:zcb mg s₁.heap:=by
  obtain⟨bm,ob,b1,b2,b3,b4,b5,b6⟩:=G.T.bmain
  refine⟨bm,ob,b1,b2,fun z=>?_,b3,b4,b5,b6⟩
  obtain⟨o,es,ep,e,hdd,_⟩:=G.T.g
  rw[z,e] at b3;cases b3;rw[hdd] at b6;cases b6
 exact zg1 KX G.T.g G.T.b G.T.builtins G.T.nolimit hg hB htb hx0 hno hC hT hobj hints (Nat.le_trans hlen hn2) hr hF hb (hok ns hlen)
end Fx
namespace Fx
open PySem
def dHs:List ((Str->Bool) × (Str->Bool) × DS)->Str->DS
 | [],_=>fun _=>.stuck
 | (y,n,h)::r,c=>fun G=>if y c then noX (h G) else if n c then dHs r c G else .stuck
@[simp] theorem dHs_cons (y n : Str -> Bool) (h : DS) (r : List ((Str -> Bool) × (Str -> Bool) × DS)) (c : Str) (G : List Sl) : dHs ((y, n, h) :: r) c G = if y c then noX (h G) else if n c then dHs r c G else .stuck := rfl
end Fx
namespace Fx
open PySem PySem.Spec PyProof.Rows L2
theorem star_tup {xs es:List Expr}{k:Nat}{pos:Pos}{env:Env}:starEach (.Tuple xs k pos::es) env=(false,eval (.Tuple xs k pos) env)::starEach es env:=rfl
theorem star_lst {xs es:List Expr}{pos:Pos}{env:Env}:starEach (.List xs pos::es) env=(false,eval (.List xs pos) env)::starEach es env:=rfl
end Fx
namespace L2
open PySem PySem.Spec PyProof.Rows
section
variable {κ:Type} [DecidableEq κ]
def valV (kvs:List (κ × V)) (k:κ):Option V:=(kvs.find? fun kv=>decide (kv.1=k)).map (·.2)
theorem valV_nil {k:κ}:valV ([]:List (κ × V)) k=none:=rfl
end
end L2
namespace Fx
open PySem PySem.Spec PyProof.Rows L2
def iRev (a:DE):DA:=fun G=>(a G).bind fun x=>match x with
 | .list xs=>.ok xs.reverse
 | _=>.stuck
def Itv (K:PySem.W.Frag) (a:Addr) (n:Nat):It:=
 ⟨fun i H=>∃xs x,SqL K H a xs/\xs.length=n/\i < n/\xs[n - 1 - i]? = some x,fun i H x H'=>H'=H/\∀xs,SqL K H a xs->xs[n - 1 - i]? = some x,fun i H=>n<=i⟩
theorem turn_rev {P:Program}{w:World}{K:PySem.W.Frag}{tg:Expr}(a it:Addr) (n:Nat):Turn P w K tg (Itv K a n) [it] it (fun i h=>h.IsRevIter it a ((n:Int) - 1 - ((min i n:Nat):Int))) where
 mem:=by simp
 obj:=fun i h st b hb=>by
  have e:b=it:=by simpa using hb
  subst e
  obtain⟨o,e,c,d⟩:=st
  exact⟨o,e,fun v z=>by rw[d] at z;cases z⟩
 keep:=fun i h h' st k=>st.at fun o e=>k it (by simp) o e
 item:=by
  intro X hP hw hK hc i pins s σ H E I hf st hg
  subst hP hw hK
  obtain⟨xs,x,hq,hn,hi,hx⟩:=hg
  obtain⟨its,rv,p,hz⟩:=I.list hq
  obtain⟨u,hu,ru⟩:=rv.get hx
  obtain⟨f0,f1,f2,f3,f4,f5⟩:=hf it (by simp)
  have e:(n:Int) - 1 - ((min i n:Nat):Int)=((n - 1 - i:Nat):Int):=by omega
  have e2:((n - 1 - i:Nat):Int) - 1=(n:Int) - 1 - ((min (i+1) n:Nat):Int):=by omega
  rw[e] at st
  refine wpAny_pyNext_rev_item st p.isList (x:=u) (by simpa using hu) fun h' st' sb=>?_
  rw[e2] at st'
  have I1:Inv X pins σ H { s with heap:=h' }:=I.turned (t':=s.toks) (fun b o hb e=>(sb.2 b hb).trans e) f0 f1 f3 f4 f5
  obtain⟨o,e,c,d⟩:=id st'
  exact⟨u,rfl,go_of (s:={ s with heap:=h' }) e c d (by decide) ⟨x,H,I1,ru,⟨rfl,fun ys hy=>by rw[I.list_inj hy hq];exact hx⟩,st',fun b hb=>(hf b hb).1⟩⟩
 done:=by
  intro X hP hw hK hc i pins s σ H E I hf st hg
  subst hP hw hK
  have hn:n<=i:=hg
  obtain⟨f0,f1,f2,f3,f4,f5⟩:=hf it (by simp)
  have e:(n:Int) - 1 - ((min i n:Nat):Int)=-1:=by omega
  rw[e] at st
  exact wpAny_pyNext_rev_end (I.ok.hd hc) st fun h' eb=>⟨rfl,I.turned (t':=s.toks) (fun b o hb e=>eb b o hb e) f0 f1 f3 f4 f5⟩
 self:=fun _ _ _ _ _ st h=>wpAny_pyIter_revIter st h
section
variable {X:Cx}{W:Str->Hp->Prop}{tg a:Expr}{da:DE}{pos:Pos}
def iRv (K:PySem.W.Frag) (ta:TA):TI:=fun σ H R=>ta σ H fun vs H1=>∃a xs,vs=[.ref a]/\SqL K H1 a xs/\R (Itv K a xs.length) H1
theorem pi_rev {l:Expr}{ta:TA}{p:Pos}(hg:Gl X "reversed") (hm:X.mg "reversed" = none) (hl:PA X [l] ta) (hs:starEach [l] X.env=(false,eval l X.env)::starEach [] X.env:=by rfl):PI X tg (.Call (.Name "reversed" p) [l] [] pos) (iRv X.K ta):=by
 intro pins s σ H R I h
 refine Call_ (UT I hg hm (show bootBuiltins "reversed" = some (.type "reversed") by decide +kernel) (PyProof.Rows.callWith_type1 (thn (hl pos pins s σ H _ I h) fun us s1 ⟨vs,H1,I1,r1,q1⟩=>?_) hs rfl))
 obtain⟨l,xs,rfl,hq,q⟩:=q1
 obtain⟨u,rfl,ru⟩:=Ja r1
 cases ru
 obtain⟨its,rv,pl,hz⟩:=I1.list hq
 have hl2:=rv.length
 refine call_reversed_list pl.isList ?_
 have sz:(its.toArray.size:Int)=(xs.length:Int):=by simp;omega
 rw[sz]
 have st:(s1.heap.push (revObj l ((xs.length:Int) - 1))).IsRevIter s1.heap.objs.size l ((xs.length:Int) - 1):=⟨_,Heap.get?_push_size _ rfl,rfl,rfl⟩
 refine wpAny_pyIter_revIter st ?_
 have kk:∀b o,s1.heap.get? b=some o->(s1.heap.push (revObj l ((xs.length:Int) - 1))).get? b=some o:=fun b o e=>Heap.get?_push_of_some _ e
 have I2:Inv X pins σ H1 { s1 with heap:=s1.heap.push (revObj l ((xs.length:Int) - 1)) }:=I1.kept (t':=s1.toks) kk
 refine⟨_,[s1.heap.objs.size],_,Itv X.K l xs.length,H1,rfl,I2,turn_rev l _ xs.length,?_,fun b hb=>?_,q⟩
 ·have:(xs.length:Int) - 1 - ((min 0 xs.length:Nat):Int)=(xs.length:Int) - 1:=by omega
  show Heap.IsRevIter _ _ _ _
  rw[this]
  exact st
 ·have:b=s1.heap.objs.size:=by simpa using hb
  rw[this]
  exact I1.fpOk (Nat.le_refl _) (I1.hok.fresh (Nat.le_refl _))
theorem yld_rev {H:Hp}{P:Pv}{l:Addr}{xs:List PyData}{vs:List V}(s:SL X.K H P l vs) (r:Rls X.K H P xs vs):Yld X.K (Itv X.K l vs.length) xs.reverse H P:=fun H' P' tr nf i=>
 ⟨fun t e=>by
  have r':=Rls.go tr xs vs r
  have s':=(s.go tr).sq
  have hl:=r.length
  have hi:i < xs.length:=by
   have:=(List.getElem?_eq_some_iff.mp e).1
   simpa using this
  rw[List.getElem?_reverse hi] at e
  rw[hl] at e
  obtain⟨v,ev,rv⟩:=r'.getT e
  refine⟨⟨vs,v,s',rfl,by omega,ev⟩,fun x H'' y=>?_⟩
  obtain⟨rfl,y⟩:=y
  have:=y vs s'
  rw[ev] at this
  cases this
  exact⟨Same.refl _,rv⟩,fun hl=>by rw[List.length_reverse,r.length] at hl;exact hl⟩
theorem iv_rev {p:Pos}(hg:Gl X "reversed") (hm:X.mg "reversed" = none) (ha:EV X W a da) (hs:starEach [a] X.env=(false,eval a X.env)::starEach [] X.env:=by rfl):IV X W tg (.Call (.Name "reversed" p) [a] [] pos) (iRev da):=
 Qp (pi_rev hg hm (ZZ ha Xg hs) hs) fun σ H R ⟨G,P,h,q⟩=>by
  unfold iRev at q
  cases e:da G with
  | stuck=>rw[e] at q;exact q.elim
  | exc c=>rw[e] at q;exact⟨G,P,h,by rw[e];exact q⟩
  | ok tx=>
   rw[e,Res.bind_ok] at q
   refine⟨G,P,h,?_⟩
   rw[e]
   intro x H1 s1 rx
   have h1:=h.same s1
   cases tx <;> try exact q.elim
   obtain⟨l,vs,rfl,sl,rs⟩:=ZR.mp rx
   exact⟨l,vs,rfl,sl.sq,q _ H1 s1 (yld_rev sl rs)⟩
end
end Fx
namespace Fx
open PySem PySem.Spec PyProof.Rows L2
section
variable {X:Cx}{cl:Str->Value}{W:Str->Hp->Prop}{L:Addr}{fl:Bool}
variable {Cn y:Str}{i:Nat}{C':Addr}{sub:Str->Bool}{dh:DS}{b₀:Stmt}{suite:List Stmt}{np hpos:Pos}{ex:Expr}{es:List Expr}{k nps:Nat}{x:Str}{f:DF}{d:DA}{p cpos epos pos pos':Pos}
theorem zf1 (F:InFrame X L) (C:Clx X.prog X.w X.K X.mg X.base cl k x nps f) (hr:Room k X.A) (hN:X.N.Nodup) (hi:X.N[i]? = some y) (hy:Loc X.env.scope y) (hg:Gl X x) (ha:AV X.nox (fun _ _=>False) (ex::es) d) (hcn:XCls X.K X.mg Cn C') (hgn:Gl X Cn) (hsub:zar X cl sub C')
  (hh:∀a,SVs (cxH X a) (fun _ _=>False) fl (b₀::suite) dh) (hL:∀G ts,d G=.ok ts->ts.length=nps:=by first | exact zaQ | exact zcJ | exact zcI | exact zel) (hdb:(x == ("__debug__" : Str))=false:=by decide) (hdn:(Cn == ("__debug__" : Str))=false:=by decide)
  (he:starEach (ex::es) X.env=(false,eval ex X.env)::starEach es X.env:=by rfl) (hpl:(backTo cpos (starEach es X.env)).any (·.1)=false:=by rfl) (hsw:swapsWith (.Call (.Name x p) (ex::es) [] cpos) (some (.Name y pos')) epos.line X.env=pure false:=by rfl)
  (hf:X.fn y=true\/X.env.scope.names.lookup y=some .local:=by first | exact .inl rfl | exact .inr rfl | assumption) :
  SV X W fl (.Try [.Assign [.Name y pos'] (.Call (.Name x p) (ex::es) [] cpos) epos] [.ExceptHandler (some (.Name Cn np)) none (b₀::suite) hpos] [] [] pos) (dTry (dSet i [] (zan f d)) sub dh):=by
 intro pins s σ H D I ⟨G,P,h,q⟩
 unfold dTry at q
 rw[zb3] at q
 unfold zan at q
 cases ed:noX (d G) with
 | exc c=>rcases US (d G) with ⟨t,z⟩ | z <;> (rw[ed] at z;cases z)
 | stuck=>rw[ed] at q;exact q.elim
 | ok ts=>
  rw[ed,Res.bind_ok] at q
  have hd:d G=.ok ts:=zek ed
  refine wpAny_Try_except (wpAny_execs_cons (wpAny_Assign_Name (zeS C hr F.pin hg ha hL hdb he hpl I h hd (fun z=>?_) (fun t et v u H' s' I' sm rl rv=>?_) fun c ec a T H' s' xx sm=>?_) hsw))
  ·rw[z] at q;exact q.elim
  ·rw[et] at q
   refine UK I' hN hi hy rv (fun s2 I2=>?_) hf
   refine wpAny_execs_nil ?_
   exact wpAny_execs_nil ⟨_,H',I2,q _ H' (P.del i) ((Go.same sm).trans .del) ((h.same sm).setVal i rl)⟩
  ·rw[ec] at q
   simp only[Res.bind_exc] at q
   split at q
   ·rename_i hs
    refine handled0 F hcn hgn hdn hsub hs (hh a) xx (h.same sm) ?_
    cases eh:dh G with
    | ok o=>
     rw[eh] at q
     exact X9.up (W:=fun _ _=>False) (r:=.ok o) (by cases o <;> exact q) (.same sm)
    | exc c'=>rw[eh] at q;exact q.elim
    | stuck=>rw[eh] at q;exact q.elim
   ·exact q.elim
end
end Fx
namespace Fx
open PySem
theorem zdJ {x m:Nat}(h:x < 2 ^ m):x.log2<=m:=by
 by_cases hx:x=0
 ·subst hx;simp
 ·exact Nat.le_of_lt ((Nat.log2_lt hx).mpr h)
theorem Xq {i j:Int}{m n:Nat}(hi:i.natAbs < 2 ^ m) (hj:j.natAbs < 2 ^ n) (h:m+n+2<=134217728):XL i j=true:=by
 have h1:=zdJ hi
 have h2:=zdJ hj
 simp only[XL,Bool.or_eq_true,decide_eq_true_eq]
 omega
theorem zgU {i j:Int}(hj:j.natAbs < 18446744073709551616):XL i j=true:=by
 simp only[XL,Bool.or_eq_true,decide_eq_true_eq]
 exact .inr hj
theorem JG {i j:Int}(hi:i.natAbs < 18446744073709551616):XL i j=true:=by
 simp only[XL,Bool.or_eq_true,decide_eq_true_eq]
 exact .inl (.inr hi)
theorem WI {j:Int}{m:Nat}(h0:j ≠ 0) (hj:j.natAbs < 2 ^ m) (h:m < 9000):Qu j=true:=by
 have h2:=zdJ hj
 simp only[Qu,Bool.and_eq_true,decide_eq_true_eq]
 exact⟨h0,by omega⟩
theorem Yq {i j:Int}{m n:Nat}(hi:i.natAbs < 2 ^ m) (hj:j.natAbs < 2 ^ n):(i * j).natAbs < 2 ^ (m+n):=by
 rw[Int.natAbs_mul,Nat.pow_add]
 exact Nat.mul_lt_mul'' hi hj
theorem zbG {i j:Int}{m:Nat}(hi:i.natAbs < 2 ^ m) (hj:j.natAbs < 2 ^ m):(i+j).natAbs < 2 ^ (m+1):=by
 have:=Int.natAbs_add_le i j
 rw[Nat.pow_succ];omega
theorem zcz {m n:Nat}(h:m<=n):2 ^ m<=2 ^ n:=Nat.pow_le_pow_right (by decide) h
def fr (q:Rat):PyData:=.tuple [.int q.num,.int (q.den:Int)]
structure Sz (n:Nat) (q:Rat):Prop where
 num:q.num.natAbs < 2 ^ n
 den:q.den < 2 ^ n
theorem Sz.mono {m n:Nat}{q:Rat}(h:Sz m q) (l:m<=n):Sz n q:=⟨Nat.lt_of_lt_of_le h.num (zcz l),Nat.lt_of_lt_of_le h.den (zcz l)⟩
theorem Sz.denI {n:Nat}{q:Rat}(h:Sz n q):((q.den:Int)).natAbs < 2 ^ n:=by rw[Int.natAbs_natCast];exact h.den
theorem WJ (q:Rat):(q.den:Int) ≠ 0:=by have:=q.den_nz;omega
theorem W6 {u l:Int}{n:Nat}(hl:l ≠ 0) (h1:u.natAbs < 2 ^ n) (h2:l.natAbs < 2 ^ n):Sz n (Rat.divInt u l):=by
 constructor
 ·rw[Rat.num_divInt]
  refine Nat.lt_of_le_of_lt ?_ h1
  have e:(l.sign * u / (l.gcd u:Int)).natAbs<=(l.sign * u).natAbs:=Int.natAbs_ediv_le_natAbs _ _
  refine Nat.le_trans e ?_
  rw[Int.natAbs_mul,Int.natAbs_sign_of_ne_zero hl,Nat.one_mul]
  exact Nat.le_refl _
 ·rw[Rat.den_divInt,if_neg hl]
  exact Nat.lt_of_le_of_lt (Nat.div_le_self _ _) h2
theorem zfu {u l:Int}(hl:l ≠ 0) {q:Rat}(e:q=Rat.divInt u l):q.num * l=u * q.den:=by
 have h:Rat.divInt q.num q.den=Rat.divInt u l:=by rw[Rat.num_divInt_den];exact e
 exact(Rat.divInt_eq_divInt_iff (WJ q) hl).mp h
theorem zdL (q:Rat):Int.gcd q.num q.den=1:=q.reduced
def uGcd:List Sl->Nat:=fun G=>match(G[1]?:Option Sl) with
 | some (.val (.int b))=>b.natAbs+1
 | _=>0
def gcdC:DT:=tV (d2 fNe (dVar 1) (dC (.int 0)))
def gcdB:DS:=dSeq (dSet 2 [] (d2 fMod (dVar 0) (dVar 1))) (dSeq (dSet 0 [] (dVar 1)) (dSet 1 [] (dVar 2)))
theorem gcd_step {a b:Int}(ha:0<=a) (hb:0<=b):Int.gcd b (a % b)=Int.gcd a b:=by
 obtain⟨m,rfl⟩:=Int.eq_ofNat_of_zero_le ha
 obtain⟨n,rfl⟩:=Int.eq_ofNat_of_zero_le hb
 rw[<- Int.natCast_emod,Int.gcd_natCast_natCast,Int.gcd_natCast_natCast,Nat.gcd_comm n,<- Nat.gcd_rec,Nat.gcd_comm]
theorem zer:∀(n:Nat) (a b:Int) (s:Sl),0<=a->0<=b->b.natAbs < n ->
  ∃s',Yi gcdC gcdB n [.val (.int a),.val (.int b),s]=.ok (.nx [.val (.int (Int.gcd a b)),.val (.int 0),s'])
 | 0,a,b,s,ha,hb,h=>by omega
 | n+1,a,b,s,ha,hb,h=>by
  unfold Yi
  by_cases hz:b=0
  ·subst hz
   refine⟨s,?_⟩
   simp[gcdC,fNe,Int.natAbs_of_nonneg ha]
  ·have hf:Int.fmod a b=a % b:=Int.fmod_eq_emod_of_nonneg a hb
   have h1:0<=a % b:=Int.emod_nonneg a hz
   have h2:a % b < b:=Int.emod_lt_of_pos a (by omega)
   obtain⟨s',e⟩:=zer n b (a % b) (.val (.int (a % b))) hb h1 (by omega)
   refine⟨s',?_⟩
   rw[gcd_step ha hb] at e
   simpa[gcdC,gcdB,fNe,hz,hf] using e
def dGcd:DS:=dSeq (dSet 0 [] (d1 fAbs (dVar 0))) (dSeq (dSet 1 [] (d1 fAbs (dVar 1))) (dSeq (zam uGcd gcdC gcdB) (dRet (dVar 0))))
theorem abs_if (a:Int):(if a < 0 then -a else a)=(a.natAbs:Int):=by split <;> omega
theorem gcd_ok (a b:Int):runF 3 2 dGcd [.int a,.int b]=.ok (.int (Int.gcd a b)):=by
 obtain⟨s',e⟩:=zer (b.natAbs+1) a.natAbs b.natAbs .emp (Int.natCast_nonneg _) (Int.natCast_nonneg _) (by simp)
 have g:Int.gcd (a.natAbs:Int) (b.natAbs:Int)=Int.gcd a b:=by simp[Int.gcd]
 rw[g] at e
 simp[runF,dGcd,abs_if,uGcd,e]
end Fx
namespace Fx
open PySem
theorem UW {st:PyData->List Sl->Res (List Sl)}{b:DS}(Inv:Nat->List Sl->Prop):∀(ts:List PyData) (k:Nat) (G:List Sl),Inv k G ->
  (∀i t G,ts[i]? = some t->Inv (k+i) G->∃G1,st t G=.ok G1/\∃G2,(b G1=.ok (.nx G2)\/b G1=.ok (.ct G2))/\Inv (k+i+1) G2) ->
  ∃G',forL st b ts G=.ok (.nx G')/\Inv (k+ts.length) G'
 | [],k,G,h0,_=>⟨G,rfl,h0⟩
 | t::ts,k,G,h0,hs=>by
  obtain⟨G1,e1,G2,e2,h2⟩:=hs 0 t G rfl h0
  obtain⟨G',e3,h3⟩:=UW Inv ts (k+1) G2 h2 fun i t' G' ht hi=>by
   have:=hs (i+1) t' G' (by simpa using ht) (by rw[<- Nat.add_assoc,Nat.add_right_comm];exact hi)
   simpa[Nat.add_assoc,Nat.add_comm,Nat.add_left_comm] using this
  refine⟨G',?_,by simpa[Nat.add_assoc,Nat.add_comm,Nat.add_left_comm] using h3⟩
  rw[forL,e1,Res.bind_ok]
  rcases e2 with e2 | e2 <;> rw[e2,Res.bind_ok] <;> exact e3
theorem Yp (lo:Int) (n:Nat):(rngT lo n).length=n:=by simp[rngT]
theorem zgl {lo:Int}{n i:Nat}{t:PyData}(h:(rngT lo n)[i]? = some t):i < n/\t=.int (lo+(i:Int)):=by
 unfold rngT at h
 rw[List.getElem?_map] at h
 by_cases hi:i < n
 ·rw[List.getElem?_eq_getElem (by simpa using hi)] at h
  simp at h
  exact⟨hi,h.symm⟩
 ·rw[List.getElem?_eq_none (by simpa using hi)] at h
  cases h
theorem zbP {st:PyData->List Sl->Res (List Sl)}{b:DS}{n:Nat}{G:List Sl}(Inv:Nat->List Sl->Prop) (h0:Inv 0 G)
  (hs:∀i G,i < n->Inv i G->∃G1,st (.int (i:Int)) G=.ok G1/\∃G2,(b G1=.ok (.nx G2)\/b G1=.ok (.ct G2))/\Inv (i+1) G2) :
  ∃G',forL st b (rngT 0 n) G=.ok (.nx G')/\Inv n G':=by
 obtain⟨G',e,h⟩:=UW Inv (rngT 0 n) 0 G h0 fun i t G ht hi=>by
  obtain⟨hl,rfl⟩:=zgl ht
  simpa using hs i G hl (by simpa using hi)
 refine⟨G',e,?_⟩
 rw[Yp] at h
 simpa using h
theorem ZY {α:Type}{st:PyData->List Sl->Res (List Sl)}{e:DE}{C:List Sl}(inj f:α->PyData):∀(xs:List α),(∀x ∈ xs,∃G1,st (inj x) C=.ok G1/\e G1=.ok (f x))->Yj st tT e C (xs.map inj)=.ok (xs.map f)
 | [],_=>rfl
 | t::ts,h=>by
  obtain⟨G1,e1,e2⟩:=h t List.mem_cons_self
  have ih:=ZY inj f ts fun t' ht=>h t' (List.mem_cons_of_mem _ ht)
  rw[List.map_cons]
  unfold Yj
  simp[e1,e2,ih]
theorem Vb {α:Type}{st:PyData->List Sl->Res (List Sl)}{c:DT}{e:DE}{C:List Sl}(inj f:α->PyData) (p:α->Bool):∀(xs:List α),(∀x ∈ xs,∃G1,st (inj x) C=.ok G1/\c G1=.ok (p x)/\(p x=true->e G1=.ok (f x))) ->
  Yj st c e C (xs.map inj)=.ok ((xs.filter p).map f)
 | [],_=>rfl
 | t::ts,h=>by
  obtain⟨G1,e1,e2,e3⟩:=h t List.mem_cons_self
  have ih:=Vb inj f p ts fun t' ht=>h t' (List.mem_cons_of_mem _ ht)
  rw[List.map_cons]
  unfold Yj
  cases hp:p t with
  | false=>simp[e1,e2,ih,hp]
  | true=>simp[e1,e2,e3 hp,ih,hp]
theorem Y1 (n:Nat):rngT 0 n=(List.range n).map fun(k:Nat)=>PyData.int (k:Int):=by simp[rngT]
theorem Sz.ofInt {n:Nat}{i:Int}(h:i.natAbs < 2 ^ n) (h1:0 < n):Sz n (i:Rat):=⟨by simpa using h,by
 have:2 ^ 1<=2 ^ n:=zcz h1
 simp;omega⟩
theorem Sz.zero:Sz 1 0:=⟨by decide,by decide⟩
theorem zfE (a b:Rat):a+b=Rat.divInt (a.num * b.den+b.num * a.den) (a.den * b.den):=by
 have:=Rat.divInt_add_divInt a.num b.num (WJ a) (WJ b)
 rw[Rat.num_divInt_den,Rat.num_divInt_den] at this
 exact this
theorem zaP (a b:Rat):a * b=Rat.divInt (a.num * b.num) (a.den * b.den):=by
 have:=Rat.divInt_mul_divInt a.num b.num (d₁:=a.den) (d₂:=b.den)
 rw[Rat.num_divInt_den,Rat.num_divInt_den] at this
 exact this
theorem Sz.add {m n:Nat}{a b:Rat}(ha:Sz m a) (hb:Sz n b):Sz (m+n+1) (a+b):=by
 rw[zfE]
 have h1:=Yq ha.num hb.denI
 have h2:=Yq hb.num ha.denI
 rw[Nat.add_comm n m] at h2
 exact W6 (Int.mul_ne_zero (WJ a) (WJ b)) (zbG h1 h2) (Nat.lt_of_lt_of_le (Yq ha.denI hb.denI) (zcz (Nat.le_succ _)))
theorem Sz.mul {m n:Nat}{a b:Rat}(ha:Sz m a) (hb:Sz n b):Sz (m+n) (a * b):=by
 rw[zaP]
 exact W6 (Int.mul_ne_zero (WJ a) (WJ b)) (Yq ha.num hb.num) (Yq ha.denI hb.denI)
theorem Sz.neg {m:Nat}{a:Rat}(ha:Sz m a):Sz m (-a):=⟨by simpa using ha.num,by simpa using ha.den⟩
theorem zbf {α:Type}{f:α->PyData}:∀(xs:List α),(∀x ∈ xs,(f x).canLay0=true)->PyData.canLayAll0 (xs.map f)=true
 | [],_=>by simp[PyData.canLayAll0]
 | x::xs,h=>by simp[PyData.canLayAll0,h x List.mem_cons_self,zbf xs fun y hy=>h y (List.mem_cons_of_mem _ hy)]
theorem zcZ {α:Type}{f:α->PyData}{n:Nat}:∀(xs:List α),(∀x ∈ xs,(f x).depth<=n)->PyData.depthAll (xs.map f)<=n
 | [],_=>by simp[PyData.depthAll]
 | x::xs,h=>by
  have h1:=h x List.mem_cons_self
  have h2:=zcZ (f:=f) (n:=n) xs fun y hy=>h y (List.mem_cons_of_mem _ hy)
  simp only[List.map_cons,PyData.depthAll]
  omega
def Shp (n:Nat) (t:PyData):Prop:=t.canLay0=true/\t.depth<=n
theorem Shp.ok {n:Nat}{t:PyData}(h:Shp n t) (hn:n<=64):Xl t=true:=by
 simp[Xl,h.1];exact Nat.le_trans h.2 hn
theorem zdi (i:Int):Shp 0 (.int i):=⟨by simp[PyData.canLay0],by simp[PyData.depth]⟩
theorem Vi {α:Type}{f:α->PyData}{n:Nat}{xs:List α}(h:∀x ∈ xs,Shp n (f x)):Shp (n+1) (.list (xs.map f)):=by
 refine⟨by simp[PyData.canLay0,zbf xs fun x hx=>(h x hx).1],?_⟩
 have:=zcZ (f:=f) (n:=n) xs fun x hx=>(h x hx).2
 simp[PyData.depth];omega
mutual
theorem zex:∀(t:PyData),t.canLay0=true->t.eqv t=true
 | .none,_=>by simp[PyData.eqv]
 | .bool b,_=>by simp[PyData.eqv]
 | .int i,_=>by simp[PyData.eqv]
 | .str x,_=>by simp[PyData.eqv]
 | .list xs,h=>by simp only[PyData.eqv];exact Uy xs (by simpa[PyData.canLay0] using h)
 | .tuple xs,h=>by simp only[PyData.eqv];exact Uy xs (by simpa[PyData.canLay0] using h)
 | .dict _,h=>by simp[PyData.canLay0] at h
theorem Uy:∀(ts:List PyData),PyData.canLayAll0 ts=true->PyData.eqvAll ts ts=true
 | [],_=>by simp[PyData.eqvAll]
 | t::ts,h=>by
  simp only[PyData.canLayAll0,Bool.and_eq_true] at h
  simp[PyData.eqvAll,zex t h.1,Uy ts h.2]
end
theorem Jo {n:Nat}{t:PyData}(h:Shp n t) (hn:n<=64):fEq t t=.ok (.bool true):=by
 unfold fEq
 split
 ·simp
 ·simp[h.ok hn,zex t h.1]
end Fx
namespace Lw
open PySem Fx
abbrev UI:List Sl->Nat:=uGcd
def za9:DS:=
  (dRet (zfw (d1 (fIs isInt) (dVar 0)) (dNotV (d1 (fIs isBool) (dVar 0)))))
def ZN:DF:=runQ 1 1 za9
def U6:DS:=
  (dRet (dVar 0))
def U7:DS:=
  dSeq (zam UI (tV (d2 fNe (dVar 1) (dC (.int 0))))
  (dSeq (dSet 2 [] (d2 fMod (dVar 0) (dVar 1)))
  (dSeq (dSet 0 [] (dVar 1))
  (dSet 1 [] (dVar 2)))))
  U6
def U8:DS:=
  dSeq (dSet 1 [] (d1 fAbs (dVar 1)))
  U7
def Je:DS:=
  dSeq (dSet 0 [] (d1 fAbs (dVar 0)))
  U8
def Ye:DF:=runQ 3 2 Je
def VN:DS:=
  (dRet (zfw (d2 fGe (d2 fIx (dVar 0) (dC (.int 1))) (dC (.int 1))) (d2 fEq (Zk Ye (Zc (d2 fIx (dVar 0) (dC (.int 0))) (Zc (d2 fIx (dVar 0) (dC (.int 1))) dNil))) (dC (.int 1)))))
def VO:DS:=
  dSeq (dIf (tOr (tNot (tV (Zk ZN (Zc (d2 fIx (dVar 0) (dC (.int 0))) dNil)))) (tNot (tV (Zk ZN (Zc (d2 fIx (dVar 0) (dC (.int 1))) dNil)))))
  (dRet (dC (.bool false)))
  Z2)
  VN
def U4:DS:=
  dSeq (dIf (tOr (tNot (tV (d1 (fIs zdK) (dVar 0)))) (tV (d2 fNe (d1 fLen (dVar 0)) (dC (.int 2)))))
  (dRet (dC (.bool false)))
  Z2)
  VO
def YU:DF:=runQ 1 1 U4
def zbY:DS:=
  (dRet (dTup (Zc (d2 fDiv (dVar 0) (dVar 2)) (Zc (d2 fDiv (dVar 1) (dVar 2)) dNil))))
def zbZ:DS:=
  dSeq (dIf (tV (d2 fLt (dVar 1) (dC (.int 0))))
  (dSet 2 [] (d1 fNeg (dVar 2)))
  Z2)
  zbY
def zb0:DS:=
  dSeq (dSet 2 [] (Zk Ye (Zc (dVar 0) (Zc (dVar 1) dNil))))
  zbZ
def zhI:DS:=
  dSeq (dIf (tV (d2 fEq (dVar 1) (dC (.int 0))))
  dNev
  Z2)
  zb0
def XB:DF:=runQ 3 2 zhI
def d_plus:DS:=
  (dRet (Zk XB (Zc (d2 fAdd (d2 fMul (d2 fIx (dVar 0) (dC (.int 0))) (d2 fIx (dVar 1) (dC (.int 1)))) (d2 fMul (d2 fIx (dVar 1) (dC (.int 0))) (d2 fIx (dVar 0) (dC (.int 1))))) (Zc (d2 fMul (d2 fIx (dVar 0) (dC (.int 1))) (d2 fIx (dVar 1) (dC (.int 1)))) dNil))))
def zaT:DF:=runQ 2 2 d_plus
def zeG:DS:=
  (dRet (dTup (Zc (d1 fNeg (d2 fIx (dVar 0) (dC (.int 0)))) (Zc (d2 fIx (dVar 0) (dC (.int 1))) dNil))))
def UX:DF:=runQ 1 1 zeG
def zhK:DS:=
  (dRet (d2 fLt (d2 fMul (d2 fIx (dVar 0) (dC (.int 0))) (d2 fIx (dVar 1) (dC (.int 1)))) (d2 fMul (d2 fIx (dVar 1) (dC (.int 0))) (d2 fIx (dVar 0) (dC (.int 1))))))
def Qt:DF:=runQ 2 2 zhK
def zag:DS:=
  (dRet (zfw (Zk ZN (Zc (dVar 0) dNil)) (d2 fLe (d1 fAbs (dVar 0)) (dC (.int 999999999999)))))
def Y6:DF:=runQ 1 1 zag
def zaX:DS:=
  (dRet (dVar 2))
def zaY:DS:=
  dSeq (dFor (Uc 3 4) [] (iZip (iSeq (dVar 0)) (iSeq (dVar 1)))
  (dSet 2 [] (Zk zaT (Zc (dVar 2) (Zc (Zk XB (Zc (d2 fMul (dVar 3) (d2 fIx (dVar 4) (dC (.int 0)))) (Zc (d2 fIx (dVar 4) (dC (.int 1))) dNil))) dNil)))))
  zaX
def zeC:DS:=
  dSeq (dSet 2 [] (dTup (Zc (dC (.int 0)) (Zc (dC (.int 1)) dNil))))
  zaY
def WH:DF:=runQ 5 2 zeC
def Wz:DS:=
  (dRet (d2 fAdd (d2 fMul (d2 fIx (dVar 0) (d2 fMod (dVar 1) (d1 fLen (dVar 0)))) (dC (.int 31))) (dVar 1)))
def Xy:DS:=
  dSeq (dIf (tV (d2 fEq (dVar 0) (dLst dNil)))
  (dRet (dC (.int 0)))
  Z2)
  Wz
def X8:DS:=
  dSeq (dIf (tV (d2 fLt (dVar 1) (d1 fLen (dVar 0))))
  (dRet (d2 fIx (dVar 0) (dVar 1)))
  Z2)
  Xy
def Zm:DF:=runQ 2 2 X8
def WN:DS:=
  (dRet (dVar 2))
def WO:DS:=
  dSeq (dIf (tV (d2 fGt (dVar 2) (dVar 1)))
  (dRet (d2 fSub (d2 fSub (dVar 2) (d2 fMul (dC (.int 2)) (dVar 1))) (dC (.int 1))))
  Z2)
  WN
def VL:DS:=
  dSeq (dSet 2 [] (d2 fMod (dVar 0) (d2 fAdd (d2 fMul (dC (.int 2)) (dVar 1)) (dC (.int 1)))))
  WO
def ZT:DF:=runQ 3 2 VL
def Q1:DS:=
  (dRet (dL (Yz 1 [] (Zw 0) (iSeq (dVar 0)) tT (dTup (Zc (dL (zgR (d2 fIx (dVar 0) (dC (.int 0))))) (Zc (d2 fIx (dVar 0) (dC (.int 1))) dNil))))))
def XU:DF:=runQ 1 1 Q1
end Lw
namespace Lw
open PySem Fx
theorem cd_ok (a b:Int):Ye [.int a,.int b]=.ok (.int (Int.gcd a b)):=by show noX (runF 3 2 dGcd [.int a,.int b])=_;rw[gcd_ok];rfl
theorem V8 {u:Int}{g:Nat}:u.fdiv (g:Int)=u / (g:Int):=Int.fdiv_eq_ediv_of_nonneg _ (Int.natCast_nonneg _)
theorem JO {u l:Int}{n:Nat}(hl:l ≠ 0) (h2:l.natAbs < 2 ^ n) (hn:n < 9000):XB [.int u,.int l]=.ok (fr (Rat.divInt u l)):=by
 have hg:0 < Int.gcd u l:=Nat.pos_of_ne_zero (by simp[hl])
 have hgl:Int.gcd u l<=l.natAbs:=Nat.le_of_dvd (by omega) (Int.gcd_dvd_natAbs_right u l)
 have d1:Qu (Int.gcd u l:Int)=true:=WI (m:=n) (by omega) (by rw[Int.natAbs_natCast];omega) hn
 have d2:Qu (-(Int.gcd u l:Int))=true:=WI (m:=n) (by omega) (by rw[Int.natAbs_neg,Int.natAbs_natCast];omega) hn
 have hd1:(Int.gcd u l:Int) ∣ u:=Int.gcd_dvd_left ..
 have hd2:(Int.gcd u l:Int) ∣ l:=Int.gcd_dvd_right ..
 by_cases c:l < 0
 ·have e1:u.fdiv (-(Int.gcd u l:Int))=(Rat.divInt u l).num:=by
   rw[Rat.num_divInt,Int.sign_eq_neg_one_of_neg c,Int.gcd_comm l u,Int.neg_one_mul]
   obtain⟨k,hk⟩:=hd1
   generalize hG:(Int.gcd u l:Int)=G at *
   have hG0:0 < G:=by omega
   rw[hk,Int.fdiv_eq_ediv_of_dvd ⟨-k,by rw[Int.neg_mul_neg]⟩]
   rw[Int.ediv_neg,<- Int.mul_neg,Int.mul_ediv_cancel_left _ (by omega),Int.mul_ediv_cancel_left _ (by omega)]
  have e2:l.fdiv (-(Int.gcd u l:Int))=((Rat.divInt u l).den:Int):=by
   rw[Rat.den_divInt,if_neg hl,Int.gcd_comm l u]
   obtain⟨k,hk⟩:=hd2
   have hna:((l.natAbs / Int.gcd u l:Nat):Int)=-l / (Int.gcd u l:Int):=by
    rw[Int.natCast_ediv]
    have:(l.natAbs:Int)=-l:=by omega
    rw[this]
   rw[hna]
   generalize hG:(Int.gcd u l:Int)=G at *
   have hG0:0 < G:=by omega
   rw[hk,Int.fdiv_eq_ediv_of_dvd ⟨-k,by rw[Int.neg_mul_neg]⟩]
   rw[Int.ediv_neg,<- Int.mul_neg,Int.mul_ediv_cancel_left _ (by omega),Int.mul_ediv_cancel_left _ (by omega)]
  simp[XB,runQ,runF,zhI,zb0,zbZ,zbY,fEq,cd_ok,hl,c,d2,e1,e2,fr]
 ·have e1:u.fdiv (Int.gcd u l:Int)=(Rat.divInt u l).num:=by
   rw[Rat.num_divInt,Int.sign_eq_one_of_pos (by omega),Int.gcd_comm l u,Int.one_mul,V8]
  have e2:l.fdiv (Int.gcd u l:Int)=((Rat.divInt u l).den:Int):=by
   rw[Rat.den_divInt,if_neg hl,Int.gcd_comm l u,V8,Int.natCast_ediv]
   have:(l.natAbs:Int)=l:=by omega
   rw[this]
  simp[XB,runQ,runF,zhI,zb0,zbZ,zbY,fEq,cd_ok,hl,c,d1,e1,e2,fr]
theorem at0 (x y:PyData):atP [x,y] 0=some x:=rfl
theorem at1 (x y:PyData):atP [x,y] 1=some y:=rfl
section
variable {a b:Rat}{m n:Nat}
theorem plus_ok (ha:Sz m a) (hb:Sz n b) (h:m+n < 8999):zaT [fr a,fr b]=.ok (fr (a+b)):=by
 have o1:XL a.num b.den=true:=Xq ha.num hb.denI (by omega)
 have o2:XL b.num a.den=true:=Xq hb.num ha.denI (by omega)
 have o3:XL a.den b.den=true:=Xq ha.denI hb.denI (by omega)
 have z:(a.den:Int) * b.den ≠ 0:=Int.mul_ne_zero (WJ a) (WJ b)
 have e:=JO (u:=a.num * b.den+b.num * a.den) (n:=m+n) z (Yq ha.denI hb.denI) (by omega)
 have q:a+b=Rat.divInt (a.num * b.den+b.num * a.den) (a.den * b.den):=by
  have:=Rat.divInt_add_divInt a.num b.num (WJ a) (WJ b)
  rw[Rat.num_divInt_den,Rat.num_divInt_den] at this
  exact this
 rw[q]
 simp[zaT,runQ,runF,d_plus,at0,at1,o1,o2,o3,e,fr]
theorem zfO:UX [fr a]=.ok (fr (-a)):=by
 simp[UX,runQ,runF,zeG,at0,at1,fr]
theorem below_ok (ha:Sz m a) (hb:Sz n b) (h:m+n < 8999):Qt [fr a,fr b]=.ok (.bool (decide (a < b))):=by
 have o1:XL a.num b.den=true:=Xq ha.num hb.denI (by omega)
 have o2:XL b.num a.den=true:=Xq hb.num ha.denI (by omega)
 simp[Qt,runQ,runF,zhK,at0,at1,o1,o2,fr,Rat.lt_iff]
end
theorem at_lt {ns:List Int}{k:Int}(h0:0<=k) (h:k < ns.length):∃c:Int,atP (ns.map .int) k=some (.int c):=by
 have hk:k.toNat < ns.length:=by omega
 refine⟨ns[k.toNat],?_⟩
 simp[atP,ixP,h0,h,hk]
theorem Us:∀ns:List Int,Xl (.list (ns.map .int))=true:=by
 intro ns
 have h1:∀ns:List Int,PyData.canLayAll0 (ns.map .int)=true:=by
  intro ns
  induction ns with
  | nil=>simp[PyData.canLayAll0]
  | cons n ns ih=>simp[PyData.canLayAll0,PyData.canLay0,ih]
 have h2:∀ns:List Int,PyData.depthAll (ns.map .int)=0:=by
  intro ns
  induction ns with
  | nil=>simp[PyData.depthAll]
  | cons n ns ih=>simp[PyData.depthAll,PyData.depth,ih]
 simp[Xl,PyData.canLay0,PyData.depth,h1,h2]
theorem zhs (ns:List Int):PyData.eqv (.list (ns.map .int)) (.list [])=ns.isEmpty:=by
 cases ns <;> simp[PyData.eqv,PyData.eqvAll]
theorem Ql:Xl (.list [])=true:=Us []
theorem WT (ns:List Int) (k:Int) (h0:0<=k):∃c:Int,Zm [.list (ns.map .int),.int k]=.ok (.int c):=by
 by_cases h:k < ns.length
 ·obtain⟨c,e⟩:=at_lt h0 h
  exact⟨c,by simp[Zm,runQ,runF,X8,Xy,Wz,h,e]⟩
 ·by_cases hz:ns=[]
  ·subst hz
   exact⟨0,by
    have z:=Ql
    have hk:¬k < 0:=by omega
    simp[Zm,runQ,runF,X8,Xy,fEq,z,hk,PyData.eqv,PyData.eqvAll]⟩
  ·have hl:(0:Int) < ns.length:=by
    have:ns.length ≠ 0:=by simpa using hz
    omega
   have hf:Int.fmod k ns.length=k % ns.length:=Int.fmod_eq_emod_of_nonneg _ (by omega)
   obtain⟨c,e⟩:=at_lt (ns:=ns) (k:=k % ns.length) (Int.emod_nonneg _ (by omega)) (Int.emod_lt_of_pos _ hl)
   have hE:ns.isEmpty=false:=by simpa using hz
   have o:XL c 31=true:=zgU (by decide)
   refine⟨c * 31+k,?_⟩
   simp[Zm,runQ,runF,X8,Xy,Wz,h,fEq,Us,Ql,zhs,hE,hz,hf,e,o]
theorem zcF (c w:Int) (hw:0<=w) (hs:w.natAbs < 2 ^ 67):∃r:Int,ZT [.int c,.int w]=.ok (.int r)/\-w<=r/\r<=w:=by
 have o:XL 2 w=true:=JG (by decide)
 have hm:2 * w+1 ≠ 0:=by omega
 have hf:Int.fmod c (2 * w+1)=c % (2 * w+1):=Int.fmod_eq_emod_of_nonneg _ (by omega)
 have h1:0<=c % (2 * w+1):=Int.emod_nonneg _ hm
 have h2:c % (2 * w+1) < 2 * w+1:=Int.emod_lt_of_pos _ (by omega)
 by_cases h:w < c % (2 * w+1)
 ·refine⟨c % (2 * w+1) - 2 * w - 1,?_,by omega,by omega⟩
  simp[ZT,runQ,runF,VL,WO,WN,o,hm,hf,h]
 ·refine⟨c % (2 * w+1),?_,by omega,by omega⟩
  simp[ZT,runQ,runF,VL,WO,WN,o,hm,hf,h]
@[simp] def noD : PyData -> Bool
 | .dict _=>false
 | _=>true
theorem whole_ok (t:PyData) (h:noD t=true):ZN [t]=.ok (.bool (match t with | .int _=>true | _=>false)):=by
 cases t <;> simp[ZN,runQ,runF,za9] at h ⊢
theorem Vx (i:Int):ZN [.int i]=.ok (.bool true):=whole_ok (.int i) rfl
theorem zha (q:Rat):YU [fr q]=.ok (.bool true):=by
 have hd:(1:Int)<=(q.den:Int):=by have:=q.den_nz;omega
 simp[YU,runQ,runF,U4,VO,VN,fr,at0,at1,Vx,cd_ok,hd,fNe,fEq,zdL]
theorem fr_int (w:Int):(PyData.tuple [.int w,.int 1])=fr (w:Rat):=by simp[fr]
theorem zhj:(PyData.tuple [.int 0,.int 1])=fr 0:=by simp[fr]
def dot:List Int->List Rat->Rat
 | w::ws,p::ps=>(w:Rat) * p+dot ws ps
 | _,_=>0
theorem zbU:∀(ws:List Int) (ps:List Rat) (i:Nat) (w:Int) (p:Rat),ws[i]? = some w->ps[i]? = some p->dot (ws.take (i+1)) (ps.take (i+1))=dot (ws.take i) (ps.take i)+(w:Rat) * p
 | w::ws,p::ps,0,w',p',h1,h2=>by
  simp at h1 h2;subst h1;subst h2
  simp[dot,Rat.add_comm]
 | w::ws,p::ps,i+1,w',p',h1,h2=>by
  simp at h1 h2
  have ih:=zbU ws ps i w' p' h1 h2
  simp only[List.take_succ_cons,dot]
  rw[ih,Rat.add_assoc]
 | [],_,i,w',p',h1,h2=>by simp at h1
 | _::_,[],i,w',p',h1,h2=>by simp at h2
structure WP (m n:Nat) (ws:List Int) (ps:List Rat):Prop where
 w:∀x ∈ ws,x.natAbs < 2 ^ m
 p:∀x ∈ ps,Sz n x
 m1:0 < m
 len:ws.length=ps.length
def wSz (m n i:Nat):Nat:=1+i * (m+n+1)
theorem WP.sz {m n:Nat}{ws:List Int}{ps:List Rat}(h:WP m n ws ps):∀i,i<=ps.length->Sz (wSz m n i) (dot (ws.take i) (ps.take i))
 | 0,_=>by simpa[dot,wSz] using Sz.zero
 | i+1,hi=>by
  have hw:i < ws.length:=by rw[h.len];exact hi
  have hp:i < ps.length:=hi
  rw[zbU ws ps i ws[i] ps[i] (by simp[hw]) (by simp[hp])]
  have s1:=h.sz i (Nat.le_of_succ_le hi)
  have s2:=(Sz.ofInt (h.w _ (List.getElem_mem hw)) h.m1).mul (h.p _ (List.getElem_mem hp))
  have:=s1.add s2
  refine this.mono ?_
  simp only[wSz,Nat.succ_mul];omega
theorem zb7 {α:Type}{f:α->PyData}{xs:List α}{i:Nat}(h:i < xs.length):atP (xs.map f) (i:Int)=some (f xs[i]):=by
 simp[atP,ixP,h]
theorem zfH {m n i j:Nat}(h:i<=j):wSz m n i<=wSz m n j:=by
 unfold wSz
 have:=Nat.mul_le_mul_right (m+n+1) h
 omega
def isSeq (t:PyData) (xs:List PyData):Prop:=t=.list xs\/t=.tuple xs
theorem Ve {α β:Type}{f:α->PyData}{g:β->PyData}:∀(xs:List α) (ys:List β),zipT (xs.map f) (ys.map g)=(xs.zip ys).map fun p=>.tuple [f p.1,g p.2]
 | [],ys=>by simp[zipT]
 | x::xs,[]=>by simp[zipT]
 | x::xs,y::ys=>by simp[zipT,Ve xs ys]
theorem zcd {m n:Nat}{ws:List Int}{ps:List Rat}{t:PyData}(ht:isSeq t (ws.map .int)) (h:WP m n ws ps) (hb:wSz m n ps.length+m+n < 8000):WH [t,.list (ps.map fr)]=.ok (fr (dot ws ps)):=by
 obtain⟨G',e,hG⟩:=UW (st:=Uc 3 4) (b:=dSet 2 [] (Zk zaT (Zc (dVar 2) (Zc (Zk XB (Zc (d2 fMul (dVar 3) (d2 fIx (dVar 4) (dC (.int 0)))) (Zc (d2 fIx (dVar 4) (dC (.int 1))) dNil))) dNil))))
  (fun i G=>∃s s',G=[.val t,.val (.list (ps.map fr)),.val (fr (dot (ws.take i) (ps.take i))),s,s']) (zipT (ws.map .int) (ps.map fr)) 0 [.val t,.val (.list (ps.map fr)),.val (fr 0),.emp,.emp] ⟨.emp,.emp,by simp[dot]⟩ fun i x G hx ⟨s,s',hG⟩=>by
   rw[Nat.zero_add] at *
   subst hG
   rw[Ve,List.getElem?_map] at hx
   cases hz:(ws.zip ps)[i]? with
   | none=>rw[hz] at hx;cases hx
   | some p=>
    rw[hz] at hx
    simp at hx
    subst hx
    obtain⟨w1,p1⟩:=p
    obtain⟨h1,h2⟩:=List.getElem?_zip_eq_some.mp hz
    have hi:i < ps.length:=(List.getElem?_eq_some_iff.mp h2).1
    have s1:=h.sz i (Nat.le_of_lt hi)
    have s2:=h.p _ (List.mem_of_getElem? h2)
    have s3:=h.w _ (List.mem_of_getElem? h1)
    have l1:=zfH (m:=m) (n:=n) (Nat.le_of_lt hi)
    have o1:XL w1 p1.num=true:=Xq s3 s2.num (by omega)
    have e1:=JO (u:=w1 * p1.num) (l:=p1.den) (n:=n) (WJ p1) s2.denI (by omega)
    have q1:Rat.divInt (w1 * p1.num) p1.den=(w1:Rat) * p1:=by
     rw[zaP];simp
    rw[q1] at e1
    have e2:=plus_ok s1 ((Sz.ofInt s3 h.m1).mul s2) (by omega)
    refine⟨_,rfl,[.val t,.val (.list (ps.map fr)),.val (fr (dot (ws.take (i+1)) (ps.take (i+1)))),.val (.int w1),.val (fr p1)],.inl ?_,⟨_,_,rfl⟩⟩
    rw[zbU ws ps i w1 p1 h1 h2]
    have f1:fr p1=.tuple [.int p1.num,.int p1.den]:=rfl
    simp[f1,at0,at1,o1,e1,e2]
 obtain⟨s,s',rfl⟩:=hG
 have el:(zipT (ws.map PyData.int) (ps.map fr)).length=ps.length:=by rw[Ve];simp[h.len]
 have e1:dot (ws.take ps.length) (ps.take ps.length)=dot ws ps:=by rw[List.take_length,<- h.len,List.take_length]
 rw[Nat.zero_add,el,e1] at e
 rcases ht with rfl | rfl <;> simp[WH,runQ,runF,zeC,zaY,zaX,zhj,e]
end Lw
namespace Lw
open PySem Fx
abbrev Lim:=List Int × Int
def limL (l:Lim):PyData:=.tuple [.list (l.1.map .int),.int l.2]
def limT (l:Lim):PyData:=.tuple [.tuple (l.1.map .int),.int l.2]
theorem JI {c:Int}{n:Nat}(h:0 < n):∃r:Nat,Int.fmod c (n:Int)=(r:Int)/\r < n:=by
 rw[Int.fmod_eq_emod_of_nonneg _ (by omega)]
 have h1:=Int.emod_nonneg c (b:=(n:Int)) (by omega)
 have h2:=Int.emod_lt_of_pos c (b:=(n:Int)) (by omega)
 exact⟨(c % n).toNat,by omega,by omega⟩
end Lw
namespace Lw
open PySem Fx
theorem zhL (ls:List Lim) (h:ls.length<=1000):XU [.list (ls.map limL)]=.ok (.list (ls.map limL)):=by
 have e:=ZY (st:=Zw 0) (e:=(dTup (Zc (dL (zgR (d2 fIx (dVar 0) (dC (.int 0))))) (Zc (d2 fIx (dVar 0) (dC (.int 1))) dNil)))) (C:=[.emp]) limL limL ls fun l _=>⟨[.val (limL l)],rfl,by simp[limL,at0,at1]⟩
 have hl:ls.length<=16777216:=by omega
 simp[XU,runQ,runF,Q1,hl,e]
theorem zeo {i:Int}(h:i.natAbs<=999999999999):Y6 [.int i]=.ok (.bool true):=by
 have:(if i < 0 then -i else i)<=999999999999:=by split <;> omega
 simp[Y6,runQ,runF,zag,Vx,this]
theorem Qd {α:Type}:∀(xs:List α),allT (xs.map fun _=>PyData.bool true)=.ok true
 | []=>rfl
 | _::xs=>by simp[allT,Qd xs]
structure LimOk (k w:Nat) (l:Lim):Prop where
 len:l.1.length=k
 ws:∀x ∈ l.1,x.natAbs<=w
 bd:l.2.natAbs<=w
theorem zcV {α:Type}{f:α->PyData}:∀(xs:List α) (n:Nat),JU n (xs.map f)=(xs.zipIdx n).map fun p=>.tuple [.int (p.2:Int),f p.1]
 | [],n=>rfl
 | x::xs,n=>by simp[JU,zcV xs (n+1)]
theorem pow40:(999999999999:Nat) < 2 ^ 40:=by decide
def overs (ls:List Lim) (ps:List Rat):List PyData:=((ls.zipIdx).filter fun p=>decide ((p.1.2:Rat) < dot p.1.1 ps)).map fun p=>.int (p.2:Int)
section
variable {k w:Nat}{ls:List Lim}{ps:List Rat}
theorem mem_zipIdx {α:Type}{xs:List α}{n:Nat}{p:α × Nat}(h:p ∈ xs.zipIdx n):p.1 ∈ xs:=by
 have:=List.mem_zipIdx h
 rw[this.2.2]
 exact List.getElem_mem _
end
end Lw
namespace Lw
open PySem Fx
def colN (j:Nat) (l:Lim):Int:=l.1.getD j 0
def Jt (ls:List Lim) (ss:List Rat):Rat:=dot (ls.map (·.2)) ss
theorem JA {α:Type}(f:Nat->α) (k j:Nat) (v:α):((List.range k).map f).set j v=(List.range k).map fun i=>if i=j then v else f i:=by
 apply List.ext_getElem
 ·simp
 ·intro n h1 h2
  simp at h1 h2 ⊢
  rw[List.getElem_set]
  by_cases e:j=n
  ·subst e;simp
  ·simp[e,Ne.symm e]
end Lw
namespace Lw
open PySem Fx
def Um:List Sl->Nat:=fun _=>1000000000000
def zeE:DS:=
  (dRet (dVar 2))
def zeF:DS:=
  dSeq (VU 2 [] (dVar 1) (dC (.int 1)))
  zeE
def d_unit:DS:=
  dSeq (Jf 2 [] (oRep (oLst (Zc (dC (.int 0)) dNil)) (dVar 0)))
  zeF
def QE:DF:=runQ 3 2 d_unit
def za1:DS:=
  (dRet (d2 fAdd (dL (Yz 1 [] (Zw 0) (iSeq (d2 fIx (dVar 0) (dC (.int 0)))) tT (d1 fNeg (dVar 0)))) (dLst (Zc (d2 fIx (dVar 0) (dC (.int 1))) dNil))))
def Wn:DF:=runQ 1 1 za1
def VP:DS:=
  (dRet (dMk ["heads","divisor","rows"] (Zc (dL (zfg (iRng (dVar 2)))) (Zc (dC (.int 1)) (Zc (d2 fAdd (d2 fAdd (dVar 3) (dVar 4)) (dLst (Zc (d2 fAdd (dVar 1) (dLst (Zc (dC (.int 0)) dNil))) dNil))) dNil)))))
def VQ:DS:=
  dSeq (dSet 4 [] (dL (Yz 1 [] (Zw 0) (iSeq (d2 fIx (dVar 0) (dC (.int 1)))) tT (Zk Wn (Zc (dVar 0) dNil)))))
  VP
def VR:DS:=
  dSeq (dSet 3 [] (dL (Yz 1 [2] (Zw 0) (iRng (dVar 2)) tT (Zk QE (Zc (d2 fAdd (dVar 1) (dC (.int 1))) (Zc (dVar 0) dNil))))))
  VQ
def U5:DS:=
  dSeq (dSet 2 [] (d2 fIx (dVar 0) (dC (.int 0))))
  VR
def YV:DF:=runQ 5 2 U5
def za0:DS:=
  (dRet (dL (zfg (zcP (d1 fLen (d1 (fFld "heads") (dVar 0))) (d2 fSub (d1 fLen (d1 (fFld "rows") (dVar 0))) (dC (.int 1)))))))
def Yd:DF:=runQ 1 1 za0
def VE:DS:=
  (dRet (dVar 6))
def VF:DS:=
  dSeq (VU 6 [] (dVar 2) (dVar 5))
  VE
def VG:DS:=
  dSeq (Jf 6 [] (Yz 2 [4,5,3] (Uc 0 1) (iZip (iSeq (dVar 0)) (iSeq (dVar 1))) tT (d2 fDiv (d2 fSub (d2 fMul (dVar 2) (dVar 0)) (d2 fMul (dVar 3) (dVar 1))) (dVar 4))))
  VF
def VH:DS:=
  dSeq (dSet 5 [] (dIfE (tV (d2 fGt (d2 fIx (dVar 1) (dVar 2)) (dC (.int 0)))) (d2 fIx (dVar 0) (dVar 2)) (d1 fNeg (d2 fIx (dVar 0) (dVar 2)))))
  VG
def U1:DS:=
  dSeq (dSet 4 [] (d1 fAbs (d2 fIx (dVar 1) (dVar 2))))
  VH
def YS:DF:=runQ 7 4 U1
def JX:DS:=
  (dRet (dMk ["heads","divisor","rows"] (Zc (dVar 4) (Zc (d1 fAbs (d2 fIx (dVar 3) (dVar 2))) (Zc (dVar 5) dNil)))))
def JY:DS:=
  dSeq (dSet 5 [] (dL (Yz 1 [3,2,0] (Zw 0) (iSeq (d1 (fFld "rows") (dVar 0))) tT (Zk YS (Zc (dVar 0) (Zc (dVar 1) (Zc (dVar 2) (Zc (d1 (fFld "divisor") (dVar 3)) dNil))))))))
  JX
def JZ:DS:=
  dSeq (VU 4 [] (dVar 2) (dVar 1))
  JY
def zaa:DS:=
  dSeq (Jf 4 [] (zgR (d1 (fFld "heads") (dVar 0))))
  JZ
def zc0:DS:=
  dSeq (dSet 3 [] (d2 fIx (d1 (fFld "rows") (dVar 0)) (dVar 1)))
  zaa
def Ys:DF:=runQ 6 3 zc0
def Va:DS:=
  (dRet (dC .none))
def WA:DS:=
  dSeq (dFor (Zw 2) [] (iSeq (Zk Yd (Zc (dVar 0) dNil)))
  (dIf (tV (d2 fNe (d2 fIx (d2 fIx (d1 (fFld "rows") (dVar 0)) (dVar 2)) (dVar 1)) (dC (.int 0))))
  (dRet (dVar 2))
  Z2))
  Va
def ZV:DF:=runQ 3 2 WA
def zah:DS:=
  (dRet (dVar 0))
def zhH:DS:=
  dSeq (dFor (Zw 1) [] (iRng (d1 fLen (d1 (fFld "heads") (dVar 0))))
  (dSeq (dSet 2 [] (Zk ZV (Zc (dVar 0) (Zc (dVar 1) dNil))))
  (dIf (tV (d1 UZ (dVar 2)))
  (dSet 0 [] (Zk Ys (Zc (dVar 0) (Zc (dVar 2) (Zc (dVar 1) dNil)))))
  Z2)))
  zah
def JR:DF:=runQ 3 1 zhH
def zhG:DS:=
  (dRet (dOrV (d2 fGt (dVar 2) (dC (.int 0))) (zfw (d2 fLt (dVar 2) (dC (.int 0))) (d2 fLt (d2 fIx (d1 (fFld "heads") (dVar 0)) (dVar 1)) (d1 fLen (d1 (fFld "heads") (dVar 0)))))))
def Qs:DF:=runQ 3 3 zhG
def Xw:DS:=
  (dRet (dMinK [0] (dVar 3) (d2 fIx (d1 (fFld "heads") (dVar 1)) (dVar 0))))
def Xx:DS:=
  dSeq (dSet 3 [] (dL (Yz 1 [0,2] (Zw 0) (iRng (d1 fLen (d1 (fFld "heads") (dVar 0)))) (tV (Zk Qs (Zc (dVar 1) (Zc (dVar 0) (Zc (d2 fIx (dVar 2) (dVar 0)) dNil))))) (dVar 0))))
  Xw
def X4:DS:=
  dSeq (dSet 2 [] (d2 fIx (d1 (fFld "rows") (dVar 0)) (dVar 1)))
  Xx
def Zj:DF:=runQ 4 2 X4
def Ug:DS:=
  (dRet (dC .none))
def VI:DS:=
  dSeq (dFor (Zw 1) [] (iSeq (Zk Yd (Zc (dVar 0) dNil)))
  (dIf (tV (d2 fLt (d2 fIx (d2 fIx (d1 (fFld "rows") (dVar 0)) (dVar 1)) (d1 fNeg (dC (.int 1)))) (dC (.int 0))))
  (dRet (dVar 1))
  Z2))
  Ug
def ZA:DF:=runQ 2 1 VI
def Vq:DS:=
  (dRet (dTup (Zc (dVar 2) (Zc (dC .none) dNil))))
def zad:DS:=
  dSeq (zam Um (tV (d1 UZ (dVar 3)))
  (dSeq (dSet 4 [] (Zk Zj (Zc (dVar 2) (Zc (dVar 3) dNil))))
  (dSeq (dIf (tV (d1 fIsN (dVar 4)))
  (dRet (dTup (Zc (dVar 2) (Zc (dVar 3) dNil))))
  Z2)
  (dSeq (dSet 2 [] (Zk Ys (Zc (dVar 2) (Zc (dVar 3) (Zc (dVar 4) dNil)))))
  (dSet 3 [] (Zk ZA (Zc (dVar 2) dNil)))))))
  Vq
def UF:DS:=
  dSeq (dSet 3 [] (Zk ZA (Zc (dVar 2) dNil)))
  zad
def zae:DS:=
  dSeq (dSet 2 [] (Zk JR (Zc (Zk YV (Zc (dVar 0) (Zc (dVar 1) dNil))) dNil)))
  UF
def Z8:DF:=runQ 5 2 zae
def za2:DS:=
  (dRet (dL (Yz 1 [0] (Zw 0) (iRng (d1 fLen (d1 (fFld "heads") (dVar 0)))) tT (Zk XB (Zc (d2 fIx (d2 fIx (d1 (fFld "rows") (dVar 1)) (dVar 0)) (d1 fNeg (dC (.int 1)))) (Zc (d1 (fFld "divisor") (dVar 1)) dNil))))))
def YT:DF:=runQ 1 1 za2
def Vp:DS:=
  (dRetO 3)
def U2:DS:=
  dSeq (dFor (Uc 4 5) [] (iZip (iSeq (d1 (fFld "heads") (dVar 0))) (iSeq (d2 fIx (d1 (fFld "rows") (dVar 0)) (dVar 1))))
  (dIf (tV (d2 fGe (dVar 4) (dVar 2)))
  (VU 3 [] (d2 fSub (dVar 4) (dVar 2)) (Zk XB (Zc (d1 fNeg (dVar 5)) (Zc (d1 (fFld "divisor") (dVar 0)) dNil))))
  Z2))
  Vp
def U3:DS:=
  dSeq (Jf 3 [] (oRep (oLst (Zc (dTup (Zc (dC (.int 0)) (Zc (dC (.int 1)) dNil))) dNil)) (d1 fLen (Zk Yd (Zc (dVar 0) dNil)))))
  U2
def zac:DS:=
  dSeq (dSet 2 [] (d1 fLen (d1 (fFld "heads") (dVar 0))))
  U3
def Y5:DF:=runQ 6 2 zac
def Q4:DS:=
  (dRet (dVar 2))
def Q5:DS:=
  dSeq (VU 2 [] (d2 fSub (dVar 1) (d1 fLen (d1 (fFld "heads") (dVar 0)))) (dTup (Zc (dC (.int 1)) (Zc (dC (.int 1)) dNil))))
  Q4
def zbb:DS:=
  dSeq (Jf 2 [] (oCall Y5 (Zc (dVar 0) (Zc (dVar 1) dNil))))
  Q5
def Xi:DF:=runQ 3 2 zbb
def za8:DS:=
  (dRet (dTup (Zc (dC (.str (PySem.Str.ofString "clash"))) (Zc (Zk Xi (Zc (d2 fIx (dVar 1) (dC (.int 0))) (Zc (d2 fIx (dVar 1) (dC (.int 1))) dNil))) dNil))))
def Qx:DS:=
  dSeq (dIf (tV (d1 fIsN (d2 fIx (dVar 1) (dC (.int 1)))))
  (dRet (dTup (Zc (dC (.str (PySem.Str.ofString "point"))) (Zc (Zk YT (Zc (d2 fIx (dVar 1) (dC (.int 0))) dNil)) dNil))))
  Z2)
  za8
def zbX:DS:=
  dSeq (dSet 1 [] (Zk Z8 (Zc (dVar 0) (Zc (dL (oRep (oLst (Zc (dC (.int 0)) dNil)) (d2 fIx (dVar 0) (dC (.int 0))))) dNil))))
  Qx
def Xs:DF:=runQ 2 1 zbX
end Lw
namespace Sx
def sumN:Nat->(Nat->Int)->Int
 | 0,_=>0
 | n+1,f=>sumN n f+f n
theorem ZP:∀{n:Nat}{f g:Nat->Int},(∀i,i < n->f i=g i)->sumN n f=sumN n g
 | 0,f,g,h=>rfl
 | n+1,f,g,h=>by
  simp only[sumN]
  rw[ZP (fun i hi=>h i (by omega)),h n (by omega)]
theorem zbi (n:Nat) (f g:Nat->Int):sumN n (fun i=>f i+g i)=sumN n f+sumN n g:=by
 induction n with
 | zero=>rfl
 | succ n ih=>simp only[sumN,ih];omega
theorem Wq (n:Nat) (a:Int) (f:Nat->Int):sumN n (fun i=>a * f i)=a * sumN n f:=by
 induction n with
 | zero=>simp[sumN]
 | succ n ih=>simp only[sumN,ih,Int.mul_add]
theorem zbh {n:Nat}{f:Nat->Int}(h:∀i,i < n->f i=0):sumN n f=0:=by
 induction n with
 | zero=>rfl
 | succ n ih=>simp only[sumN,ih (fun i hi=>h i (by omega)),h n (by omega)];rfl
theorem Qi {n k:Nat}{f:Nat->Int}(hk:k < n) (h:∀i,i < n->i ≠ k->f i=0):sumN n f=f k:=by
 induction n with
 | zero=>omega
 | succ n ih=>
  simp only[sumN]
  by_cases e:k=n
  ·subst e
   rw[zbh (fun i hi=>h i (by omega) (by omega))];omega
  ·rw[ih (by omega) (fun i hi=>h i (by omega)),h n (by omega) (by omega)];omega
theorem zde {n k l:Nat}{f:Nat->Int}(hk:k < l) (hl:l < n) (h:∀i,i < n->i ≠ k->i ≠ l->f i=0):sumN n f=f k+f l:=by
 induction n with
 | zero=>omega
 | succ n ih=>
  simp only[sumN]
  by_cases e:l=n
  ·subst e
   rw[Qi (k:=k) (by omega) (fun i hi hne=>h i (by omega) hne (by omega))]
  ·rw[ih (by omega) (fun i hi=>h i (by omega)),h n (by omega) (by omega) (by omega)];omega
theorem sum_le {n:Nat}{f g:Nat->Int}(h:∀i,i < n->f i<=g i):sumN n f<=sumN n g:=by
 induction n with
 | zero=>simp[sumN]
 | succ n ih=>
  have:=ih fun i hi=>h i (by omega)
  have:=h n (by omega)
  simp only[sumN];omega
theorem zfZ (n:Nat) (a:Int):sumN n (fun _=>a)=n * a:=by
 induction n with
 | zero=>simp[sumN]
 | succ n ih=>simp only[sumN,ih];rw[Int.natCast_succ,Int.add_mul];omega
abbrev Vec:=Nat->Int
abbrev Mat:=Nat->Vec
def skip (i:Nat) (v:Mat):Mat:=fun k=>if k < i then v k else v (k+1)
def sg:Nat->Int
 | 0=>1
 | n+1=>- sg n
def det:Nat->Mat->Int
 | 0,_=>1
 | n+1,v=>sumN (n+1) fun i=>sg i * v i n * det n (skip i v)
def put (v:Mat) (k:Nat) (x:Vec):Mat:=fun i=>if i=k then x else v i
@[simp] theorem Xo (v : Mat) (k : Nat) (x : Vec) : put v k x k = x := if_pos rfl
theorem WE {v:Mat}{k i:Nat}{x:Vec}(h:i ≠ k):put v k x i=v i:=if_neg h
theorem put_put (v:Mat) (k:Nat) (x y:Vec):put (put v k x) k y=put v k y:=by
 funext i;unfold put;by_cases e:i=k <;> simp[e]
theorem WF {v:Mat}{k l:Nat}{x y:Vec}(h:k ≠ l):put (put v k x) l y=put (put v l y) k x:=by
 funext i;unfold put
 by_cases e:i=k
 ·by_cases e2:i=l
  ·omega
  ·simp[e,h]
 ·simp[e]
theorem Vl (v:Mat) (k:Nat):put v k (v k)=v:=by
 funext i;unfold put;by_cases e:i=k <;> simp[e]
theorem XZ:∀{n:Nat}{v u:Mat},(∀i c,i < n->c < n->v i c=u i c)->det n v=det n u
 | 0,v,u,h=>rfl
 | n+1,v,u,h=>by
  simp only[det]
  refine ZP fun i hi=>?_
  rw[h i n hi (by omega)]
  congr 1
  refine XZ fun k c hk hc=>?_
  unfold skip
  split
  ·exact h k c (by omega) (by omega)
  ·exact h (k+1) c (by omega) (by omega)
theorem zbm (v:Mat) (k:Nat) (x:Vec):skip k (put v k x)=skip k v:=by
 funext i;unfold skip put
 split
 ·rw[if_neg (by omega)]
 ·rw[if_neg (by omega)]
theorem Uq {v:Mat}{i k:Nat}{x:Vec}(h:k < i):skip i (put v k x)=put (skip i v) k x:=by
 funext j;unfold skip put
 by_cases e:j=k
 ·subst e;simp[h]
 ·simp only[e,if_false]
  split
  ·rfl
  ·rw[if_neg (by omega)]
theorem Ur {v:Mat}{i k:Nat}{x:Vec}(h:i < k):skip i (put v k x)=put (skip i v) (k - 1) x:=by
 funext j;unfold skip put
 by_cases e:j=k - 1
 ·subst e
  rw[if_neg (by omega),if_pos (by omega),if_pos rfl]
 ·rw[if_neg e]
  split
  ·rename_i g;rw[if_neg (by omega)];exact(if_pos g).symm
  ·rename_i g;rw[if_neg (by omega)];exact(if_neg g).symm
theorem UA:∀{n:Nat}(v:Mat) {k:Nat}(a b:Int) (x y:Vec),k < n->det n (put v k fun c=>a * x c+b * y c)=a * det n (put v k x)+b * det n (put v k y)
 | 0,v,k,a,b,x,y,h=>by omega
 | n+1,v,k,a,b,x,y,h=>by
  simp only[det]
  rw[<- Wq,<- Wq,<- zbi]
  refine ZP fun i hi=>?_
  by_cases e:i=k
  ·subst e
   simp only[Xo,zbm]
   generalize det n (skip i v)=d
   generalize sg i=s
   grind
  ·rw[WE e,WE e,WE e]
   rcases Nat.lt_or_gt_of_ne e with g | g
   ·rw[Ur g,Ur g,Ur g,UA (skip i v) a b x y (by omega)]
    grind
   ·rw[Uq g,Uq g,Uq g,UA (skip i v) a b x y (by omega)]
    grind
theorem zbW:∀{n:Nat}{v:Mat}{k:Nat},k+1 < n->(∀c,c < n->v k c=v (k+1) c)->det n v=0
 | 0,v,k,h,e=>by omega
 | n+1,v,k,h,e=>by
  simp only[det]
  rw[zde (k:=k) (l:=k+1) (by omega) h fun i hi h1 h2=>?_]
  ·have:det n (skip k v)=det n (skip (k+1) v):=by
    refine XZ fun i c hi hc=>?_
    unfold skip
    by_cases g:i < k
    ·rw[if_pos g,if_pos (by omega)]
    ·rw[if_neg g]
     by_cases g2:i=k
     ·subst g2;rw[if_pos (by omega)];exact(e c (by omega)).symm
     ·rw[if_neg (by omega)]
   rw[this,e n (by omega)]
   simp only[sg]
   generalize det n (skip (k+1) v)=d
   grind
  ·rcases Nat.lt_or_gt_of_ne h1 with g | g
   ·rw[zbW (n:=n) (v:=skip i v) (k:=k - 1) (by omega),Int.mul_zero]
    intro c hc
    unfold skip
    rw[if_neg (by omega),if_neg (by omega),show k - 1+1=k by omega]
    exact e c (by omega)
   ·rw[zbW (n:=n) (v:=skip i v) (k:=k) (by omega),Int.mul_zero]
    intro c hc
    unfold skip
    rw[if_pos (by omega),if_pos (by omega)]
    exact e c (by omega)
theorem JW {n:Nat}{v:Mat}{p l:Nat}(hp:p < n) (hl:l < n) (hne:p ≠ l) (alt:∀z:Vec,det n (put (put v p z) l z)=0) (x y:Vec):det n (put (put v p y) l x)=- det n (put (put v p x) l y):=by
 have h:=alt fun c=>1 * x c+1 * y c
 rw[UA _ 1 1 x y hl,WF hne,WF hne,UA _ 1 1 x y hp,UA _ 1 1 x y hp,<- WF hne,<- WF hne,<- WF hne,<- WF hne,alt x,alt y] at h
 omega
theorem zdP {n:Nat}:∀(d:Nat) {v:Mat}{k l:Nat},l=k+1+d->l < n->(∀c,c < n->v k c=v l c)->det n v=0
 | 0,v,k,l,h,hl,e=>by subst h;exact zbW hl e
 | d+1,v,k,l,h,hl,e=>by
  obtain⟨m,rfl⟩:∃m,l=m+1:=⟨k+1+d,by omega⟩
  have an:=JW (n:=n) (v:=v) (p:=m) (l:=m+1) (by omega) hl (by omega) (fun z=>zbW hl fun c hc=>by
   rw[WE (i:=m) (k:=m+1) (by omega),Xo,Xo]) (v m) (v (m+1))
  have z:=zdP (n:=n) d (v:=put (put v m (v (m+1))) (m+1) (v m)) (k:=k) (l:=m) (by omega) (by omega) fun c hc=>by
   rw[WE (i:=k) (k:=m+1) (by omega),WE (i:=k) (k:=m) (by omega),WE (i:=m) (k:=m+1) (by omega),Xo];exact e c hc
  rw[z,Vl,Vl] at an
  omega
theorem VD {n:Nat}{v:Mat}{k l:Nat}(hk:k < n) (hl:l < n) (hne:k ≠ l) (e:∀c,c < n->v k c=v l c):det n v=0:=by
 rcases Nat.lt_or_gt_of_ne hne with g | g
 ·exact zdP (l - k - 1) (by omega) hl e
 ·exact zdP (k - l - 1) (by omega) hk fun c hc=>(e c hc).symm
theorem det_anti {n:Nat}{v:Mat}{p l:Nat}(hp:p < n) (hl:l < n) (hne:p ≠ l) (x y:Vec):det n (put (put v p y) l x)=- det n (put (put v p x) l y):=
 JW hp hl hne (fun z=>VD hp hl hne fun c hc=>by rw[WE hne,Xo,Xo]) x y
theorem zbV {n:Nat}(v:Mat) {k:Nat}(a:Int) (x:Vec) (h:k < n):det n (put v k fun c=>a * x c)=a * det n (put v k x):=by
 have:=UA v a 0 x x h
 simpa using this
theorem zdO {n:Nat}(v:Mat) {k:Nat}(h:k < n) (m:Nat) (a:Nat->Int) (u:Nat->Vec):det n (put v k fun c=>sumN m fun j=>a j * u j c)=sumN m fun j=>a j * det n (put v k (u j)):=by
 induction m with
 | zero=>
  simp only[sumN]
  have:=zbV v 0 (fun _=>0) h
  simpa using this
 | succ m ih=>
  simp only[sumN]
  have:=UA v 1 (a m) (fun c=>sumN m fun j=>a j * u j c) (u m) h
  simp only[Int.one_mul] at this
  rw[this,ih]
theorem sg_abs (n:Nat):sg n=1\/sg n=-1:=by
 induction n with
 | zero=>exact .inl rfl
 | succ n ih=>simp only[sg];omega
def fact:Nat->Nat
 | 0=>1
 | n+1=>(n+1) * fact n
theorem sum_abs {n:Nat}{f:Nat->Int}{B:Nat}(h:∀i,i < n->(f i).natAbs<=B):(sumN n f).natAbs<=n * B:=by
 induction n with
 | zero=>simp[sumN]
 | succ n ih=>
  have h1:=ih fun i hi=>h i (by omega)
  have h2:=h n (by omega)
  simp only[sumN,Nat.succ_mul]
  omega
theorem zdQ {B:Nat}:∀{n:Nat}{v:Mat},(∀i c,i < n->c < n->(v i c).natAbs<=B)->(det n v).natAbs<=fact n * B ^ n
 | 0,v,h=>by simp[det,fact]
 | n+1,v,h=>by
  simp only[det,fact]
  have:=sum_abs (n:=n+1) (f:=fun i=>sg i * v i n * det n (skip i v)) (B:=B * (fact n * B ^ n)) fun i hi=>by
   have h1:=h i n hi (by omega)
   have h2:=zdQ (n:=n) (v:=skip i v) (B:=B) fun k c hk hc=>by
    unfold skip
    split
    ·exact h k c (by omega) (by omega)
    ·exact h (k+1) c (by omega) (by omega)
   rw[Int.natAbs_mul,Int.natAbs_mul]
   have h3:(sg i).natAbs=1:=by rcases sg_abs i with e | e <;> rw[e] <;> rfl
   rw[h3,Nat.one_mul]
   exact Nat.mul_le_mul h1 h2
  refine Nat.le_trans this (Nat.le_of_eq ?_)
  rw[Nat.pow_succ]
  simp only[Nat.mul_assoc,Nat.mul_comm,Nat.mul_left_comm]
end Sx
namespace Sx
def eK (K:Nat):Vec:=fun c=>if c=K then 1 else 0
def Vh (K:Nat) (M:Mat) (h:Nat->Nat):Mat:=fun j=>if j < K then M (h j) else eK K
structure Bd where
 h:Nat->Nat
 D:Int
 R:Nat->Nat->Int
structure Good (K N:Nat) (M:Mat) (b:Bd):Prop where
 pos:0 < b.D
 dt:∃σ:Int,σ * σ=1/\b.D=σ * det (K+1) (Vh K M b.h)/\∀i j,i < N->j<=K->b.R i j=σ * det (K+1) (put (Vh K M b.h) j (M i))
 cr:∀i c,i < N->c<=K->sumN (K+1) (fun j=>b.R i j * Vh K M b.h j c)=b.D * M i c
 hN:∀j,j < K->b.h j < N
def iabs (x:Int):Int:=if x < 0 then -x else x
def tk (x y:Int):Int:=if 0 < x then y else -y
theorem iabs_pos {x:Int}(h:x ≠ 0):0 < iabs x:=by unfold iabs;split <;> omega
def swR (b:Bd) (t p:Nat) (i j:Nat):Int:=if j=p then tk (b.R t p) (b.R i p) else(iabs (b.R t p) * b.R i j - tk (b.R t p) (b.R i p) * b.R t j).fdiv b.D
def swp (b:Bd) (t p:Nat):Bd:=⟨fun j=>if j=p then t else b.h j,iabs (b.R t p),swR b t p⟩
theorem zfY {n p:Nat}(h:p < n) (a:Int):sumN n (fun j=>if j=p then a else 0)=a:=by
 rw[Qi h fun i hi hne=>if_neg hne,if_pos rfl]
theorem sum_two' {n k l:Nat}{f:Nat->Int}(hkn:k < n) (hln:l < n) (hne:k ≠ l) (h:∀i,i < n->i ≠ k->i ≠ l->f i=0):sumN n f=f k+f l:=by
 rcases Nat.lt_or_gt_of_ne hne with g | g
 ·exact zde g hln h
 ·rw[zde g hkn fun i hi h1 h2=>h i hi h2 h1];omega
theorem fdiv_of {x y d:Int}(hd:0 < d) (h:x=d * y):x.fdiv d=y:=by
 rw[h,Int.mul_fdiv_cancel_left _ (by omega)]
section
variable {K N:Nat}{M:Mat}{b b1 b2:Bd}{t p:Nat}
theorem Vh_swp (hp:p < K):Vh K M (swp b t p).h=put (Vh K M b.h) p (M t):=by
 funext j
 show(if j < K then M (if j=p then t else b.h j) else eK K)=(if j=p then M t else if j < K then M (b.h j) else eK K)
 by_cases e:j=p
 ·subst e;simp[hp]
 ·simp[e]
theorem Vh_K:Vh K M b.h K=eK K:=if_neg (by omega)
theorem Vh_lt {j:Nat}(h:j < K):Vh K M b.h j=M (b.h j):=if_pos h
theorem Good.lin (g:Good K N M b1) {q:Nat}(hq:q<=K):∃φ:Vec->Int,(∀i,i < N->b1.R i q=φ (M i))/\(∀m (a:Nat->Int) (u:Nat->Vec),φ (fun c=>sumN m fun j=>a j * u j c)=sumN m fun j=>a j * φ (u j))/\(∀u u':Vec,(∀c,c<=K->u c=u' c)->φ u=φ u')/\(∀a u,φ (fun c=>a * u c)=a * φ u)/\φ (eK K)=(if q=K then b1.D else 0)/\∀j,j < K->φ (M (b1.h j))=if j=q then b1.D else 0:=by
 obtain⟨σ,hs,hD,hR⟩:=g.dt
 refine⟨fun u=>σ * det (K+1) (put (Vh K M b1.h) q u),fun i hi=>hR i q hi hq,fun m a u=>?_,fun u u' e=>?_,fun a u=>?_,?_,fun j hj=>?_⟩
 ·show σ * _=_
  rw[zdO _ (by omega),<- Wq]
  exact ZP fun j _=>by rw[Int.mul_left_comm]
 ·show σ * _=σ * _
  congr 1
  refine XZ fun i c hi hc=>?_
  unfold put
  split
  ·exact e c (by omega)
  ·rfl
 ·show σ * _=a * (σ * _)
  rw[zbV _ _ _ (by omega),Int.mul_left_comm]
 ·show σ * det (K+1) (put (Vh K M b1.h) q (eK K))=_
  by_cases e:q=K
  ·subst e
   rw[if_pos rfl,hD,<- Vh_K (b:=b1) (M:=M),Vl]
  ·rw[if_neg e,VD (k:=q) (l:=K) (by omega) (by omega) e (fun c hc=>by rw[Xo,WE (Ne.symm e),Vh_K]),Int.mul_zero]
 ·show σ * det (K+1) (put (Vh K M b1.h) q (M (b1.h j)))=_
  rw[<- Vh_lt (b:=b1) (M:=M) hj]
  by_cases e:j=q
  ·subst e
   rw[if_pos rfl,hD,Vl]
  ·rw[if_neg e,VD (k:=q) (l:=j) (by omega) (by omega) (Ne.symm e) (fun c hc=>by rw[Xo,WE e]),Int.mul_zero]
theorem Good.two (g1:Good K N M b1) (g2:Good K N M b2) {i q:Nat}(hi:i < N) (hq:q<=K) :
  b2.D * b1.R i q=sumN K (fun j=>b2.R i j * b1.R (b2.h j) q)+b2.R i K * (if q=K then b1.D else 0):=by
 obtain⟨φ,h1,h2,h3,h4,h5,_⟩:=g1.lin hq
 rw[h1 i hi,<- h4,<- h5,h3 _ (fun c=>sumN (K+1) fun j=>b2.R i j * Vh K M b2.h j c) fun c hc=>(g2.cr i c hi hc).symm,h2]
 simp only[sumN]
 rw[Vh_K]
 congr 1
 exact ZP fun j hj=>by rw[Vh_lt hj,h1 _ (g2.hN j hj)]
theorem Good.head (g:Good K N M b) {j q:Nat}(hj:j < K) (hq:q<=K):b.R (b.h j) q=if j=q then b.D else 0:=by
 obtain⟨φ,h1,h2,h3,h4,h5,h6⟩:=g.lin hq
 rw[h1 _ (g.hN j hj),h6 j hj]
theorem Good.inj (g:Good K N M b) {j l:Nat}(hj:j < K) (hl:l < K) (e:b.h j=b.h l):j=l:=by
 have h:=g.head hj (q:=l) (by omega)
 rw[e,g.head hl (by omega),if_pos rfl] at h
 have:=g.pos
 by_cases q:j=l
 ·exact q
 ·rw[if_neg q] at h;omega
theorem Good.swap (g:Good K N M b) (ht:t < N) (hp:p < K) (hne:b.R t p ≠ 0) :
  Good K N M (swp b t p)/\∀i j,i < N->j<=K->j ≠ p->b.D * (swp b t p).R i j=iabs (b.R t p) * b.R i j - tk (b.R t p) (b.R i p) * b.R t j:=by
 obtain⟨σ,hs,hD,hR⟩:=g.dt
 obtain⟨s,hs2,hab,htk⟩:∃s:Int,s * s=1/\iabs (b.R t p)=s * b.R t p/\∀y,tk (b.R t p) y=s * y:=by
  by_cases e:0 < b.R t p
  ·exact⟨1,rfl,by unfold iabs;rw[if_neg (by omega)];omega,fun y=>by unfold tk;rw[if_pos e];omega⟩
  ·exact⟨-1,rfl,by unfold iabs;rw[if_pos (by omega)];omega,fun y=>by unfold tk;rw[if_neg e];omega⟩
 have hV:=Vh_swp (K:=K) (M:=M) (b:=b) (t:=t) hp
 have dR:∀i j,i < N->j<=K->det (K+1) (put (Vh K M b.h) j (M i))=σ * b.R i j:=fun i j hi hj=>by
  rw[hR i j hi hj,<- Int.mul_assoc,hs,Int.one_mul]
 have key:∀i j,i < N->j<=K->j ≠ p->b.D * det (K+1) (put (put (Vh K M b.h) p (M t)) j (M i))=σ * (b.R t p * b.R i j - b.R i p * b.R t j):=by
  intro i j hi hj hjp
  rw[WF (Ne.symm hjp),<- zbV _ _ _ (by omega),XZ (u:=put (put (Vh K M b.h) j (M i)) p fun c=>sumN (K+1) fun l=>b.R t l * Vh K M b.h l c),zdO _ (by omega),sum_two' (k:=p) (l:=j) (by omega) (by omega) (Ne.symm hjp) fun l hl h1 h2=>?_]
  ·rw[WF hjp,Vl,dR i j hi hj,det_anti (by omega) (by omega) hjp,Vl,dR i p hi (by omega)]
   grind
  ·rw[VD (k:=p) (l:=l) (by omega) hl (Ne.symm h1) (fun c hc=>by rw[Xo,WE h1,WE h2]),Int.mul_zero]
  ·intro a c ha hc
   unfold put
   split
   ·exact(g.cr t c ht (by omega)).symm
   ·rfl
 have ex:∀i j,i < N->j<=K->j ≠ p->(swp b t p).R i j=s * σ * det (K+1) (put (put (Vh K M b.h) p (M t)) j (M i)):=by
  intro i j hi hj hjp
  show swR b t p i j=_
  unfold swR
  rw[if_neg hjp,hab,htk]
  refine fdiv_of g.pos ?_
  have k:=key i j hi hj hjp
  have e:b.D * (s * σ * det (K+1) (put (put (Vh K M b.h) p (M t)) j (M i)))=s * σ * (b.D * det (K+1) (put (put (Vh K M b.h) p (M t)) j (M i))):=by rw[Int.mul_left_comm]
  rw[e,k]
  have e2:s * σ * (σ * (b.R t p * b.R i j - b.R i p * b.R t j))=s * (σ * σ) * (b.R t p * b.R i j - b.R i p * b.R t j):=by grind
  rw[e2,hs]
  grind
 have exD:∀i j,i < N->j<=K->j ≠ p->b.D * (swp b t p).R i j=iabs (b.R t p) * b.R i j - tk (b.R t p) (b.R i p) * b.R t j:=by
  intro i j hi hj hjp
  rw[ex i j hi hj hjp]
  have k:=key i j hi hj hjp
  have e:b.D * (s * σ * det (K+1) (put (put (Vh K M b.h) p (M t)) j (M i)))=s * σ * (b.D * det (K+1) (put (put (Vh K M b.h) p (M t)) j (M i))):=by rw[Int.mul_left_comm]
  rw[e,k,hab,htk]
  have e2:s * σ * (σ * (b.R t p * b.R i j - b.R i p * b.R t j))=s * (σ * σ) * (b.R t p * b.R i j - b.R i p * b.R t j):=by grind
  rw[e2,hs]
  grind
 have exp:∀i,(swp b t p).R i p=s * b.R i p:=fun i=>by
  show swR b t p i p=_
  unfold swR
  rw[if_pos rfl,htk]
 refine⟨⟨iabs_pos hne,⟨s * σ,by grind,?_,fun i j hi hj=>?_⟩,fun i c hi hc=>?_,fun j hj=>?_⟩,exD⟩
 ·show iabs _=_
  rw[hV,dR t p ht (by omega),hab]
  have:s * σ * (σ * b.R t p)=s * (σ * σ) * b.R t p:=by grind
  rw[this,hs,Int.mul_one]
 ·rw[hV]
  by_cases e:j=p
  ·subst e
   rw[put_put,dR i j hi hj,exp]
   have:s * σ * (σ * b.R i j)=s * (σ * σ) * b.R i j:=by grind
   rw[this,hs,Int.mul_one]
  ·exact ex i j hi hj e
 ·have hD0:b.D ≠ 0:=by have:=g.pos;omega
  refine Int.eq_of_mul_eq_mul_left hD0 ?_
  rw[<- Wq,hV]
  have:∀j,j < K+1->b.D * ((swp b t p).R i j * put (Vh K M b.h) p (M t) j c)=(s * b.R t p * (b.R i j * Vh K M b.h j c)+(-(s * b.R i p)) * (b.R t j * Vh K M b.h j c))+(if j=p then b.D * (s * b.R i p) * M t c else 0):=by
   intro j hj
   by_cases e:j=p
   ·subst e
    rw[exp,Xo,if_pos rfl]
    grind
   ·rw[WE e,if_neg e,<- Int.mul_assoc,exD i j hi (by omega) e,hab,htk]
    grind
  rw[ZP this,zbi,zbi,Wq,Wq,zfY (by omega),g.cr i c hi hc,g.cr t c ht hc]
  show _=b.D * (iabs _ * _)
  rw[hab]
  grind
 ·show(if j=p then t else b.h j) < N
  split
  ·exact ht
  ·exact g.hN j hj
theorem Good.size (g:Good K N M b) {B:Nat}(hB:1<=B) (hM:∀i c,i < N->c<=K->(M i c).natAbs<=B):b.D.natAbs<=fact (K+1) * B ^ (K+1)/\∀i j,i < N->j<=K->(b.R i j).natAbs<=fact (K+1) * B ^ (K+1):=by
 obtain⟨σ,hs,hD,hR⟩:=g.dt
 have s1:σ.natAbs=1:=by
  have:σ.natAbs * σ.natAbs=1:=by rw[<- Int.natAbs_mul,hs];rfl
  exact Nat.eq_one_of_mul_eq_one_left this
 have hV:∀i c,i < K+1->c < K+1->(Vh K M b.h i c).natAbs<=B:=fun i c hi hc=>by
  unfold Vh
  split
  ·rename_i hj;exact hM _ c (g.hN i hj) (by omega)
  ·unfold eK;split <;> simp <;> omega
 constructor
 ·rw[hD,Int.natAbs_mul,s1,Nat.one_mul]
  exact zdQ hV
 ·intro i j hi hj
  rw[hR i j hi hj,Int.natAbs_mul,s1,Nat.one_mul]
  refine zdQ fun a c ha hc=>?_
  unfold put
  split
  ·exact hM i c hi (by omega)
  ·exact hV a c ha hc
end
end Sx
namespace Sx
section
variable {K N:Nat}{M:Mat}
theorem Good.head0 {b:Bd}(g:Good K N M b) {j:Nat}(hj:j < K):b.R (b.h j) K=0:=by
 rw[g.head hj (Nat.le_refl K),if_neg (by omega)]
theorem zfX {n k:Nat}{f:Nat->Int}(hk:k < n) (h:∀i,i < n->f i<=0) (h2:f k < 0):sumN n f < 0:=by
 induction n with
 | zero=>omega
 | succ n ih=>
  simp only[sumN]
  by_cases e:k=n
  ·subst e
   have:=sum_le (n:=k) (f:=f) (g:=fun _=>0) fun i hi=>h i (by omega)
   rw[zfZ] at this
   omega
  ·have:=ih (by omega) fun i hi=>h i (by omega)
   have:=h n (by omega)
   omega
theorem mul_np {a b:Int}(ha:a<=0) (hb:0<=b):a * b<=0:=by
 have:=Int.mul_nonneg (show 0 <= -a by omega) hb
 rw[Int.neg_mul] at this;omega
theorem zaO {a b:Int}(ha:0 < a) (hb:b < 0):a * b < 0:=by
 have:=Int.mul_pos ha (show 0 < -b by omega)
 rw[Int.mul_neg] at this;omega
theorem ze9 {a b:Int}(ha:0 < a) (h:a * b < 0):b < 0:=by
 rcases(show b < 0\/0<=b by omega) with g | g
 ·exact g
 ·have:=Int.mul_nonneg (show 0<=a by omega) g;omega
theorem bland1 {b1 b2:Bd}(g1:Good K N M b1) (g2:Good K N M b2) {q t p:Nat}(hq:b1.R q K < 0) (hlow:∀i,K<=i->i < q->0<=b1.R i K)
  (hp:p < K) (hpq:b2.h p=q) (ht:t < N) (h0:b2.R t p > 0) (h1:b2.R t K < 0) (h2:∀j,j < K->b2.h j < q->b2.R t j<=0) (h3:∀j,j < K->b2.h j < K->b2.R t j=0) (htK:K<=t) (htq:t < q)
  (h4:∀j,j < K->q < b2.h j->∃l,l < K/\b1.h l=b2.h j):False:=by
 have e:=g1.two g2 ht (Nat.le_refl K)
 rw[if_pos rfl] at e
 have s:sumN K (fun j=>b2.R t j * b1.R (b2.h j) K) < 0:=by
  refine zfX hp (fun j hj=>?_) ?_
  ·rcases Nat.lt_trichotomy (b2.h j) q with z | z | z
   ·by_cases zk:b2.h j < K
    ·rw[h3 j hj zk,Int.zero_mul];exact Int.le_refl 0
    ·exact mul_np (h2 j hj z) (hlow _ (by omega) z)
   ·have:j=p:=g2.inj hj hp (by rw[z,hpq])
    subst this
    rw[z]
    exact Int.le_of_lt (zaO h0 hq)
   ·obtain⟨l,hl,el⟩:=h4 j hj z
    rw[<- el,g1.head0 hl,Int.mul_zero]
    exact Int.le_refl 0
  ·show b2.R t p * b1.R (b2.h p) K < 0
   rw[hpq]
   exact zaO h0 hq
 have s2:b2.R t K * b1.D < 0:=by rw[Int.mul_comm];exact zaO g1.pos h1
 have:=ze9 g2.pos (show b2.D * b1.R t K < 0 by rw[e];omega)
 have:=hlow t htK htq
 omega
theorem bland2 {b1 b2:Bd}(g1:Good K N M b1) (g2:Good K N M b2) {w q p1 p:Nat}(hw:w < N) (hp1:p1 < K) (hq1:b1.h p1=q) (h1:b1.R w p1 > 0) (h2:∀j,j < K->b1.h j < q->b1.R w j<=0) (h3:∀j,j < K->b1.h j < K->b1.R w j=0)
  (hp:p < K) (k1:b2.R w p > 0) (k2:b2.R q p < 0) (k3:0<=b2.R q K) (k4:∀i,K<=i->i < q->b2.R i p < 0->b2.R q K * -b2.R i p < b2.R i K * -b2.R q p)
  (same:∀i,i < N->b1.R i K * b2.D=b2.R i K * b1.D) (h4:∀j,j < K->q < b1.h j->∃l,l < K/\l ≠ p/\b2.h l=b1.h j):False:=by
 have e:=g2.two g1 hw (q:=p) (by omega)
 rw[if_neg (by omega),Int.mul_zero,Int.add_zero] at e
 have s:sumN K (fun j=>b1.R w j * b2.R (b1.h j) p) < 0:=by
  refine zfX hp1 (fun j hj=>?_) ?_
  ·rcases Nat.lt_trichotomy (b1.h j) q with z | z | z
   ·by_cases zk:b1.h j < K
    ·rw[h3 j hj zk,Int.zero_mul];exact Int.le_refl 0
    ·rcases(show b2.R (b1.h j) p < 0\/0<=b2.R (b1.h j) p by omega) with n | n
     ·have k:=k4 _ (by omega) z n
      have s:=same _ (g1.hN j hj)
      rw[g1.head0 hj,Int.zero_mul] at s
      have:b2.R (b1.h j) K=0:=by
       rcases Int.mul_eq_zero.mp s.symm with y | y
       ·exact y
       ·have:=g1.pos;omega
      rw[this,Int.zero_mul] at k
      have:=Int.mul_nonneg k3 (show 0 <= -b2.R (b1.h j) p by omega)
      omega
     ·exact mul_np (h2 j hj z) n
   ·have:j=p1:=g1.inj hj hp1 (by rw[z,hq1])
    subst this
    rw[z]
    exact Int.le_of_lt (zaO h1 k2)
   ·obtain⟨l,hl,hlp,el⟩:=h4 j hj z
    rw[<- el,g2.head hl (by omega),if_neg hlp,Int.mul_zero]
    exact Int.le_refl 0
  ·show b1.R w p1 * b2.R (b1.h p1) p < 0
   rw[hq1]
   exact zaO h1 k2
 have:=Int.mul_pos g1.pos k1
 omega
structure Walk (K:Nat) (B:Nat->Nat->Nat) (T P:Nat->Nat) (x y:Nat):Prop where
 st:∀k,x<=k->k < y->B (k+1)=fun j=>if j=P k then T k else B k j
 pl:∀k,x<=k->k < y->P k < K
 nh:∀k,x<=k->k < y->∀j,j < K->B k j ≠ T k
 ij:∀k,x<=k->k < y->∀i j,i < K->j < K->B k i=B k j->i=j
def Hd (K:Nat) (h:Nat->Nat) (s:Nat):Prop:=∃j,j < K/\h j=s
theorem Walk.stays {B:Nat->Nat->Nat}{T P:Nat->Nat}{x y:Nat}(w:Walk K B T P x y) {s:Nat}(hs:∀k,x<=k->k < y->B k (P k) ≠ s):∀d a,x<=a->a+d<=y->Hd K (B a) s->Hd K (B (a+d)) s
 | 0,a,_,_,h=>h
 | d+1,a,ha,hd,h=>by
  obtain⟨j,hj,e⟩:=w.stays hs d a ha (by omega) h
  refine⟨j,hj,?_⟩
  show B (a+d+1) j=s
  rw[w.st (a+d) (by omega) (by omega)]
  show(if j=P (a+d) then T (a+d) else B (a+d) j)=s
  rw[if_neg (fun z=>hs (a+d) (by omega) (by omega) (by rw[<- z];exact e)),e]
theorem Walk.stayn {B:Nat->Nat->Nat}{T P:Nat->Nat}{x y:Nat}(w:Walk K B T P x y) {s:Nat}(hs:∀k,x<=k->k < y->T k ≠ s):∀d a,x<=a->a+d<=y->¬Hd K (B a) s->¬Hd K (B (a+d)) s
 | 0,a,_,_,h=>h
 | d+1,a,ha,hd,h=>by
  rintro⟨j,hj,e⟩
  have e':B (a+d+1) j=s:=e
  rw[w.st (a+d) (by omega) (by omega)] at e'
  have e2:(if j=P (a+d) then T (a+d) else B (a+d) j)=s:=e'
  split at e2
  ·exact hs (a+d) (by omega) (by omega) e2
  ·exact w.stayn hs d a ha (by omega) h ⟨j,hj,e2⟩
theorem exmax {x:Nat}(T U:Nat->Nat):∀d,∃q,(∃k,x<=k/\k < x+d+1/\(T k=q\/U k=q))/\∀k,x<=k->k < x+d+1->T k<=q/\U k<=q
 | 0=>⟨max (T x) (U x),⟨x,Nat.le_refl x,by omega,by omega⟩,fun k h1 h2=>by
  have e:k=x:=by omega
  subst e
  omega⟩
 | d+1=>by
  obtain⟨q,⟨k,h1,h2,h3⟩,h4⟩:=exmax T U d
  refine⟨max q (max (T (x+d+1)) (U (x+d+1))),?_,fun k' a1 a2=>?_⟩
  ·by_cases z:max (T (x+d+1)) (U (x+d+1))<=q
   ·exact⟨k,h1,by omega,by omega⟩
   ·exact⟨x+d+1,by omega,by omega,by omega⟩
  ·by_cases z:k'=x+d+1
   ·subst z;omega
   ·have:=h4 k' a1 (by omega);omega
theorem Walk.round {B:Nat->Nat->Nat}{T P:Nat->Nat}{x y:Nat}(w:Walk K B T P x y) (hxy:x < y) (he:∀j,j < K->B x j=B y j) :
  ∃q k1 k2,x<=k1/\k1 < y/\x<=k2/\k2 < y/\T k1=q/\B k2 (P k2)=q/\(∀k,x<=k->k < y->T k<=q/\B k (P k)<=q)/\∀a c s,x<=a->a<=y->x<=c->c<=y->q < s->Hd K (B a) s->Hd K (B c) s:=by
 obtain⟨q,⟨k,h1,h2,h3⟩,h4⟩:=exmax (x:=x) T (fun k=>B k (P k)) (y - x - 1)
 rw[show x+(y - x - 1)+1=y by omega] at h2 h4
 have hxy':∀s,Hd K (B x) s ↔ Hd K (B y) s:=fun s=>⟨fun⟨j,hj,e⟩=>⟨j,hj,by rw[<- he j hj];exact e⟩,fun⟨j,hj,e⟩=>⟨j,hj,by rw[he j hj];exact e⟩⟩
 have inn:∃k1,x<=k1/\k1 < y/\T k1=q:=by
  rcases h3 with h3 | h3
  ·exact⟨k,h1,h2,h3⟩
  ·refine Classical.byContradiction fun no=>?_
   have nn:∀k',x<=k'->k' < y->T k' ≠ q:=fun k' a1 a2 a3=>no ⟨k',a1,a2,a3⟩
   have out:¬Hd K (B (k+1)) q:=by
    rintro⟨j,hj,e⟩
    rw[w.st k h1 h2] at e
    have e2:(if j=P k then T k else B k j)=q:=e
    have h3':B k (P k)=q:=h3
    split at e2
    ·exact nn k h1 h2 e2
    ·rename_i ne
     exact ne (w.ij k h1 h2 j (P k) hj (w.pl k h1 h2) (e2.trans h3'.symm))
   exact(by
    have:=w.stayn nn (y - (k+1)) (k+1) (by omega) (by omega) out
    rw[show k+1+(y - (k+1))=y by omega] at this
    have h0:¬Hd K (B x) q:=fun z=>this ((hxy' q).mp z)
    have:=w.stayn nn (k - x) x (by omega) (by omega) h0
    rw[show x+(k - x)=k by omega] at this
    exact this ⟨P k,w.pl k h1 h2,h3⟩)
 have out:∃k2,x<=k2/\k2 < y/\B k2 (P k2)=q:=by
  obtain⟨k,h1,h2,h3⟩:=inn
  refine Classical.byContradiction fun no=>?_
  have nn:∀k',x<=k'->k' < y->B k' (P k') ≠ q:=fun k' a1 a2 a3=>no ⟨k',a1,a2,a3⟩
  have hin:Hd K (B (k+1)) q:=⟨P k,w.pl k h1 h2,by
   rw[w.st k h1 h2]
   show(if P k=P k then T k else _)=q
   rw[if_pos rfl,h3]⟩
  have a:=w.stays nn (y - (k+1)) (k+1) (by omega) (by omega) hin
  rw[show k+1+(y - (k+1))=y by omega] at a
  have a2:=w.stays nn (k - x) x (by omega) (by omega) ((hxy' q).mpr a)
  rw[show x+(k - x)=k by omega] at a2
  obtain⟨j,hj,e⟩:=a2
  exact w.nh k h1 h2 j hj (by rw[e,h3])
 obtain⟨k1,a1,a2,a3⟩:=inn
 obtain⟨k2,c1,c2,c3⟩:=out
 refine⟨q,k1,k2,a1,a2,c1,c2,a3,c3,h4,fun a c s ha1 ha2 hc1 hc2 hs h=>?_⟩
 have n1:∀k,x<=k->k < y->B k (P k) ≠ s:=fun k h1 h2 e=>by have:=(h4 k h1 h2).2;omega
 have n2:∀k,x<=k->k < y->T k ≠ s:=fun k h1 h2 e=>by have:=(h4 k h1 h2).1;omega
 have b0:Hd K (B y) s:=by
  have:=w.stays n1 (y - a) a ha1 (by omega) h
  rwa [show a+(y - a)=y by omega] at this
 have:=w.stays n1 (c - x) x (by omega) (by omega) ((hxy' s).mpr b0)
 rwa [show x+(c - x)=c by omega] at this
theorem zgy:∀(n:Nat) (f:Nat->Nat),(∀i,i<=n->f i < n)->∃i j,i < j/\j<=n/\f i=f j
 | 0,f,h=>absurd (h 0 (Nat.le_refl 0)) (by omega)
 | n+1,f,h=>by
  by_cases e:∃i,i<=n/\f i=f (n+1)
  ·obtain⟨i,hi,e⟩:=e
   exact⟨i,n+1,by omega,Nat.le_refl _,e⟩
  ·-- the value of the last one is left out
   have hn:=h (n+1) (Nat.le_refl _)
   obtain⟨i,j,h1,h2,h3⟩:=zgy n (fun i=>if f i < f (n+1) then f i else f i - 1) (fun i hi=>by
    have a:=h i (by omega)
    have b:f i ≠ f (n+1):=fun z=>e ⟨i,hi,z⟩
    show(if f i < f (n+1) then f i else f i - 1) < n
    split <;> omega)
   refine⟨i,j,h1,by omega,?_⟩
   have b1:f i ≠ f (n+1):=fun z=>e ⟨i,by omega,z⟩
   have b2:f j ≠ f (n+1):=fun z=>e ⟨j,h2,z⟩
   have h3':(if f i < f (n+1) then f i else f i - 1)=(if f j < f (n+1) then f j else f j - 1):=h3
   split at h3' <;> split at h3' <;> omega
def code (N:Nat):Nat->(Nat->Nat)->Nat
 | 0,_=>0
 | K+1,h=>code N K h+N ^ K * h K
theorem zao {N:Nat}:∀{K:Nat}{h:Nat->Nat},(∀j,j < K->h j < N)->code N K h < N ^ K
 | 0,h,_=>by simp[code]
 | K+1,h,e=>by
  have a:=zao (N:=N) (K:=K) (h:=h) fun j hj=>e j (by omega)
  have b:=e K (by omega)
  simp only[code,Nat.pow_succ]
  have:N ^ K * (h K+1)<=N ^ K * N:=Nat.mul_le_mul_left _ (by omega)
  rw[Nat.mul_add] at this
  omega
theorem zb4 {N:Nat}:∀{K:Nat}{h h':Nat->Nat},(∀j,j < K->h j < N)->(∀j,j < K->h' j < N)->code N K h=code N K h'->∀j,j < K->h j=h' j
 | 0,h,h',_,_,_,j,hj=>by omega
 | K+1,h,h',a,b,e,j,hj=>by
  simp only[code] at e
  have a1:=zao (N:=N) (K:=K) (h:=h) fun j hj=>a j (by omega)
  have b1:=zao (N:=N) (K:=K) (h:=h') fun j hj=>b j (by omega)
  have hp:0 < N ^ K:=by omega
  have e1:h K=h' K:=by
   have q1:(code N K h+N ^ K * h K) / N ^ K=h K:=by rw[Nat.add_mul_div_left _ _ hp,Nat.div_eq_of_lt a1,Nat.zero_add]
   have q2:(code N K h'+N ^ K * h' K) / N ^ K=h' K:=by rw[Nat.add_mul_div_left _ _ hp,Nat.div_eq_of_lt b1,Nat.zero_add]
   rw[<- q1,<- q2,e]
  have e2:code N K h=code N K h':=by rw[e1] at e;omega
  by_cases z:j=K
  ·rw[z];exact e1
  ·exact zb4 (fun j hj=>a j (by omega)) (fun j hj=>b j (by omega)) e2 j (by omega)
structure Ch1 (K N:Nat) (b:Bd) (t p:Nat):Prop where
 tK:K<=t
 tN:t < N
 pK:p < K
 sh:b.R t K < 0
 low:∀i,K<=i->i < t->0<=b.R i K
 hp:0 < b.R t p
 hj:∀j,j < K->b.h j < b.h p->b.R t j<=0
 am:∀j,j < K->b.h j < K->b.R t j=0
theorem zdl {B:Nat->Bd}{T P:Nat->Nat}{L:Nat}(g:∀k,k<=L->Good K N M (B k)) (ch:∀k,k < L->Ch1 K N (B k) (T k) (P k)) (st:∀k,k < L->B (k+1)=swp (B k) (T k) (P k)):L < N ^ K:=by
 refine Classical.byContradiction fun no=>?_
 obtain⟨x,y,h1,h2,h3⟩:=zgy (N ^ K) (fun k=>code N K (B k).h) fun i hi=>zao (g i (by omega)).hN
 have he:=zb4 (g x (by omega)).hN (g y (by omega)).hN h3
 have w:Walk K (fun k=>(B k).h) T P x y:=by
  refine⟨fun k a b=>?_,fun k a b=>(ch k (by omega)).pK,fun k a b j hj e=>?_,fun k a b i j hi hj e=>(g k (by omega)).inj hi hj e⟩
  ·show(B (k+1)).h=_
   rw[st k (by omega)];rfl
  ·have:=(g k (by omega)).head0 hj
   have e':(B k).h j=T k:=e
   rw[e'] at this
   have:=(ch k (by omega)).sh
   omega
 obtain⟨q,k1,k2,a1,a2,c1,c2,e1,e2,mx,sm⟩:=w.round h1 he
 have c1':=ch k1 (by omega)
 have c2':=ch k2 (by omega)
 have hq:(B k2).h (P k2)=q:=e2
 have tq:T k2 < q:=by
  have:=(mx k2 c1 c2).1
  rcases Nat.lt_or_ge (T k2) q with z | z
  ·exact z
  ·exact absurd (show(B k2).h (P k2)=T k2 by omega) (w.nh k2 c1 c2 (P k2) c2'.pK)
 refine bland1 (g k1 (by omega)) (g k2 (by omega)) (q:=q) (t:=T k2) (p:=P k2) (by rw[<- e1];exact c1'.sh) (fun i h1 h2=>c1'.low i h1 (by omega)) c2'.pK hq c2'.tN c2'.hp c2'.sh (fun j hj z=>c2'.hj j hj (by omega)) c2'.am c2'.tK tq fun j hj z=>?_
 exact sm k2 k1 _ c1 (by omega) a1 (by omega) z ⟨j,hj,rfl⟩
structure Ch2 (K N w:Nat) (b:Bd) (t p:Nat):Prop where
 tK:K<=t
 tN:t < N
 pK:p < K
 hp:0 < b.R w p
 hj:∀j,j < K->b.h j < b.h p->b.R w j<=0
 am:∀j,j < K->b.h j < K->b.R w j=0
 ng:b.R t p < 0
 fe:0<=b.R t K
 lo:∀i,K<=i->i < t->b.R i p < 0->b.R t K * -b.R i p < b.R i K * -b.R t p
theorem zfT {b:Bd}{t p:Nat}(g:Good K N M b) (ht:t < N) (hp:p < K) (hn:b.R t p < 0) {i j:Nat}(hi:i < N) (hj:j<=K) (hjp:j ≠ p) :
  (swp b t p).D=-b.R t p/\b.D * (swp b t p).R i j=-b.R t p * b.R i j+b.R i p * b.R t j:=by
 have e:=(g.swap ht hp (by omega)).2 i j hi hj hjp
 have e1:iabs (b.R t p)=-b.R t p:=by unfold iabs;rw[if_pos hn]
 have e2:tk (b.R t p) (b.R i p)=-b.R i p:=by unfold tk;rw[if_neg (by omega)]
 refine⟨e1,?_⟩
 rw[e,e1,e2]
 grind
theorem zbe {b:Bd}{w t p:Nat}(g:Good K N M b) (hw:w < N) (c:Ch2 K N w b t p) :
  b.R w K * (swp b t p).D<=(swp b t p).R w K * b.D/\(b.R w K * (swp b t p).D=(swp b t p).R w K * b.D->∀i,i < N->b.R i K * (swp b t p).D=(swp b t p).R i K * b.D):=by
 have f:=fun i (hi:i < N)=>zfT g c.tN c.pK c.ng hi (Nat.le_refl K) (by have:=c.pK;omega)
 have e:∀i,i < N->(swp b t p).R i K * b.D=b.R i K * (swp b t p).D+b.R i p * b.R t K:=fun i hi=>by
  obtain⟨h1,h2⟩:=f i hi
  rw[Int.mul_comm,h2,h1];grind
 rw[e w hw]
 refine⟨?_,fun z i hi=>?_⟩
 ·have:=Int.mul_nonneg (Int.le_of_lt c.hp) c.fe;omega
 ·have z0:b.R w p * b.R t K=0:=by omega
  rcases Int.mul_eq_zero.mp z0 with y | y
  ·have:=c.hp;omega
  ·rw[e i hi,y,Int.mul_zero,Int.add_zero]
theorem Vn {a b c x y z:Int}(hx:0 < x) (hy:0 < y) (hz:0 < z) (h1:a * y<=b * x) (h2:b * z<=c * y):a * z<=c * x:=by
 have h3:=Int.mul_le_mul_of_nonneg_right h1 (Int.le_of_lt hz)
 have h4:=Int.mul_le_mul_of_nonneg_right h2 (Int.le_of_lt hx)
 have h5:a * z * y<=c * x * y:=by
  have e1:a * y * z=a * z * y:=by grind
  have e2:b * x * z=b * z * x:=by grind
  have e3:c * y * x=c * x * y:=by grind
  rw[e1,e2] at h3
  rw[e3] at h4
  omega
 exact Int.le_of_mul_le_mul_right h5 hy
theorem zbT {a b c x y z:Int}(hy:0 < y) (h1:a * y=b * x) (h2:b * z=c * y):a * z=c * x:=by
 have h5:a * z * y=c * x * y:=by
  have e1:a * z * y=a * y * z:=by grind
  have e2:b * x * z=b * z * x:=by grind
  rw[e1,h1,e2,h2];grind
 exact Int.eq_of_mul_eq_mul_right (by omega) h5
theorem zfB {B:Nat->Bd}{T P:Nat->Nat}{L w:Nat}(hw:w < N) (g:∀k,k<=L->Good K N M (B k)) (ch:∀k,k < L->Ch2 K N w (B k) (T k) (P k)) (st:∀k,k < L->B (k+1)=swp (B k) (T k) (P k)):L < N ^ K:=by
 refine Classical.byContradiction fun no=>?_
 obtain⟨x,y,h1,h2,h3⟩:=zgy (N ^ K) (fun k=>code N K (B k).h) fun i hi=>zao (g i (by omega)).hN
 have he:=zb4 (g x (by omega)).hN (g y (by omega)).hN h3
 have wk:Walk K (fun k=>(B k).h) T P x y:=by
  refine⟨fun k a b=>?_,fun k a b=>(ch k (by omega)).pK,fun k a b j hj e=>?_,fun k a b i j hi hj e=>(g k (by omega)).inj hi hj e⟩
  ·show(B (k+1)).h=_
   rw[st k (by omega)];rfl
  ·have c:=ch k (by omega)
   have:=(g k (by omega)).head hj (q:=P k) (by have:=c.pK;omega)
   have e':(B k).h j=T k:=e
   rw[e'] at this
   have:=c.ng
   have:=(g k (by omega)).pos
   split at * <;> omega
 -- worth does not fall from step to step
 have mono:∀d a,a+d<=L->(B a).R w K * (B (a+d)).D<=(B (a+d)).R w K * (B a).D:=by
  intro d
  induction d with
  | zero=>intro a _;exact Int.le_refl _
  | succ d ih=>
   intro a hd
   have s:=(zbe (g (a+d) (by omega)) hw (ch (a+d) (by omega))).1
   rw[<- st (a+d) (by omega)] at s
   exact Vn (g a (by omega)).pos (g (a+d) (by omega)).pos (g (a+d+1) (by omega)).pos (ih a (by omega)) s
 -- the board at the end of the round tells the same worth as at its start
 have fin:∀i,i < N->(B x).R i K * (B y).D=(B y).R i K * (B x).D:=by
  intro i hi
  have e:=(g x (by omega)).two (g y (by omega)) hi (Nat.le_refl K)
  rw[if_pos rfl,zbh fun j hj=>by rw[<- he j hj,(g x (by omega)).head0 hj,Int.mul_zero]] at e
  rw[Int.mul_comm,e];omega
 have flat:∀k,x<=k->k < y->(B k).R w K * (B (k+1)).D=(B (k+1)).R w K * (B k).D:=by
  intro k a b
  have m1:=mono (k - x) x (by omega)
  rw[show x+(k - x)=k by omega] at m1
  have m2:=mono (y - (k+1)) (k+1) (by omega)
  rw[show k+1+(y - (k+1))=y by omega] at m2
  have m3:=mono 1 k (by omega)
  have e:(B (k+1)).R w K * (B k).D<=(B k).R w K * (B (k+1)).D:=by
   have s1:(B (k+1)).R w K * (B x).D<=(B x).R w K * (B (k+1)).D:=by
    have:=fin w hw
    exact Vn (g (k+1) (by omega)).pos (g y (by omega)).pos (g x (by omega)).pos m2 (by omega)
   exact Vn (g (k+1) (by omega)).pos (g x (by omega)).pos (g k (by omega)).pos s1 m1
  omega
 have pts:∀d a,x<=a->a+d<=y->∀i,i < N->(B a).R i K * (B (a+d)).D=(B (a+d)).R i K * (B a).D:=by
  intro d
  induction d with
  | zero=>intro a _ _ i _;rfl
  | succ d ih=>
   intro a ha hd i hi
   have s:=(zbe (g (a+d) (by omega)) hw (ch (a+d) (by omega))).2
   rw[<- st (a+d) (by omega)] at s
   exact zbT (g (a+d) (by omega)).pos (ih a ha (by omega) i hi) (s (flat (a+d) (by omega) (by omega)) i hi)
 have pall:∀a c,x<=a->a<=y->x<=c->c<=y->∀i,i < N->(B a).R i K * (B c).D=(B c).R i K * (B a).D:=by
  intro a c h1 h2 h3 h4 i hi
  rcases Nat.le_total a c with z | z
  ·have:=pts (c - a) a h1 (by omega) i hi
   rwa [show a+(c - a)=c by omega] at this
  ·have:=pts (a - c) c h3 (by omega) i hi
   rw[show c+(a - c)=a by omega] at this
   exact this.symm
 obtain⟨q,k1,k2,a1,a2,c1,c2,e1,e2,mx,sm⟩:=wk.round h1 he
 have d1:=ch k1 (by omega)
 have d2:=ch k2 (by omega)
 have hq:(B k2).h (P k2)=q:=e2
 refine bland2 (g k2 (by omega)) (g k1 (by omega)) (w:=w) (q:=q) (p1:=P k2) (p:=P k1) hw d2.pK hq d2.hp (fun j hj z=>d2.hj j hj (by omega)) d2.am d1.pK d1.hp (by rw[<- e1];exact d1.ng) (by rw[<- e1];exact d1.fe) (fun i h1 h2 h3=>by rw[<- e1];exact d1.lo i h1 (by omega) h3) (pall k2 k1 c1 (by omega) a1 (by omega)) fun j hj z=>?_
 obtain⟨l,hl,el⟩:=sm k2 k1 _ c1 (by omega) a1 (by omega) z ⟨j,hj,rfl⟩
 refine⟨l,hl,fun n=>?_,el⟩
 subst n
 have:=(mx k1 a1 a2).2
 have el':(B k1).h (P k1)=(B k2).h j:=el
 have:(B k1).h (P k1)<=q:=this
 omega
end
end Sx
namespace Lw
open PySem Fx
structure LB where
 heads:List Nat
 D:Int
 rows:List (List Int)
abbrev eI (xs:List Int):PyData:=.list (xs.map .int)
abbrev eH (hs:List Nat):PyData:=.list (hs.map fun(h:Nat)=>.int (h:Int))
def eB (b:LB):PyData:=.dict [(.str "heads",eH b.heads),(.str "divisor",.int b.D),(.str "rows",.list (b.rows.map eI))]
def LB.bd (b:LB):Sx.Bd:=⟨fun j=>b.heads.getD j 0,b.D,fun i j=>(b.rows.getD i []).getD j 0⟩
@[simp] theorem bd_D (b : LB) : b.bd.D = b.D := rfl
@[simp] theorem bd_h (b : LB) (j : Nat) : b.bd.h j = b.heads.getD j 0 := rfl
theorem bd_R (b:LB) (i j:Nat):b.bd.R i j=(b.rows.getD i []).getD j 0:=rfl
structure WFb (K m:Nat) (b:LB):Prop where
 hl:b.heads.length=K
 rl:b.rows.length=K+m+1
 ll:∀r ∈ b.rows,r.length=K+1
 kk:K<=1000
 mm:m<=1000
structure Sm (b:LB):Prop where
 d0:b.D ≠ 0
 d:b.D.natAbs < 2 ^ 1000
 r:∀r ∈ b.rows,∀x ∈ r,x.natAbs < 2 ^ 1000
@[simp] theorem zhl (b : LB) : fFld "heads" (eB b) = .ok (eH b.heads) := rfl
@[simp] theorem fld_div (b : LB) : fFld "divisor" (eB b) = .ok (.int b.D) := rfl
@[simp] theorem fld_rows (b : LB) : fFld "rows" (eB b) = .ok (.list (b.rows.map eI)) := rfl
@[simp] theorem scalT_eB (b : LB) : XC (eB b) = false := rfl
theorem zhV {α:Type}{f:α->PyData}{xs:List α}{i:Nat}(d:α) (h:i < xs.length):atP (xs.map f) (i:Int)=some (f (xs.getD i d)):=by
 rw[zb7 h]
 simp[List.getD_eq_getElem?_getD,h]
theorem at_last {α:Type}{f:α->PyData}{xs:List α}{k:Nat}(d:α) (h:xs.length=k+1):atP (xs.map f) (-1)=some (f (xs.getD k d)):=by
 unfold atP ixP
 rw[List.length_map,h]
 rw[if_neg (by omega),if_pos (by omega)]
 have e:((-1:Int)+((k+1:Nat):Int)).toNat=k:=by omega
 rw[e]
 simp[List.getD_eq_getElem?_getD,h]
section
variable {K m:Nat}{b:LB}
theorem WFb.row (w:WFb K m b) {i:Nat}(h:i < K+m+1):(b.rows.getD i []).length=K+1:=by
 have hi:i < b.rows.length:=by rw[w.rl];exact h
 have e:b.rows.getD i []=b.rows[i]:=by simp[List.getD_eq_getElem?_getD,hi]
 rw[e]
 exact w.ll _ (List.getElem_mem hi)
theorem WFb.mem (w:WFb K m b) {i:Nat}(h:i < K+m+1):b.rows.getD i [] ∈ b.rows:=by
 have hi:i < b.rows.length:=by rw[w.rl];exact h
 have e:b.rows.getD i []=b.rows[i]:=by simp[List.getD_eq_getElem?_getD,hi]
 rw[e]
 exact List.getElem_mem hi
theorem Xr {α:Type}{xs:List α}{i:Nat}{d:α}(h:i < xs.length):xs.getD i d ∈ xs:=by
 have e:xs.getD i d=xs[i]:=by simp[List.getD_eq_getElem?_getD,h]
 rw[e]
 exact List.getElem_mem h
theorem Ue (w:WFb K m b) {i:Nat}(h:i < K+m+1):fIx (.list (b.rows.map eI)) (.int (i:Int))=.ok (eI (b.rows.getD i [])):=by
 simp only[fIx]
 rw[zhV [] (by rw[w.rl];exact h)]
 rfl
theorem Uf {row:List Int}{j:Nat}(h:j < row.length):fIx (eI row) (.int (j:Int))=.ok (.int (row.getD j 0)):=by
 simp only[eI,fIx]
 rw[zhV 0 h]
 rfl
theorem zbL {row:List Int}{k:Nat}(h:row.length=k+1):fIx (eI row) (.int (-1))=.ok (.int (row.getD k 0)):=by
 simp only[eI,fIx]
 rw[at_last 0 h]
 rfl
theorem zg6 {hs:List Nat}{j:Nat}(h:j < hs.length):fIx (eH hs) (.int (j:Int))=.ok (.int ((hs.getD j 0:Nat):Int)):=by
 simp only[eH,fIx]
 rw[zhV 0 h]
 rfl
theorem Jj (w:WFb K m b):Yd [eB b]=.ok (.list (rngT K m)):=by
 have e:((K+m+1:Nat):Int) - 1=((K+m:Nat):Int):=by omega
 have h1:X7 (K:Int)=true:=ZK (by have:=w.kk;omega)
 have h2:X7 ((K+m:Nat):Int)=true:=ZK (by have:=w.kk;have:=w.mm;omega)
 have e3:(((K+m:Nat):Int) - (K:Int)).toNat=m:=by omega
 have h3:(rngT (K:Int) m).length<=16777216:=by rw[Yp];have:=w.mm;omega
 have e':(K:Int)+(m:Int)+1 - 1=((K+m:Nat):Int):=by omega
 simp[Yd,za0,runQ,runF,w.hl,w.rl,h1,e,e',h2,e3,h3,-Int.natCast_add]
end
def Qh (row line:List Int) (p:Nat) (D:Int):List Int:=
 ((row.zip line).map fun q=>(Sx.iabs (line.getD p 0) * q.1 - Sx.tk (line.getD p 0) (row.getD p 0) * q.2).fdiv D).set p (Sx.tk (line.getD p 0) (row.getD p 0))
theorem iabs_sz {x:Int}{n:Nat}(h:x.natAbs < 2 ^ n):(Sx.iabs x).natAbs < 2 ^ n:=by unfold Sx.iabs;split <;> omega
theorem tk_sz {x y:Int}{n:Nat}(h:y.natAbs < 2 ^ n):(Sx.tk x y).natAbs < 2 ^ n:=by unfold Sx.tk;split <;> omega
theorem zas {row line:List Int}{p:Nat}{D:Int}{K:Nat}(hr:row.length=K+1) (hl:line.length=K+1) (hp:p < K) (hK:K<=1000) (d0:D ≠ 0) (hD:D.natAbs < 2 ^ 1000) (h1:∀x ∈ row,x.natAbs < 2 ^ 1000) (h2:∀x ∈ line,x.natAbs < 2 ^ 1000) :
  YS [eI row,eI line,.int p,.int D]=.ok (eI (Qh row line p D)):=by
 have e1:fIx (eI line) (.int (p:Int))=.ok (.int (line.getD p 0)):=Uf (by omega)
 have e2:fIx (eI row) (.int (p:Int))=.ok (.int (row.getD p 0)):=Uf (by omega)
 have hdv:Qu D=true:=WI d0 hD (by omega)
 have hpv:=iabs_sz (h2 _ (Xr (xs:=line) (i:=p) (d:=0) (by omega)))
 have htk:=tk_sz (x:=line.getD p 0) (h1 _ (Xr (xs:=row) (i:=p) (d:=0) (by omega)))
 unfold Qh
 generalize line.getD p 0=lp at *
 generalize row.getD p 0=rp at *
 have ea:(if lp < 0 then -lp else lp)=Sx.iabs lp:=rfl
 have et:(if 0 < lp then(Res.ok (PyData.int rp)) else .ok (.int (-rp)))=.ok (.int (Sx.tk lp rp)):=by unfold Sx.tk;split <;> rfl
 generalize Sx.iabs lp=pv at *
 generalize Sx.tk lp rp=tv at *
 have hlen:(zipT (row.map .int) (line.map .int)).length<=16777216:=by
  rw[Ve];simp;omega
 have hc:Yj (Uc 0 1) tT (d2 fDiv (d2 fSub (d2 fMul (dVar 2) (dVar 0)) (d2 fMul (dVar 3) (dVar 1))) (dVar 4)) [.emp,.emp,.val (.int pv),.val (.int tv),.val (.int D)] (zipT (row.map .int) (line.map .int))
   = .ok (((row.zip line).map fun q=>(pv * q.1 - tv * q.2).fdiv D).map .int):=by
  rw[Ve,List.map_map]
  refine ZY (fun(q:Int × Int)=>PyData.tuple [.int q.1,.int q.2]) _ _ fun q hq=>?_
  have m1:=Xq hpv (h1 _ (List.of_mem_zip hq).1) (by omega)
  have m2:=Xq htk (h2 _ (List.of_mem_zip hq).2) (by omega)
  refine⟨_,rfl,?_⟩
  simp[m1,m2,hdv]
 have es:ixP (((row.zip line).map fun q=>(pv * q.1 - tv * q.2).fdiv D).map PyData.int).length (p:Int)=some p:=by
  unfold ixP
  rw[if_pos (by omega),if_pos (by simp;omega)]
  simp
 generalize hw:((row.zip line).map fun q=>(pv * q.1 - tv * q.2).fdiv D)=ws at *
 have es':ixP ws.length (p:Int)=some p:=by simpa using es
 simp[YS,U1,VH,VG,VF,VE,runQ,runF,e1,e2,ea,et,eI,hlen,hc,es',-fIx,List.map_set]
theorem zfU {row line:List Int}{p:Nat}{D:Int}{n:Nat}(hr:row.length=n) (hl:line.length=n):(Qh row line p D).length=n:=by
 simp[Qh,hr,hl]
def lsw (b:LB) (t p:Nat):LB:=⟨b.heads.set p t,Sx.iabs (b.bd.R t p),b.rows.map fun row=>Qh row (b.rows.getD t []) p b.D⟩
section
variable {K m:Nat}{b:LB}{t p:Nat}
theorem lsw_wf (w:WFb K m b) (ht:t < K+m+1):WFb K m (lsw b t p):=by
 refine⟨by simp[lsw,w.hl],by simp[lsw,w.rl],fun r hr=>?_,w.kk,w.mm⟩
 obtain⟨row,hrow,rfl⟩:=List.mem_map.mp hr
 exact zfU (w.ll row hrow) (w.row ht)
theorem zfV {row line:List Int}{p j:Nat}{D:Int}{n:Nat}(hr:row.length=n) (hl:line.length=n) (hp:p < n) :
  (Qh row line p D).getD j 0=if j=p then Sx.tk (line.getD p 0) (row.getD p 0) else(Sx.iabs (line.getD p 0) * row.getD j 0 - Sx.tk (line.getD p 0) (row.getD p 0) * line.getD j 0).fdiv D:=by
 unfold Qh
 rw[List.getD_eq_getElem?_getD,List.getElem?_set]
 by_cases e:j=p
 ·subst e
  simp[hr,hl,hp]
 ·rw[if_neg (Ne.symm e),if_neg e]
  by_cases hj:j < n
  ·have ez:(row.zip line)[j]? = some (row.getD j 0,line.getD j 0):=by
    rw[List.getElem?_zip_eq_some]
    constructor
    ·rw[List.getElem?_eq_getElem (by omega)];simp[List.getD_eq_getElem?_getD,List.getElem?_eq_getElem (show j < row.length by omega)]
    ·rw[List.getElem?_eq_getElem (by omega)];simp[List.getD_eq_getElem?_getD,List.getElem?_eq_getElem (show j < line.length by omega)]
   rw[List.getElem?_map,ez]
   rfl
  ·have ez:(row.zip line)[j]? = none:=by rw[List.getElem?_eq_none_iff];simp[hr,hl];omega
   have e1:row.getD j 0=0:=by rw[List.getD_eq_getElem?_getD,List.getElem?_eq_none_iff.mpr (by omega)];rfl
   have e2:line.getD j 0=0:=by rw[List.getD_eq_getElem?_getD,List.getElem?_eq_none_iff.mpr (by omega)];rfl
   rw[List.getElem?_map,ez,e1,e2]
   simp
theorem Ul (w:WFb K m b) (ht:t < K+m+1) (hp:p < K):(lsw b t p).bd=Sx.swp b.bd t p:=by
 unfold LB.bd Sx.swp
 congr 1
 ·funext j
  show(b.heads.set p t).getD j 0=if j=p then t else b.heads.getD j 0
  rw[List.getD_eq_getElem?_getD,List.getElem?_set]
  by_cases e:j=p
  ·subst e;simp[w.hl,hp]
  ·rw[if_neg (Ne.symm e),if_neg e,List.getD_eq_getElem?_getD]
 ·funext i j
  show((b.rows.map fun row=>Qh row (b.rows.getD t []) p b.D).getD i []).getD j 0=Sx.swR b.bd t p i j
  by_cases hi:i < K+m+1
  ·have e:(b.rows.map fun row=>Qh row (b.rows.getD t []) p b.D).getD i []=Qh (b.rows.getD i []) (b.rows.getD t []) p b.D:=by
    have hi':i < b.rows.length:=by rw[w.rl];exact hi
    simp[List.getD_eq_getElem?_getD,hi']
   rw[e,zfV (w.row hi) (w.row ht) (by omega)]
   rfl
  ·have e:(b.rows.map fun row=>Qh row (b.rows.getD t []) p b.D).getD i []=[]:=by
    have hi':¬i < b.rows.length:=by rw[w.rl];exact hi
    simp[List.getD_eq_getElem?_getD,hi']
   have e2:∀j,b.bd.R i j=0:=fun j=>by
    have hi':¬i < b.rows.length:=by rw[w.rl];exact hi
    simp[bd_R,List.getD_eq_getElem?_getD,hi']
   rw[e]
   unfold Sx.swR
   rw[e2,e2]
   have t0:Sx.tk (b.bd.R t p) 0=0:=by unfold Sx.tk;split <;> rfl
   rw[t0]
   simp
theorem Qg (w:WFb K m b) (s:Sm b) (ht:t < K+m+1) (hp:p < K):Ys [eB b,.int t,.int p]=.ok (eB (lsw b t p)):=by
 have hr:=Ue w ht
 have hlen:b.rows.length<=16777216:=by rw[w.rl];have:=w.kk;have:=w.mm;omega
 have hc:Yj (Zw 0) tT (Zk YS (Zc (dVar 0) (Zc (dVar 1) (Zc (dVar 2) (Zc (d1 (fFld "divisor") (dVar 3)) dNil))))) [.emp,.val (eI (b.rows.getD t [])),.val (.int p),.val (eB b)] (b.rows.map eI)=.ok (b.rows.map fun row=>eI (Qh row (b.rows.getD t []) p b.D)):=by
  refine ZY eI _ _ fun row hrow=>⟨_,rfl,?_⟩
  have:=zas (w.ll row hrow) (w.row ht) hp w.kk s.d0 s.d (s.r row hrow) (s.r _ (w.mem ht))
  simp[this,-List.getD_eq_getElem?_getD]
 have hp2:ixP b.heads.length (p:Int)=some p:=by
  unfold ixP
  rw[if_pos (by omega),if_pos (by rw[w.hl];omega)]
  simp
 have e1:fIx (eI (b.rows.getD t [])) (.int (p:Int))=.ok (.int (b.bd.R t p)):=Uf (by rw[w.row ht];omega)
 have ea:(if b.bd.R t p < 0 then -b.bd.R t p else b.bd.R t p)=Sx.iabs (b.bd.R t p):=rfl
 generalize hline:b.rows.getD t []=line at *
 generalize hR:b.bd.R t p=rtp at *
 have el:lsw b t p=⟨b.heads.set p t,Sx.iabs rtp,b.rows.map fun row=>Qh row line p b.D⟩:=by unfold lsw;rw[hline,hR]
 rw[el]
 simp[Ys,zc0,zaa,JZ,JY,JX,runQ,runF,hr,hc,hp2,e1,ea,hlen,-fIx,zipK]
 simp[eB,List.map_set,Function.comp_def]
theorem zgk (lo:Int) (n:Nat):rngT lo (n+1)=.int lo::rngT (lo+1) n:=by
 unfold rngT
 rw[List.range_succ_eq_map]
 simp only[List.map_cons,List.map_map,Int.natCast_zero,Int.add_zero]
 congr 1
 refine List.map_congr_left fun k _=>?_
 simp only[Function.comp]
 congr 1
 omega
theorem zf8 {st:PyData->List Sl->Res (List Sl)}{b:DS}{P:Nat->Bool}(Inv:List Sl->Prop):∀(n lo:Nat) (G:List Sl),Inv G ->
  (∀t G',lo<=t->t < lo+n->Inv G'->∃G1 G2,st (.int (t:Int)) G'=.ok G1/\b G1=(if P t=true then .ok (.rt (.int (t:Int))) else .ok (.nx G2))/\Inv G2) ->
  (∃t,lo<=t/\t < lo+n/\P t=true/\(∀t',lo<=t'->t' < t->P t'=false)/\forL st b (rngT (lo:Int) n) G=.ok (.rt (.int (t:Int)))) \/
  ((∀t,lo<=t->t < lo+n->P t=false)/\∃G',Inv G'/\forL st b (rngT (lo:Int) n) G=.ok (.nx G'))
 | 0,lo,G,hG,h=>.inr ⟨fun t h1 h2=>by omega,G,hG,by simp[rngT,forL]⟩
 | n+1,lo,G,hG,h=>by
  obtain⟨G1,G2,e1,e2,h2⟩:=h lo G (Nat.le_refl _) (by omega) hG
  rw[zgk]
  have ec:(lo:Int)+1=((lo+1:Nat):Int):=by omega
  rw[ec]
  unfold forL
  rw[e1,Res.bind_ok,e2]
  cases hp:P lo with
  | true=>exact .inl ⟨lo,Nat.le_refl _,by omega,hp,fun t' a b=>by omega,by simp⟩
  | false=>
   simp only[Bool.false_eq_true,if_false,Res.bind_ok]
   rcases zf8 Inv n (lo+1) G2 h2 (fun t G' a b c=>h t G' (by omega) (by omega) c) with ⟨t,a1,a2,a3,a4,a5⟩ | ⟨a1,G',a2,a3⟩
   ·refine .inl ⟨t,by omega,by omega,a3,fun t' b1 b2=>?_,a5⟩
    by_cases z:t'=lo
    ·rw[z];exact hp
    ·exact a4 t' (by omega) b2
   ·refine .inr ⟨fun t b1 b2=>?_,G',a2,a3⟩
    by_cases z:t=lo
    ·rw[z];exact hp
    ·exact a1 t (by omega) (by omega)
theorem zho (i j:Int):fNe (.int i) (.int j)=.ok (.bool (!decide (i=j))):=by simp[fNe]
theorem zbR (w:WFb K m b) (hp:p < K):(∃t,K<=t/\t < K+m/\b.bd.R t p ≠ 0/\ZV [eB b,.int p]=.ok (.int t))\/((∀t,K<=t->t < K+m->b.bd.R t p=0)/\ZV [eB b,.int p]=.ok .none):=by
 have hrm:=Jj w
 have hs:=zf8 (st:=Zw 2) (b:=(dIf (tV (d2 fNe (d2 fIx (d2 fIx (d1 (fFld "rows") (dVar 0)) (dVar 2)) (dVar 1)) (dC (.int 0)))) (dRet (dVar 2)) Z2)) (P:=fun t=>!decide (b.bd.R t p=0))
  (fun G=>∃s,G=[.val (eB b),.val (.int p),s]) m K [.val (eB b),.val (.int p),.emp] ⟨_,rfl⟩ fun t G' h1 h2 ⟨s,hG⟩=>by
   subst hG
   have e1:=Ue w (i:=t) (by omega)
   have e2:fIx (eI (b.rows.getD t [])) (.int (p:Int))=.ok (.int (b.bd.R t p)):=Uf (by rw[w.row (by omega)];omega)
   refine⟨_,[.val (eB b),.val (.int p),.val (.int t)],rfl,?_,⟨_,rfl⟩⟩
   generalize b.bd.R t p=r at *
   by_cases hz:r=0 <;> simp[e1,e2,zho,hz,-fIx,-List.getD_eq_getElem?_getD]
 rcases hs with ⟨t,a1,a2,a3,_,a5⟩ | ⟨a1,G',⟨s,hG⟩,a3⟩
 ·refine .inl ⟨t,a1,a2,by simpa using a3,?_⟩
  simp[ZV,WA,runQ,runF,hrm,a5,-fIx,-dIf]
 ·refine .inr ⟨fun t h1 h2=>by simpa using a1 t h1 h2,?_⟩
  simp[ZV,WA,Va,runQ,runF,hrm,a3,-fIx,-dIf]
theorem zbn (w:WFb K m b):(∃t,K<=t/\t < K+m/\b.bd.R t K < 0/\(∀i,K<=i->i < t->0<=b.bd.R i K)/\ZA [eB b]=.ok (.int t))\/((∀t,K<=t->t < K+m->0<=b.bd.R t K)/\ZA [eB b]=.ok .none):=by
 have hrm:=Jj w
 have hs:=zf8 (st:=Zw 1) (b:=(dIf (tV (d2 fLt (d2 fIx (d2 fIx (d1 (fFld "rows") (dVar 0)) (dVar 1)) (d1 fNeg (dC (.int 1)))) (dC (.int 0)))) (dRet (dVar 1)) Z2)) (P:=fun t=>decide (b.bd.R t K < 0))
  (fun G=>∃s,G=[.val (eB b),s]) m K [.val (eB b),.emp] ⟨_,rfl⟩ fun t G' h1 h2 ⟨s,hG⟩=>by
   subst hG
   have e1:=Ue w (i:=t) (by omega)
   have e2:fIx (eI (b.rows.getD t [])) (.int (-1))=.ok (.int (b.bd.R t K)):=zbL (w.row (by omega))
   refine⟨_,[.val (eB b),.val (.int t)],rfl,?_,⟨_,rfl⟩⟩
   generalize b.bd.R t K=r at *
   by_cases hz:r < 0 <;> simp[e1,e2,hz,-fIx,-List.getD_eq_getElem?_getD]
 rcases hs with ⟨t,a1,a2,a3,a4,a5⟩ | ⟨a1,G',⟨s,hG⟩,a3⟩
 ·refine .inl ⟨t,a1,a2,by simpa using a3,fun i h1 h2=>by have:=a4 i h1 h2;simp at this;omega,?_⟩
  simp[ZA,VI,runQ,runF,hrm,a5,-fIx,-dIf]
 ·refine .inr ⟨fun t h1 h2=>by have:=a1 t h1 h2;simp at this;omega,?_⟩
  simp[ZA,VI,Ug,runQ,runF,hrm,a3,-fIx,-dIf]
def hlp (b:LB) (K t j:Nat):Bool:=decide (0 < b.bd.R t j) || (decide (b.bd.R t j < 0) && decide (b.bd.h j < K))
theorem helps_ok (w:WFb K m b) {j:Nat}(hj:j < K) (r:Int):Qs [eB b,.int j,.int r]=.ok (.bool (decide (0 < r) || (decide (r < 0) && decide (b.bd.h j < K)))):=by
 have e1:fIx (eH b.heads) (.int (j:Int))=.ok (.int ((b.heads.getD j 0:Nat):Int)):=zg6 (by rw[w.hl];exact hj)
 rw[bd_h]
 generalize b.heads.getD j 0=hj' at *
 by_cases h1:0 < r <;> by_cases h2:r < 0 <;> simp[Qs,zhG,runQ,runF,e1,w.hl,h1,h2,-fIx]
theorem zbJ {key:PyData->Res PyData}{g:Nat->Int}:∀(cs:List Nat) (j0:Nat),(∀j ∈ cs,key (.int (j:Int))=.ok (.int (g j)))->∃j,(j=j0\/j ∈ cs)/\g j<=g j0/\(∀j' ∈ cs,g j<=g j')/\minL key (.int (j0:Int)) (g j0) (cs.map fun(j:Nat)=>.int (j:Int))=.ok (.int (j:Int))
 | [],j0,_=>⟨j0,.inl rfl,Int.le_refl _,fun _ h=>by simp at h,rfl⟩
 | c::cs,j0,h=>by
  simp only[List.map_cons,minL]
  rw[h c (by simp),Res.bind_ok]
  by_cases hlt:g c < g j0
  ·obtain⟨j,a1,a2,a3,a4⟩:=zbJ cs c fun j hj=>h j (by simp[hj])
   refine⟨j,?_,by omega,fun j' hj'=>?_,by simp only[hlt,if_true];exact a4⟩
   ·rcases a1 with a1 | a1
    ·exact .inr (by simp[a1])
    ·exact .inr (by simp[a1])
   ·rcases List.mem_cons.mp hj' with z | z
    ·rw[z];exact a2
    ·exact a3 j' z
  ·obtain⟨j,a1,a2,a3,a4⟩:=zbJ cs j0 fun j hj=>h j (by simp[hj])
   refine⟨j,?_,a2,fun j' hj'=>?_,by simp only[hlt,if_false];exact a4⟩
   ·rcases a1 with a1 | a1
    ·exact .inl a1
    ·exact .inr (by simp[a1])
   ·rcases List.mem_cons.mp hj' with z | z
    ·rw[z];omega
    ·exact a3 j' z
theorem minT_int {key:PyData->Res PyData}{g:Nat->Int}(cs:List Nat) (h:∀j ∈ cs,key (.int (j:Int))=.ok (.int (g j))):(cs=[]/\minT key (cs.map fun(j:Nat)=>.int (j:Int))=.ok .none)\/∃j,j ∈ cs/\(∀j' ∈ cs,g j<=g j')/\minT key (cs.map fun(j:Nat)=>.int (j:Int))=.ok (.int (j:Int)):=by
 cases cs with
 | nil=>exact .inl ⟨rfl,rfl⟩
 | cons c cs=>
  obtain⟨j,a1,a2,a3,a4⟩:=zbJ cs c fun j hj=>h j (by simp[hj])
  refine .inr ⟨j,?_,fun j' hj'=>?_,?_⟩
  ·rcases a1 with a1 | a1
   ·simp[a1]
   ·simp[a1]
  ·rcases List.mem_cons.mp hj' with z | z
   ·rw[z];exact a2
   ·exact a3 j' z
  ·simp only[List.map_cons,minT]
   rw[h c (by simp),Res.bind_ok]
   exact a4
theorem V6 (w:WFb K m b) (ht:t < K+m+1):(∃p,p < K/\hlp b K t p=true/\(∀j,j < K->hlp b K t j=true->b.bd.h p<=b.bd.h j)/\Zj [eB b,.int t]=.ok (.int p))\/((∀j,j < K->hlp b K t j=false)/\Zj [eB b,.int t]=.ok .none):=by
 have e0:=Ue w ht
 have hK:=w.kk
 have hrg:X7 (K:Int)=true:=ZK (by omega)
 have hlen:(rngT 0 K).length<=16777216:=by rw[Yp];omega
 have hc:Yj (Zw 0) (tV (Zk Qs (Zc (dVar 1) (Zc (dVar 0) (Zc (d2 fIx (dVar 2) (dVar 0)) dNil))))) (dVar 0) [.emp,.val (eB b),.val (eI (b.rows.getD t []))] (rngT 0 K)=.ok (((List.range K).filter fun j=>hlp b K t j).map fun(j:Nat)=>.int (j:Int)):=by
  rw[Y1]
  refine Vb (fun(j:Nat)=>PyData.int (j:Int)) (fun(j:Nat)=>PyData.int (j:Int)) (fun j=>hlp b K t j) (List.range K) fun j hj=>⟨_,rfl,?_,fun _=>rfl⟩
  have hj':=List.mem_range.mp hj
  have e1:fIx (eI (b.rows.getD t [])) (.int (j:Int))=.ok (.int (b.bd.R t j)):=Uf (by rw[w.row ht];omega)
  have e2:=helps_ok w hj' (b.bd.R t j)
  unfold hlp
  generalize b.bd.R t j=r at *
  simp[e1,e2,-fIx,-List.getD_eq_getElem?_getD]
 have hm:=minT_int (key:=fun x=>noX ((d2 fIx (d1 (fFld "heads") (dVar 1)) (dVar 0)) (.val x::[.val (eB b)]))) (g:=fun j=>(b.bd.h j:Int)) ((List.range K).filter fun j=>hlp b K t j) fun j hj=>by
  have hj':=List.mem_range.mp (List.mem_filter.mp hj).1
  have e1:fIx (eH b.heads) (.int (j:Int))=.ok (.int ((b.heads.getD j 0:Nat):Int)):=zg6 (by rw[w.hl];exact hj')
  simp[e1,-fIx]
 rcases hm with ⟨a1,a2⟩ | ⟨p,a1,a2,a3⟩
 ·refine .inr ⟨fun j hj=>?_,?_⟩
  ·have:=List.filter_eq_nil_iff.mp a1 j (List.mem_range.mpr hj)
   simpa using this
  ·simp only[a1] at hc a2
   simp[Zj,X4,Xx,Xw,runQ,runF,e0,w.hl,hrg,hlen,hc,minT,-fIx,-List.getD_eq_getElem?_getD]
 ·obtain⟨b1,b2⟩:=List.mem_filter.mp a1
  refine .inl ⟨p,List.mem_range.mp b1,b2,fun j hj hh=>?_,?_⟩
  ·have:=a2 j (List.mem_filter.mpr ⟨List.mem_range.mpr hj,hh⟩)
   omega
  ·generalize ((List.range K).filter fun j=>hlp b K t j)=cs at *
   simp only[d2,d1,dVar,List.getElem?_cons_zero,List.getElem?_cons_succ,Res.bind_ok,zhl,noX] at a3
   simp[Zj,X4,Xx,Xw,runQ,runF,e0,w.hl,hrg,hlen,hc,a3,-fIx,-List.getD_eq_getElem?_getD]
end
end Lw
namespace Sx
def idM:Mat:=fun i c=>if c=i then 1 else 0
theorem zeB:∀n,det n idM * det n idM=1
 | 0=>rfl
 | n+1=>by
  have e:det (n+1) idM=sg n * det n idM:=by
   simp only[det]
   rw[Qi (k:=n) (by omega) fun i hi hne=>by
    have:idM i n=0:=if_neg (fun z=>hne z.symm)
    rw[this,Int.mul_zero,Int.zero_mul]]
   have h1:idM n n=1:=if_pos rfl
   have h2:det n (skip n idM)=det n idM:=XZ fun i c hi hc=>by unfold skip;rw[if_pos hi]
   rw[h1,h2,Int.mul_one]
  have ih:=zeB n
  have hs:sg n * sg n=1:=by rcases sg_abs n with h | h <;> rw[h] <;> rfl
  rw[e]
  have:sg n * det n idM * (sg n * det n idM)=(sg n * sg n) * (det n idM * det n idM):=by grind
  rw[this,hs,ih];rfl
theorem zfv {n j:Nat}(hj:j < n) (x:Vec):det n (put idM j x)=x j * det n idM:=by
 have e:det n (put idM j x)=det n (put idM j fun c'=>sumN n fun c=>x c * idM c c'):=by
  refine XZ fun i c hi hc=>?_
  unfold put
  split
  ·show x c=sumN n fun a=>x a * idM a c
   rw[Qi (k:=c) hc fun a ha hne=>by
    have:idM a c=0:=if_neg (fun z=>hne z.symm)
    rw[this,Int.mul_zero]]
   have:idM c c=1:=if_pos rfl
   rw[this,Int.mul_one]
  ·rfl
 rw[e,zdO _ hj,Qi (k:=j) hj fun a ha hne=>by
  rw[VD (k:=j) (l:=a) hj ha (Ne.symm hne) (fun c hc=>by rw[Xo,WE hne]),Int.mul_zero],Vl]
theorem zfr {K N:Nat}{M:Mat}{b:Bd}(hh:∀j,j < K->b.h j=j) (hD:b.D=1) (hR:∀i j,b.R i j=M i j) (hM:∀j c,j < K->c<=K->M j c=if c=j then 1 else 0) (hKN:K<=N):Good K N M b:=by
 have hV:∀i c,i < K+1->c < K+1->Vh K M b.h i c=idM i c:=fun i c hi hc=>by
  unfold Vh idM
  split
  ·rename_i h;rw[hh i h,hM i c h (by omega)]
  ·have:i=K:=by omega
   rw[this];rfl
 have dV:det (K+1) (Vh K M b.h)=det (K+1) idM:=XZ hV
 refine⟨by rw[hD];decide,⟨det (K+1) idM,zeB _,?_,fun i j hi hj=>?_⟩,fun i c hi hc=>?_,fun j hj=>by rw[hh j hj];omega⟩
 ·rw[hD,dV,zeB]
 ·have e:det (K+1) (put (Vh K M b.h) j (M i))=det (K+1) (put idM j (M i)):=XZ fun a c ha hc=>by
   unfold put
   split
   ·rfl
   ·exact hV a c ha hc
  rw[e,zfv (by omega),hR,Int.mul_left_comm,zeB,Int.mul_one]
 ·rw[hD,Int.one_mul,Qi (k:=c) (by omega) fun a ha hne=>by
   rw[hV a c ha (by omega)]
   have:idM a c=0:=if_neg (fun z=>hne z.symm)
   rw[this,Int.mul_zero],hV c c (by omega) (by omega),hR]
  have:idM c c=1:=if_pos rfl
  rw[this,Int.mul_one]
def Fr (K m:Nat) (b:Bd):Prop:=∀j,j < K->b.h j < K->∀t,K<=t->t < K+m->b.R t j=0
theorem zcg {K N m:Nat}{M:Mat}{b:Bd}{t p:Nat}(g:Good K N M b) (hN:N=K+m+1) (ht:K<=t) (ht2:t < K+m) (hp:p < K) (hne:b.R t p ≠ 0) {j:Nat}(hj:j < K) (hjp:j ≠ p) (hz:∀i,K<=i->i < K+m->b.R i j=0):∀i,K<=i->i < K+m->(swp b t p).R i j=0:=fun i h1 h2=>by
 have e:=(g.swap (by omega) hp hne).2 i j (by omega) (by omega) hjp
 rw[hz i h1 h2,hz t ht ht2,Int.mul_zero,Int.mul_zero,Int.sub_zero] at e
 rcases Int.mul_eq_zero.mp e with z | z
 ·have:=g.pos;omega
 ·exact z
theorem zhk {K N m:Nat}{M:Mat}{b:Bd}{t p:Nat}(g:Good K N M b) (hN:N=K+m+1) (f:Fr K m b) (ht:K<=t) (ht2:t < K+m) (hp:p < K) (hne:b.R t p ≠ 0):Fr K m (swp b t p):=fun j hj hh i h1 h2=>by
 by_cases e:j=p
 ·subst e
  have:(if j=j then t else b.h j) < K:=hh
  rw[if_pos rfl] at this
  omega
 ·have hh':(if j=p then t else b.h j) < K:=hh
  rw[if_neg e] at hh'
  exact zcg g hN ht ht2 hp hne hj e (f j hj hh') i h1 h2
end Sx
namespace Lw
open PySem Fx
def YJ (n i:Nat):List Int:=(List.replicate n 0).set i 1
def zct (l:Lim):List Int:=l.1.map (fun x=>-x)++[l.2]
def Vw (K:Nat) (ls:List Lim) (goal:List Int):List (List Int):=(List.range K).map (fun i=>YJ (K+1) i)++ls.map zct++[goal++[0]]
def lb0 (K:Nat) (ls:List Lim) (goal:List Int):LB:=⟨List.range K,1,Vw K ls goal⟩
theorem zfK {n i:Nat}(h:i < n) (hn:n<=1001):QE [.int n,.int i]=.ok (eI (YJ n i)):=by
 have h1:X7 (n:Int)=true:=ZK (by omega)
 have h2:ixP n (i:Int)=some i:=by
  unfold ixP
  rw[if_pos (by omega),if_pos (by omega)]
  simp
 have h3:n<=16777216:=by omega
 have e:(List.replicate n [PyData.int 0]).flatten=(List.replicate n (0:Int)).map .int:=by
  rw[List.map_replicate]
  clear h h1 h2 h3 hn
  induction n with
  | zero=>rfl
  | succ n ih=>rw[List.replicate_succ,List.flatten_cons,ih,List.replicate_succ];rfl
 simp[QE,d_unit,zeF,zeE,runQ,runF,h1,h3,e,h2,YJ,List.map_set]
theorem zds {l:Lim}{k:Nat}(h:l.1.length=k) (hk:k<=1000):Wn [limT l]=.ok (eI (zct l)):=by
 have hc:Yj (Zw 0) tT (d1 fNeg (dVar 0)) [.emp] (l.1.map .int)=.ok ((l.1.map fun x=>-x).map .int):=by
  rw[List.map_map]
  exact ZY PyData.int _ _ fun x _=>⟨_,rfl,rfl⟩
 have hl:l.1.length<=16777216:=by omega
 have hl2:l.1.length+1<=16777216:=by omega
 simp[Wn,za1,runQ,runF,limT,at0,at1,hc,hl,hl2,zct]
theorem zaF {K m:Nat}{ls:List Lim}{goal:List Int}(hK:K<=1000) (hm:ls.length=m) (hm2:m<=1000) (hw:∀l ∈ ls,l.1.length=K) (hg:goal.length=K):YV [.tuple [.int K,.tuple (ls.map limT)],eI goal]=.ok (eB (lb0 K ls goal)):=by
 have h1:X7 (K:Int)=true:=ZK (by omega)
 have h2:(rngT 0 K).length<=16777216:=by rw[Yp];omega
 have c1:Yj (Zw 0) tT (Zk QE (Zc (d2 fAdd (dVar 1) (dC (.int 1))) (Zc (dVar 0) dNil))) [.emp,.val (.int K)] (rngT 0 K)=.ok ((List.range K).map fun i=>eI (YJ (K+1) i)):=by
  rw[Y1]
  refine ZY (fun(k:Nat)=>PyData.int (k:Int)) _ _ fun i hi=>⟨_,rfl,?_⟩
  have:=zfK (n:=K+1) (i:=i) (by have:=List.mem_range.mp hi;omega) (by omega)
  have e:((K+1:Nat):Int)=(K:Int)+1:=by omega
  rw[e] at this
  simp[this]
 have c2:Yj (Zw 0) tT (Zk Wn (Zc (dVar 0) dNil)) [.emp] (ls.map limT)=.ok (ls.map fun l=>eI (zct l)):=by
  refine ZY limT _ _ fun l hl=>⟨_,rfl,?_⟩
  simp[zds (hw l hl) hK]
 have h3:ls.length<=16777216:=by omega
 have h4:K+ls.length<=16777216:=by omega
 have h5:K+ls.length+1<=16777216:=by omega
 have h6:goal.length+1<=16777216:=by omega
 simp[YV,U5,VR,VQ,VP,runQ,runF,at0,at1,h1,h2,c1,c2,h3,h4,h5,h6,zipK]
 simp[eB,lb0,Vw,Y1,Function.comp_def]
section
variable {K m:Nat}{ls:List Lim}{goal:List Int}
theorem zgi (hm:ls.length=m):(Vw K ls goal).length=K+m+1:=by simp[Vw,hm];omega
theorem lb0_wf (hK:K<=1000) (hm:ls.length=m) (hm2:m<=1000) (hw:∀l ∈ ls,l.1.length=K) (hg:goal.length=K):WFb K m (lb0 K ls goal):=by
 refine⟨by simp[lb0],zgi hm,fun r hr=>?_,hK,hm2⟩
 have hr':r ∈ Vw K ls goal:=hr
 unfold Vw at hr'
 rcases List.mem_append.mp hr' with h | h
 ·rcases List.mem_append.mp h with h | h
  ·obtain⟨i,_,rfl⟩:=List.mem_map.mp h
   simp[YJ]
  ·obtain⟨l,hl,rfl⟩:=List.mem_map.mp h
   simp[zct,hw l hl]
 ·rw[List.mem_singleton.mp h]
  simp[hg]
theorem zgj {i:Nat}(hi:i < K):(Vw K ls goal).getD i []=YJ (K+1) i:=by
 unfold Vw
 rw[List.getD_eq_getElem?_getD,List.append_assoc,List.getElem?_append_left (by simpa using hi)]
 simp[hi]
theorem zd9 {i:Nat}(hi:i < ls.length):(Vw K ls goal).getD (K+i) []=zct (ls.getD i ([],0)):=by
 unfold Vw
 rw[List.getD_eq_getElem?_getD,List.append_assoc,List.getElem?_append_right (by simp)]
 simp[hi,List.getD_eq_getElem?_getD,List.getElem?_append_left]
theorem zcs:(Vw K ls goal).getD (K+ls.length) []=goal++[0]:=by
 unfold Vw
 rw[List.getD_eq_getElem?_getD,List.getElem?_append_right (by simp)]
 simp
def M0 (K:Nat) (ls:List Lim) (goal:List Int):Sx.Mat:=(lb0 K ls goal).bd.R
theorem zem (hm:ls.length=m):Sx.Good K (K+m+1) (M0 K ls goal) (lb0 K ls goal).bd:=by
 refine Sx.zfr (fun j hj=>?_) rfl (fun _ _=>rfl) (fun j c hj hc=>?_) (by omega)
 ·show(List.range K).getD j 0=j
  simp[hj]
 ·show((Vw K ls goal).getD j []).getD c 0=_
  rw[zgj hj]
  unfold YJ
  rw[List.getD_eq_getElem?_getD,List.getElem?_set]
  by_cases e:c=j
  ·subst e;rw[if_pos rfl,if_pos (by simp;omega),if_pos rfl];rfl
  ·rw[if_neg (Ne.symm e),if_neg e,List.getElem?_replicate]
   split <;> rfl
end
structure Bo (K m:Nat) (M:Sx.Mat) (b:LB):Prop where
 wf:WFb K m b
 g:Sx.Good K (K+m+1) M b.bd
 hw:∀j,j < K->b.bd.h j < K+m
structure Mz (K m:Nat) (M:Sx.Mat) (B:Nat):Prop where
 b1:1<=B
 le:∀i c,i < K+m+1->c<=K->(M i c).natAbs<=B
 z:Sx.fact (K+1) * B ^ (K+1) < 2 ^ 1000
section
variable {K m B:Nat}{M:Sx.Mat}{b:LB}{t p:Nat}
theorem Bo.sm (o:Bo K m M b) (z:Mz K m M B):Sm b:=by
 obtain⟨h1,h2⟩:=o.g.size z.b1 z.le
 refine⟨by have:0 < b.D:=o.g.pos;omega,Nat.lt_of_le_of_lt h1 z.z,fun r hr x hx=>?_⟩
 obtain⟨i,hi,rfl⟩:=List.getElem_of_mem hr
 obtain⟨j,hj,rfl⟩:=List.getElem_of_mem hx
 rw[o.wf.rl] at hi
 have hj':=hj
 rw[o.wf.ll _ (List.getElem_mem _)] at hj'
 have:=h2 i j hi (by omega)
 have e:b.bd.R i j=b.rows[i][j]:=by
  rw[bd_R]
  have e1:b.rows.getD i []=b.rows[i]:=by simp[List.getD_eq_getElem?_getD,show i < b.rows.length by rw[o.wf.rl];exact hi]
  rw[e1]
  simp[List.getD_eq_getElem?_getD,hj]
 rw[e] at this
 exact Nat.lt_of_le_of_lt this z.z
theorem Bo.swap (o:Bo K m M b) (ht:K<=t) (ht2:t < K+m) (hp:p < K) (hne:b.bd.R t p ≠ 0):Bo K m M (lsw b t p):=by
 refine⟨lsw_wf o.wf (by omega),?_,fun j hj=>?_⟩
 ·rw[Ul o.wf (by omega) hp]
  exact(o.g.swap (by omega) hp hne).1
 ·rw[Ul o.wf (by omega) hp]
  show(if j=p then t else b.bd.h j) < K+m
  split
  ·exact ht2
  ·exact o.hw j hj
def zdb:DS:=(dSeq (dSet 2 [] (Zk ZV (Zc (dVar 0) (Zc (dVar 1) dNil))))
  (dIf (tV (d1 UZ (dVar 2)))
  (dSet 0 [] (Zk Ys (Zc (dVar 0) (Zc (dVar 2) (Zc (dVar 1) dNil)))))
  Z2))
theorem zft (z:Mz K m M B) (o:Bo K m M b) (hp:p < K) (s2:Sl):∃b' s2',Bo K m M b'/\(∀j,j < K->j ≠ p->(∀i,K<=i->i < K+m->b.bd.R i j=0)->∀i,K<=i->i < K+m->b'.bd.R i j=0)/\(∀j,j < K->j ≠ p->b'.bd.h j=b.bd.h j)/\(b'.bd.h p < K->∀i,K<=i->i < K+m->b'.bd.R i p=0) /\
  zdb [.val (eB b),.val (.int p),s2]=.ok (.nx [.val (eB b'),.val (.int p),s2']):=by
 rcases zbR o.wf hp with ⟨t,h1,h2,h3,h4⟩ | ⟨h1,h2⟩
 ·refine⟨lsw b t p,.val (.int t),o.swap h1 h2 hp h3,fun j hj hjp hz=>?_,fun j hj hjp=>?_,fun hh=>?_,?_⟩
  ·rw[Ul o.wf (by omega) hp]
   exact Sx.zcg o.g rfl h1 h2 hp h3 hj hjp hz
  ·rw[Ul o.wf (by omega) hp]
   exact if_neg hjp
  ·rw[Ul o.wf (by omega) hp] at hh
   have:(if p=p then t else b.bd.h p) < K:=hh
   rw[if_pos rfl] at this
   omega
  ·have hs:=Qg o.wf (o.sm z) (t:=t) (by omega) hp
   simp[zdb,h4,hs]
 ·exact⟨b,.val .none,o,fun j hj _ hz=>hz,fun j hj _=>rfl,fun _=>h1,by simp[zdb,h2]⟩
theorem freed_ok (z:Mz K m M B) (o:Bo K m M b):∃b',Bo K m M b'/\Sx.Fr K m b'.bd/\JR [eB b]=.ok (eB b'):=by
 have h1:X7 (K:Int)=true:=ZK (by have:=o.wf.kk;omega)
 obtain⟨G',e,b',s1,s2,hG,o',f'⟩:=zbP (st:=Zw 1) (b:=zdb) (n:=K) (G:=[.val (eB b),.emp,.emp])
  (fun i G=>∃b' s1 s2,G=[.val (eB b'),s1,s2]/\Bo K m M b'/\∀j,j < i->j < K->b'.bd.h j < K->∀t,K<=t->t < K+m->b'.bd.R t j=0)
  ⟨b,.emp,.emp,rfl,o,fun j hj=>by omega⟩ (fun i G hi ⟨b1,s1,s2,hG,o1,f1⟩=>by
   subst hG
   obtain⟨b2,s2',o2,k1,k2,k3,k4⟩:=zft z o1 hi s2
   refine⟨_,rfl,_,.inl k4,b2,_,_,rfl,o2,fun j hj hjK hh=>?_⟩
   by_cases e:j=i
   ·subst e;exact k3 hh
   ·rw[k2 j hjK e] at hh
    exact k1 j hjK e (f1 j (by omega) hjK hh))
 subst hG
 refine⟨b',o',fun j hj hh=>f' j hj hj hh,?_⟩
 have hd:zhH=dSeq (dFor (Zw 1) [] (iRng (d1 fLen (d1 (fFld "heads") (dVar 0)))) zdb) zah:=rfl
 simp[JR,hd,zah,runQ,runF,o.wf.hl,h1,e]
end
end Lw
namespace Lw
open PySem Fx
def tOf (b:LB):Option Nat:=match ZA [eB b] with
 | .ok (.int t)=>some t.toNat
 | _=>none
def pOf (b:LB) (t:Nat):Option Nat:=match Zj [eB b,.int t] with
 | .ok (.int p)=>some p.toNat
 | _=>none
def nxt (b:LB):Option LB:=(tOf b).bind fun t=>(pOf b t).map fun p=>lsw b t p
def End:Nat->LB->Prop
 | 0,b=>nxt b=none
 | n+1,b=>nxt b=none\/∃b',nxt b=some b'/\End n b'
section
variable {K m B:Nat}{M:Sx.Mat}{b:LB}
theorem zeq (f:Sx.Fr K m b.bd) {t j:Nat}(ht:K<=t) (ht2:t < K+m) (hj:j < K):hlp b K t j=decide (0 < b.bd.R t j):=by
 unfold hlp
 by_cases hh:b.bd.h j < K
 ·rw[f j hj hh t ht ht2];rfl
 ·rw[decide_eq_false hh,Bool.and_false,Bool.or_false]
theorem Qj (o:Bo K m M b) (f:Sx.Fr K m b.bd) :
  ((∀t,K<=t->t < K+m->0<=b.bd.R t K)/\ZA [eB b]=.ok .none/\nxt b=none) \/
  (∃t,K<=t/\t < K+m/\b.bd.R t K < 0/\(∀j,j < K->hlp b K t j=false)/\ZA [eB b]=.ok (.int t)/\Zj [eB b,.int t]=.ok .none/\nxt b=none) \/
  ∃t p,t < K+m/\Sx.Ch1 K (K+m+1) b.bd t p/\ZA [eB b]=.ok (.int t)/\Zj [eB b,.int t]=.ok (.int p)/\nxt b=some (lsw b t p):=by
 rcases zbn o.wf with ⟨t,h1,h2,h3,h4,h5⟩ | ⟨h1,h2⟩
 ·have e1:tOf b=some t:=by unfold tOf;rw[h5];simp
  rcases V6 o.wf (t:=t) (by omega) with ⟨p,k1,k2,k3,k4⟩ | ⟨k1,k2⟩
  ·have e2:pOf b t=some p:=by unfold pOf;rw[k4];simp
   refine .inr (.inr ⟨t,p,h2,⟨h1,by omega,k1,h3,h4,?_,fun j hj hlt=>?_,fun j hj hh=>f j hj hh t h1 h2⟩,h5,k4,by unfold nxt;rw[e1];simp[e2]⟩)
   ·rw[zeq f h1 h2 k1] at k2;simpa using k2
   ·rcases(show b.bd.R t j<=0\/0 < b.bd.R t j by omega) with z | z
    ·exact z
    ·have:=k3 j hj (by rw[zeq f h1 h2 hj];simpa using z)
     omega
  ·have e2:pOf b t=none:=by unfold pOf;rw[k2]
   exact .inr (.inl ⟨t,h1,h2,h3,k1,h5,k2,by unfold nxt;rw[e1];simp[e2]⟩)
 ·exact .inl ⟨h1,h2,by unfold nxt tOf;rw[h2];rfl⟩
theorem Jw (o:Bo K m M b) (f:Sx.Fr K m b.bd) {b':LB}(e:nxt b=some b'):∃t p,t < K+m/\Sx.Ch1 K (K+m+1) b.bd t p/\b'=lsw b t p/\Bo K m M b'/\Sx.Fr K m b'.bd:=by
 rcases Qj o f with ⟨_,_,h⟩ | ⟨_,_,_,_,_,_,_,h⟩ | ⟨t,p,h1,ch,_,_,h⟩
 ·rw[h] at e;cases e
 ·rw[h] at e;cases e
 ·rw[h] at e
  cases e
  have hne:b.bd.R t p ≠ 0:=by have:=ch.hp;omega
  refine⟨t,p,h1,ch,rfl,o.swap ch.tK h1 ch.pK hne,?_⟩
  rw[Ul o.wf (by omega) ch.pK]
  exact Sx.zhk o.g rfl f ch.tK h1 ch.pK hne
theorem ends (o:Bo K m M b) (f:Sx.Fr K m b.bd):End ((K+m+1) ^ K) b:=by
 refine Classical.byContradiction fun no=>?_
 let it:Nat->LB:=fun k=>Nat.rec b (fun _ x=>(nxt x).getD x) k
 have it1:∀k,it (k+1)=(nxt (it k)).getD (it k):=fun k=>rfl
 have all:∀k,k<=(K+m+1) ^ K->¬End ((K+m+1) ^ K - k) (it k)/\Bo K m M (it k)/\Sx.Fr K m (it k).bd:=by
  intro k
  induction k with
  | zero=>exact fun _=>⟨no,o,f⟩
  | succ k ih=>
   intro hk
   obtain⟨h1,h2,h3⟩:=ih (by omega)
   obtain⟨d,hd⟩:∃d,(K+m+1) ^ K - k=d+1:=⟨(K+m+1) ^ K - k - 1,by omega⟩
   rw[hd] at h1
   cases e:nxt (it k) with
   | none=>exact absurd (.inl e) h1
   | some b'=>
    have e2:it (k+1)=b':=by rw[it1,e];rfl
    obtain⟨t,p,_,_,_,a5,a6⟩:=Jw h2 h3 e
    rw[e2,show(K+m+1) ^ K - (k+1)=d by omega]
    exact⟨fun z=>h1 (.inr ⟨b',e,z⟩),a5,a6⟩
 have step:∀k,∃q:Nat × Nat,k < (K+m+1) ^ K->Sx.Ch1 K (K+m+1) (it k).bd q.1 q.2/\(it (k+1)).bd=Sx.swp (it k).bd q.1 q.2:=by
  intro k
  by_cases hk:k < (K+m+1) ^ K
  ·obtain⟨h1,h2,h3⟩:=all k (by omega)
   obtain⟨d,hd⟩:∃d,(K+m+1) ^ K - k=d+1:=⟨(K+m+1) ^ K - k - 1,by omega⟩
   rw[hd] at h1
   cases e:nxt (it k) with
   | none=>exact absurd (.inl e) h1
   | some b'=>
    obtain⟨t,p,a1,a2,a3,_,_⟩:=Jw h2 h3 e
    refine⟨(t,p),fun _=>⟨a2,?_⟩⟩
    have e2:it (k+1)=b':=by rw[it1,e];rfl
    rw[e2,a3,Ul h2.wf (by omega) a2.pK]
  ·exact⟨(0,0),fun z=>absurd z hk⟩
 obtain⟨q,hq⟩:=Classical.axiomOfChoice step
 exact absurd (Sx.zdl (K:=K) (N:=K+m+1) (M:=M) (B:=fun k=>(it k).bd) (T:=fun k=>(q k).1) (P:=fun k=>(q k).2) (L:=(K+m+1) ^ K) (fun k hk=>(all k hk).2.1.g) (fun k hk=>(hq k hk).1) fun k hk=>(hq k hk).2) (Nat.lt_irrefl _)
def cS:DT:=tV (d1 UZ (dVar 3))
def bS:DS:=(dSeq (dSet 4 [] (Zk Zj (Zc (dVar 2) (Zc (dVar 3) dNil))))
  (dSeq (dIf (tV (d1 fIsN (dVar 4)))
  (dRet (dTup (Zc (dVar 2) (Zc (dVar 3) dNil))))
  Z2)
  (dSeq (dSet 2 [] (Zk Ys (Zc (dVar 2) (Zc (dVar 3) (Zc (dVar 4) dNil)))))
  (dSet 3 [] (Zk ZA (Zc (dVar 2) dNil))))))
theorem zdk (z:Mz K m M B) (tk tg:PyData):∀(n:Nat) (b:LB),End n b->Bo K m M b->Sx.Fr K m b.bd->∀(fuel:Nat),n < fuel->∀(th:PyData) (s4:Sl),ZA [eB b]=.ok th ->
  ∃b',Bo K m M b'/\Sx.Fr K m b'.bd/\(((∀t,K<=t->t < K+m->0<=b'.bd.R t K)/\∃s4',Yi cS bS fuel [.val tk,.val tg,.val (eB b),.val th,s4]=.ok (.nx [.val tk,.val tg,.val (eB b'),.val .none,s4'])) \/
   ∃t,K<=t/\t < K+m/\b'.bd.R t K < 0/\(∀j,j < K->hlp b' K t j=false)/\Yi cS bS fuel [.val tk,.val tg,.val (eB b),.val th,s4]=.ok (.rt (.tuple [eB b',.int t]))):=by
 intro n
 induction n with
 | zero=>
  intro b he o f fuel hf th s4 hth
  obtain⟨fu,rfl⟩:∃fu,fuel=fu+1:=⟨fuel - 1,by omega⟩
  have he':nxt b=none:=he
  rcases Qj o f with ⟨a1,a2,_⟩ | ⟨t,a1,a2,a3,a4,a5,a6,_⟩ | ⟨t,p,_,_,_,_,a5⟩
  ·rw[hth] at a2;cases a2
   refine⟨b,o,f,.inl ⟨a1,s4,?_⟩⟩
   simp[Yi,cS]
  ·rw[hth] at a5;cases a5
   refine⟨b,o,f,.inr ⟨t,a1,a2,a3,a4,?_⟩⟩
   simp[Yi,cS,bS,a6]
  ·rw[he'] at a5;cases a5
 | succ n ih=>
  intro b he o f fuel hf th s4 hth
  obtain⟨fu,rfl⟩:∃fu,fuel=fu+1:=⟨fuel - 1,by omega⟩
  rcases Qj o f with ⟨a1,a2,_⟩ | ⟨t,a1,a2,a3,a4,a5,a6,_⟩ | ⟨t,p,a0,ch,a3,a4,a5⟩
  ·rw[hth] at a2;cases a2
   refine⟨b,o,f,.inl ⟨a1,s4,?_⟩⟩
   simp[Yi,cS]
  ·rw[hth] at a5;cases a5
   refine⟨b,o,f,.inr ⟨t,a1,a2,a3,a4,?_⟩⟩
   simp[Yi,cS,bS,a6]
  ·rw[hth] at a3;cases a3
   have he2:End n (lsw b t p):=by
    have he':nxt b=none\/∃b',nxt b=some b'/\End n b':=he
    rcases he' with h | ⟨b',h,h'⟩
    ·rw[a5] at h;cases h
    ·rw[a5] at h;cases h;exact h'
   obtain⟨_,_,_,_,_,o2,f2⟩:=Jw o f a5
   obtain⟨th2,hth2⟩:∃th2,ZA [eB (lsw b t p)]=.ok th2:=by
    rcases zbn o2.wf with ⟨t',_,_,_,_,h⟩ | ⟨_,h⟩
    ·exact⟨_,h⟩
    ·exact⟨_,h⟩
   have hs:=Qg o.wf (o.sm z) (t:=t) (p:=p) (by omega) ch.pK
   obtain⟨b',o',f',r⟩:=ih (lsw b t p) he2 o2 f2 fu (by omega) th2 (.val (.int p)) hth2
   have ew:Yi cS bS (fu+1) [.val tk,.val tg,.val (eB b),.val (.int t),s4]=Yi cS bS fu [.val tk,.val tg,.val (eB (lsw b t p)),.val th2,.val (.int p)]:=by
    have ec:cS (frzA [.val tk,.val tg,.val (eB b),.val (.int t),s4])=.ok true:=by simp[cS]
    have eb:bS [.val tk,.val tg,.val (eB b),.val (.int t),s4]=.ok (.nx [.val tk,.val tg,.val (eB (lsw b t p)),.val th2,.val (.int p)]):=by simp[bS,a4,hs,hth2]
    rw[Yi,ec,Res.bind_ok,if_pos rfl,eb]
    rfl
   rw[ew]
   exact⟨b',o',f',r⟩
theorem ze4 (z:Mz K m M B) {tk tg:PyData}(o:Bo K m M b) (h0:YV [tk,tg]=.ok (eB b)) (hf:(K+m+1) ^ K < 1000000000000) :
  ∃b',Bo K m M b'/\Sx.Fr K m b'.bd/\(((∀t,K<=t->t < K+m->0<=b'.bd.R t K)/\Z8 [tk,tg]=.ok (.tuple [eB b',.none])) \/
   ∃t,K<=t/\t < K+m/\b'.bd.R t K < 0/\(∀j,j < K->hlp b' K t j=false)/\Z8 [tk,tg]=.ok (.tuple [eB b',.int t])):=by
 obtain⟨b1,o1,f1,e1⟩:=freed_ok z o
 obtain⟨th,hth⟩:∃th,ZA [eB b1]=.ok th:=by
  rcases zbn o1.wf with ⟨t',_,_,_,_,h⟩ | ⟨_,h⟩
  ·exact⟨_,h⟩
  ·exact⟨_,h⟩
 have hd:zad=dSeq (zam Um cS bS) Vq:=rfl
 obtain⟨b',o',f',r⟩:=zdk z tk tg _ b1 (ends o1 f1) o1 f1 1000000000000 hf th .emp hth
 refine⟨b',o',f',?_⟩
 have hu:∀G,Um G=1000000000000:=fun _=>rfl
 rcases r with ⟨r1,s4,r2⟩ | ⟨t,r1,r2,r3,r4,r5⟩
 ·refine .inl ⟨r1,?_⟩
  simp[Z8,zae,UF,hd,Vq,runQ,runF,h0,e1,hth,hu,r2]
 ·refine .inr ⟨t,r1,r2,r3,r4,?_⟩
  simp[Z8,zae,UF,hd,Vq,runQ,runF,h0,e1,hth,hu,r5]
end
end Lw
namespace Lw
open PySem Fx
theorem div_add {a b D:Int}(h:D ≠ 0):Rat.divInt a D+Rat.divInt b D=Rat.divInt (a+b) D:=by
 simp only[Rat.divInt_eq_div]
 have:(D:Rat) ≠ 0:=by exact_mod_cast h
 grind
theorem zhv {a b D:Int}:(a:Rat) * Rat.divInt b D=Rat.divInt (a * b) D:=by
 simp only[Rat.divInt_eq_div,Rat.intCast_mul]
 grind
theorem div_le {a b D:Int}(h:0 < D) (hh:a<=b * D):Rat.divInt a D<=(b:Rat):=by
 rw[Rat.le_iff_sub_nonneg]
 have e:(b:Rat) - Rat.divInt a D=Rat.divInt (b * D - a) D:=by
  simp only[Rat.divInt_eq_div,Rat.intCast_mul,Rat.intCast_sub]
  have:(D:Rat) ≠ 0:=by exact_mod_cast (show D ≠ 0 by omega)
  grind
 rw[e]
 exact(Rat.divInt_nonneg_iff_of_pos_right h).mpr (by omega)
theorem div_neg {a D:Int}(h:0 < D) (hh:a < 0):Rat.divInt a D < 0:=by
 rw[<- Rat.not_le,Rat.divInt_nonneg_iff_of_pos_right h]
 omega
theorem zhu {a D:Int}(h:0 < D) (hh:0<=a):0<=Rat.divInt a D:=(Rat.divInt_nonneg_iff_of_pos_right h).mpr hh
theorem zez {D:Int}:Rat.divInt 0 D=0:=Rat.zero_divInt D
theorem zht {D:Int}(h:D ≠ 0):Rat.divInt D D=1:=by
 rw[Rat.divInt_eq_div]
 have:(D:Rat) ≠ 0:=by exact_mod_cast h
 grind
theorem zch:∀(n:Nat) (f:Nat->Int),Sx.sumN (n+1) f=f 0+Sx.sumN n (fun i=>f (i+1))
 | 0,f=>by simp[Sx.sumN]
 | n+1,f=>by
  have:=zch n f
  simp only[Sx.sumN] at this ⊢
  omega
theorem Uz {α:Type}(d:α) (f:α->Int) {D:Int}(hD:D ≠ 0):∀(ls:List α) (g:Nat->Int),dot (ls.map f) ((List.range ls.length).map fun i=>Rat.divInt (g i) D)=Rat.divInt (Sx.sumN ls.length fun i=>f (ls.getD i d) * g i) D
 | [],g=>by simp[dot,Sx.sumN]
 | l::ls,g=>by
  have ih:=Uz d f hD ls (fun i=>g (i+1))
  rw[List.length_cons,List.range_succ_eq_map,List.map_cons,List.map_cons,List.map_map,zch]
  simp only[dot]
  have e:((List.range ls.length).map ((fun i=>Rat.divInt (g i) D) ∘ Nat.succ))=(List.range ls.length).map fun i=>Rat.divInt (g (i+1)) D:=rfl
  rw[e,ih,zhv,div_add hD]
  rfl
theorem zbO {α:Type}{xs:List α}{n:Nat}{d:α}(h:n < xs.length):xs[n]=xs.getD n d:=by simp[List.getD_eq_getElem?_getD,h]
def pt (K:Nat) (b:LB):List Rat:=(List.range K).map fun i=>Rat.divInt (b.bd.R i K) b.D
section
variable {K m B:Nat}{M:Sx.Mat}{b:LB}{t:Nat}
theorem Vm (o:Bo K m M b) (s:Sm b):YT [eB b]=.ok (.list ((pt K b).map fr)):=by
 have h1:X7 (K:Int)=true:=ZK (by have:=o.wf.kk;omega)
 have h2:(rngT 0 K).length<=16777216:=by rw[Yp];have:=o.wf.kk;omega
 have hc:Yj (Zw 0) tT (Zk XB (Zc (d2 fIx (d2 fIx (d1 (fFld "rows") (dVar 1)) (dVar 0)) (d1 fNeg (dC (.int 1)))) (Zc (d1 (fFld "divisor") (dVar 1)) dNil))) [.emp,.val (eB b)] (rngT 0 K)=.ok ((List.range K).map fun i=>fr (Rat.divInt (b.bd.R i K) b.D)):=by
  rw[Y1]
  refine ZY (fun(k:Nat)=>PyData.int (k:Int)) _ _ fun i hi=>⟨_,rfl,?_⟩
  have hi':=List.mem_range.mp hi
  have e1:=Ue o.wf (i:=i) (by omega)
  have e2:fIx (eI (b.rows.getD i [])) (.int (-1))=.ok (.int (b.bd.R i K)):=zbL (o.wf.row (by omega))
  have e3:=JO (u:=b.bd.R i K) s.d0 s.d (by omega)
  generalize b.bd.R i K=r at *
  simp[e1,e2,e3,-fIx,-List.getD_eq_getElem?_getD]
 simp[YT,za2,runQ,runF,o.wf.hl,h1,h2,hc,pt]
def shZ (b:LB) (K t:Nat):Nat->Nat->Int
 | 0,_=>0
 | c+1,i=>if b.bd.h c=K+i then -(b.bd.R t c) else shZ b K t c i
def QB:DS:=(dIf (tV (d2 fGe (dVar 4) (dVar 2)))
  (VU 3 [] (d2 fSub (dVar 4) (dVar 2)) (Zk XB (Zc (d1 fNeg (dVar 5)) (Zc (d1 (fFld "divisor") (dVar 0)) dNil))))
  Z2)
def shL (b:LB) (K m t c:Nat):List Rat:=(List.range m).map fun i=>Rat.divInt (shZ b K t c i) b.D
theorem zdj (o:Bo K m M b) (s:Sm b) {c:Nat}(hc:c < K) (ht:t < K+m+1) (s4 s5:Sl) :
  QB [.val (eB b),.val (.int t),.val (.int K),.own ((shL b K m t c).map fr),.val (.int (b.bd.h c:Int)),.val (.int (b.bd.R t c))]
   = .ok (.nx [.val (eB b),.val (.int t),.val (.int K),.own ((shL b K m t (c+1)).map fr),.val (.int (b.bd.h c:Int)),.val (.int (b.bd.R t c))]):=by
 have hw:=o.hw c hc
 by_cases hh:K<=b.bd.h c
 ·have e3:=JO (u:=-(b.bd.R t c)) s.d0 s.d (by omega)
  have e4:ixP m ((b.bd.h c:Int) - (K:Int))=some (b.bd.h c - K):=by
   unfold ixP
   rw[if_pos (by omega),if_pos (by omega)]
   congr 1
   omega
  have e5:((shL b K m t c).map fr).set (b.bd.h c - K) (fr (Rat.divInt (-(b.bd.R t c)) b.D))=(shL b K m t (c+1)).map fr:=by
   unfold shL
   rw[List.map_map,List.map_map,JA]
   refine List.map_congr_left fun i hi=>?_
   simp only[Function.comp,shZ]
   by_cases e:i=b.bd.h c - K
   ·rw[if_pos e,if_pos (by omega)]
   ·rw[if_neg e,if_neg (by omega)]
  have e6:((shL b K m t c).map fr).length=m:=by simp[shL]
  generalize b.bd.R t c=r at *
  generalize b.bd.h c=hc' at *
  generalize (shL b K m t c).map fr=sl at *
  generalize (shL b K m t (c+1)).map fr=sl2 at *
  have hh':(K:Int)<=(hc':Int):=by omega
  simp[QB,hh',e3,e4,e5,e6]
 ·have e5:shL b K m t (c+1)=shL b K m t c:=by
   unfold shL
   refine List.map_congr_left fun i hi=>?_
   simp only[shZ]
   rw[if_neg (by omega)]
  rw[e5]
  generalize b.bd.R t c=r at *
  generalize b.bd.h c=hc' at *
  have hh':¬(K:Int)<=(hc':Int):=by omega
  simp[QB,hh']
theorem zck (o:Bo K m M b) (s:Sm b) (ht:t < K+m+1):Y5 [eB b,.int t]=.ok (.list ((shL b K m t K).map fr)):=by
 have hrm:=Jj o.wf
 have e1:=Ue o.wf ht
 have hmk:=o.wf.mm
 have hz:zipT (b.heads.map fun(h:Nat)=>PyData.int (h:Int)) ((b.rows.getD t []).map PyData.int)=(List.range K).map fun i=>.tuple [.int (b.bd.h i:Int),.int (b.bd.R t i)]:=by
  have er:=o.wf.row ht
  have eh:=o.wf.hl
  apply List.ext_getElem
  ·rw[Ve];simp[eh,er,-List.getD_eq_getElem?_getD]
  ·intro n h1 h2
   simp only[Ve,List.getElem_map,List.getElem_zip,List.getElem_range]
   have hn:n < K:=by simpa using h2
   have a1:b.heads[n]'(by omega)=b.bd.h n:=by simp[List.getD_eq_getElem?_getD,show n < b.heads.length by omega]
   have a2:(b.rows.getD t [])[n]'(by omega)=b.bd.R t n:=by
    rw[bd_R]
    exact zbO _
   rw[a1,a2]
 have start:List.replicate m (PyData.tuple [.int 0,.int 1])=(shL b K m t 0).map fr:=by
  rw[zhj]
  unfold shL
  rw[List.map_map]
  apply List.ext_getElem
  ·simp
  ·intro n h1 h2
   simp[shZ,zez]
 have hm3:(m:Int)<=16777216:=by omega
 have loop:∃s4 s5,forL (Uc 4 5) QB (zipT (b.heads.map fun(h:Nat)=>PyData.int (h:Int)) ((b.rows.getD t []).map PyData.int)) [.val (eB b),.val (.int t),.val (.int K),.own ((shL b K m t 0).map fr),.emp,.emp]=.ok (.nx [.val (eB b),.val (.int t),.val (.int K),.own ((shL b K m t K).map fr),s4,s5]):=by
  rw[hz]
  obtain⟨G',e,s4,s5,hG⟩:=UW (st:=Uc 4 5) (b:=QB) (fun c G=>∃s4 s5,G=[.val (eB b),.val (.int t),.val (.int K),.own ((shL b K m t c).map fr),s4,s5]) ((List.range K).map fun i=>PyData.tuple [.int (b.bd.h i:Int),.int (b.bd.R t i)]) 0
   [.val (eB b),.val (.int t),.val (.int K),.own ((shL b K m t 0).map fr),.emp,.emp] ⟨.emp,.emp,rfl⟩ fun i x G hx ⟨s4,s5,hG⟩=>by
    subst hG
    rw[List.getElem?_map] at hx
    cases ei:(List.range K)[i]? with
    | none=>rw[ei] at hx;cases hx
    | some j=>
     rw[ei] at hx
     obtain⟨hj,ej⟩:=List.getElem?_eq_some_iff.mp ei
     rw[List.getElem_range] at ej
     subst ej
     cases hx
     have hiK:i < K:=by simpa using hj
     have st:=zdj o s hiK ht .emp .emp
     have e0:0+i=i:=by omega
     have e1:0+i+1=i+1:=by omega
     rw[e0]
     exact⟨_,rfl,_,.inl st,_,_,rfl⟩
  have el:0+((List.range K).map fun i=>PyData.tuple [.int (b.bd.h i:Int),.int (b.bd.R t i)]).length=K:=by simp
  rw[el] at hG
  subst hG
  exact⟨s4,s5,e⟩
 obtain⟨s4,s5,loop⟩:=loop
 have hm1:X7 (m:Int)=true:=ZK (by omega)
 have hm2:m<=16777216:=by omega
 have hd:U2=dSeq (dFor (Uc 4 5) [] (iZip (iSeq (d1 (fFld "heads") (dVar 0))) (iSeq (d2 fIx (d1 (fFld "rows") (dVar 0)) (dVar 1)))) QB) Vp:=rfl
 simp[Y5,zac,U3,hd,Vp,runQ,runF,o.wf.hl,hrm,Yp,hm1,hm2,hm3,start,e1,loop,-fIx,-List.getD_eq_getElem?_getD]
end
end Lw
namespace Lw
open PySem Fx
section
variable {K m:Nat}{ls:List Lim}{goal:List Int}
theorem zb8 (hw:∀l ∈ ls,l.1.length=K) {i c:Nat}(hi:i < ls.length) (hc:c < K):M0 K ls goal (K+i) c=-(colN c (ls.getD i ([],0))):=by
 show((Vw K ls goal).getD (K+i) []).getD c 0=_
 rw[zd9 hi]
 have hl:=hw _ (Xr (xs:=ls) (d:=([],0)) hi)
 generalize ls.getD i ([],0)=l at *
 unfold zct colN
 rw[List.getD_eq_getElem?_getD,List.getElem?_append_left (by simpa[hl] using hc),List.getElem?_map,List.getD_eq_getElem?_getD,List.getElem?_eq_getElem (by omega)]
 rfl
theorem Jq (hw:∀l ∈ ls,l.1.length=K) {i:Nat}(hi:i < ls.length):M0 K ls goal (K+i) K=(ls.getD i ([],0)).2:=by
 show((Vw K ls goal).getD (K+i) []).getD K 0=_
 rw[zd9 hi]
 have hl:=hw _ (Xr (xs:=ls) (d:=([],0)) hi)
 generalize ls.getD i ([],0)=l at *
 unfold zct
 rw[List.getD_eq_getElem?_getD,List.getElem?_append_right (by simp[hl])]
 simp[hl]
theorem zdZ (hm:ls.length=m) (hg:goal.length=K) {c:Nat}(hc:c < K):M0 K ls goal (K+m) c=goal.getD c 0:=by
 show((Vw K ls goal).getD (K+m) []).getD c 0=_
 rw[<- hm,zcs,List.getD_eq_getElem?_getD,List.getElem?_append_left (by omega),List.getD_eq_getElem?_getD]
theorem zb9 (hm:ls.length=m) (hg:goal.length=K):M0 K ls goal (K+m) K=0:=by
 show((Vw K ls goal).getD (K+m) []).getD K 0=_
 rw[<- hm,zcs,List.getD_eq_getElem?_getD,List.getElem?_append_right (by omega)]
 simp[hg]
theorem M0_amt {i c:Nat}(hi:i < K) (hc:c<=K):M0 K ls goal i c=if c=i then 1 else 0:=by
 show((Vw K ls goal).getD i []).getD c 0=_
 rw[zgj hi]
 unfold YJ
 rw[List.getD_eq_getElem?_getD,List.getElem?_set]
 by_cases e:c=i
 ·subst e;rw[if_pos rfl,if_pos (by simp;omega),if_pos rfl];rfl
 ·rw[if_neg (Ne.symm e),if_neg e,List.getElem?_replicate]
  split <;> rfl
theorem Mz.of {B:Nat}(hb:1<=B) (hm:ls.length=m) (hw:∀l ∈ ls,l.1.length=K) (hg:goal.length=K) (h1:∀l ∈ ls,(∀x ∈ l.1,x.natAbs<=B)/\l.2.natAbs<=B) (h2:∀x ∈ goal,x.natAbs<=B) (hz:Sx.fact (K+1) * B ^ (K+1) < 2 ^ 1000):Mz K m (M0 K ls goal) B:=by
 refine⟨hb,fun i c hi hc=>?_,hz⟩
 rcases(show i < K\/(K<=i/\i < K+m)\/i=K+m by omega) with h | h | h
 ·rw[M0_amt h hc];split <;> simp <;> omega
 ·obtain⟨j,rfl⟩:∃j,i=K+j:=⟨i - K,by omega⟩
  have hj:j < ls.length:=by omega
  have hmem:=Xr (xs:=ls) (d:=([],0)) hj
  by_cases e:c=K
  ·subst e;rw[Jq hw hj];exact(h1 _ hmem).2
  ·rw[zb8 hw hj (by omega),Int.natAbs_neg]
   exact(h1 _ hmem).1 _ (Xr (by rw[hw _ hmem];omega))
 ·subst h
  by_cases e:c=K
  ·subst e;rw[zb9 hm hg];simp
  ·rw[zdZ hm hg (by omega)]
   exact h2 _ (Xr (by omega))
end
section
variable {K m B:Nat}{ls:List Lim}{goal:List Int}{b:LB}{t:Nat}
theorem Bo.lin (o:Bo K m (M0 K ls goal) b) (hm:ls.length=m) {i q:Nat}(hi:i < K+m+1) (hq:q<=K):b.bd.R i q=Sx.sumN K (fun c=>M0 K ls goal i c * b.bd.R c q)+M0 K ls goal i K * (if q=K then b.D else 0):=by
 have e:=o.g.two (zem (K:=K) (ls:=ls) (goal:=goal) hm) hi hq
 have e1:(lb0 K ls goal).bd.D=1:=rfl
 rw[e1,Int.one_mul] at e
 rw[e]
 congr 1
 refine Sx.ZP fun c hc=>?_
 have e2:(lb0 K ls goal).bd.h c=c:=by show(List.range K).getD c 0=c;simp[hc]
 rw[e2];rfl
theorem Bo.room (o:Bo K m (M0 K ls goal) b) (hm:ls.length=m) (hw:∀l ∈ ls,l.1.length=K) {i q:Nat}(hi:i < m) (hq:q<=K) :
  Sx.sumN K (fun c=>colN c (ls.getD i ([],0)) * b.bd.R c q)=(if q=K then(ls.getD i ([],0)).2 * b.D else 0) - b.bd.R (K+i) q:=by
 rw[o.lin hm (i:=K+i) (by omega) hq,Jq hw (by omega)]
 have e:Sx.sumN K (fun c=>M0 K ls goal (K+i) c * b.bd.R c q)=Sx.sumN K (fun c=>(-1) * (colN c (ls.getD i ([],0)) * b.bd.R c q)):=Sx.ZP fun c hc=>by
  rw[zb8 hw (by omega) hc];grind
 rw[e,Sx.Wq]
 by_cases h:q=K
 ·rw[if_pos h,if_pos h];omega
 ·rw[if_neg h,if_neg h];omega
theorem Bo.worth (o:Bo K m (M0 K ls goal) b) (hm:ls.length=m) (hg:goal.length=K) {q:Nat}(hq:q<=K):Sx.sumN K (fun c=>goal.getD c 0 * b.bd.R c q)=b.bd.R (K+m) q:=by
 rw[o.lin hm (i:=K+m) (by omega) hq,zb9 hm hg,Int.zero_mul,Int.add_zero]
 exact Sx.ZP fun c hc=>by rw[zdZ hm hg hc]
theorem dot_pt {ws:List Int}(hl:ws.length=K) (hD:b.D ≠ 0):dot ws (pt K b)=Rat.divInt (Sx.sumN K fun c=>ws.getD c 0 * b.bd.R c K) b.D:=by
 have:=Uz (0:Int) (fun x=>x) hD ws (fun i=>b.bd.R i K)
 rw[hl,List.map_id''] at this
 ·exact this
 ·intro x;rfl
theorem zf6 {i:Nat}:∀(c:Nat),(∀j,j < c->b.bd.h j ≠ K+i)->shZ b K t c i=0
 | 0,_=>rfl
 | c+1,h=>by
  unfold shZ
  rw[if_neg (h c (by omega))]
  exact zf6 c fun j hj=>h j (by omega)
theorem zf7 {i:Nat}:∀(c:Nat),c<=K->(∀j,j < K->b.bd.R t j<=0)->0<=shZ b K t c i
 | 0,_,_=>Int.le_refl 0
 | c+1,hc,h=>by
  unfold shZ
  split
  ·have:=h c (by omega);omega
  ·exact zf7 c (by omega) h
theorem zfW {n a:Nat}{v:Int}(f g:Nat->Int) (ha:a < n):Sx.sumN n (fun i=>f i * (if i=a then v else g i))=Sx.sumN n (fun i=>f i * g i)+f a * (v - g a):=by
 have e:∀i,i < n->f i * (if i=a then v else g i)=f i * g i+(if i=a then f a * (v - g a) else 0):=fun i _=>by
  split
  ·rename_i h;subst h;grind
  ·omega
 rw[Sx.ZP e,Sx.zbi,Sx.zfY ha]
theorem sh_sum {M:Sx.Mat}(o:Bo K m M b) (F:Nat->Int):∀(c:Nat),c<=K->Sx.sumN m (fun i=>F (K+i) * shZ b K t c i)=Sx.sumN c (fun j=>if K<=b.bd.h j then F (b.bd.h j) * -(b.bd.R t j) else 0)
 | 0,_=>by simp only[shZ,Int.mul_zero,Sx.sumN];exact Sx.zbh fun _ _=>rfl
 | c+1,hc=>by
  have ih:=sh_sum o F c (by omega)
  have hw:=o.hw c (by omega)
  simp only[Sx.sumN,<- ih]
  by_cases h:K<=b.bd.h c
  ·rw[if_pos h]
   have e:∀i,i < m->F (K+i) * shZ b K t (c+1) i=F (K+i) * (if i=b.bd.h c - K then -(b.bd.R t c) else shZ b K t c i):=fun i hi=>by
    congr 1
    simp only[shZ]
    by_cases z:i=b.bd.h c - K
    ·rw[if_pos z,if_pos (by omega)]
    ·rw[if_neg z,if_neg (by omega)]
   rw[Sx.ZP e,zfW (fun i=>F (K+i)) (fun i=>shZ b K t c i) (by omega)]
   have z0:shZ b K t c (b.bd.h c - K)=0:=zf6 c fun j hj z=>by
    have:=o.g.inj (j:=j) (l:=c) (by omega) (by omega) (by omega)
    omega
   have z1:K+(b.bd.h c - K)=b.bd.h c:=by omega
   simp only[z0,z1,Int.sub_zero]
  ·rw[if_neg h,Int.add_zero]
   refine Sx.ZP fun i hi=>?_
   congr 1
   simp only[shZ]
   rw[if_neg (by omega)]
theorem zf4 {M:Sx.Mat}(o:Bo K m M b) (ht:t < K+m+1) (hz:∀j,j < K->b.bd.h j < K->b.bd.R t j=0) {c:Nat}(hc:c<=K):Sx.sumN m (fun i=>M (K+i) c * shZ b K t K i)=(if c=K then b.bd.R t K else 0) - b.D * M t c:=by
 rw[sh_sum o (fun i=>M i c) K (Nat.le_refl _)]
 have cr:=o.g.cr t c ht hc
 simp only[Sx.sumN] at cr
 rw[Sx.Vh_K] at cr
 have e:Sx.sumN K (fun j=>if K<=b.bd.h j then M (b.bd.h j) c * -(b.bd.R t j) else 0)=Sx.sumN K (fun j=>(-1) * (b.bd.R t j * Sx.Vh K M b.bd.h j c)):=Sx.ZP fun j hj=>by
  rw[Sx.Vh_lt hj]
  by_cases h:K<=b.bd.h j
  ·rw[if_pos h];grind
  ·rw[if_neg h,hz j hj (by omega)];omega
 rw[e,Sx.Wq]
 have ek:Sx.eK K c=if c=K then 1 else 0:=rfl
 rw[ek] at cr
 rw[bd_D] at cr
 by_cases h:c=K
 ·rw[if_pos h] at cr ⊢;omega
 ·rw[if_neg h] at cr ⊢;omega
def clZ (b:LB) (K t:Nat) (i:Nat):Int:=if i=t - K then b.D else shZ b K t K i
def clL (b:LB) (K m t:Nat):List Rat:=(List.range m).map fun i=>Rat.divInt (clZ b K t i) b.D
theorem zeO {M:Sx.Mat}(o:Bo K m M b) (s:Sm b) (ht:K<=t) (ht2:t < K+m):Xi [eB b,.int t]=.ok (.list ((clL b K m t).map fr)):=by
 have h1:=zck o s (t:=t) (by omega)
 have e4:ixP m ((t:Int) - (K:Int))=some (t - K):=by
  unfold ixP
  rw[if_pos (by omega),if_pos (by omega)]
  congr 1
  omega
 have e6:((shL b K m t K).map fr).length=m:=by simp[shL]
 have e5:((shL b K m t K).map fr).set (t - K) (PyData.tuple [.int 1,.int 1])=(clL b K m t).map fr:=by
  have e1:PyData.tuple [.int 1,.int 1]=fr 1:=by simp[fr]
  unfold shL clL
  rw[e1,List.map_map,List.map_map,JA]
  refine List.map_congr_left fun i hi=>?_
  simp only[Function.comp,clZ]
  by_cases e:i=t - K
  ·rw[if_pos e,if_pos e,zht s.d0]
  ·rw[if_neg e,if_neg e]
 generalize (shL b K m t K).map fr=sl at *
 generalize (clL b K m t).map fr=cl at *
 simp[Xi,zbb,Q5,Q4,runQ,runF,oCall,h1,o.wf.hl,e4,e6,e5]
theorem cl_rows {M:Sx.Mat}(o:Bo K m M b) (ht:K<=t) (ht2:t < K+m) (hsh:b.bd.R t K < 0) (hz:∀j,j < K->b.bd.h j < K->b.bd.R t j=0) {c:Nat}(hc:c<=K):Sx.sumN m (fun i=>M (K+i) c * clZ b K t i)=if c=K then b.bd.R t K else 0:=by
 unfold clZ
 rw[zfW (fun i=>M (K+i) c) (fun i=>shZ b K t K i) (by omega),zf4 o (by omega) hz hc]
 have z0:shZ b K t K (t - K)=0:=zf6 K fun j hj z=>by
  have:=o.g.head0 hj
  rw[z,show K+(t - K)=t by omega] at this
  omega
 have z1:K+(t - K)=t:=by omega
 simp only[z0,z1,Int.sub_zero]
 have:M t c * b.D=b.D * M t c:=Int.mul_comm _ _
 omega
end
end Lw
namespace Lw
open PySem Fx
structure DK (K m B n0:Nat) (ls:List Lim):Prop where
 k:K<=1000
 m1:m<=1000
 len:ls.length=m
 w:∀l ∈ ls,l.1.length=K
 b1:1<=B
 sz:∀l ∈ ls,(∀x ∈ l.1,x.natAbs<=B)/\l.2.natAbs<=B
 z:Sx.fact (K+1) * B ^ (K+1) < 2 ^ n0
 n:n0<=1000
 fu:(K+m+1) ^ K < 1000000000000
abbrev Z4 (K:Nat) (ls:List Lim):PyData:=.tuple [.int K,.tuple (ls.map limT)]
structure SzB (K m n0:Nat) (b:LB):Prop where
 d:b.D.natAbs < 2 ^ n0
 r:∀i j,i < K+m+1->j<=K->(b.bd.R i j).natAbs < 2 ^ n0
section
variable {K m B n0:Nat}{ls:List Lim}{goal:List Int}{b:LB}{t:Nat}
theorem DK.mz (d:DK K m B n0 ls) (hg:goal.length=K) (h2:∀x ∈ goal,x.natAbs<=B):Mz K m (M0 K ls goal) B:=
 .of d.b1 d.len d.w hg d.sz h2 (Nat.lt_of_lt_of_le d.z (zcz d.n))
theorem DK.szb (d:DK K m B n0 ls) (hg:goal.length=K) (h2:∀x ∈ goal,x.natAbs<=B) (o:Bo K m (M0 K ls goal) b):SzB K m n0 b:=by
 obtain⟨h1,h3⟩:=o.g.size d.b1 (d.mz hg h2).le
 exact⟨Nat.lt_of_le_of_lt h1 d.z,fun i j hi hj=>Nat.lt_of_le_of_lt (h3 i j hi hj) d.z⟩
theorem DK.bo0 (d:DK K m B n0 ls) (hg:goal.length=K):Bo K m (M0 K ls goal) (lb0 K ls goal):=by
 refine⟨lb0_wf d.k d.len d.m1 d.w hg,zem d.len,fun j hj=>?_⟩
 show(List.range K).getD j 0 < K+m
 simp[hj];omega
theorem DK.settled (d:DK K m B n0 ls) (hg:goal.length=K) (h2:∀x ∈ goal,x.natAbs<=B) :
  ∃b,Bo K m (M0 K ls goal) b/\Sx.Fr K m b.bd/\Sm b/\SzB K m n0 b/\(((∀t,K<=t->t < K+m->0<=b.bd.R t K)/\Z8 [Z4 K ls,eI goal]=.ok (.tuple [eB b,.none])) \/
   ∃t,K<=t/\t < K+m/\b.bd.R t K < 0/\(∀j,j < K->hlp b K t j=false)/\Z8 [Z4 K ls,eI goal]=.ok (.tuple [eB b,.int t])):=by
 obtain⟨b,o,f,r⟩:=ze4 (d.mz hg h2) (d.bo0 hg) (zaF d.k d.len d.m1 d.w hg) d.fu
 exact⟨b,o,f,o.sm (d.mz hg h2),d.szb hg h2 o,r⟩
theorem pt_sz (o:SzB K m n0 b) (s:Sm b):∀q ∈ pt K b,Sz n0 q:=fun q hq=>by
 obtain⟨i,hi,rfl⟩:=List.mem_map.mp hq
 exact W6 s.d0 (o.r i K (by have:=List.mem_range.mp hi;omega) (Nat.le_refl _)) o.d
theorem zf5 (o:SzB K m n0 b) (ht:t < K+m+1) {i:Nat}:∀c,c<=K->(shZ b K t c i).natAbs < 2 ^ n0
 | 0,_=>by simp only[shZ];exact Nat.two_pow_pos n0
 | c+1,hc=>by
  unfold shZ
  split
  ·rw[Int.natAbs_neg];exact o.r t c ht (by omega)
  ·exact zf5 o ht c (by omega)
theorem shL_sz (o:SzB K m n0 b) (s:Sm b) (ht:t < K+m+1):∀q ∈ shL b K m t K,Sz n0 q:=fun q hq=>by
 obtain⟨i,hi,rfl⟩:=List.mem_map.mp hq
 exact W6 s.d0 (zf5 o ht K (Nat.le_refl _)) o.d
theorem clL_sz (o:SzB K m n0 b) (s:Sm b) (ht:t < K+m+1):∀q ∈ clL b K m t,Sz n0 q:=fun q hq=>by
 obtain⟨i,hi,rfl⟩:=List.mem_map.mp hq
 refine W6 s.d0 ?_ o.d
 unfold clZ
 split
 ·exact o.d
 ·exact zf5 o ht K (Nat.le_refl _)
theorem zej {j:Nat}(h:hlp b K t j=false):b.bd.R t j<=0/\(b.bd.h j < K->b.bd.R t j=0):=by
 unfold hlp at h
 rw[Bool.or_eq_false_iff,Bool.and_eq_false_iff] at h
 obtain⟨h1,h2⟩:=h
 have h1':¬0 < b.bd.R t j:=of_decide_eq_false h1
 refine⟨by omega,fun hh=>?_⟩
 rcases h2 with h2 | h2
 ·have:=of_decide_eq_false h2;omega
 ·exact absurd hh (of_decide_eq_false h2)
theorem zee (d:DK K m B n0 ls) (o:Bo K m (M0 K ls goal) b) (s:Sm b) (h:∀t,K<=t->t < K+m->0<=b.bd.R t K):∀l ∈ ls,dot l.1 (pt K b)<=(l.2:Rat):=fun l hl=>by
 obtain⟨i,hi,rfl⟩:=List.getElem_of_mem hl
 have hi':i < m:=by rw[<- d.len];exact hi
 rw[dot_pt (d.w _ hl) s.d0]
 refine div_le o.g.pos ?_
 have e:=o.room d.len d.w hi' (Nat.le_refl K)
 rw[if_pos rfl] at e
 have eg:ls.getD i ([],0)=ls[i]:=(zbO hi).symm
 rw[eg] at e
 have:=h (K+i) (by omega) (by omega)
 have e2:Sx.sumN K (fun c=>ls[i].1.getD c 0 * b.bd.R c K)=Sx.sumN K (fun c=>colN c ls[i] * b.bd.R c K):=rfl
 rw[e2,e]
 show _<=ls[i].2 * b.D
 omega
theorem zeQ (d:DK K m B n0 ls) (o:Bo K m (M0 K ls goal) b) (s:Sm b) (ht:K<=t) (ht2:t < K+m) (hsh:b.bd.R t K < 0) (hn:∀j,j < K->hlp b K t j=false) :
  (∀q ∈ clL b K m t,0<=q)/\(∀j,j < K->dot (ls.map (colN j)) (clL b K m t)=0)/\Jt ls (clL b K m t) < 0:=by
 have hD:0 < b.D:=o.g.pos
 have rows:=fun c hc=>cl_rows (c:=c) o ht ht2 hsh (fun j hj hh=>(zej (hn j hj)).2 hh) hc
 refine⟨fun q hq=>?_,fun j hj=>?_,?_⟩
 ·obtain⟨i,hi,rfl⟩:=List.mem_map.mp hq
  refine zhu hD ?_
  unfold clZ
  split
  ·omega
  ·exact zf7 K (Nat.le_refl _) fun j hj=>(zej (hn j hj)).1
 ·have e:=Uz ([],(0:Int)) (colN j) s.d0 ls (clZ b K t)
  rw[d.len] at e
  have e2:Sx.sumN m (fun i=>colN j (ls.getD i ([],0)) * clZ b K t i)=0:=by
   have r:=rows j (by omega)
   rw[if_neg (by omega)] at r
   have e3:Sx.sumN m (fun i=>M0 K ls goal (K+i) j * clZ b K t i)=Sx.sumN m (fun i=>(-1) * (colN j (ls.getD i ([],0)) * clZ b K t i)):=Sx.ZP fun i hi=>by
    rw[zb8 d.w (by rw[d.len];exact hi) hj];grind
   rw[e3,Sx.Wq] at r
   omega
  rw[e2,zez] at e
  exact e
 ·have e:=Uz ([],(0:Int)) (fun l:Lim=>l.2) s.d0 ls (clZ b K t)
  rw[d.len] at e
  have r:=rows K (Nat.le_refl _)
  rw[if_pos rfl] at r
  have e3:Sx.sumN m (fun i=>M0 K ls goal (K+i) K * clZ b K t i)=Sx.sumN m (fun i=>(ls.getD i ([],0)).2 * clZ b K t i):=Sx.ZP fun i hi=>by
   rw[Jq d.w (by rw[d.len];exact hi)]
  rw[e3] at r
  rw[r] at e
  show dot (ls.map (·.2)) ((List.range m).map fun i=>Rat.divInt (clZ b K t i) b.D) < 0
  rw[e]
  exact div_neg hD hsh
theorem JM (d:DK K m B n0 ls):(∃ps:List Rat,ps.length=K/\(∀q ∈ ps,Sz n0 q)/\(∀l ∈ ls,dot l.1 ps<=(l.2:Rat))/\Xs [Z4 K ls]=.ok (.tuple [.str "point",.list (ps.map fr)])) \/
  ∃ss:List Rat,ss.length=m/\(∀q ∈ ss,Sz n0 q)/\(∀q ∈ ss,0<=q)/\(∀j,j < K->dot (ls.map (colN j)) ss=0)/\Jt ls ss < 0/\Xs [Z4 K ls]=.ok (.tuple [.str "clash",.list (ss.map fr)]):=by
 have hg:(List.replicate K (0:Int)).length=K:=by simp
 have h2:∀x ∈ List.replicate K (0:Int),x.natAbs<=B:=fun x hx=>by rw[(List.mem_replicate.mp hx).2];simp
 obtain⟨b,o,f,s,sz,r⟩:=d.settled hg h2
 have hK:=d.k
 have k1:X7 (K:Int)=true:=ZK (by omega)
 have k2:(K:Int)<=16777216:=by omega
 have k3:K<=16777216:=by omega
 have er:List.replicate K (PyData.int 0)=(List.replicate K (0:Int)).map .int:=by rw[List.map_replicate]
 rcases r with ⟨r1,r2⟩ | ⟨t,r1,r2,r3,r4,r5⟩
 ·refine .inl ⟨pt K b,by simp[pt],pt_sz sz s,zee d o s r1,?_⟩
  have hp:=Vm o s
  generalize pt K b=ps at *
  have r2':Z8 [Z4 K ls,.list (List.replicate K (.int 0))]=.ok (.tuple [eB b,.none]):=by rw[er];exact r2
  simp[Xs,zbX,Qx,runQ,runF,at0,at1,k1,k2,k3,r2',hp]
 ·obtain⟨c1,c2,c3⟩:=zeQ d o s r1 r2 r3 r4
  refine .inr ⟨clL b K m t,by simp[clL],clL_sz sz s (by omega),c1,c2,c3,?_⟩
  have hp:=zeO o s r1 r2
  generalize clL b K m t=ss at *
  have r5':Z8 [Z4 K ls,.list (List.replicate K (.int 0))]=.ok (.tuple [eB b,.int t]):=by rw[er];exact r5
  simp[Xs,zbX,Qx,za8,runQ,runF,at0,at1,k1,k2,k3,r5',hp]
end
end Lw
namespace Lw
open PySem Fx
def Uo:List Sl->Nat:=fun _=>1000000000000
def zaW:DS:=
  (dRet (d2 fSub (d1 fLen (d1 (fFld "rows") (dVar 0))) (dC (.int 1))))
def Yx:DF:=runQ 1 1 zaW
def zeH:DS:=
  (dRet (d2 fLt (d2 fMul (d2 fIx (dVar 0) (d1 fNeg (dC (.int 1)))) (d1 fNeg (d2 fIx (dVar 1) (dVar 2)))) (d2 fMul (d2 fIx (dVar 1) (d1 fNeg (dC (.int 1)))) (d1 fNeg (d2 fIx (dVar 0) (dVar 2))))))
def Ua:DF:=runQ 3 3 zeH
def WS:DS:=
  (dRet (dVar 2))
def Uj:DS:=
  dSeq (dFor (Zw 3) [] (iSeq (Zk Yd (Zc (dVar 0) dNil)))
  (dSeq (dSet 4 [] (d2 fIx (d1 (fFld "rows") (dVar 0)) (dVar 3)))
  (dIf (tAnd (tV (d2 fLt (d2 fIx (dVar 4) (dVar 1)) (dC (.int 0)))) (tOr (tV (d1 fIsN (dVar 2))) (tV (Zk Ua (Zc (dVar 4) (Zc (d2 fIx (d1 (fFld "rows") (dVar 0)) (dVar 2)) (Zc (dVar 1) dNil)))))))
  (dSet 2 [] (dVar 3))
  Z2)))
  WS
def Q2:DS:=
  dSeq (dSet 2 [] (dC .none))
  Uj
def ZU:DF:=runQ 5 2 Q2
def zaZ:DS:=
  (dRet (dL (Yz 1 [2,0,1] (Zw 0) (iRng (d1 fLen (d1 (fFld "heads") (dVar 0)))) tT (Zk XB (Zc (d2 fMul (dVar 1) (d2 fIx (d2 fIx (d1 (fFld "rows") (dVar 2)) (dVar 0)) (dVar 3))) (Zc (d1 (fFld "divisor") (dVar 2)) dNil))))))
def zeD:DS:=
  dSeq (dSet 2 [] (dIfE (tV (d2 fGt (d2 fIx (d2 fIx (d1 (fFld "rows") (dVar 0)) (Zk Yx (Zc (dVar 0) dNil))) (dVar 1)) (dC (.int 0)))) (dC (.int 1)) (d1 fNeg (dC (.int 1)))))
  zaZ
def V9:DF:=runQ 3 2 zeD
def Vr:DS:=
  (dRet (dTup (Zc (dC (.str (PySem.Str.ofString "best"))) (Zc (Zk YT (Zc (dVar 0) dNil)) (Zc (Zk Y5 (Zc (dVar 0) (Zc (Zk Yx (Zc (dVar 0) dNil)) dNil))) dNil)))))
def zak:DS:=
  dSeq (zam Uo (tV (d1 UZ (dVar 1)))
  (dSeq (dSet 2 [] (Zk ZU (Zc (dVar 0) (Zc (dVar 1) dNil))))
  (dSeq (dIf (tV (d1 fIsN (dVar 2)))
  (dRet (dTup (Zc (dC (.str (PySem.Str.ofString "endless"))) (Zc (Zk YT (Zc (dVar 0) dNil)) (Zc (Zk V9 (Zc (dVar 0) (Zc (dVar 1) dNil))) dNil)))))
  Z2)
  (dSeq (dSet 0 [] (Zk Ys (Zc (dVar 0) (Zc (dVar 2) (Zc (dVar 1) dNil)))))
  (dSet 1 [] (Zk Zj (Zc (dVar 0) (Zc (Zk Yx (Zc (dVar 0) dNil)) dNil))))))))
  Vr
def zal:DS:=
  dSeq (dSet 1 [] (Zk Zj (Zc (dVar 0) (Zc (Zk Yx (Zc (dVar 0) dNil)) dNil))))
  zak
def XW:DF:=runQ 3 1 zal
end Lw
namespace Lw
open PySem Fx
section
variable {K m B n0:Nat}{M:Sx.Mat}{b:LB}{t p:Nat}
theorem Vf (w:WFb K m b):Yx [eB b]=.ok (.int ((K+m:Nat):Int)):=by
 have e:((K+m+1:Nat):Int) - 1=((K+m:Nat):Int):=by omega
 simp[Yx,zaW,runQ,runF,w.rl,e,-Int.natCast_add]
theorem zf3 {row oth:List Int}{K:Nat}(hr:row.length=K+1) (ho:oth.length=K+1) (hp:p < K) (h1:∀x ∈ row,x.natAbs < 2 ^ 1000) (h2:∀x ∈ oth,x.natAbs < 2 ^ 1000) :
  Ua [eI row,eI oth,.int p]=.ok (.bool (decide (row.getD K 0 * -(oth.getD p 0) < oth.getD K 0 * -(row.getD p 0)))):=by
 have e1:fIx (eI row) (.int (-1))=.ok (.int (row.getD K 0)):=zbL hr
 have e2:fIx (eI oth) (.int (-1))=.ok (.int (oth.getD K 0)):=zbL ho
 have e3:fIx (eI row) (.int (p:Int))=.ok (.int (row.getD p 0)):=Uf (by omega)
 have e4:fIx (eI oth) (.int (p:Int))=.ok (.int (oth.getD p 0)):=Uf (by omega)
 have s1:=h1 _ (Xr (xs:=row) (i:=K) (d:=0) (by omega))
 have s2:=h2 _ (Xr (xs:=oth) (i:=K) (d:=0) (by omega))
 have s3:=h1 _ (Xr (xs:=row) (i:=p) (d:=0) (by omega))
 have s4:=h2 _ (Xr (xs:=oth) (i:=p) (d:=0) (by omega))
 generalize row.getD K 0=rK at *
 generalize oth.getD K 0=oK at *
 generalize row.getD p 0=rp at *
 generalize oth.getD p 0=op at *
 have m1:XL rK (-op)=true:=Xq s1 (by rw[Int.natAbs_neg];exact s4) (by omega)
 have m2:XL oK (-rp)=true:=Xq s2 (by rw[Int.natAbs_neg];exact s3) (by omega)
 simp[Ua,zeH,runQ,runF,e1,e2,e3,e4,m1,m2,-fIx]
theorem lt_frac {a b c x y z:Int}(hx:0 < x) (hy:0 < y) (hz:0 < z) (h1:a * y < b * x) (h2:b * z<=c * y):a * z < c * x:=by
 have h3:=Int.mul_lt_mul_of_pos_right h1 hz
 have h4:=Int.mul_le_mul_of_nonneg_right h2 (Int.le_of_lt hx)
 have h5:a * z * y < c * x * y:=by
  have e1:a * y * z=a * z * y:=by grind
  have e2:b * x * z=b * z * x:=by grind
  have e3:c * y * x=c * x * y:=by grind
  rw[e1,e2] at h3
  rw[e3] at h4
  omega
 exact Int.lt_of_mul_lt_mul_right h5 (Int.le_of_lt hy)
def Stop (b:LB) (K p n:Nat):Option Nat->Prop
 | none=>∀i,K<=i->i < K+n->0<=b.bd.R i p
 | some t=>K<=t/\t < K+n/\b.bd.R t p < 0/\∀i,K<=i->i < K+n->b.bd.R i p < 0->b.bd.R t K * -b.bd.R i p<=b.bd.R i K * -b.bd.R t p/\(i < t->b.bd.R t K * -b.bd.R i p < b.bd.R i K * -b.bd.R t p)
def eO:Option Nat->PyData
 | none=>.none
 | some t=>.int (t:Int)
def zda:DS:=(dSeq (dSet 4 [] (d2 fIx (d1 (fFld "rows") (dVar 0)) (dVar 3)))
  (dIf (tAnd (tV (d2 fLt (d2 fIx (dVar 4) (dVar 1)) (dC (.int 0)))) (tOr (tV (d1 fIsN (dVar 2))) (tV (Zk Ua (Zc (dVar 4) (Zc (d2 fIx (d1 (fFld "rows") (dVar 0)) (dVar 2)) (Zc (dVar 1) dNil)))))))
  (dSet 2 [] (dVar 3))
  Z2))
theorem zf0 (w:WFb K m b) (s:Sm b) (hp:p < K) {n:Nat}(hn:n < m) (f:Option Nat) (hf:Stop b K p n f) (s4:Sl):∃f' s4',Stop b K p (n+1) f' /\
  zda [.val (eB b),.val (.int p),.val (eO f),.val (.int ((K+n:Nat):Int)),s4]=.ok (.nx [.val (eB b),.val (.int p),.val (eO f'),.val (.int ((K+n:Nat):Int)),s4']):=by
 have e1:=Ue w (i:=K+n) (by omega)
 have e2:fIx (eI (b.rows.getD (K+n) [])) (.int (p:Int))=.ok (.int (b.bd.R (K+n) p)):=Uf (by rw[w.row (by omega)];omega)
 by_cases hneg:b.bd.R (K+n) p < 0
 ·cases f with
  | none=>
   refine⟨some (K+n),.val (eI (b.rows.getD (K+n) [])),⟨by omega,by omega,hneg,fun i h1 h2 h3=>?_⟩,?_⟩
   ·by_cases z:i=K+n
    ·subst z;exact⟨Int.le_refl _,fun q=>by omega⟩
    ·have:=hf i h1 (by omega);omega
   ·generalize b.bd.R (K+n) p=r at *
    simp[zda,e1,e2,hneg,eO,-fIx,-List.getD_eq_getElem?_getD,-Int.natCast_add]
  | some t=>
   obtain⟨t1,t2,t3,t4⟩:=hf
   have e3:=Ue w (i:=t) (by omega)
   have e4:=zf3 (row:=b.rows.getD (K+n) []) (oth:=b.rows.getD t []) (p:=p) (K:=K) (w.row (by omega)) (w.row (by omega)) hp (s.r _ (w.mem (by omega))) (s.r _ (w.mem (by omega)))
   have e5:(b.rows.getD (K+n) []).getD K 0 * -(b.rows.getD t []).getD p 0=b.bd.R (K+n) K * -b.bd.R t p:=rfl
   have e6:(b.rows.getD t []).getD K 0 * -(b.rows.getD (K+n) []).getD p 0=b.bd.R t K * -b.bd.R (K+n) p:=rfl
   rw[e5,e6] at e4
   by_cases hs:b.bd.R (K+n) K * -b.bd.R t p < b.bd.R t K * -b.bd.R (K+n) p
   ·refine⟨some (K+n),.val (eI (b.rows.getD (K+n) [])),⟨by omega,by omega,hneg,fun i h1 h2 h3=>?_⟩,?_⟩
    ·by_cases z:i=K+n
     ·subst z;exact⟨Int.le_refl _,fun q=>by omega⟩
     ·have:=(t4 i h1 (by omega) h3).1
      have:=lt_frac (x:=-b.bd.R (K+n) p) (y:=-b.bd.R t p) (z:=-b.bd.R i p) (by omega) (by omega) (by omega) hs this
      exact⟨by omega,fun _=>this⟩
    ·rw[decide_eq_true hs] at e4
     generalize b.bd.R (K+n) p=r at *
     simp[zda,e1,e2,e3,e4,hneg,eO,-fIx,-List.getD_eq_getElem?_getD,-Int.natCast_add]
   ·refine⟨some t,.val (eI (b.rows.getD (K+n) [])),⟨by omega,by omega,t3,fun i h1 h2 h3=>?_⟩,?_⟩
    ·by_cases z:i=K+n
     ·subst z;exact⟨by omega,fun q=>by omega⟩
     ·exact t4 i h1 (by omega) h3
    ·rw[decide_eq_false hs] at e4
     generalize b.bd.R (K+n) p=r at *
     simp[zda,e1,e2,e3,e4,hneg,eO,-fIx,-List.getD_eq_getElem?_getD,-Int.natCast_add]
 ·refine⟨f,.val (eI (b.rows.getD (K+n) [])),?_,?_⟩
  ·cases f with
   | none=>
    intro i h1 h2
    by_cases z:i=K+n
    ·subst z;omega
    ·exact hf i h1 (by omega)
   | some t=>
    obtain⟨t1,t2,t3,t4⟩:=hf
    refine⟨t1,by omega,t3,fun i h1 h2 h3=>?_⟩
    by_cases z:i=K+n
    ·subst z;omega
    ·exact t4 i h1 (by omega) h3
  ·generalize b.bd.R (K+n) p=r at *
   simp[zda,e1,e2,hneg,-fIx,-List.getD_eq_getElem?_getD,-Int.natCast_add]
theorem zbQ (w:WFb K m b) (s:Sm b) (hp:p < K):∃f,Stop b K p m f/\ZU [eB b,.int p]=.ok (eO f):=by
 have hrm:=Jj w
 obtain⟨G',e,f,s3,s4,hG,hf⟩:=UW (st:=Zw 3) (b:=zda) (fun n G=>∃f s3 s4,G=[.val (eB b),.val (.int p),.val (eO f),s3,s4]/\Stop b K p n f) (rngT K m) 0
  [.val (eB b),.val (.int p),.val (eO none),.emp,.emp] ⟨none,.emp,.emp,rfl,fun i h1 h2=>by omega⟩ fun i x G hx ⟨f,s3,s4,hG,hf⟩=>by
   subst hG
   obtain⟨hi,rfl⟩:=zgl hx
   rw[Nat.zero_add] at hf ⊢
   obtain⟨f',s4',h1,h2⟩:=zf0 w s hp hi f hf s4
   have ec:(K:Int)+(i:Int)=((K+i:Nat):Int):=by omega
   rw[ec]
   exact⟨_,rfl,_,.inl h2,f',_,_,rfl,h1⟩
 rw[Yp,Nat.zero_add] at hf
 subst hG
 refine⟨f,hf,?_⟩
 have hd:Uj=dSeq (dFor (Zw 3) [] (iSeq (Zk Yd (Zc (dVar 0) dNil))) zda) WS:=rfl
 have e':forL (Zw 3) zda (rngT (K:Int) m) [.val (eB b),.val (.int p),.val .none,.emp,.emp]=.ok (.nx [.val (eB b),.val (.int p),.val (eO f),s3,s4]):=e
 simp[ZU,Q2,hd,WS,runQ,runF,hrm,e']
end
end Lw
namespace Lw
open PySem Fx
def qOf (b:LB) (w:Nat):Option Nat:=match Zj [eB b,.int w] with
 | .ok (.int p)=>some p.toNat
 | _=>none
def sOf (b:LB) (p:Nat):Option Nat:=match ZU [eB b,.int p] with
 | .ok (.int t)=>some t.toNat
 | _=>none
def nxc (w:Nat) (b:LB):Option LB:=(qOf b w).bind fun p=>(sOf b p).map fun t=>lsw b t p
def EndC (w:Nat):Nat->LB->Prop
 | 0,b=>nxc w b=none
 | n+1,b=>nxc w b=none\/∃b',nxc w b=some b'/\EndC w n b'
def Fe (K m:Nat) (b:Sx.Bd):Prop:=∀t,K<=t->t < K+m->0<=b.R t K
section
variable {K m B:Nat}{M:Sx.Mat}{b:LB}
theorem UG (o:Bo K m M b) (s:Sm b) (f:Sx.Fr K m b.bd) (fe:Fe K m b.bd) :
  ((∀j,j < K->hlp b K (K+m) j=false)/\Zj [eB b,.int ((K+m:Nat):Int)]=.ok .none/\nxc (K+m) b=none) \/
  (∃p,p < K/\hlp b K (K+m) p=true/\(∀i,K<=i->i < K+m->0<=b.bd.R i p)/\Zj [eB b,.int ((K+m:Nat):Int)]=.ok (.int p)/\ZU [eB b,.int p]=.ok .none/\nxc (K+m) b=none) \/
  ∃t p,t < K+m/\Sx.Ch2 K (K+m+1) (K+m) b.bd t p/\(∀i,K<=i->i < K+m->b.bd.R i p < 0->b.bd.R t K * -b.bd.R i p<=b.bd.R i K * -b.bd.R t p)/\Zj [eB b,.int ((K+m:Nat):Int)]=.ok (.int p)/\ZU [eB b,.int p]=.ok (.int t)/\nxc (K+m) b=some (lsw b t p):=by
 rcases V6 o.wf (t:=K+m) (by omega) with ⟨p,k1,k2,k3,k4⟩ | ⟨k1,k2⟩
 ·have e1:qOf b (K+m)=some p:=by unfold qOf;rw[k4];simp
  obtain⟨fd,h1,h2⟩:=zbQ o.wf s k1
  cases fd with
  | none=>
   have h2':ZU [eB b,.int p]=.ok .none:=h2
   have e2:sOf b p=none:=by unfold sOf;rw[h2']
   exact .inr (.inl ⟨p,k1,k2,h1,k4,h2',by unfold nxc;rw[e1];simp[e2]⟩)
  | some t=>
   have h2':ZU [eB b,.int p]=.ok (.int t):=h2
   have e2:sOf b p=some t:=by unfold sOf;rw[h2'];simp
   obtain⟨t1,t2,t3,t4⟩:=h1
   have hpK:K<=b.bd.h p:=by
    rcases Nat.lt_or_ge (b.bd.h p) K with z | z
    ·have:=f p k1 z t t1 t2;omega
    ·exact z
   have hpos:0 < b.bd.R (K+m) p:=by
    unfold hlp at k2
    rw[Bool.or_eq_true,Bool.and_eq_true] at k2
    rcases k2 with z | z
    ·exact of_decide_eq_true z
    ·have:=of_decide_eq_true z.2;omega
   refine .inr (.inr ⟨t,p,t2,⟨t1,by omega,k1,hpos,fun j hj hlt=>?_,fun j hj hh=>?_,t3,fe t t1 t2,fun i h1 h2 h3=>(t4 i h1 (by omega) h3).2 h2⟩,fun i h1 h2 h3=>(t4 i h1 h2 h3).1,k4,h2',by unfold nxc;rw[e1];simp[e2]⟩)
   ·rcases(show b.bd.R (K+m) j<=0\/0 < b.bd.R (K+m) j by omega) with z | z
    ·exact z
    ·have:=k3 j hj (by unfold hlp;rw[decide_eq_true z];rfl)
     omega
   ·rcases(show b.bd.R (K+m) j=0\/b.bd.R (K+m) j < 0\/0 < b.bd.R (K+m) j by omega) with z | z | z
    ·exact z
    ·have:=k3 j hj (by unfold hlp;rw[decide_eq_true z,decide_eq_true hh];simp)
     omega
    ·have:=k3 j hj (by unfold hlp;rw[decide_eq_true z];rfl)
     omega
 ·have e1:qOf b (K+m)=none:=by unfold qOf;rw[k2]
  exact .inl ⟨k1,k2,by unfold nxc;rw[e1];rfl⟩
theorem Qy (z:Mz K m M B) (o:Bo K m M b) (f:Sx.Fr K m b.bd) (fe:Fe K m b.bd) {b':LB}(e:nxc (K+m) b=some b'):∃t p,t < K+m/\Sx.Ch2 K (K+m+1) (K+m) b.bd t p/\b'=lsw b t p/\Bo K m M b'/\Sx.Fr K m b'.bd/\Fe K m b'.bd:=by
 rcases UG o (o.sm z) f fe with ⟨_,_,h⟩ | ⟨_,_,_,_,_,_,h⟩ | ⟨t,p,h1,ch,mn,_,_,h⟩
 ·rw[h] at e;cases e
 ·rw[h] at e;cases e
 ·rw[h] at e
  cases e
  have hne:b.bd.R t p ≠ 0:=by have:=ch.ng;omega
  refine⟨t,p,h1,ch,rfl,o.swap ch.tK h1 ch.pK hne,?_,?_⟩
  ·rw[Ul o.wf (by omega) ch.pK]
   exact Sx.zhk o.g rfl f ch.tK h1 ch.pK hne
  ·rw[Ul o.wf (by omega) ch.pK]
   intro i h2 h3
   have e:=(Sx.zfT o.g (by omega) ch.pK ch.ng (i:=i) (j:=K) (by omega) (Nat.le_refl K) (by have:=ch.pK;omega)).2
   have hpos:=o.g.pos
   have ge:0 <= -b.bd.R t p * b.bd.R i K+b.bd.R i p * b.bd.R t K:=by
    have f1:=fe i h2 h3
    have f2:=fe t ch.tK h1
    have f3:=ch.ng
    rcases(show b.bd.R i p < 0\/0<=b.bd.R i p by omega) with q | q
    ·have:=mn i h2 h3 q
     have e1:b.bd.R t K * -b.bd.R i p=-(b.bd.R i p * b.bd.R t K):=by grind
     have e2:b.bd.R i K * -b.bd.R t p=-b.bd.R t p * b.bd.R i K:=by grind
     omega
    ·have a1:=Int.mul_nonneg (show 0 <= -b.bd.R t p by omega) f1
     have a2:=Int.mul_nonneg q f2
     omega
   rw[<- e] at ge
   rcases(show(Sx.swp b.bd t p).R i K < 0\/0<=(Sx.swp b.bd t p).R i K by omega) with q | q
   ·have:=Sx.zaO hpos q;omega
   ·exact q
theorem endsC (z:Mz K m M B) (o:Bo K m M b) (f:Sx.Fr K m b.bd) (fe:Fe K m b.bd):EndC (K+m) ((K+m+1) ^ K) b:=by
 refine Classical.byContradiction fun no=>?_
 let it:Nat->LB:=fun k=>Nat.rec b (fun _ x=>(nxc (K+m) x).getD x) k
 have it1:∀k,it (k+1)=(nxc (K+m) (it k)).getD (it k):=fun k=>rfl
 have all:∀k,k<=(K+m+1) ^ K->¬EndC (K+m) ((K+m+1) ^ K - k) (it k)/\Bo K m M (it k)/\Sx.Fr K m (it k).bd/\Fe K m (it k).bd:=by
  intro k
  induction k with
  | zero=>exact fun _=>⟨no,o,f,fe⟩
  | succ k ih=>
   intro hk
   obtain⟨h1,h2,h3,h4⟩:=ih (by omega)
   obtain⟨d,hd⟩:∃d,(K+m+1) ^ K - k=d+1:=⟨(K+m+1) ^ K - k - 1,by omega⟩
   rw[hd] at h1
   cases e:nxc (K+m) (it k) with
   | none=>exact absurd (.inl e) h1
   | some b'=>
    have e2:it (k+1)=b':=by rw[it1,e];rfl
    obtain⟨t,p,_,_,_,a5,a6,a7⟩:=Qy z h2 h3 h4 e
    rw[e2,show(K+m+1) ^ K - (k+1)=d by omega]
    exact⟨fun z=>h1 (.inr ⟨b',e,z⟩),a5,a6,a7⟩
 have step:∀k,∃q:Nat × Nat,k < (K+m+1) ^ K->Sx.Ch2 K (K+m+1) (K+m) (it k).bd q.1 q.2/\(it (k+1)).bd=Sx.swp (it k).bd q.1 q.2:=by
  intro k
  by_cases hk:k < (K+m+1) ^ K
  ·obtain⟨h1,h2,h3,h4⟩:=all k (by omega)
   obtain⟨d,hd⟩:∃d,(K+m+1) ^ K - k=d+1:=⟨(K+m+1) ^ K - k - 1,by omega⟩
   rw[hd] at h1
   cases e:nxc (K+m) (it k) with
   | none=>exact absurd (.inl e) h1
   | some b'=>
    obtain⟨t,p,a1,a2,a3,_,_,_⟩:=Qy z h2 h3 h4 e
    refine⟨(t,p),fun _=>⟨a2,?_⟩⟩
    have e2:it (k+1)=b':=by rw[it1,e];rfl
    rw[e2,a3,Ul h2.wf (by omega) a2.pK]
  ·exact⟨(0,0),fun z=>absurd z hk⟩
 obtain⟨q,hq⟩:=Classical.axiomOfChoice step
 exact absurd (Sx.zfB (K:=K) (N:=K+m+1) (M:=M) (B:=fun k=>(it k).bd) (T:=fun k=>(q k).1) (P:=fun k=>(q k).2) (L:=(K+m+1) ^ K) (w:=K+m) (by omega) (fun k hk=>(all k hk).2.1.g) (fun k hk=>(hq k hk).1) fun k hk=>(hq k hk).2) (Nat.lt_irrefl _)
def sgW (x:Int):Int:=if 0 < x then 1 else -1
def wayL (b:LB) (K m p:Nat):List Rat:=(List.range K).map fun i=>Rat.divInt (sgW (b.bd.R (K+m) p) * b.bd.R i p) b.D
theorem sgW_abs (x y:Int):(sgW x * y).natAbs=y.natAbs:=by unfold sgW;split <;> simp[Int.natAbs_mul]
theorem way_ok {p:Nat}(o:Bo K m M b) (s:Sm b) (hp:p < K):V9 [eB b,.int p]=.ok (.list ((wayL b K m p).map fr)):=by
 have h1:X7 (K:Int)=true:=ZK (by have:=o.wf.kk;omega)
 have h2:(rngT 0 K).length<=16777216:=by rw[Yp];have:=o.wf.kk;omega
 have e1:=Vf o.wf
 have e2:=Ue o.wf (i:=K+m) (by omega)
 have e3:fIx (eI (b.rows.getD (K+m) [])) (.int (p:Int))=.ok (.int (b.bd.R (K+m) p)):=Uf (by rw[o.wf.row (by omega)];omega)
 have eg:(if 0 < b.bd.R (K+m) p then(Res.ok (PyData.int 1)) else .ok (.int (-1)))=.ok (.int (sgW (b.bd.R (K+m) p))):=by unfold sgW;split <;> rfl
 have hsg:(sgW (b.bd.R (K+m) p)).natAbs < 18446744073709551616:=by unfold sgW;split <;> decide
 unfold wayL
 generalize hsw:sgW (b.bd.R (K+m) p)=sw at *
 have hc:Yj (Zw 0) tT (Zk XB (Zc (d2 fMul (dVar 1) (d2 fIx (d2 fIx (d1 (fFld "rows") (dVar 2)) (dVar 0)) (dVar 3))) (Zc (d1 (fFld "divisor") (dVar 2)) dNil))) [.emp,.val (.int sw),.val (eB b),.val (.int p)] (rngT 0 K)=.ok ((List.range K).map fun i=>fr (Rat.divInt (sw * b.bd.R i p) b.D)):=by
  rw[Y1]
  refine ZY (fun(k:Nat)=>PyData.int (k:Int)) _ _ fun i hi=>⟨_,rfl,?_⟩
  have hi':=List.mem_range.mp hi
  have a1:=Ue o.wf (i:=i) (by omega)
  have a2:fIx (eI (b.rows.getD i [])) (.int (p:Int))=.ok (.int (b.bd.R i p)):=Uf (by rw[o.wf.row (by omega)];omega)
  have a3:=JO (u:=sw * b.bd.R i p) s.d0 s.d (by omega)
  have a4:XL sw (b.bd.R i p)=true:=JG hsg
  generalize b.bd.R i p=r at *
  simp[a1,a2,a3,a4,-fIx,-List.getD_eq_getElem?_getD]
 generalize b.bd.R (K+m) p=rw' at *
 simp[V9,zeD,zaZ,runQ,runF,o.wf.hl,h1,h2,e1,e2,e3,eg,hc,-fIx,-List.getD_eq_getElem?_getD,-Int.natCast_add]
def cC:DT:=tV (d1 UZ (dVar 1))
def bC:DS:=(dSeq (dSet 2 [] (Zk ZU (Zc (dVar 0) (Zc (dVar 1) dNil))))
  (dSeq (dIf (tV (d1 fIsN (dVar 2)))
  (dRet (dTup (Zc (dC (.str (PySem.Str.ofString "endless"))) (Zc (Zk YT (Zc (dVar 0) dNil)) (Zc (Zk V9 (Zc (dVar 0) (Zc (dVar 1) dNil))) dNil)))))
  Z2)
  (dSeq (dSet 0 [] (Zk Ys (Zc (dVar 0) (Zc (dVar 2) (Zc (dVar 1) dNil)))))
  (dSet 1 [] (Zk Zj (Zc (dVar 0) (Zc (Zk Yx (Zc (dVar 0) dNil)) dNil)))))))
theorem zfA (z:Mz K m M B):∀(n:Nat) (b:LB),EndC (K+m) n b->Bo K m M b->Sx.Fr K m b.bd->Fe K m b.bd->∀(fuel:Nat),n < fuel->∀(cl:PyData) (s2:Sl),Zj [eB b,.int ((K+m:Nat):Int)]=.ok cl ->
  ∃b',Bo K m M b'/\Sx.Fr K m b'.bd/\Fe K m b'.bd/\(((∀j,j < K->hlp b' K (K+m) j=false)/\∃s2',Yi cC bC fuel [.val (eB b),.val cl,s2]=.ok (.nx [.val (eB b'),.val .none,s2'])) \/
   ∃p,p < K/\hlp b' K (K+m) p=true/\(∀i,K<=i->i < K+m->0<=b'.bd.R i p)/\Yi cC bC fuel [.val (eB b),.val cl,s2]=.ok (.rt (.tuple [.str "endless",.list ((pt K b').map fr),.list ((wayL b' K m p).map fr)]))):=by
 intro n
 induction n with
 | zero=>
  intro b he o f fe fuel hf cl s2 hcl
  obtain⟨fu,rfl⟩:∃fu,fuel=fu+1:=⟨fuel - 1,by omega⟩
  have he':nxc (K+m) b=none:=he
  have s:=o.sm z
  rcases UG o s f fe with ⟨a1,a2,_⟩ | ⟨p,a1,a2,a3,a4,a5,_⟩ | ⟨t,p,_,_,_,_,_,a5⟩
  ·rw[hcl] at a2;cases a2
   refine⟨b,o,f,fe,.inl ⟨a1,s2,?_⟩⟩
   simp[Yi,cC]
  ·rw[hcl] at a4;cases a4
   have h1:=Vm o s
   have h2:=way_ok o s a1
   refine⟨b,o,f,fe,.inr ⟨p,a1,a2,a3,?_⟩⟩
   generalize pt K b=ps at *
   generalize wayL b K m p=ws at *
   simp[Yi,cC,bC,a5,h1,h2]
  ·rw[he'] at a5;cases a5
 | succ n ih=>
  intro b he o f fe fuel hf cl s2 hcl
  obtain⟨fu,rfl⟩:∃fu,fuel=fu+1:=⟨fuel - 1,by omega⟩
  have s:=o.sm z
  rcases UG o s f fe with ⟨a1,a2,_⟩ | ⟨p,a1,a2,a3,a4,a5,_⟩ | ⟨t,p,a0,ch,_,a3,a4,a5⟩
  ·rw[hcl] at a2;cases a2
   refine⟨b,o,f,fe,.inl ⟨a1,s2,?_⟩⟩
   simp[Yi,cC]
  ·rw[hcl] at a4;cases a4
   have h1:=Vm o s
   have h2:=way_ok o s a1
   refine⟨b,o,f,fe,.inr ⟨p,a1,a2,a3,?_⟩⟩
   generalize pt K b=ps at *
   generalize wayL b K m p=ws at *
   simp[Yi,cC,bC,a5,h1,h2]
  ·rw[hcl] at a3;cases a3
   have he2:EndC (K+m) n (lsw b t p):=by
    have he':nxc (K+m) b=none\/∃b',nxc (K+m) b=some b'/\EndC (K+m) n b':=he
    rcases he' with h | ⟨b',h,h'⟩
    ·rw[a5] at h;cases h
    ·rw[a5] at h;cases h;exact h'
   obtain⟨_,_,_,_,_,o2,f2,fe2⟩:=Qy z o f fe a5
   obtain⟨cl2,hcl2⟩:∃cl2,Zj [eB (lsw b t p),.int ((K+m:Nat):Int)]=.ok cl2:=by
    rcases V6 o2.wf (t:=K+m) (by omega) with ⟨_,_,_,_,h⟩ | ⟨_,h⟩
    ·exact⟨_,h⟩
    ·exact⟨_,h⟩
   have hs:=Qg o.wf s (t:=t) (p:=p) (by omega) ch.pK
   have hwo:=Vf o2.wf
   obtain⟨b',o',f',fe',r⟩:=ih (lsw b t p) he2 o2 f2 fe2 fu (by omega) cl2 (.val (.int t)) hcl2
   have ew:Yi cC bC (fu+1) [.val (eB b),.val (.int p),s2]=Yi cC bC fu [.val (eB (lsw b t p)),.val cl2,.val (.int t)]:=by
    have ec:cC (frzA [.val (eB b),.val (.int p),s2])=.ok true:=by simp[cC]
    have eb:bC [.val (eB b),.val (.int p),s2]=.ok (.nx [.val (eB (lsw b t p)),.val cl2,.val (.int t)]):=by simp[bC,a4,hs,hwo,hcl2,-Int.natCast_add]
    rw[Yi,ec,Res.bind_ok,if_pos rfl,eb]
    rfl
   rw[ew]
   exact⟨b',o',f',fe',r⟩
theorem zfz (z:Mz K m M B) (o:Bo K m M b) (f:Sx.Fr K m b.bd) (fe:Fe K m b.bd) (hf:(K+m+1) ^ K < 1000000000000) :
  ∃b',Bo K m M b'/\Sx.Fr K m b'.bd/\Fe K m b'.bd/\(((∀j,j < K->hlp b' K (K+m) j=false)/\XW [eB b]=.ok (.tuple [.str "best",.list ((pt K b').map fr),.list ((shL b' K m (K+m) K).map fr)])) \/
   ∃p,p < K/\hlp b' K (K+m) p=true/\(∀i,K<=i->i < K+m->0<=b'.bd.R i p)/\XW [eB b]=.ok (.tuple [.str "endless",.list ((pt K b').map fr),.list ((wayL b' K m p).map fr)])):=by
 obtain⟨cl,hcl⟩:∃cl,Zj [eB b,.int ((K+m:Nat):Int)]=.ok cl:=by
  rcases V6 o.wf (t:=K+m) (by omega) with ⟨_,_,_,_,h⟩ | ⟨_,h⟩
  ·exact⟨_,h⟩
  ·exact⟨_,h⟩
 have hwo:=Vf o.wf
 have hd:zak=dSeq (zam Uo cC bC) Vr:=rfl
 have hu:∀G,Uo G=1000000000000:=fun _=>rfl
 obtain⟨b',o',f',fe',r⟩:=zfA z _ b (endsC z o f fe) o f fe 1000000000000 hf cl .emp hcl
 refine⟨b',o',f',fe',?_⟩
 rcases r with ⟨r1,s2,r2⟩ | ⟨p,r1,r2,r3,r4⟩
 ·refine .inl ⟨r1,?_⟩
  have h1:=Vm o' (o'.sm z)
  have h2:=zck o' (o'.sm z) (t:=K+m) (by omega)
  have h3:=Vf o'.wf
  generalize pt K b'=ps at *
  generalize shL b' K m (K+m) K=ss at *
  simp[XW,zal,hd,Vr,runQ,runF,hwo,hcl,hu,r2,h1,h2,h3,-Int.natCast_add]
 ·refine .inr ⟨p,r1,r2,r3,?_⟩
  generalize pt K b'=ps at *
  generalize wayL b' K m p=ws at *
  simp[XW,zal,hd,Vr,runQ,runF,hwo,hcl,hu,r4,-Int.natCast_add]
end
end Lw
namespace Lw
open PySem Fx
structure Pt (K n0:Nat) (ls:List Lim) (ps:List Rat):Prop where
 len:ps.length=K
 sz:∀q ∈ ps,Sz n0 q
 kp:∀l ∈ ls,dot l.1 ps<=(l.2:Rat)
structure Cl (K n0:Nat) (ls:List Lim) (ss:List Rat):Prop where
 len:ss.length=ls.length
 sz:∀q ∈ ss,Sz n0 q
 nn:∀q ∈ ss,0<=q
 z:∀j,j < K->dot (ls.map (colN j)) ss=0
 b:Jt ls ss < 0
structure Pr (K n0:Nat) (ls:List Lim) (goal:List Int) (ps ss:List Rat):Prop where
 len:ss.length=ls.length
 sz:∀q ∈ ss,Sz n0 q
 nn:∀q ∈ ss,0<=q
 w:∀j,j < K->dot (ls.map (colN j)) ss=((goal.getD j 0:Int):Rat)
 b:Jt ls ss=dot goal ps
structure Wy (K n0:Nat) (ls:List Lim) (goal:List Int) (ws:List Rat):Prop where
 len:ws.length=K
 sz:∀q ∈ ws,Sz n0 q
 l:∀l ∈ ls,dot l.1 ws<=0
 g:0 < dot goal ws
inductive Best (K n0:Nat) (ls:List Lim) (goal:List Int):PyData->Prop
 | clash {ss:List Rat}(c:Cl K n0 ls ss):Best K n0 ls goal (.tuple [.str "clash",.list (ss.map fr)])
 | best {ps ss:List Rat}(p:Pt K n0 ls ps) (r:Pr K n0 ls goal ps ss):Best K n0 ls goal (.tuple [.str "best",.list (ps.map fr),.list (ss.map fr)])
 | endless {ps ws:List Rat}(p:Pt K n0 ls ps) (w:Wy K n0 ls goal ws):Best K n0 ls goal (.tuple [.str "endless",.list (ps.map fr),.list (ws.map fr)])
section
variable {K m B n0:Nat}{ls:List Lim}{goal:List Int}{b:LB}
theorem zdX (d:DK K m B n0 ls) (hg:goal.length=K) (o:Bo K m (M0 K ls goal) b) (s:Sm b) (sz:SzB K m n0 b) (hn:∀j,j < K->hlp b K (K+m) j=false):Pr K n0 ls goal (pt K b) (shL b K m (K+m) K):=by
 have hD:0 < b.D:=o.g.pos
 have rows:=fun c hc=>zf4 (t:=K+m) (c:=c) o (by omega) (fun j hj hh=>(zej (hn j hj)).2 hh) hc
 refine⟨by simp[shL,d.len],shL_sz sz s (by omega),fun q hq=>?_,fun j hj=>?_,?_⟩
 ·obtain⟨i,hi,rfl⟩:=List.mem_map.mp hq
  exact zhu hD (zf7 K (Nat.le_refl _) fun j hj=>(zej (hn j hj)).1)
 ·have e:=Uz ([],(0:Int)) (colN j) s.d0 ls (shZ b K (K+m) K)
  rw[d.len] at e
  have e2:Sx.sumN m (fun i=>colN j (ls.getD i ([],0)) * shZ b K (K+m) K i)=goal.getD j 0 * b.D:=by
   have r:=rows j (by omega)
   rw[if_neg (by omega),zdZ d.len hg hj] at r
   have e3:Sx.sumN m (fun i=>M0 K ls goal (K+i) j * shZ b K (K+m) K i)=Sx.sumN m (fun i=>(-1) * (colN j (ls.getD i ([],0)) * shZ b K (K+m) K i)):=Sx.ZP fun i hi=>by
    rw[zb8 d.w (by rw[d.len];exact hi) hj];grind
   rw[e3,Sx.Wq] at r
   have:b.D * goal.getD j 0=goal.getD j 0 * b.D:=Int.mul_comm _ _
   omega
  rw[e2] at e
  show dot (ls.map (colN j)) ((List.range m).map fun i=>Rat.divInt (shZ b K (K+m) K i) b.D)=_
  rw[e,<- zhv,zht s.d0,Rat.mul_one]
 ·have e:=Uz ([],(0:Int)) (fun l:Lim=>l.2) s.d0 ls (shZ b K (K+m) K)
  rw[d.len] at e
  have r:=rows K (Nat.le_refl _)
  rw[if_pos rfl,zb9 d.len hg,Int.mul_zero,Int.sub_zero] at r
  have e3:Sx.sumN m (fun i=>M0 K ls goal (K+i) K * shZ b K (K+m) K i)=Sx.sumN m (fun i=>(ls.getD i ([],0)).2 * shZ b K (K+m) K i):=Sx.ZP fun i hi=>by
   rw[Jq d.w (by rw[d.len];exact hi)]
  rw[e3] at r
  rw[r] at e
  show dot (ls.map (·.2)) ((List.range m).map fun i=>Rat.divInt (shZ b K (K+m) K i) b.D)=_
  rw[e,dot_pt hg s.d0,o.worth d.len hg (Nat.le_refl K)]
theorem div_pos {a D:Int}(h:0 < D) (hh:0 < a):0 < Rat.divInt a D:=by
 rw[<- Rat.not_le]
 intro z
 have h3:Rat.divInt a D=0:=Rat.le_antisymm z (zhu h (by omega))
 have:=zfu (u:=a) (l:=D) (by omega) h3.symm
 simp at this
 omega
theorem sgW_pos {x:Int}(h:x ≠ 0):0 < sgW x * x:=by unfold sgW;split <;> omega
theorem way_wy {p:Nat}(d:DK K m B n0 ls) (hg:goal.length=K) (o:Bo K m (M0 K ls goal) b) (f:Sx.Fr K m b.bd) (s:Sm b) (sz:SzB K m n0 b) (hp:p < K) (hh:hlp b K (K+m) p=true) (hr:∀i,K<=i->i < K+m->0<=b.bd.R i p):Wy K n0 ls goal (wayL b K m p):=by
 have hD:0 < b.D:=o.g.pos
 have hne:b.bd.R (K+m) p ≠ 0:=by
  intro z
  unfold hlp at hh
  rw[z] at hh
  simp at hh
 have dw:∀ws:List Int,ws.length=K->dot ws (wayL b K m p)=Rat.divInt (sgW (b.bd.R (K+m) p) * Sx.sumN K fun c=>ws.getD c 0 * b.bd.R c p) b.D:=fun ws hl=>by
  have e:=Uz (0:Int) (fun x=>x) s.d0 ws (fun i=>sgW (b.bd.R (K+m) p) * b.bd.R i p)
  rw[hl,List.map_id''] at e
  ·show dot ws ((List.range K).map fun i=>Rat.divInt (sgW (b.bd.R (K+m) p) * b.bd.R i p) b.D)=_
   rw[e,<- Sx.Wq]
   congr 1
   exact Sx.ZP fun c _=>by rw[Int.mul_left_comm]
  ·intro x;rfl
 refine⟨by simp[wayL],fun q hq=>?_,fun l hl=>?_,?_⟩
 ·obtain⟨i,hi,rfl⟩:=List.mem_map.mp hq
  have hi':=List.mem_range.mp hi
  exact W6 s.d0 (by rw[sgW_abs];exact sz.r i p (by omega) (by omega)) sz.d
 ·rw[dw _ (d.w l hl)]
  obtain⟨i,hi,rfl⟩:=List.getElem_of_mem hl
  have hi':i < m:=by rw[<- d.len];exact hi
  have e:=o.room d.len d.w hi' (q:=p) (by omega)
  rw[if_neg (by omega)] at e
  have eg:ls.getD i ([],0)=ls[i]:=(zbO hi).symm
  rw[eg] at e
  have e2:Sx.sumN K (fun c=>ls[i].1.getD c 0 * b.bd.R c p)=Sx.sumN K (fun c=>colN c ls[i] * b.bd.R c p):=rfl
  rw[e2,e]
  have h0:sgW (b.bd.R (K+m) p) * (0 - b.bd.R (K+i) p)<=0 * b.D:=by
   rw[Int.zero_mul]
   have h1:=hr (K+i) (by omega) (by omega)
   by_cases hk:b.bd.h p < K
   ·rw[f p hp hk (K+i) (by omega) (by omega)];simp
   ·have:0 < b.bd.R (K+m) p:=by
     unfold hlp at hh
     rw[Bool.or_eq_true,Bool.and_eq_true] at hh
     rcases hh with z | z
     ·exact of_decide_eq_true z
     ·exact absurd (of_decide_eq_true z.2) hk
    have e1:sgW (b.bd.R (K+m) p)=1:=if_pos this
    rw[e1];omega
  have:=div_le (b:=0) hD h0
  simpa using this
 ·rw[dw goal hg,o.worth d.len hg (by omega)]
  exact div_pos hD (sgW_pos hne)
theorem zhU (d:DK K m B n0 ls) (hg:goal.length=K) (h2:∀x ∈ goal,x.natAbs<=B) :
  (∃b t ss,Cl K n0 ls ss/\Z8 [Z4 K ls,eI goal]=.ok (.tuple [eB b,.int (t:Nat)])/\Xi [eB b,.int (t:Nat)]=.ok (.list (ss.map fr))) \/
  ∃b r,Best K n0 ls goal r/\Z8 [Z4 K ls,eI goal]=.ok (.tuple [eB b,.none])/\XW [eB b]=.ok r:=by
 obtain⟨b,o,f,s,sz,r⟩:=d.settled hg h2
 have z:=d.mz hg h2
 rcases r with ⟨r1,r2⟩ | ⟨t,r1,r2,r3,r4,r5⟩
 ·obtain⟨b',o',f',fe',r⟩:=zfz z o f r1 d.fu
  have s':=o'.sm z
  have sz':=d.szb hg h2 o'
  have pp:Pt K n0 ls (pt K b'):=⟨by simp[pt],pt_sz sz' s',zee d o' s' fe'⟩
  rcases r with ⟨q1,q2⟩ | ⟨p,q1,q2,q3,q4⟩
  ·exact .inr ⟨b,_,.best pp (zdX d hg o' s' sz' q1),r2,q2⟩
  ·exact .inr ⟨b,_,.endless pp (way_wy d hg o' f' s' sz' q1 q2 q3),r2,q4⟩
 ·obtain⟨c1,c2,c3⟩:=zeQ d o s r1 r2 r3 r4
  exact .inl ⟨b,t,clL b K m t,⟨by simp[clL,d.len],clL_sz sz s (by omega),c1,c2,c3⟩,r5,zeO o s r1 r2⟩
end
end Lw
namespace Lw
open PySem Fx
theorem zaU {a b:Str}(ha:PyData.strOk a=true) (hb:PyData.strOk b=true):fEq (.str a) (.str b)=.ok (.bool (decide (a=b))):=by
 simp only[fEq,Xl,PyData.canLay0,PyData.depth,PyData.eqv,ha,hb]
 by_cases h:a=b <;> simp[h]
end Lw
namespace Lx
open PySem Fx Lw
def QH:DS:=
  (dRet (dTup (Zc (d1 zhn (dVar 2)) (Zc (dVar 3) dNil))))
def QI:DS:=
  dSeq (dIf (tNot (tV (Zk Y6 (Zc (dVar 3) dNil))))
  (X6 "NoDesk" (Zc (dC (.str (PySem.Str.ofString "a bound is a whole number of at most 12 figures"))) dNil))
  Z2)
  QH
def QJ:DS:=
  dSeq (dIf (tNot (tV (d1 fAll (dL (Yz 1 [] (Zw 0) (iSeq (dVar 2)) tT (Zk Y6 (Zc (dVar 0) dNil)))))))
  (X6 "NoDesk" (Zc (dC (.str (PySem.Str.ofString "a weight is a whole number of at most 12 figures"))) dNil))
  Z2)
  QI
def QK:DS:=
  dSeq (dIf (tOr (tNot (tV (d1 (fIs isList) (dVar 2)))) (tV (d2 fNe (d1 fLen (dVar 2)) (dVar 0))))
  (X6 "NoDesk" (Zc (dC (.str (PySem.Str.ofString "weights are a list with one number for each kind"))) dNil))
  Z2)
  QJ
def QL:DS:=
  dSeq (dSet 3 [] (d2 fIx (dVar 1) (dC (.int 1))))
  QK
def QM:DS:=
  dSeq (dSet 2 [] (d2 fIx (dVar 1) (dC (.int 0))))
  QL
def za4:DS:=
  dSeq (dIf (tOr (tNot (tV (d1 (fIs zdK) (dVar 1)))) (tV (d2 fNe (d1 fLen (dVar 1)) (dC (.int 2)))))
  (X6 "NoDesk" (Zc (dC (.str (PySem.Str.ofString "a limit is a tuple of weights and a bound"))) dNil))
  Z2)
  QM
def Wp:DF:=runF 4 2 za4
def zai:DS:=
  (dRet (dTup (Zc (dVar 0) (Zc (d1 zhn (dL (Yz 1 [0] (Zw 0) (iSeq (dVar 1)) tT (Zk Wp (Zc (dVar 1) (Zc (dVar 0) dNil)))))) dNil))))
def zaj:DS:=
  dSeq (dIf (tOr (tNot (tV (d1 (fIs isList) (dVar 1)))) (tV (d2 fGt (d1 fLen (dVar 1)) (dC (.int 10)))))
  (X6 "NoDesk" (Zc (dC (.str (PySem.Str.ofString "limits are a list of at most 10"))) dNil))
  Z2)
  zai
def zc1:DS:=
  dSeq (dIf (tOr (tNot (tV (Zk ZN (Zc (dVar 0) dNil)))) (tOr (tV (d2 fLt (dVar 0) (dC (.int 1)))) (tV (d2 fGt (dVar 0) (dC (.int 4))))))
  (X6 "NoDesk" (Zc (dC (.str (PySem.Str.ofString "kinds are a whole number from 1 to 4"))) dNil))
  Z2)
  zaj
def Yt:DF:=runF 2 2 zc1
def Qa:DS:=
  (dIf (tOr (tNot (tV (Zk ZN (Zc (dVar 1) dNil)))) (tOr (tV (d2 fLt (dVar 1) (dC (.int 0)))) (tV (d2 fGe (dVar 1) (dVar 0)))))
  (X6 "NoPlace" (Zc (dC (.str (PySem.Str.ofString "a place is a whole number from 0 to below how many there are"))) dNil))
  Z2)
def Xu:DF:=runF 2 2 Qa
def Uk:DS:=
  (dIf (tNot (tV (d1 fAll (dL (Yz 1 [] (Zw 0) (iSeq (dVar 1)) tT (Zk ZN (Zc (dVar 0) dNil)))))))
  (X6 "NoGoal" (Zc (dC (.str (PySem.Str.ofString "a goal is of whole numbers"))) dNil))
  Z2)
def Q6:DS:=
  dSeq (dIf (tOr (tNot (tV (d1 (fIs isList) (dVar 1)))) (tV (d2 fNe (d1 fLen (dVar 1)) (dVar 0))))
  (X6 "NoGoal" (Zc (dC (.str (PySem.Str.ofString "a goal is a list with one number for each kind"))) dNil))
  Z2)
  Uk
def XX:DF:=runF 2 2 Q6
def zeK:DS:=
  (dRet (Zk XW (Zc (d2 fIx (dVar 2) (dC (.int 0))) dNil)))
def zb1:DS:=
  dSeq (dIf (tV (d1 UZ (d2 fIx (dVar 2) (dC (.int 1)))))
  (dRet (dTup (Zc (dC (.str (PySem.Str.ofString "clash"))) (Zc (Zk Xi (Zc (d2 fIx (dVar 2) (dC (.int 0))) (Zc (d2 fIx (dVar 2) (dC (.int 1))) dNil))) dNil))))
  Z2)
  zeK
def zb2:DS:=
  dSeq (dSet 2 [] (Zk Z8 (Zc (dVar 0) (Zc (dVar 1) dNil))))
  zb1
def zhJ:DS:=
  dSeq (zc2 (Zk XX (Zc (d2 fIx (dVar 0) (dC (.int 0))) (Zc (dVar 1) dNil))))
  zb2
def JS:DF:=runF 3 2 zhJ
def zhw:DS:=
  (dRet (Zk WH (Zc (dVar 1) (Zc (d2 fIx (dVar 2) (dC (.int 1))) dNil))))
def zdR:DS:=
  dSeq (dIf (tV (d2 fEq (d2 fIx (dVar 2) (dC (.int 0))) (dC (.str (PySem.Str.ofString "endless")))))
  (dRet (dC .none))
  Z2)
  zhw
def zdS:DS:=
  dSeq (dIf (tV (d2 fEq (d2 fIx (dVar 2) (dC (.int 0))) (dC (.str (PySem.Str.ofString "clash")))))
  (X6 "NoPoint" (Zc (dC (.str (PySem.Str.ofString "the limits of the desk clash"))) dNil))
  Z2)
  zdR
def d_top:DS:=
  dSeq (dSet 2 [] (Zk JS (Zc (dVar 0) (Zc (dVar 1) dNil))))
  zdS
def JQ:DF:=runF 3 2 d_top
def UB:DS:=
  (dRet (dTup (Zc (dIfE (tV (d1 fIsN (dVar 4))) (dC .none) (Zk UX (Zc (dVar 4) dNil))) (Zc (dVar 3) dNil))))
def UC:DS:=
  dSeq (dSet 4 [] (Zk JQ (Zc (dVar 0) (Zc (dL (Yz 1 [] (Zw 0) (iSeq (dVar 2)) tT (d1 fNeg (dVar 0)))) dNil))))
  UB
def UD:DS:=
  dSeq (dSet 3 [] (Zk JQ (Zc (dVar 0) (Zc (dVar 2) dNil))))
  UC
def UE:DS:=
  dSeq (dSet 2 [] (Zk QE (Zc (d2 fIx (dVar 0) (dC (.int 0))) (Zc (dVar 1) dNil))))
  UD
def zab:DS:=
  dSeq (zc2 (Zk Xu (Zc (d2 fIx (dVar 0) (dC (.int 0))) (Zc (dVar 1) dNil))))
  UE
def Z1:DF:=runF 5 2 zab
variable {K m B n0:Nat}{ls:List Lim}{goal:List Int}
theorem limit_ok {k w:Nat}{l:Lim}(h:LimOk k w l) (hw:w<=999999999999) (hk:k<=1000):Wp [.int k,limL l]=.ok (limT l):=by
 have e:=ZY (st:=Zw 0) (e:=(Zk Y6 (Zc (dVar 0) dNil))) (C:=[.emp]) PyData.int (fun _=>PyData.bool true) l.1 fun x hx=>⟨[.val (.int x)],rfl,by simp[zeo (Nat.le_trans (h.ws x hx) hw)]⟩
 have hl:l.1.length<=16777216:=by rw[h.len];omega
 have hb:=zeo (Nat.le_trans h.bd hw)
 have a:=Qd l.1
 obtain rfl:=h.len
 simp[Wp,runF,za4,QM,QL,QK,QJ,QI,QH,limL,limT,at0,at1,fNe,hl,e,hb,a]
theorem Qv {k w:Nat}{ls:List Lim}(h:∀l ∈ ls,LimOk k w l) (hw:w<=999999999999) (hk:1<=k/\k<=4) (hl:ls.length<=10):Yt [.int k,.list (ls.map limL)]=.ok (.tuple [.int k,.tuple (ls.map limT)]):=by
 have e:=ZY (st:=Zw 0) (e:=(Zk Wp (Zc (dVar 1) (Zc (dVar 0) dNil)))) (C:=[.emp,.val (.int k)]) limL limT ls fun l hm=>⟨[.val (limL l),.val (.int k)],rfl,by simp[limit_ok (h l hm) hw (by omega)]⟩
 have h1:¬((k:Int) < 1):=by omega
 have h2:¬(4 < (k:Int)):=by omega
 have h3:¬(10 < (ls.length:Int)):=by omega
 have h4:ls.length<=16777216:=by omega
 simp[Yt,runF,zc1,zaj,zai,Vx,h1,h2,h3,h4,e]
theorem zaH {n i:Nat}(h:i < n):Xu [.int n,.int i]=.ok .none:=by
 have h1:¬((i:Int) < 0):=by omega
 have h2:¬((n:Int)<=(i:Int)):=by omega
 simp[Xu,Qa,runF,Vx,h1,h2]
theorem zb5 (hg:goal.length=K) (hK:K<=1000):XX [.int K,eI goal]=.ok .none:=by
 have e:=ZY (st:=Zw 0) (e:=(Zk ZN (Zc (dVar 0) dNil))) (C:=[.emp]) PyData.int (fun _=>PyData.bool true) goal fun x hx=>⟨[.val (.int x)],rfl,by simp[Vx]⟩
 have hl:K<=16777216:=by omega
 have a:=Qd goal
 simp[XX,Q6,Uk,runF,hg,zho,e,hl,a]
theorem best_ok (d:DK K m B n0 ls) (hg:goal.length=K) (h2:∀x ∈ goal,x.natAbs<=B):∃r,Best K n0 ls goal r/\JS [Z4 K ls,eI goal]=.ok r:=by
 have hc:=zb5 hg d.k
 rcases zhU d hg h2 with ⟨b,t,ss,c,e1,e2⟩ | ⟨b,r,c,e1,e2⟩
 ·refine⟨_,.clash c,?_⟩
  simp[JS,zhJ,zb2,zb1,runF,at0,at1,hc,e1,e2]
 ·refine⟨r,c,?_⟩
  simp[JS,zhJ,zb2,zb1,zeK,runF,at0,at1,hc,e1,e2]
end Lx
namespace Lw
open PySem Fx
def sumR:Nat->(Nat->Rat)->Rat
 | 0,_=>0
 | n+1,f=>sumR n f+f n
theorem WU:∀{n:Nat}{f g:Nat->Rat},(∀i,i < n->f i=g i)->sumR n f=sumR n g
 | 0,f,g,h=>rfl
 | n+1,f,g,h=>by
  simp only[sumR]
  rw[WU (fun i hi=>h i (by omega)),h n (by omega)]
theorem sumR_lin (n:Nat) (a:Rat) (f g:Nat->Rat):sumR n (fun i=>a * f i+g i)=a * sumR n f+sumR n g:=by
 induction n with
 | zero=>simp only[sumR];grind
 | succ n ih=>simp only[sumR,ih];grind
theorem Jv {n:Nat}{f:Nat->Rat}(h:∀i,i < n->f i=0):sumR n f=0:=by
 induction n with
 | zero=>rfl
 | succ n ih=>simp only[sumR,ih (fun i hi=>h i (by omega)),h n (by omega)];grind
theorem zaJ:∀(n:Nat) (f:Nat->Rat),sumR (n+1) f=f 0+sumR n (fun i=>f (i+1))
 | 0,f=>by simp only[sumR];grind
 | n+1,f=>by
  have:=zaJ n f
  simp only[sumR] at this ⊢
  rw[this];grind
theorem JV:∀(ws:List Int) (ps:List Rat),ws.length=ps.length->dot ws ps=sumR ps.length (fun j=>((ws.getD j 0:Int):Rat) * ps.getD j 0)
 | [],[],_=>rfl
 | [],_::_,h=>by simp at h
 | _::_,[],h=>by simp at h
 | w::ws,p::ps,h=>by
  rw[List.length_cons,zaJ]
  simp only[dot]
  rw[JV ws ps (by simpa using h)]
  rfl
def sumW (ps:List Rat):List Lim->List Rat->Rat
 | l::ls,s::ss=>s * dot l.1 ps+sumW ps ls ss
 | _,_=>0
theorem zdf {ps:List Rat}:∀(ls:List Lim) (ss:List Rat),ls.length=ss.length->(∀q ∈ ss,0<=q)->(∀l ∈ ls,dot l.1 ps<=(l.2:Rat))->sumW ps ls ss<=Jt ls ss
 | [],[],_,_,_=>Rat.le_refl
 | [],_::_,h,_,_=>by simp at h
 | _::_,[],h,_,_=>by simp at h
 | l::ls,s::ss,h,hn,hk=>by
  have ih:=zdf ls ss (by simpa using h) (fun q hq=>hn q (by simp[hq])) (fun l hl=>hk l (by simp[hl]))
  have h1:=hk l (by simp)
  have h2:=hn s (by simp)
  have h3:=Rat.mul_le_mul_of_nonneg_left h1 h2
  have e:Jt (l::ls) (s::ss)=(l.2:Rat) * s+Jt ls ss:=rfl
  have e2:sumW ps (l::ls) (s::ss)=s * dot l.1 ps+sumW ps ls ss:=rfl
  rw[e,e2]
  grind
theorem zdg {ps:List Rat}:∀(ls:List Lim) (ss:List Rat),(∀l ∈ ls,l.1.length=ps.length)->sumW ps ls ss=sumR ps.length (fun j=>ps.getD j 0 * dot (ls.map (colN j)) ss)
 | [],ss,_=>by
  have:∀j,dot (([]:List Lim).map (colN j)) ss=0:=fun j=>by cases ss <;> rfl
  have e:sumW ps [] ss=0:=by cases ss <;> rfl
  rw[e,Jv fun j _=>by rw[this,Rat.mul_zero]]
 | _::_,[],_=>by
  rw[Jv fun j _=>by rw[show dot _ ([]:List Rat)=0 from rfl,Rat.mul_zero]]
  rfl
 | l::ls,s::ss,h=>by
  have ih:=zdg (ps:=ps) ls ss (fun l hl=>h l (by simp[hl]))
  have e2:sumW ps (l::ls) (s::ss)=s * dot l.1 ps+sumW ps ls ss:=rfl
  rw[e2,ih,JV _ _ (h l (by simp)),<- sumR_lin]
  refine WU fun j _=>?_
  have e3:dot ((l::ls).map (colN j)) (s::ss)=((colN j l:Int):Rat) * s+dot (ls.map (colN j)) ss:=rfl
  rw[e3]
  have e4:((l.1.getD j 0:Int):Rat)=((colN j l:Int):Rat):=rfl
  rw[e4]
  grind
theorem Jk {K n1 n2:Nat}{ls:List Lim}{ss ps:List Rat}(hw:∀l ∈ ls,l.1.length=K) (c:Cl K n1 ls ss) (p:Pt K n2 ls ps):False:=by
 have h1:=zdf ls ss c.len.symm c.nn p.kp
 have h2:=zdg (ps:=ps) ls ss (fun l hl=>by rw[hw l hl,p.len])
 rw[Jv fun j hj=>by rw[c.z j (by rw[<- p.len];exact hj),Rat.mul_zero]] at h2
 rw[h2] at h1
 have h3:=c.b
 grind
end Lw
namespace Lw
open PySem Fx
theorem cut_lo {xs:List PyData}{p:Nat}(h:p<=xs.length):cutT xs none (some (p:Int))=xs.take p:=by
 have h1:¬((p:Int) < 0):=by omega
 have h2:min p xs.length=p:=by omega
 simp[cutT,sIxT,h1,h2]
theorem cut_hi {xs:List PyData}{p:Nat}(h:p<=xs.length):cutT xs (some (p:Int)) none=xs.drop p:=by
 have h1:¬((p:Int) < 0):=by omega
 have h2:min p xs.length=p:=by omega
 simp only[cutT,sIxT,if_neg h1,Int.toNat_natCast,h2]
 exact List.take_of_length_le (by simp)
end Lw
namespace Lw
open PySem Fx
theorem at20 (x y:PyData):atP [x,y] 0=some x:=rfl
theorem at3a (x y z:PyData):atP [x,y,z] 0=some x:=rfl
theorem at3b (x y z:PyData):atP [x,y,z] 1=some y:=rfl
theorem at3c (x y z:PyData):atP [x,y,z] 2=some z:=rfl
end Lw
namespace Lx
open PySem Fx
open Lw
def VT:DS:=
  (dIf (tNot (tV (d1 fAll (dL (Yz 1 [] (Zw 0) (iSeq (dVar 1)) tT (Zk YU (Zc (dVar 0) dNil)))))))
  (X6 "BadPoint" (Zc (dC (.str (PySem.Str.ofString "an amount is a fraction without a common divisor, its lower number from 1 on"))) dNil))
  Z2)
def U9:DS:=
  dSeq (dIf (tOr (tNot (tV (d1 (fIs isList) (dVar 1)))) (tV (d2 fNe (d1 fLen (dVar 1)) (dVar 0))))
  (X6 "BadPoint" (Zc (dC (.str (PySem.Str.ofString "a point is a list with one fraction for each kind"))) dNil))
  Z2)
  VT
def Xt:DF:=runF 2 2 U9
end Lx
namespace K06
open PySem Fx Lx
open Lw
theorem cc:fEq (.str "clash") (.str "clash")=.ok (.bool true):=by rw[zaU (by decide +kernel) (by decide +kernel)];rfl
theorem bc:fEq (.str "best") (.str "clash")=.ok (.bool false):=by rw[zaU (by decide +kernel) (by decide +kernel)];rfl
theorem be:fEq (.str "best") (.str "endless")=.ok (.bool false):=by rw[zaU (by decide +kernel) (by decide +kernel)];rfl
theorem ec:fEq (.str "endless") (.str "clash")=.ok (.bool false):=by rw[zaU (by decide +kernel) (by decide +kernel)];rfl
theorem ee:fEq (.str "endless") (.str "endless")=.ok (.bool true):=by rw[zaU (by decide +kernel) (by decide +kernel)];rfl
theorem X1 (i j:Int):fEq (.int i) (.int j)=.ok (.bool (decide (i=j))):=by simp[fEq]
theorem at30 (x y z:PyData):atP [x,y,z] 0=some x:=rfl
theorem at31 (x y z:PyData):atP [x,y,z] 1=some y:=rfl
theorem at32 (x y z:PyData):atP [x,y,z] 2=some z:=rfl
def wv:Option Rat->PyData
 | none=>.none
 | some q=>fr q
section
variable {k w:Nat}{ls:List Lim}{goal:List Int}
theorem X0 (n i:Nat):YJ n i=(List.range n).map fun j=>if j=i then 1 else 0:=by
 have:List.replicate n (0:Int)=(List.range n).map fun _=>0:=by
  apply List.ext_getElem <;> simp
 unfold YJ
 rw[this,JA]
theorem Vy {n i:Nat}:∀x ∈ YJ n i,x.natAbs<=999999999999:=fun x hx=>by
 rw[X0] at hx
 obtain⟨j,_,rfl⟩:=List.mem_map.mp hx
 split <;> decide
theorem YI (n i:Nat):(YJ n i).length=n:=by simp[YJ]
theorem Uv (gs:List Int):Yj (Zw 0) tT (d1 fNeg (dVar 0)) [.emp] (gs.map .int)=.ok ((gs.map fun x=>-x).map .int):=by
 rw[List.map_map]
 exact ZY PyData.int _ _ fun x _=>⟨_,rfl,rfl⟩
end
end K06
namespace K13
open PySem Fx Lx
open Lw
def zbc:DS:=
  (dRet (dL (Yz 2 [1] (Uc 0 1) (iEnum (iSeq (d2 fIx (dVar 0) (dC (.int 1))))) (tV (Zk Qt (Zc (dTup (Zc (d2 fIx (dVar 1) (dC (.int 1))) (Zc (dC (.int 1)) dNil))) (Zc (Zk WH (Zc (d2 fIx (dVar 1) (dC (.int 0))) (Zc (dVar 2) dNil))) dNil)))) (dVar 0))))
def zeJ:DS:=
  dSeq (zc2 (Zk Xt (Zc (d2 fIx (dVar 0) (dC (.int 0))) (Zc (dVar 1) dNil))))
  zbc
def UY:DF:=runF 2 2 zeJ
def W7:DS:=
  (dRet (dTup (Zc (dVar 3) (Zc (d2 fAdd (d2 fSub (dVar 4) (dVar 3)) (dC (.int 1))) dNil))))
def W8:DS:=
  dSeq (dSet 4 [] (d2 fDiv (d2 fIx (d2 fIx (dVar 2) (dC (.int 1))) (dC (.int 0))) (d2 fIx (d2 fIx (dVar 2) (dC (.int 1))) (dC (.int 1)))))
  W7
def W9:DS:=
  dSeq (dSet 3 [] (d1 fNeg (d2 fDiv (d1 fNeg (d2 fIx (d2 fIx (dVar 2) (dC (.int 0))) (dC (.int 0)))) (d2 fIx (d2 fIx (dVar 2) (dC (.int 0))) (dC (.int 1))))))
  W8
def YW:DS:=
  dSeq (dIf (tOr (tV (d1 fIsN (d2 fIx (dVar 2) (dC (.int 0))))) (tV (d1 fIsN (d2 fIx (dVar 2) (dC (.int 1))))))
  (X6 "TooMany" (Zc (dC (.str (PySem.Str.ofString "a stretch of the desk has no end"))) dNil))
  Z2)
  W9
def Xv:DS:=
  dSeq (dSet 2 [] (Zk Z1 (Zc (dVar 0) (Zc (dVar 1) dNil))))
  YW
def ZM:DF:=runF 5 2 Xv
def VS:DS:=
  (dRet (dVar 1))
def Q3:DS:=
  dSeq (dFor (Zw 2) [] (iSeq (dVar 0))
  (dSet 1 [] (d2 fMul (dVar 1) (d2 fIx (dVar 2) (dC (.int 1))))))
  VS
def zba:DS:=
  dSeq (dSet 1 [] (dC (.int 1)))
  Q3
def W5:DF:=runQ 3 1 zba
def VJ:DS:=
  (dRet (dVar 2))
def QG:DS:=
  dSeq (dFor (Zw 3) [] (iRev (dVar 0))
  (dSeq (dSet 2 [] (d2 fAdd (dLst (Zc (d2 fAdd (d2 fIx (dVar 3) (dC (.int 0))) (d2 fMod (dVar 1) (d2 fIx (dVar 3) (dC (.int 1))))) dNil)) (dVar 2)))
  (dSet 1 [] (d2 fDiv (dVar 1) (d2 fIx (dVar 3) (dC (.int 1)))))))
  VJ
def za3:DS:=
  dSeq (dSet 2 [] (dLst dNil))
  QG
def Wo:DF:=runQ 4 2 za3
def zaf:DS:=
  (dRet (d2 fEq (Zk UY (Zc (dVar 0) (Zc (dL (Yz 1 [] (Zw 0) (iSeq (dVar 1)) tT (dTup (Zc (dVar 0) (Zc (dC (.int 1)) dNil))))) dNil))) (dLst dNil)))
def XM:DF:=runF 2 2 zaf
def Vu:DS:=
  (dRet (dL (Yz 1 [0] (Zw 0) (iSeq (dVar 3)) (tV (Zk XM (Zc (dVar 1) (Zc (dVar 0) dNil)))) (dVar 0))))
def Vv:DS:=
  dSeq (dSet 3 [] (dL (Yz 1 [1] (Zw 0) (iRng (dVar 2)) tT (Zk Wo (Zc (dVar 1) (Zc (dVar 0) dNil))))))
  Vu
def X2:DS:=
  dSeq (dIf (tV (d2 fGt (dVar 2) (dC (.int 400))))
  (X6 "TooMany" (Zc (dC (.str (PySem.Str.ofString "whole points are gone through if the stretches make up at most 400"))) dNil))
  Z2)
  Vv
def X3:DS:=
  dSeq (dSet 2 [] (Zk W5 (Zc (dVar 1) dNil)))
  X2
def Y3:DS:=
  dSeq (dSet 1 [] (dL (Yz 1 [0] (Zw 0) (iRng (d2 fIx (dVar 0) (dC (.int 0)))) tT (Zk ZM (Zc (dVar 1) (Zc (dVar 0) dNil))))))
  X3
def YY:DS:=
  dSeq (dIf (tV (d2 fEq (d2 fIx (Zk Xs (Zc (dVar 0) dNil)) (dC (.int 0))) (dC (.str (PySem.Str.ofString "clash")))))
  (dRet (dLst dNil))
  Z2)
  Y3
def Zo:DF:=runF 4 1 YY
def WQ:DS:=
  (dRet (dVar 3))
def Uh:DS:=
  dSeq (dFor (Zw 4) [] (iRng (d2 fMod (Zk Zm (Zc (dVar 0) (Zc (dC (.int 8)) dNil))) (dC (.int 4))))
  (dSeq (dSet 5 [] (dL (Yz 1 [0,4] (Zw 0) (iRng (d2 fAdd (dVar 1) (dC (.int 1)))) tT (Zk ZT (Zc (Zk Zm (Zc (dVar 1) (Zc (d2 fAdd (d2 fAdd (dC (.int 10)) (d2 fMul (dC (.int 4)) (dVar 2))) (dVar 0)) dNil))) (Zc (dC (.int 3)) dNil))))))
  (dApp 3 [] (dTup (Zc (dL (oCut (dVar 5) pNo (pAt (dVar 1)))) (Zc (d2 fIx (dVar 5) (dVar 1)) dNil))))))
  WQ
def WR:DS:=
  dSeq (Jf 3 [3] (oCat (dL (oCut (dVar 3) pNo (pAt (dVar 2)))) (dL (oCut (dVar 3) (pAt (d2 fAdd (dVar 2) (dC (.int 1)))) pNo))))
  Uh
def Ui:DS:=
  dSeq (dFor (Zw 4) [] (iRng (dVar 1))
  (dSeq (dApp 3 [] (dTup (Zc (dL (Yz 1 [4] (Zw 0) (iRng (dVar 1)) tT (d1 fInt (d2 fEq (dVar 0) (dVar 1))))) (Zc (d2 fMod (Zk Zm (Zc (dVar 0) (Zc (d2 fAdd (dC (.int 2)) (dVar 4)) dNil))) (dC (.int 4))) dNil))))
  (dApp 3 [] (dTup (Zc (dL (Yz 1 [4] (Zw 0) (iRng (dVar 1)) tT (d1 fNeg (d1 fInt (d2 fEq (dVar 0) (dVar 1)))))) (Zc (d2 fMod (Zk Zm (Zc (dVar 0) (Zc (d2 fAdd (dC (.int 5)) (dVar 4)) dNil))) (dC (.int 4))) dNil))))))
  WR
def Q0:DS:=
  dSeq (Jf 3 [] (oLst dNil))
  Ui
def XT:DF:=runQ 6 3 Q0
def zdT:DS:=
  (dRet (dVar 1))
def zdU:DS:=
  dSeq (dFor (Zw 2) [] (iRng (dVar 0))
  (dSeq (Jf 3 [] (oLst dNil))
  (dSeq (dFor (Zw 4) [] (iSeq (dVar 1))
  (dFor (Zw 5) [] (zcP (d1 fNeg (dC (.int 3))) (dC (.int 4)))
  (dApp 3 [] (d2 fAdd (dVar 4) (dLst (Zc (dVar 5) dNil))))))
  (dSet 1 [3] (dVar 3)))))
  zdT
def zhx:DS:=
  dSeq (dSet 1 [] (dLst (Zc (dLst dNil) dNil)))
  zdU
def XV:DF:=runQ 6 1 zhx
def VM:DS:=
  (dRet (dC (.bool true)))
def za7:DS:=
  dSeq (dFor (Zw 2) [] (iSeq (dVar 0))
  (dSeq (dSet 3 [] (dC (.int 0)))
  (dSeq (dFor (Zw 4) [] (iRng (d1 fLen (dVar 1)))
  (dSet 3 [] (d2 fAdd (dVar 3) (d2 fMul (d2 fIx (d2 fIx (dVar 2) (dC (.int 0))) (dVar 4)) (d2 fIx (dVar 1) (dVar 4))))))
  (dIf (tV (d2 fGt (dVar 3) (d2 fIx (dVar 2) (dC (.int 1)))))
  (dRet (dC (.bool false)))
  Z2))))
  VM
def Xh:DF:=runQ 5 2 za7
def QT:DS:=
  (dRet (d2 fEq (dVar 5) (dL (Yz 1 [2] (Zw 0) (iRng (dVar 1)) tT (dLst (Zc (d2 fAdd (dVar 1) (dVar 0)) dNil))))))
def QU:DS:=
  dSeq (dIf (tV (d2 fGt (dVar 1) (dC (.int 400))))
  (dRet (dVar 4))
  Z2)
  QT
def QV:DS:=
  dSeq (dTry (dSet 5 [] (zan Zo (Zc (dVar 3) dNil))) (subs ["TooMany"])
  (dSet 4 [] (dC (.bool true))))
  QU
def QW:DS:=
  dSeq (dSet 5 [] (dC .none))
  QV
def QX:DS:=
  dSeq (dSet 4 [] (dC (.bool false)))
  QW
def QY:DS:=
  dSeq (dSet 3 [] (Zk Yt (Zc (dC (.int 1)) (Zc (dLst (Zc (dTup (Zc (dLst (Zc (dC (.int 1)) dNil)) (Zc (d2 fSub (d2 fAdd (dVar 2) (dVar 1)) (dC (.int 1))) dNil))) (Zc (dTup (Zc (dLst (Zc (d1 fNeg (dC (.int 1))) dNil)) (Zc (d1 fNeg (dVar 2)) dNil))) dNil))) dNil))))
  QX
def QZ:DS:=
  dSeq (dSet 2 [] (Zk ZT (Zc (Zk Zm (Zc (dVar 0) (Zc (dC (.int 3)) dNil))) (Zc (d2 fPow (dC (.int 10)) (dC (.int 9))) dNil))))
  QY
def za6:DS:=
  dSeq (dSet 1 [] (d2 fAdd (dC (.int 396)) (d2 fMod (Zk Zm (Zc (dVar 0) (Zc (dC (.int 2)) dNil))) (dC (.int 8)))))
  QZ
def W4:DF:=runF 6 1 za6
def QN:DS:=
  (dRet (d2 fEq (dVar 4) (dL (Yz 1 [] (Zw 0) (iRng (d2 fAdd (dVar 1) (dC (.int 1)))) tT (dLst (Zc (dVar 0) (Zc (dVar 0) dNil)))))))
def QO:DS:=
  dSeq (dIf (tV (d2 fGt (dVar 1) (dC (.int 19))))
  (dRet (dVar 3))
  Z2)
  QN
def QP:DS:=
  dSeq (dTry (dSet 4 [] (zan Zo (Zc (Zk Yt (Zc (dC (.int 2)) (Zc (dVar 2) dNil))) dNil))) (subs ["TooMany"])
  (dSet 3 [] (dC (.bool true))))
  QO
def QQ:DS:=
  dSeq (dSet 4 [] (dC .none))
  QP
def QR:DS:=
  dSeq (dSet 3 [] (dC (.bool false)))
  QQ
def QS:DS:=
  dSeq (dSet 2 [] (dLst (Zc (dTup (Zc (dLst (Zc (dC (.int 1)) (Zc (dC (.int 0)) dNil))) (Zc (dVar 1) dNil))) (Zc (dTup (Zc (dLst (Zc (d1 fNeg (dC (.int 1))) (Zc (dC (.int 0)) dNil))) (Zc (dC (.int 0)) dNil))) (Zc (dTup (Zc (dLst (Zc (dC (.int 0)) (Zc (dC (.int 1)) dNil))) (Zc (dVar 1) dNil))) (Zc (dTup (Zc (dLst (Zc (dC (.int 0)) (Zc (d1 fNeg (dC (.int 1))) dNil))) (Zc (dC (.int 0)) dNil))) (Zc (dTup (Zc (dLst (Zc (dC (.int 1)) (Zc (d1 fNeg (dC (.int 1))) dNil))) (Zc (dC (.int 0)) dNil))) (Zc (dTup (Zc (dLst (Zc (d1 fNeg (dC (.int 1))) (Zc (dC (.int 1)) dNil))) (Zc (dC (.int 0)) dNil))) dNil))))))))
  QR
def za5:DS:=
  dSeq (dSet 1 [] (d2 fAdd (dC (.int 18)) (d2 fMod (Zk Zm (Zc (dVar 0) (Zc (dC (.int 2)) dNil))) (dC (.int 4)))))
  QS
def W3:DF:=runQ 5 1 za5
def Y7:DS:=
  (dRet (dC (.bool false)))
def Y8:DS:=
  dSeq (dTryA 3 (zc2 (zan Zo (Zc (dVar 0) dNil))) (subs ["TooMany"])
  (dRet (d1 fIsX (dVar 3))))
  Y7
def Z9:DS:=
  dSeq (dIf (tV (d1 UZ (d2 fIx (Zk Z1 (Zc (dVar 0) (Zc (dVar 1) dNil))) (dVar 2))))
  (dRet (dC (.bool true)))
  Z2)
  Y8
def Z7:DS:=
  dSeq (dIf (tV (d2 fEq (d2 fIx (Zk Xs (Zc (dVar 0) dNil)) (dC (.int 0))) (dC (.str (PySem.Str.ofString "clash")))))
  (dRet (d2 fEq (Zk Zo (Zc (dVar 0) dNil)) (dLst dNil)))
  Z2)
  Z9
def ZH:DF:=runF 4 3 Z7
def zeI:DS:=
  (dRet (d2 fEq (dVar 6) (dL (Yz 1 [4] (Zw 0) (iSeq (Zk XV (Zc (dVar 2) dNil))) (tV (Zk Xh (Zc (dVar 1) (Zc (dVar 0) dNil)))) (dVar 0)))))
def zhy:DS:=
  dSeq (dSet 6 [] (Zk Zo (Zc (dVar 5) dNil)))
  zeI
def zhz:DS:=
  dSeq (dIf (tV (d2 fLt (dVar 3) (d2 fMul (dC (.int 2)) (dVar 2))))
  (dRet (Zk ZH (Zc (dVar 5) (Zc (d2 fDiv (dVar 3) (dC (.int 2))) (Zc (d2 fSub (dC (.int 1)) (d2 fMod (dVar 3) (dC (.int 2)))) dNil)))))
  Z2)
  zhy
def zhA:DS:=
  dSeq (dSet 5 [] (Zk Yt (Zc (dVar 2) (Zc (Zk XU (Zc (dVar 4) dNil)) dNil))))
  zhz
def Qw:DS:=
  dSeq (dSet 4 [] (Zk XT (Zc (dVar 0) (Zc (dVar 2) (Zc (dVar 3) dNil)))))
  zhA
def zhB:DS:=
  dSeq (dIf (tV (d2 fEq (d2 fMod (Zk Zm (Zc (dVar 0) (Zc (dC (.int 1)) dNil))) (dC (.int 6))) (dC (.int 1))))
  (dSet 3 [] (d2 fMod (d2 fDiv (Zk Zm (Zc (dVar 0) (Zc (dC (.int 1)) dNil))) (dC (.int 6))) (d2 fMul (dC (.int 2)) (dVar 2))))
  Z2)
  Qw
def zhC:DS:=
  dSeq (dSet 3 [] (d2 fMul (dC (.int 2)) (dVar 2)))
  zhB
def zhD:DS:=
  dSeq (dSet 2 [] (d2 fAdd (dC (.int 1)) (d2 fMod (Zk Zm (Zc (dVar 0) (Zc (dC (.int 0)) dNil))) (dC (.int 3)))))
  zhC
def zhE:DS:=
  dSeq (dIf (tV (d2 fEq (dVar 1) (dC (.int 2))))
  (dRet (Zk W3 (Zc (dVar 0) dNil)))
  Z2)
  zhD
def zhF:DS:=
  dSeq (dIf (tV (d2 fEq (dVar 1) (dC (.int 1))))
  (dRet (Zk W4 (Zc (dVar 0) dNil)))
  Z2)
  zhE
def d_law:DS:=
  dSeq (dSet 1 [] (d2 fMod (Zk Zm (Zc (dVar 0) (Zc (dC (.int 9)) dNil))) (dC (.int 8))))
  zhF
def zhm:DF:=runQ 7 1 d_law
end K13
namespace K13
open PySem PySem.Spec PyProof.Rows L2 Fx Lx
open Lw
variable {P:Program}{w:World}{K:PySem.W.Frag}{mg:Str->Option Value}{base:Heap}{k:Nat}{fa:Addr}{fd:FuncData}
set_option maxHeartbeats 0
set_option smartUnfolding false
def top (i:Nat):Stmt:=PySem.Challenge.pw_limitdesk_k13_whole_points.main.body.getD i (.Pass ⟨0,0,0,0⟩)
def inClass (st:Stmt) (i:Nat):Stmt:=match st with | .ClassDef _ _ _ body _ _ _ _ _ _ _=>body.getD i (.Pass ⟨0,0,0,0⟩) | st=>st
abbrev Xf:Stmt:=inClass (top 28) 0
theorem zbq:FnScope ["self","heads","divisor","rows"] ["self","heads","divisor","rows"] (Zd Xf):=⟨rfl,rfl,rfl,by decide +kernel,rfl,by decide +kernel,by decide +kernel⟩
theorem zbD {P:Program}{w:World}{K:PySem.W.Frag}{mg:Str->Option Value}{base:Heap}{f C:Addr}{fd:FuncData}(F:Fun K "__init__" "Board.__init__" Xf f fd) (cl:Cls K C) (n0:WL K C "heads") (n1:WL K C "divisor") (n2:WL K C "rows"):FnOk P w K mg base CX0 1 f fd ["self","heads","divisor","rows"] (Fx.spI C ["heads","divisor","rows"]):=by
 refine F.ok zbq (fun vs H Q E h=>Fx.spI_len h) fun cdv A outer s H vs Q E hr h=>⟨_,zbu (zgu (pv 0) (pv 1) rfl) (zbu (zgu (pv 0) (pv 2) rfl) (zgt (zgu (pv 0) (pv 3) rfl))),?_⟩
 obtain⟨x,dx,u1,u2,u3,rfl,hp,k⟩:=Fx.spI3 h
 refine⟨_,rfl,_,rfl,x,C,dx,[],rfl,hp,cl,n0,(by show 0 < 1000;decide),_,rfl,_,rfl,x,C,dx,_,rfl,Zt,cl,n1,(by show 1 < 1000;decide),_,rfl,_,rfl,x,C,dx,_,rfl,Zt,cl,n2,(by show 2 < 1000;decide),?_⟩
 rw[zfJ,zfJ,Fx.putF3 (by decide +kernel) (by decide +kernel) (by decide +kernel)]
 exact k
abbrev Wk:Stmt:=top 9
theorem zdq:FnScope ["value"] ["value"] (Zd Wk):=⟨rfl,rfl,rfl,by decide +kernel,rfl,by decide +kernel,by decide +kernel⟩
theorem zdF (F:Fun K "is_whole" "is_whole" Wk fa fd) (hm:mg "is_whole" = some (.ref fa)) (b:ZG K fd ["value"] []) (z_isinstance:mg "isinstance" = none) (z_int:mg "int" = none) (z_bool:mg "bool" = none) :
  Fx.Cle P w K mg base (k+1) "is_whole" 1 ZN:=by
 exact ZQ F hm b zdq rfl rfl fun cdv A outer s H E hr=>
  (Zi (Zp (zew (XY Fx.kit_int (show bootBuiltins "int" = some (.type "int") by decide +kernel) rfl z_isinstance rfl z_int (Za 0)) (zcT (Fx.ev_not (XY Fx.kit_bool (show bootBuiltins "bool" = some (.type "bool") by decide +kernel) rfl z_isinstance rfl z_bool (Za 0)))))))
abbrev Yc:Stmt:=top 10
theorem Z5:FnScope ["a","b","rest"] ["a","b"] (Zd Yc):=⟨rfl,rfl,rfl,by decide +kernel,rfl,by decide +kernel,by decide +kernel⟩
theorem Qr (F:Fun K "common_divisor" "common_divisor" Yc fa fd) (hm:mg "common_divisor" = some (.ref fa)) (b:ZG K fd ["a","b"] []) (z_abs:mg "abs" = none) :
  Fx.Cle P w K mg base (k+1) "common_divisor" 2 Ye:=by
 exact ZQ F hm b Z5 rfl rfl fun cdv A outer s H E hr=>
  (Zg (Zq (i:=0) Z5.nd rfl (Or.inl rfl) (zcU rfl z_abs (Za 0)))
  (Zg (Zq (i:=1) Z5.nd rfl (Or.inl rfl) (zcU rfl z_abs (Za 1)))
  (Zg (zbj PassesOwn.never (ZX (JD hr.units) (Za 1) Zf (ZC _))
  (Zg (Zq (i:=2) Z5.nd rfl (Or.inl rfl) (Zz Xp (Za 0) (Za 1)))
  (Zg (Zq (i:=0) Z5.nd rfl (Or.inl rfl) (Za 1))
  (Zi (Zq (i:=1) Z5.nd rfl (Or.inl rfl) (Za 2))))))
  (Zi (Zp (Za 0))))))
abbrev YN:Stmt:=top 11
theorem zau:FnScope ["value"] ["value"] (Zd YN):=⟨rfl,rfl,rfl,by decide +kernel,rfl,by decide +kernel,by decide +kernel⟩
theorem zaz (F:Fun K "is_fraction" "is_fraction" YN fa fd) (hm:mg "is_fraction" = some (.ref fa)) (b:ZG K fd ["value"] []) (z_isinstance:mg "isinstance" = none) (z_tuple:mg "tuple" = none) (z_len:mg "len" = none) (C_is_whole:Fx.Cle P w K mg base k "is_whole" 1 ZN) (C_common_divisor:Fx.Cle P w K mg base k "common_divisor" 2 Ye) :
  Fx.Cle P w K mg base (k+1) "is_fraction" 1 YU:=by
 exact ZQ F hm b zau rfl rfl fun cdv A outer s H E hr=>
  (Zg (Yl (Fx.tv_w (Qf (WB (Xk (XY zcK (show bootBuiltins "tuple" = some (.type "tuple") by decide +kernel) rfl z_isinstance rfl z_tuple (Za 0)) (fun _=>rfl))) (Vz (ZX (JD hr.units) (Xj rfl z_len (Za 0)) Zf (ZC _)))))
  (Zi (Zp zaG))
  ZJ)
  (Zg (Yl (Fx.tv_w (Qf (WB (Xk (Zh (Fx.Cle.cal C_is_whole) hr rfl (Zb (Zu (Za 0) Zf (fun _ _=>rfl)) Ze)) (fun _=>rfl))) (Vz (WB (Xk (Zh (Fx.Cle.cal C_is_whole) hr rfl (Zb (Zu (Za 0) Zf (fun _ _=>rfl)) Ze)) (fun _=>rfl))))))
  (Zi (Zp zaG))
  ZJ)
  (Zi (Zp (zew (Wx zgI (Zu (Za 0) Zf (fun _ _=>rfl)) Zf (ZC _)) (zcT (Wx (XS hr.units) (Zh (Fx.Cle.cal C_common_divisor) hr rfl (Zb (Zu (Za 0) Zf (fun _ _=>rfl)) (Zb (Zu (Za 0) Zf (fun _ _=>rfl)) Ze))) Zf (ZC _))))))))
abbrev zaM:Stmt:=top 12
theorem zdr:FnScope ["upper","lower","divisor"] ["upper","lower"] (Zd zaM):=⟨rfl,rfl,rfl,by decide +kernel,rfl,by decide +kernel,by decide +kernel⟩
theorem ok_frac (F:Fun K "frac" "frac" zaM fa fd) (hm:mg "frac" = some (.ref fa)) (b:ZG K fd ["upper","lower"] []) (C_common_divisor:Fx.Cle P w K mg base k "common_divisor" 2 Ye) :
  Fx.Cle P w K mg base (k+1) "frac" 2 XB:=by
 exact ZQ F hm b zdr rfl rfl fun cdv A outer s H E hr=>
  (Zg (Yl (ZX (XS hr.units) (Za 1) Zf (ZC _))
  (Zi Fx.ss_never)
  ZJ)
  (Zg (Zq (i:=2) zdr.nd rfl (Or.inl rfl) (Zh (Fx.Cle.cal C_common_divisor) hr rfl (Zb (Za 0) (Zb (Za 1) Ze))))
  (Zg (Yl (ZX VA (Za 1) Zf (ZC _))
  (Zi (Zq (i:=2) zdr.nd rfl (Or.inl rfl) (YH (Za 2))))
  ZJ)
  (Zi (Zp (Ya (Zb (Zz VB (Za 0) (Za 2)) (Zb (Zz VB (Za 1) (Za 2)) Ze))))))))
abbrev zaL:Stmt:=top 13
theorem sc_plus:FnScope ["a","b"] ["a","b"] (Zd zaL):=⟨rfl,rfl,rfl,by decide +kernel,rfl,by decide +kernel,by decide +kernel⟩
theorem ok_plus (F:Fun K "plus" "plus" zaL fa fd) (hm:mg "plus" = some (.ref fa)) (b:ZG K fd ["a","b"] []) (C_frac:Fx.Cle P w K mg base k "frac" 2 XB) :
  Fx.Cle P w K mg base (k+1) "plus" 2 zaT:=by
 exact ZQ F hm b sc_plus rfl rfl fun cdv A outer s H E hr=>
  (Zi (Zp (Zh (Fx.Cle.cal C_frac) hr rfl (Zb (Zz Z0 (Zz Yo (Zu (Za 0) Zf (fun _ _=>rfl)) (Zu (Za 1) Zf (fun _ _=>rfl))) (Zz Yo (Zu (Za 1) Zf (fun _ _=>rfl)) (Zu (Za 0) Zf (fun _ _=>rfl)))) (Zb (Zz Yo (Zu (Za 0) Zf (fun _ _=>rfl)) (Zu (Za 1) Zf (fun _ _=>rfl))) Ze)))))
abbrev V2:Stmt:=top 14
theorem zgb:FnScope ["a"] ["a"] (Zd V2):=⟨rfl,rfl,rfl,by decide +kernel,rfl,by decide +kernel,by decide +kernel⟩
theorem zgM (F:Fun K "turned" "turned" V2 fa fd) (hm:mg "turned" = some (.ref fa)) (b:ZG K fd ["a"] []) :
  Fx.Cle P w K mg base (k+1) "turned" 1 UX:=by
 exact ZQ F hm b zgb rfl rfl fun cdv A outer s H E hr=>
  (Zi (Zp (Ya (Zb (YH (Zu (Za 0) Zf (fun _ _=>rfl))) (Zb (Zu (Za 0) Zf (fun _ _=>rfl)) Ze)))))
abbrev Qo:Stmt:=top 15
theorem sc_below:FnScope ["a","b"] ["a","b"] (Zd Qo):=⟨rfl,rfl,rfl,by decide +kernel,rfl,by decide +kernel,by decide +kernel⟩
theorem ok_below (F:Fun K "below" "below" Qo fa fd) (hm:mg "below" = some (.ref fa)) (b:ZG K fd ["a","b"] []) :
  Fx.Cle P w K mg base (k+1) "below" 2 Qt:=by
 exact ZQ F hm b sc_below rfl rfl fun cdv A outer s H E hr=>
  (Zi (Zp (Wx VA (Zz Yo (Zu (Za 0) Zf (fun _ _=>rfl)) (Zu (Za 1) Zf (fun _ _=>rfl))) (Zz Yo (Zu (Za 1) Zf (fun _ _=>rfl)) (Zu (Za 0) Zf (fun _ _=>rfl))) (ZC _))))
abbrev XI:Stmt:=top 20
theorem zcr:FnScope ["value"] ["value"] (Zd XI):=⟨rfl,rfl,rfl,by decide +kernel,rfl,by decide +kernel,by decide +kernel⟩
theorem zcE (F:Fun K "is_number" "is_number" XI fa fd) (hm:mg "is_number" = some (.ref fa)) (b:ZG K fd ["value"] []) (z_abs:mg "abs" = none) (g_GREATEST_NUMBER:∃t,mg "GREATEST_NUMBER" = some (.int 999999999999 t)) (C_is_whole:Fx.Cle P w K mg base k "is_whole" 1 ZN) :
  Fx.Cle P w K mg base (k+1) "is_number" 1 Y6:=by
 obtain⟨t_GREATEST_NUMBER,g_GREATEST_NUMBER⟩:=g_GREATEST_NUMBER;exact ZQ F hm b zcr rfl rfl fun cdv A outer s H E hr=>
  (Zi (Zp (zew (Zh (Fx.Cle.cal C_is_whole) hr rfl (Zb (Za 0) Ze)) (zcT (Wx Fx.op_leF (zcU rfl z_abs (Za 0)) (Jp rfl g_GREATEST_NUMBER) (ZC _))))))
abbrev Wg:Stmt:=top 21
theorem Ut:FnScope ["kinds","limit","weights","bound"] ["kinds","limit"] (Zd Wg):=⟨rfl,rfl,rfl,by decide +kernel,rfl,by decide +kernel,by decide +kernel⟩
theorem zdB {cl:Str->Value}{X_NoDesk:Addr}(F:Fun K "limit_of" "limit_of" Wg fa fd) (hm:mg "limit_of" = some (.ref fa)) (b:ZG K fd ["kinds","limit"] []) (z_isinstance:mg "isinstance" = none) (z_tuple:mg "tuple" = none) (z_len:mg "len" = none) (z_list:mg "list" = none) (z_all:mg "all" = none) (c_NoDesk:Fx.XCls K mg "NoDesk" X_NoDesk) (e_NoDesk:cl "NoDesk" = .ref X_NoDesk) (C_is_number:Fx.Cle P w K mg base k "is_number" 1 Y6) :
  Fx.Clx P w K mg base cl (k+1) "limit_of" 2 Wp:=by
 exact WK F hm b Ut rfl rfl fun cdv A outer s H E W hr=>
  (Zg (Yl (Fx.tv_w (Qf (WB (Xk (XY zcK (show bootBuiltins "tuple" = some (.type "tuple") by decide +kernel) rfl z_isinstance rfl z_tuple (Za 1)) (fun _=>rfl))) (Vz (ZX (JD hr.units) (Xj rfl z_len (Za 1)) Zf (ZC _)))))
  (Zi (YA Zr.pin c_NoDesk e_NoDesk (Zb YG Ze) rfl))
  ZJ)
  (Zg (Zq (i:=2) Ut.nd rfl (Or.inl rfl) (Zu (Za 1) Zf (fun _ _=>rfl)))
  (Zg (Zq (i:=3) Ut.nd rfl (Or.inl rfl) (Zu (Za 1) Zf (fun _ _=>rfl)))
  (Zg (Yl (Fx.tv_w (Qf (WB (Xk (XY Jn (show bootBuiltins "list" = some (.type "list") by decide +kernel) rfl z_isinstance rfl z_list (Za 2)) (fun _=>rfl))) (Vz (ZX (JD hr.units) (Xj rfl z_len (Za 2)) (Za 0) (ZC _)))))
  (Zi (YA Zr.pin c_NoDesk e_NoDesk (Zb YG Ze) rfl))
  ZJ)
  (Zg (Yl (WB (Xk (zhr rfl z_all (Yu (Yy (N:=["number"]) (nv:=1) (cap:=[]) (Yv rfl) rfl (ZF (by decide)) (XA (Za 2)) (Xz Zr) (fun _ _ _ _=>(ZD (i:=0) (show List.Nodup (["number"]:List Str) from by decide +kernel) rfl (Or.inl rfl))) (fun _ _ _ _ hp1=>Yh) (fun _ _ _ _ hp1=>(Zh (Fx.Cle.cal C_is_number) hr rfl (Zb (Za 0) Ze)))))) (fun _=>rfl)))
  (Zi (YA Zr.pin c_NoDesk e_NoDesk (Zb YG Ze) rfl))
  ZJ)
  (Zg (Yl (WB (Xk (Zh (Fx.Cle.cal C_is_number) hr rfl (Zb (Za 3) Ze)) (fun _=>rfl)))
  (Zi (YA Zr.pin c_NoDesk e_NoDesk (Zb YG Ze) rfl))
  ZJ)
  (Zi (Zp (Ya (Zb (zev rfl z_tuple (Za 2)) (Zb (Za 3) Ze)))))))))))
abbrev W0:Stmt:=top 22
theorem ze6:FnScope ["kinds","limits"] ["kinds","limits"] (Zd W0):=⟨rfl,rfl,rfl,by decide +kernel,rfl,by decide +kernel,by decide +kernel⟩
theorem zfe {cl:Str->Value}{X_NoDesk:Addr}(F:Fun K "desk_of" "desk_of" W0 fa fd) (hm:mg "desk_of" = some (.ref fa)) (b:ZG K fd ["kinds","limits"] []) (z_isinstance:mg "isinstance" = none) (z_list:mg "list" = none) (z_len:mg "len" = none) (z_tuple:mg "tuple" = none) (g_MOST_KINDS:∃t,mg "MOST_KINDS" = some (.int 4 t)) (g_MOST_LIMITS:∃t,mg "MOST_LIMITS" = some (.int 10 t)) (c_NoDesk:Fx.XCls K mg "NoDesk" X_NoDesk) (e_NoDesk:cl "NoDesk" = .ref X_NoDesk) (C_is_whole:Fx.Cle P w K mg base k "is_whole" 1 ZN) (C_limit_of:Fx.Clx P w K mg base cl k "limit_of" 2 Wp) :
  Fx.Clx P w K mg base cl (k+1) "desk_of" 2 Yt:=by
 obtain⟨t_MOST_KINDS,g_MOST_KINDS⟩:=g_MOST_KINDS;obtain⟨t_MOST_LIMITS,g_MOST_LIMITS⟩:=g_MOST_LIMITS;exact WK F hm b ze6 rfl rfl fun cdv A outer s H E W hr=>
  (Zg (Yl (Fx.tv_w (Qf (WB (Xk (Zh (Fx.Cle.cal C_is_whole) hr rfl (Zb (Za 0) Ze)) (fun _=>rfl))) (Qf (ZX VA (Za 0) Zf (ZC _)) (Vz (ZX Ud (Za 0) (Jp rfl g_MOST_KINDS) (ZC _))))))
  (Zi (YA Zr.pin c_NoDesk e_NoDesk (Zb YG Ze) rfl))
  ZJ)
  (Zg (Yl (Fx.tv_w (Qf (WB (Xk (XY Jn (show bootBuiltins "list" = some (.type "list") by decide +kernel) rfl z_isinstance rfl z_list (Za 1)) (fun _=>rfl))) (Vz (ZX Ud (Xj rfl z_len (Za 1)) (Jp rfl g_MOST_LIMITS) (ZC _)))))
  (Zi (YA Zr.pin c_NoDesk e_NoDesk (Zb YG Ze) rfl))
  ZJ)
  (Zi (Zp (Ya (Zb (Za 0) (Zb (zev rfl z_tuple (Yu (Yy (N:=["limit","kinds"]) (nv:=1) (cap:=[0]) (Yv rfl) rfl (ZF (by decide)) (XA (Za 1)) (Xz Zr) (fun _ _ _ _=>(ZD (i:=0) (show List.Nodup (["limit","kinds"]:List Str) from by decide +kernel) rfl (Or.inl rfl))) (fun _ _ _ _ hp1=>Yh) (fun _ _ _ _ hp1=>(Zh (Fx.Clx.cal hp1 C_limit_of) hr rfl (Zb (Za 1) (Zb (Za 0) Ze))))))) Ze)))))))
abbrev YQ:Stmt:=top 23
theorem zav:FnScope ["kinds","point"] ["kinds","point"] (Zd YQ):=⟨rfl,rfl,rfl,by decide +kernel,rfl,by decide +kernel,by decide +kernel⟩
theorem zaB {cl:Str->Value}{X_BadPoint:Addr}(F:Fun K "check_point" "check_point" YQ fa fd) (hm:mg "check_point" = some (.ref fa)) (b:ZG K fd ["kinds","point"] []) (z_isinstance:mg "isinstance" = none) (z_list:mg "list" = none) (z_len:mg "len" = none) (z_all:mg "all" = none) (c_BadPoint:Fx.XCls K mg "BadPoint" X_BadPoint) (e_BadPoint:cl "BadPoint" = .ref X_BadPoint) (C_is_fraction:Fx.Cle P w K mg base k "is_fraction" 1 YU) :
  Fx.Clx P w K mg base cl (k+1) "check_point" 2 Xt:=by
 exact WK F hm b zav rfl rfl fun cdv A outer s H E W hr=>
  (Zg (Yl (Fx.tv_w (Qf (WB (Xk (XY Jn (show bootBuiltins "list" = some (.type "list") by decide +kernel) rfl z_isinstance rfl z_list (Za 1)) (fun _=>rfl))) (Vz (ZX (JD hr.units) (Xj rfl z_len (Za 1)) (Za 0) (ZC _)))))
  (Zi (YA Zr.pin c_BadPoint e_BadPoint (Zb YG Ze) rfl))
  ZJ)
  (Zi (Yl (WB (Xk (zhr rfl z_all (Yu (Yy (N:=["amount"]) (nv:=1) (cap:=[]) (Yv rfl) rfl (ZF (by decide)) (XA (Za 1)) (Xz Zr) (fun _ _ _ _=>(ZD (i:=0) (show List.Nodup (["amount"]:List Str) from by decide +kernel) rfl (Or.inl rfl))) (fun _ _ _ _ hp1=>Yh) (fun _ _ _ _ hp1=>(Zh (Fx.Cle.cal C_is_fraction) hr rfl (Zb (Za 0) Ze)))))) (fun _=>rfl)))
  (Zi (YA Zr.pin c_BadPoint e_BadPoint (Zb YG Ze) rfl))
  ZJ)))
abbrev YR:Stmt:=top 24
theorem zaw:FnScope ["count","place"] ["count","place"] (Zd YR):=⟨rfl,rfl,rfl,by decide +kernel,rfl,by decide +kernel,by decide +kernel⟩
theorem zaC {cl:Str->Value}{X_NoPlace:Addr}(F:Fun K "check_place" "check_place" YR fa fd) (hm:mg "check_place" = some (.ref fa)) (b:ZG K fd ["count","place"] []) (c_NoPlace:Fx.XCls K mg "NoPlace" X_NoPlace) (e_NoPlace:cl "NoPlace" = .ref X_NoPlace) (C_is_whole:Fx.Cle P w K mg base k "is_whole" 1 ZN) :
  Fx.Clx P w K mg base cl (k+1) "check_place" 2 Xu:=by
 exact WK F hm b zaw rfl rfl fun cdv A outer s H E W hr=>
  (Zi (Yl (Fx.tv_w (Qf (WB (Xk (Zh (Fx.Cle.cal C_is_whole) hr rfl (Zb (Za 1) Ze)) (fun _=>rfl))) (Qf (ZX VA (Za 1) Zf (ZC _)) (Vz (ZX zgI (Za 1) (Za 0) (ZC _))))))
  (Zi (YA Zr.pin c_NoPlace e_NoPlace (Zb YG Ze) rfl))
  ZJ))
abbrev V0:Stmt:=top 25
theorem UN:FnScope ["weights","point","total","number","amount"] ["weights","point"] (Zd V0):=⟨rfl,rfl,rfl,by decide +kernel,rfl,by decide +kernel,by decide +kernel⟩
theorem zgK (F:Fun K "weight" "weight" V0 fa fd) (hm:mg "weight" = some (.ref fa)) (b:ZG K fd ["weights","point"] []) (z_zip:mg "zip" = none) (C_frac:Fx.Cle P w K mg base k "frac" 2 XB) (C_plus:Fx.Cle P w K mg base k "plus" 2 zaT) :
  Fx.Cle P w K mg base (k+1) "weight" 2 WH:=by
 exact ZQ F hm b UN rfl rfl fun cdv A outer s H E hr=>
  (Zg (Zq (i:=2) UN.nd rfl (Or.inl rfl) (Ya (Zb Zf (Zb Zf Ze))))
  (Zg (Wr PassesOwn.never rfl (zg8 rfl z_zip (Za 0) (Za 1)) (zbN (i:=3) (j:=4) rfl UN.nd rfl (Or.inl rfl) rfl (Or.inl rfl))
  (Zi (Zq (i:=2) UN.nd rfl (Or.inl rfl) (Zh (Fx.Cle.cal C_plus) hr rfl (Zb (Za 2) (Zb (Zh (Fx.Cle.cal C_frac) hr rfl (Zb (Zz Yo (Za 3) (Zu (Za 4) Zf (fun _ _=>rfl))) (Zb (Zu (Za 4) Zf (fun _ _=>rfl)) Ze))) Ze))))))
  (Zi (Zp (Za 2)))))
abbrev V5:Stmt:=top 26
theorem zgd:FnScope ["desk","point"] ["desk","point"] (Zd V5):=⟨rfl,rfl,rfl,by decide +kernel,rfl,by decide +kernel,by decide +kernel⟩
theorem zgP {cl:Str->Value}(F:Fun K "broken" "broken" V5 fa fd) (hm:mg "broken" = some (.ref fa)) (b:ZG K fd ["desk","point"] []) (z_enumerate:mg "enumerate" = none) (C_check_point:Fx.Clx P w K mg base cl k "check_point" 2 Xt) (C_weight:Fx.Cle P w K mg base k "weight" 2 WH) (C_below:Fx.Cle P w K mg base k "below" 2 Qt) :
  Fx.Clx P w K mg base cl (k+1) "broken" 2 UY:=by
 exact WK F hm b zgd rfl rfl fun cdv A outer s H E W hr=>
  (Zg (zdh (Zh (Fx.Clx.cal Zr.pin C_check_point) hr rfl (Zb (Zu (Za 0) Zf (fun _ _=>rfl)) (Zb (Za 1) Ze))))
  (Zi (Zp (Yu (Yy (N:=["place","limit","point"]) (nv:=2) (cap:=[1]) (Yv rfl) rfl (zcM (by decide) (by decide)) (Fx.iv_enum rfl z_enumerate (Zu (Za 0) Zf (fun _ _=>rfl))) (Xz Zr) (fun _ _ _ _=>(zbN (i:=0) (j:=1) rfl (show List.Nodup (["place","limit","point"]:List Str) from by decide +kernel) rfl (Or.inl rfl) rfl (Or.inl rfl))) (fun _ _ _ _ hp1=>(zeL (Xk (Zh (Fx.Cle.cal C_below) hr rfl (Zb (Ya (Zb (Zu (Za 1) Zf (fun _ _=>rfl)) (Zb Zf Ze))) (Zb (Zh (Fx.Cle.cal C_weight) hr rfl (Zb (Zu (Za 1) Zf (fun _ _=>rfl)) (Zb (Za 2) Ze))) Ze))) (fun _=>rfl)))) (fun _ _ _ _ hp1=>(Za 0)))))))
abbrev zaK:Stmt:=top 29
theorem zga:FnScope ["length","place","numbers"] ["length","place"] (Zd zaK):=⟨rfl,rfl,rfl,by decide +kernel,rfl,by decide +kernel,by decide +kernel⟩
theorem ok_unit (F:Fun K "unit" "unit" zaK fa fd) (hm:mg "unit" = some (.ref fa)) (b:ZG K fd ["length","place"] []) :
  Fx.Cle P w K mg base (k+1) "unit" 2 QE:=by
 exact ZQ F hm b zga rfl rfl fun cdv A outer s H E hr=>
  (Zg (Up (i:=2) zga.nd rfl (Or.inl rfl) (zgF (zcB (Zb Zf Ze)) (Za 0)))
  (Zg (UL (i:=2) rfl (Za 1) Zf)
  (Zi (Zp (Za 2)))))
abbrev Wd:Stmt:=top 30
theorem zdo:FnScope ["limit"] ["limit"] (Zd Wd):=⟨rfl,rfl,rfl,by decide +kernel,rfl,by decide +kernel,by decide +kernel⟩
theorem zdy (F:Fun K "room_row" "room_row" Wd fa fd) (hm:mg "room_row" = some (.ref fa)) (b:ZG K fd ["limit"] []) :
  Fx.Cle P w K mg base (k+1) "room_row" 1 Wn:=by
 exact ZQ F hm b zdo rfl rfl fun cdv A outer s H E hr=>
  (Zi (Zp (Zz Z0 (Yu (Yy (N:=["number"]) (nv:=1) (cap:=[]) (Yv rfl) rfl (ZF (by decide)) (XA (Zu (Za 0) Zf (fun _ _=>rfl))) YC (fun _ _ _ _=>(ZD (i:=0) (show List.Nodup (["number"]:List Str) from by decide +kernel) rfl (Or.inl rfl))) (fun _ _ _ _ _=>Yh) (fun _ _ _ _ _=>(YH (Za 0))))) (YB (Zb (Zu (Za 0) Zf (fun _ _=>rfl)) Ze)))))
abbrev YO:Stmt:=top 31
theorem XQ:FnScope ["desk","goal","kinds","amounts","rooms"] ["desk","goal"] (Zd YO):=⟨rfl,rfl,rfl,by decide +kernel,rfl,by decide +kernel,by decide +kernel⟩
theorem zaA (F:Fun K "first_board" "first_board" YO fa fd) (hm:mg "first_board" = some (.ref fa)) (b:ZG K fd ["desk","goal"] []) (z_range:mg "range" = none) (z_list:mg "list" = none) (C_unit:Fx.Cle P w K mg base (k+2) "unit" 2 QE) (C_room_row:Fx.Cle P w K mg base (k+2) "room_row" 1 Wn) (M_Board:Fx.Mko P w K mg base (k+1) "Board" ["heads","divisor","rows"]) :
  Fx.Cle P w K mg base (k+2+1) "first_board" 2 YV:=by
 exact ZQ F hm b XQ rfl rfl fun cdv A outer s H E hr=>
  (Zg (Zq (i:=2) XQ.nd rfl (Or.inr rfl) (Zu (Za 0) Zf (fun _ _=>rfl)))
  (Zg (Qk (N:=["kind","kinds"]) (nv:=1) (cap:=[2]) (i:=3) (Yv rfl) rfl (ZF (by decide)) (Yk rfl z_range (Za 2)) YC (fun _ _ _ _=>(ZD (i:=0) (show List.Nodup (["kind","kinds"]:List Str) from by decide +kernel) rfl (Or.inl rfl))) (fun _ _ _ _ _=>Yh) (fun _ _ _ _ _=>(Zh (Fx.Cle.cal C_unit) hr rfl (Zb (Zz Z0 (Za 1) Zf) (Zb (Za 0) Ze)))) XQ.nd rfl (Or.inl rfl))
  (Zg (Qk (N:=["limit"]) (nv:=1) (cap:=[]) (i:=4) (Yv rfl) rfl (ZF (by decide)) (XA (Zu (Za 0) Zf (fun _ _=>rfl))) YC (fun _ _ _ _=>(ZD (i:=0) (show List.Nodup (["limit"]:List Str) from by decide +kernel) rfl (Or.inl rfl))) (fun _ _ _ _ _=>Yh) (fun _ _ _ _ _=>(Zh (Fx.Cle.cal C_room_row) hr rfl (Zb (Za 0) Ze))) XQ.nd rfl (Or.inl rfl))
  (Zi (Zp (zhp M_Board hr rfl (Zb (Yu (Fx.ov_rng1 rfl z_list rfl z_range (Za 2))) (Zb Zf (Zb (Zz Z0 (Zz Z0 (Za 3) (Za 4)) (YB (Zb (Zz Z0 (Za 1) (YB (Zb Zf Ze))) Ze))) Ze)))))))))
abbrev Wc:Stmt:=top 32
theorem zdn:FnScope ["board"] ["board"] (Zd Wc):=⟨rfl,rfl,rfl,by decide +kernel,rfl,by decide +kernel,by decide +kernel⟩
theorem zdx (F:Fun K "rooms_of" "rooms_of" Wc fa fd) (hm:mg "rooms_of" = some (.ref fa)) (b:ZG K fd ["board"] []) (z_list:mg "list" = none) (z_range:mg "range" = none) (z_len:mg "len" = none) :
  Fx.Cle P w K mg base (k+1) "rooms_of" 1 Yd:=by
 exact ZQ F hm b zdn rfl rfl fun cdv A outer s H E hr=>
  (Zi (Zp (Yu (Fx.ov_rng2 rfl z_list rfl z_range (Xj rfl z_len (Yf (Za 0))) (Zz WM (Xj rfl z_len (Yf (Za 0))) Zf)))))
abbrev Wb:Stmt:=top 33
theorem zdm:FnScope ["board"] ["board"] (Zd Wb):=⟨rfl,rfl,rfl,by decide +kernel,rfl,by decide +kernel,by decide +kernel⟩
theorem zdw (F:Fun K "worth_of" "worth_of" Wb fa fd) (hm:mg "worth_of" = some (.ref fa)) (b:ZG K fd ["board"] []) (z_len:mg "len" = none) :
  Fx.Cle P w K mg base (k+1) "worth_of" 1 Yx:=by
 exact ZQ F hm b zdm rfl rfl fun cdv A outer s H E hr=>
  (Zi (Zp (Zz WM (Xj rfl z_len (Yf (Za 0))) Zf)))
abbrev YL:Stmt:=top 34
theorem XN:FnScope ["row","line","column","divisor","pivot","taken","told"] ["row","line","column","divisor"] (Zd YL):=⟨rfl,rfl,rfl,by decide +kernel,rfl,by decide +kernel,by decide +kernel⟩
theorem zax (F:Fun K "swapped_row" "swapped_row" YL fa fd) (hm:mg "swapped_row" = some (.ref fa)) (b:ZG K fd ["row","line","column","divisor"] []) (z_abs:mg "abs" = none) (z_zip:mg "zip" = none) :
  Fx.Cle P w K mg base (k+1) "swapped_row" 4 YS:=by
 exact ZQ F hm b XN rfl rfl fun cdv A outer s H E hr=>
  (Zg (Zq (i:=4) XN.nd rfl (Or.inr rfl) (zcU rfl z_abs (Zu (Za 1) (Za 2) (fun _ _=>rfl))))
  (Zg (Zq (i:=5) XN.nd rfl (Or.inr rfl) (zbS (ZX Ud (Zu (Za 1) (Za 2) (fun _ _=>rfl)) Zf (ZC _)) (Zu (Za 0) (Za 2) (fun _ _=>rfl)) (YH (Zu (Za 0) (Za 2) (fun _ _=>rfl)))))
  (Zg (Fx.ss_setCO (N:=["number","other","pivot","taken","divisor"]) (nv:=2) (cap:=[4,5,3]) (i:=6) (Yv rfl) rfl (zcM (by decide) (by decide)) (zg8 rfl z_zip (Za 0) (Za 1)) YC (fun _ _ _ _=>(zbN (i:=0) (j:=1) rfl (show List.Nodup (["number","other","pivot","taken","divisor"]:List Str) from by decide +kernel) rfl (Or.inl rfl) rfl (Or.inl rfl))) (fun _ _ _ _ _=>Yh) (fun _ _ _ _ _=>(Zz VB (Zz WM (Zz Yo (Za 2) (Za 0)) (Zz Yo (Za 3) (Za 1))) (Za 4))) XN.nd rfl (Or.inl rfl))
  (Zg (UL (i:=6) rfl (Za 2) (Za 5))
  (Zi (Zp (Za 6)))))))
abbrev WW:Stmt:=top 35
theorem VY:FnScope ["board","thing","column","line","heads","rows"] ["board","thing","column"] (Zd WW):=⟨rfl,rfl,rfl,by decide +kernel,rfl,by decide +kernel,by decide +kernel⟩
theorem zfa (F:Fun K "swapped" "swapped" WW fa fd) (hm:mg "swapped" = some (.ref fa)) (b:ZG K fd ["board","thing","column"] []) (z_list:mg "list" = none) (z_abs:mg "abs" = none) (C_swapped_row:Fx.Cle P w K mg base (k+2) "swapped_row" 4 YS) (M_Board:Fx.Mko P w K mg base (k+1) "Board" ["heads","divisor","rows"]) :
  Fx.Cle P w K mg base (k+2+1) "swapped" 3 Ys:=by
 exact ZQ F hm b VY rfl rfl fun cdv A outer s H E hr=>
  (Zg (Zq (i:=3) VY.nd rfl (Or.inr rfl) (Zu (Yf (Za 0)) (Za 1) (fun _ _=>rfl)))
  (Zg (Up (i:=4) VY.nd rfl (Or.inl rfl) (zgG rfl z_list (Yf (Za 0))))
  (Zg (UL (i:=4) rfl (Za 2) (Za 1))
  (Zg (Qk (N:=["row","line","column","board"]) (nv:=1) (cap:=[3,2,0]) (i:=5) (Yv rfl) rfl (ZF (by decide)) (XA (Yf (Za 0))) YC (fun _ _ _ _=>(ZD (i:=0) (show List.Nodup (["row","line","column","board"]:List Str) from by decide +kernel) rfl (Or.inl rfl))) (fun _ _ _ _ _=>Yh) (fun _ _ _ _ _=>(Zh (Fx.Cle.cal C_swapped_row) hr rfl (Zb (Za 0) (Zb (Za 1) (Zb (Za 2) (Zb (Yf (Za 3)) Ze)))))) VY.nd rfl (Or.inl rfl))
  (Zi (Zp (zhp M_Board hr rfl (Zb (Za 4) (Zb (zcU rfl z_abs (Zu (Za 3) (Za 2) (fun _ _=>rfl))) (Zb (Za 5) Ze))))))))))
abbrev Yn:Stmt:=top 36
theorem Vt:FnScope ["board","column","thing"] ["board","column"] (Zd Yn):=⟨rfl,rfl,rfl,by decide +kernel,rfl,by decide +kernel,by decide +kernel⟩
theorem Jd (F:Fun K "first_room_on" "first_room_on" Yn fa fd) (hm:mg "first_room_on" = some (.ref fa)) (b:ZG K fd ["board","column"] []) (C_rooms_of:Fx.Cle P w K mg base k "rooms_of" 1 Yd) :
  Fx.Cle P w K mg base (k+1) "first_room_on" 2 ZV:=by
 exact ZQ F hm b Vt rfl rfl fun cdv A outer s H E hr=>
  (Zg (Wr PassesOwn.never rfl (XA (Zh (Fx.Cle.cal C_rooms_of) hr rfl (Zb (Za 0) Ze))) (ZD (i:=2) Vt.nd rfl (Or.inl rfl))
  (Zi (Yl (ZX (JD hr.units) (Zu (Zu (Yf (Za 0)) (Za 2) (fun _ _=>rfl)) (Za 1) (fun _ _=>rfl)) Zf (ZC _))
  (Zi (Zp (Za 2)))
  ZJ)))
  (Zi (Zp QF)))
abbrev Qn:Stmt:=top 37
theorem Jh:FnScope ["board","column","thing"] ["board"] (Zd Qn):=⟨rfl,rfl,rfl,by decide +kernel,rfl,by decide +kernel,by decide +kernel⟩
theorem ok_freed (F:Fun K "freed" "freed" Qn fa fd) (hm:mg "freed" = some (.ref fa)) (b:ZG K fd ["board"] []) (z_range:mg "range" = none) (z_len:mg "len" = none) (C_first_room_on:Fx.Cle P w K mg base k "first_room_on" 2 ZV) (C_swapped:Fx.Cle P w K mg base k "swapped" 3 Ys) :
  Fx.Cle P w K mg base (k+1) "freed" 1 JR:=by
 exact ZQ F hm b Jh rfl rfl fun cdv A outer s H E hr=>
  (Zg (Wr PassesOwn.never rfl (Yk rfl z_range (Xj rfl z_len (Yf (Za 0)))) (ZD (i:=1) Jh.nd rfl (Or.inl rfl))
  (Zg (Zq (i:=2) Jh.nd rfl (Or.inl rfl) (Zh (Fx.Cle.cal C_first_room_on) hr rfl (Zb (Za 0) (Zb (Za 1) Ze))))
  (Zi (Yl (Jr (Za 2))
  (Zi (Zq (i:=0) Jh.nd rfl (Or.inl rfl) (Zh (Fx.Cle.cal C_swapped) hr rfl (Zb (Za 0) (Zb (Za 2) (Zb (Za 1) Ze))))))
  ZJ))))
  (Zi (Zp (Za 0))))
abbrev Qm:Stmt:=top 38
theorem sc_helps:FnScope ["board","column","number"] ["board","column","number"] (Zd Qm):=⟨rfl,rfl,rfl,by decide +kernel,rfl,by decide +kernel,by decide +kernel⟩
theorem ok_helps (F:Fun K "helps" "helps" Qm fa fd) (hm:mg "helps" = some (.ref fa)) (b:ZG K fd ["board","column","number"] []) (z_len:mg "len" = none) :
  Fx.Cle P w K mg base (k+1) "helps" 3 Qs:=by
 exact ZQ F hm b sc_helps rfl rfl fun cdv A outer s H E hr=>
  (Zi (Zp (Fx.ev_or (Wx Ud (Za 2) Zf (ZC _)) (zcT (zew (Wx VA (Za 2) Zf (ZC _)) (zcT (Wx VA (Zu (Yf (Za 0)) (Za 1) (fun _ _=>rfl)) (Xj rfl z_len (Yf (Za 0))) (ZC _))))))))
abbrev Yb:Stmt:=top 39
theorem XD:FnScope ["board","thing","row","columns"] ["board","thing"] (Zd Yb):=⟨rfl,rfl,rfl,by decide +kernel,rfl,by decide +kernel,by decide +kernel⟩
theorem Qq {cL TL:Addr}(F:Fun K "raising_column" "raising_column" Yb fa fd) (hm:mg "raising_column" = some (.ref fa)) (b:ZG K fd ["board","thing"] []) (z_range:mg "range" = none) (z_len:mg "len" = none) (z_min:mg "min" = none) (C_helps:Fx.Cle P w K mg base (k+2) "helps" 3 Qs) (L_raising_column:Fx.LamHyp K mg base "raising_column" cL TL) (hcode:fd.code=.ref cL) :
  Fx.Cle P w K mg base (k+2+1) "raising_column" 2 Zj:=by
 exact Fx.cle_ofC F hcode hm b XD rfl rfl fun A outer s H E hr=>
  (Zg (Zq (i:=2) XD.nd rfl (Or.inr rfl) (Zu (Yf (Za 0)) (Za 1) (fun _ _=>rfl)))
  (Zg (Qk (N:=["column","board","row"]) (nv:=1) (cap:=[0,2]) (i:=3) (Yv rfl) rfl (ZF (by decide)) (Yk rfl z_range (Xj rfl z_len (Yf (Za 0)))) YC (fun _ _ _ _=>(ZD (i:=0) (show List.Nodup (["column","board","row"]:List Str) from by decide +kernel) rfl (Or.inl rfl))) (fun _ _ _ _ _=>(zeL (Xk (Zh (Fx.Cle.cal C_helps) hr rfl (Zb (Za 1) (Zb (Za 0) (Zb (Zu (Za 2) (Za 0) (fun _ _=>rfl)) Ze)))) (fun _=>rfl)))) (fun _ _ _ _ _=>(Za 0)) XD.nd rfl (Or.inl rfl))
  (Zi (Zp (Fx.ev_minK (k:=k) (y:="column") (N:=["column","board"]) (cap:=[0]) (Fx.lam_at L_raising_column (List.mem_singleton.mpr rfl)) (Fx.lamok rfl) hr rfl z_min (Za 3) (fun _ _ _ _=>(Zu (Yf (Za 1)) (Za 0) (fun _ _=>rfl))))))))
abbrev Y9:Stmt:=top 40
theorem UO:FnScope ["board","thing"] ["board"] (Zd Y9):=⟨rfl,rfl,rfl,by decide +kernel,rfl,by decide +kernel,by decide +kernel⟩
theorem zbx (F:Fun K "short_room" "short_room" Y9 fa fd) (hm:mg "short_room" = some (.ref fa)) (b:ZG K fd ["board"] []) (C_rooms_of:Fx.Cle P w K mg base k "rooms_of" 1 Yd) :
  Fx.Cle P w K mg base (k+1) "short_room" 1 ZA:=by
 exact ZQ F hm b UO rfl rfl fun cdv A outer s H E hr=>
  (Zg (Wr PassesOwn.never rfl (XA (Zh (Fx.Cle.cal C_rooms_of) hr rfl (Zb (Za 0) Ze))) (ZD (i:=1) UO.nd rfl (Or.inl rfl))
  (Zi (Yl (ZX VA (Zu (Zu (Yf (Za 0)) (Za 1) (fun _ _=>rfl)) (YH Zf) (fun _ _=>rfl)) Zf (ZC _))
  (Zi (Zp (Za 1)))
  ZJ)))
  (Zi (Zp QF)))
abbrev WY:Stmt:=top 41
theorem Wa:FnScope ["desk","goal","board","thing","column"] ["desk","goal"] (Zd WY):=⟨rfl,rfl,rfl,by decide +kernel,rfl,by decide +kernel,by decide +kernel⟩
theorem zfc (F:Fun K "settled" "settled" WY fa fd) (hm:mg "settled" = some (.ref fa)) (b:ZG K fd ["desk","goal"] []) (C_first_board:Fx.Cle P w K mg base k "first_board" 2 YV) (C_freed:Fx.Cle P w K mg base k "freed" 1 JR) (C_short_room:Fx.Cle P w K mg base k "short_room" 1 ZA) (C_raising_column:Fx.Cle P w K mg base k "raising_column" 2 Zj) (C_swapped:Fx.Cle P w K mg base k "swapped" 3 Ys) :
  Fx.Cle P w K mg base (k+1) "settled" 2 Z8:=by
 exact ZQ F hm b Wa rfl rfl fun cdv A outer s H E hr=>
  (Zg (Zq (i:=2) Wa.nd rfl (Or.inl rfl) (Zh (Fx.Cle.cal C_freed) hr rfl (Zb (Zh (Fx.Cle.cal C_first_board) hr rfl (Zb (Za 0) (Zb (Za 1) Ze))) Ze)))
  (Zg (Zq (i:=3) Wa.nd rfl (Or.inl rfl) (Zh (Fx.Cle.cal C_short_room) hr rfl (Zb (Za 2) Ze)))
  (Zg (zbj PassesOwn.never (Jr (Za 3))
  (Zg (Zq (i:=4) Wa.nd rfl (Or.inl rfl) (Zh (Fx.Cle.cal C_raising_column) hr rfl (Zb (Za 2) (Zb (Za 3) Ze))))
  (Zg (Yl (Js (Za 4))
  (Zi (Zp (Ya (Zb (Za 2) (Zb (Za 3) Ze)))))
  ZJ)
  (Zg (Zq (i:=2) Wa.nd rfl (Or.inl rfl) (Zh (Fx.Cle.cal C_swapped) hr rfl (Zb (Za 2) (Zb (Za 3) (Zb (Za 4) Ze)))))
  (Zi (Zq (i:=3) Wa.nd rfl (Or.inl rfl) (Zh (Fx.Cle.cal C_short_room) hr rfl (Zb (Za 2) Ze))))))))
  (Zi (Zp (Ya (Zb (Za 2) (Zb QF Ze))))))))
abbrev We:Stmt:=top 42
theorem zdp:FnScope ["board"] ["board"] (Zd We):=⟨rfl,rfl,rfl,by decide +kernel,rfl,by decide +kernel,by decide +kernel⟩
theorem zdz (F:Fun K "point_of" "point_of" We fa fd) (hm:mg "point_of" = some (.ref fa)) (b:ZG K fd ["board"] []) (z_range:mg "range" = none) (z_len:mg "len" = none) (C_frac:Fx.Cle P w K mg base k "frac" 2 XB) :
  Fx.Cle P w K mg base (k+1) "point_of" 1 YT:=by
 exact ZQ F hm b zdp rfl rfl fun cdv A outer s H E hr=>
  (Zi (Zp (Yu (Yy (N:=["kind","board"]) (nv:=1) (cap:=[0]) (Yv rfl) rfl (ZF (by decide)) (Yk rfl z_range (Xj rfl z_len (Yf (Za 0)))) YC (fun _ _ _ _=>(ZD (i:=0) (show List.Nodup (["kind","board"]:List Str) from by decide +kernel) rfl (Or.inl rfl))) (fun _ _ _ _ _=>Yh) (fun _ _ _ _ _=>(Zh (Fx.Cle.cal C_frac) hr rfl (Zb (Zu (Zu (Yf (Za 1)) (Za 0) (fun _ _=>rfl)) (YH Zf) (fun _ _=>rfl)) (Zb (Yf (Za 1)) Ze))))))))
abbrev XG:Stmt:=top 43
theorem WC:FnScope ["board","thing","kinds","shares","head","number"] ["board","thing"] (Zd XG):=⟨rfl,rfl,rfl,by decide +kernel,rfl,by decide +kernel,by decide +kernel⟩
theorem zcC (F:Fun K "shares_of" "shares_of" XG fa fd) (hm:mg "shares_of" = some (.ref fa)) (b:ZG K fd ["board","thing"] []) (z_len:mg "len" = none) (z_zip:mg "zip" = none) (C_rooms_of:Fx.Cle P w K mg base k "rooms_of" 1 Yd) (C_frac:Fx.Cle P w K mg base k "frac" 2 XB) :
  Fx.Cln P w K mg base (k+1) "shares_of" 2 Y5:=by
 exact Fx.cln_of F hm b WC rfl rfl fun cdv A outer s H E hr=>
  (Zg (Zq (i:=2) WC.nd rfl (Or.inl rfl) (Xj rfl z_len (Yf (Za 0))))
  (Zg (Up (i:=3) WC.nd rfl (Or.inl rfl) (zgF (zcB (Zb (Ya (Zb Zf (Zb Zf Ze))) Ze)) (Xj rfl z_len (Zh (Fx.Cle.cal C_rooms_of) hr rfl (Zb (Za 0) Ze)))))
  (Zg (Wr PassesOwn.never rfl (zg8 rfl z_zip (Yf (Za 0)) (Zu (Yf (Za 0)) (Za 1) (fun _ _=>rfl))) (zbN (i:=4) (j:=5) rfl WC.nd rfl (Or.inl rfl) rfl (Or.inl rfl))
  (Zi (Yl (ZX zgI (Za 4) (Za 2) (ZC _))
  (Zi (UL (i:=3) rfl (Zz WM (Za 4) (Za 2)) (Zh (Fx.Cle.cal C_frac) hr rfl (Zb (YH (Za 5)) (Zb (Yf (Za 0)) Ze)))))
  ZJ)))
  (Zi (Fx.ss_retO 3)))))
abbrev Wm:Stmt:=top 44
theorem Jy:FnScope ["board","thing","shares"] ["board","thing"] (Zd Wm):=⟨rfl,rfl,rfl,by decide +kernel,rfl,by decide +kernel,by decide +kernel⟩
theorem zdH (F:Fun K "clash_of" "clash_of" Wm fa fd) (hm:mg "clash_of" = some (.ref fa)) (b:ZG K fd ["board","thing"] []) (z_len:mg "len" = none) (C_shares_of:Fx.Cln P w K mg base k "shares_of" 2 Y5) :
  Fx.Cle P w K mg base (k+1) "clash_of" 2 Xi:=by
 exact ZQ F hm b Jy rfl rfl fun cdv A outer s H E hr=>
  (Zg (Up (i:=2) Jy.nd rfl (Or.inl rfl) (Fx.ov_call (Fx.Cln.cal C_shares_of) hr rfl (Zb (Za 0) (Zb (Za 1) Ze))))
  (Zg (UL (i:=2) rfl (Zz WM (Za 1) (Xj rfl z_len (Yf (Za 0)))) (Ya (Zb Zf (Zb Zf Ze))))
  (Zi (Zp (Za 2)))))
abbrev Xe:Stmt:=top 46
theorem zbp:FnScope ["kinds","goal"] ["kinds","goal"] (Zd Xe):=⟨rfl,rfl,rfl,by decide +kernel,rfl,by decide +kernel,by decide +kernel⟩
theorem zbC {cl:Str->Value}{X_NoGoal:Addr}(F:Fun K "check_goal" "check_goal" Xe fa fd) (hm:mg "check_goal" = some (.ref fa)) (b:ZG K fd ["kinds","goal"] []) (z_isinstance:mg "isinstance" = none) (z_list:mg "list" = none) (z_len:mg "len" = none) (z_all:mg "all" = none) (c_NoGoal:Fx.XCls K mg "NoGoal" X_NoGoal) (e_NoGoal:cl "NoGoal" = .ref X_NoGoal) (C_is_whole:Fx.Cle P w K mg base k "is_whole" 1 ZN) :
  Fx.Clx P w K mg base cl (k+1) "check_goal" 2 XX:=by
 exact WK F hm b zbp rfl rfl fun cdv A outer s H E W hr=>
  (Zg (Yl (Fx.tv_w (Qf (WB (Xk (XY Jn (show bootBuiltins "list" = some (.type "list") by decide +kernel) rfl z_isinstance rfl z_list (Za 1)) (fun _=>rfl))) (Vz (ZX (JD hr.units) (Xj rfl z_len (Za 1)) (Za 0) (ZC _)))))
  (Zi (YA Zr.pin c_NoGoal e_NoGoal (Zb YG Ze) rfl))
  ZJ)
  (Zi (Yl (WB (Xk (zhr rfl z_all (Yu (Yy (N:=["number"]) (nv:=1) (cap:=[]) (Yv rfl) rfl (ZF (by decide)) (XA (Za 1)) (Xz Zr) (fun _ _ _ _=>(ZD (i:=0) (show List.Nodup (["number"]:List Str) from by decide +kernel) rfl (Or.inl rfl))) (fun _ _ _ _ hp1=>Yh) (fun _ _ _ _ hp1=>(Zh (Fx.Cle.cal C_is_whole) hr rfl (Zb (Za 0) Ze)))))) (fun _=>rfl)))
  (Zi (YA Zr.pin c_NoGoal e_NoGoal (Zb YG Ze) rfl))
  ZJ)))
abbrev V3:Stmt:=top 47
theorem zgc:FnScope ["row","other","column"] ["row","other","column"] (Zd V3):=⟨rfl,rfl,rfl,by decide +kernel,rfl,by decide +kernel,by decide +kernel⟩
theorem zgN (F:Fun K "sooner" "sooner" V3 fa fd) (hm:mg "sooner" = some (.ref fa)) (b:ZG K fd ["row","other","column"] []) :
  Fx.Cle P w K mg base (k+1) "sooner" 3 Ua:=by
 exact ZQ F hm b zgc rfl rfl fun cdv A outer s H E hr=>
  (Zi (Zp (Wx VA (Zz Yo (Zu (Za 0) (YH Zf) (fun _ _=>rfl)) (YH (Zu (Za 1) (Za 2) (fun _ _=>rfl)))) (Zz Yo (Zu (Za 1) (YH Zf) (fun _ _=>rfl)) (YH (Zu (Za 0) (Za 2) (fun _ _=>rfl)))) (ZC _))))
abbrev Xd:Stmt:=top 48
theorem Xn:FnScope ["board","column","found","thing","row"] ["board","column"] (Zd Xd):=⟨rfl,rfl,rfl,by decide +kernel,rfl,by decide +kernel,by decide +kernel⟩
theorem zbB (F:Fun K "first_stop" "first_stop" Xd fa fd) (hm:mg "first_stop" = some (.ref fa)) (b:ZG K fd ["board","column"] []) (C_rooms_of:Fx.Cle P w K mg base k "rooms_of" 1 Yd) (C_sooner:Fx.Cle P w K mg base k "sooner" 3 Ua) :
  Fx.Cle P w K mg base (k+1) "first_stop" 2 ZU:=by
 exact ZQ F hm b Xn rfl rfl fun cdv A outer s H E hr=>
  (Zg (Zq (i:=2) Xn.nd rfl (Or.inl rfl) QF)
  (Zg (Wr PassesOwn.never rfl (XA (Zh (Fx.Cle.cal C_rooms_of) hr rfl (Zb (Za 0) Ze))) (ZD (i:=3) Xn.nd rfl (Or.inl rfl))
  (Zg (Zq (i:=4) Xn.nd rfl (Or.inl rfl) (Zu (Yf (Za 0)) (Za 3) (fun _ _=>rfl)))
  (Zi (Yl (Fx.tv_w (Fx.tw_and (ZX VA (Zu (Za 4) (Za 1) (fun _ _=>rfl)) Zf (ZC _)) (Fx.tw_and1 (Fx.tv_w (Qf (Js (Za 2)) (Vz (Xk (Zh (Fx.Cle.cal C_sooner) hr rfl (Zb (Za 4) (Zb (Zu (Yf (Za 0)) (Za 2) (fun _ _=>rfl)) (Zb (Za 1) Ze)))) (fun _=>rfl))))))))
  (Zi (Zq (i:=2) Xn.nd rfl (Or.inl rfl) (Za 3)))
  ZJ))))
  (Zi (Zp (Za 2)))))
abbrev V1:Stmt:=top 49
theorem zco:FnScope ["board","column","sign"] ["board","column"] (Zd V1):=⟨rfl,rfl,rfl,by decide +kernel,rfl,by decide +kernel,by decide +kernel⟩
theorem zgL (F:Fun K "way_of" "way_of" V1 fa fd) (hm:mg "way_of" = some (.ref fa)) (b:ZG K fd ["board","column"] []) (z_range:mg "range" = none) (z_len:mg "len" = none) (C_worth_of:Fx.Cle P w K mg base k "worth_of" 1 Yx) (C_frac:Fx.Cle P w K mg base k "frac" 2 XB) :
  Fx.Cle P w K mg base (k+1) "way_of" 2 V9:=by
 exact ZQ F hm b zco rfl rfl fun cdv A outer s H E hr=>
  (Zg (Zq (i:=2) zco.nd rfl (Or.inr rfl) (zbS (ZX Ud (Zu (Zu (Yf (Za 0)) (Zh (Fx.Cle.cal C_worth_of) hr rfl (Zb (Za 0) Ze)) (fun _ _=>rfl)) (Za 1) (fun _ _=>rfl)) Zf (ZC _)) Zf (YH Zf)))
  (Zi (Zp (Yu (Yy (N:=["kind","sign","board","column"]) (nv:=1) (cap:=[2,0,1]) (Yv rfl) rfl (ZF (by decide)) (Yk rfl z_range (Xj rfl z_len (Yf (Za 0)))) YC (fun _ _ _ _=>(ZD (i:=0) (show List.Nodup (["kind","sign","board","column"]:List Str) from by decide +kernel) rfl (Or.inl rfl))) (fun _ _ _ _ _=>Yh) (fun _ _ _ _ _=>(Zh (Fx.Cle.cal C_frac) hr rfl (Zb (Zz Yo (Za 1) (Zu (Zu (Yf (Za 2)) (Za 0) (fun _ _=>rfl)) (Za 3) (fun _ _=>rfl))) (Zb (Yf (Za 2)) Ze)))))))))
abbrev W1:Stmt:=top 50
theorem WV:FnScope ["board","column","thing"] ["board"] (Zd W1):=⟨rfl,rfl,rfl,by decide +kernel,rfl,by decide +kernel,by decide +kernel⟩
theorem zff (F:Fun K "climbed" "climbed" W1 fa fd) (hm:mg "climbed" = some (.ref fa)) (b:ZG K fd ["board"] []) (C_worth_of:Fx.Cle P w K mg base k "worth_of" 1 Yx) (C_raising_column:Fx.Cle P w K mg base k "raising_column" 2 Zj) (C_first_stop:Fx.Cle P w K mg base k "first_stop" 2 ZU) (C_point_of:Fx.Cle P w K mg base k "point_of" 1 YT) (C_way_of:Fx.Cle P w K mg base k "way_of" 2 V9) (C_swapped:Fx.Cle P w K mg base k "swapped" 3 Ys) (C_shares_of:Fx.Cln P w K mg base k "shares_of" 2 Y5) :
  Fx.Cle P w K mg base (k+1) "climbed" 1 XW:=by
 exact ZQ F hm b WV rfl rfl fun cdv A outer s H E hr=>
  (Zg (Zq (i:=1) WV.nd rfl (Or.inl rfl) (Zh (Fx.Cle.cal C_raising_column) hr rfl (Zb (Za 0) (Zb (Zh (Fx.Cle.cal C_worth_of) hr rfl (Zb (Za 0) Ze)) Ze))))
  (Zg (zbj PassesOwn.never (Jr (Za 1))
  (Zg (Zq (i:=2) WV.nd rfl (Or.inl rfl) (Zh (Fx.Cle.cal C_first_stop) hr rfl (Zb (Za 0) (Zb (Za 1) Ze))))
  (Zg (Yl (Js (Za 2))
  (Zi (Zp (Ya (Zb YG (Zb (Zh (Fx.Cle.cal C_point_of) hr rfl (Zb (Za 0) Ze)) (Zb (Zh (Fx.Cle.cal C_way_of) hr rfl (Zb (Za 0) (Zb (Za 1) Ze))) Ze))))))
  ZJ)
  (Zg (Zq (i:=0) WV.nd rfl (Or.inl rfl) (Zh (Fx.Cle.cal C_swapped) hr rfl (Zb (Za 0) (Zb (Za 2) (Zb (Za 1) Ze)))))
  (Zi (Zq (i:=1) WV.nd rfl (Or.inl rfl) (Zh (Fx.Cle.cal C_raising_column) hr rfl (Zb (Za 0) (Zb (Zh (Fx.Cle.cal C_worth_of) hr rfl (Zb (Za 0) Ze)) Ze)))))))))
  (Zi (Zp (Ya (Zb YG (Zb (Zh (Fx.Cle.cal C_point_of) hr rfl (Zb (Za 0) Ze)) (Zb (Zh (Fx.Cle.cal (Fx.Cln.cle C_shares_of)) hr rfl (Zb (Za 0) (Zb (Zh (Fx.Cle.cal C_worth_of) hr rfl (Zb (Za 0) Ze)) Ze))) Ze))))))))
abbrev zaN:Stmt:=top 51
theorem zge:FnScope ["desk","goal","told"] ["desk","goal"] (Zd zaN):=⟨rfl,rfl,rfl,by decide +kernel,rfl,by decide +kernel,by decide +kernel⟩
theorem ok_best {cl:Str->Value}(F:Fun K "best" "best" zaN fa fd) (hm:mg "best" = some (.ref fa)) (b:ZG K fd ["desk","goal"] []) (C_check_goal:Fx.Clx P w K mg base cl k "check_goal" 2 XX) (C_settled:Fx.Cle P w K mg base k "settled" 2 Z8) (C_clash_of:Fx.Cle P w K mg base k "clash_of" 2 Xi) (C_climbed:Fx.Cle P w K mg base k "climbed" 1 XW) :
  Fx.Clx P w K mg base cl (k+1) "best" 2 JS:=by
 exact WK F hm b zge rfl rfl fun cdv A outer s H E W hr=>
  (Zg (zdh (Zh (Fx.Clx.cal Zr.pin C_check_goal) hr rfl (Zb (Zu (Za 0) Zf (fun _ _=>rfl)) (Zb (Za 1) Ze))))
  (Zg (Zq (i:=2) zge.nd rfl (Or.inl rfl) (Zh (Fx.Cle.cal C_settled) hr rfl (Zb (Za 0) (Zb (Za 1) Ze))))
  (Zg (Yl (Jr (Zu (Za 2) Zf (fun _ _=>rfl)))
  (Zi (Zp (Ya (Zb YG (Zb (Zh (Fx.Cle.cal C_clash_of) hr rfl (Zb (Zu (Za 2) Zf (fun _ _=>rfl)) (Zb (Zu (Za 2) Zf (fun _ _=>rfl)) Ze))) Ze)))))
  ZJ)
  (Zi (Zp (Zh (Fx.Cle.cal C_climbed) hr rfl (Zb (Zu (Za 2) Zf (fun _ _=>rfl)) Ze)))))))
abbrev ze7:Stmt:=top 52
theorem sc_top:FnScope ["desk","goal","told"] ["desk","goal"] (Zd ze7):=⟨rfl,rfl,rfl,by decide +kernel,rfl,by decide +kernel,by decide +kernel⟩
theorem ok_top {cl:Str->Value}{X_NoPoint:Addr}(F:Fun K "top" "top" ze7 fa fd) (hm:mg "top" = some (.ref fa)) (b:ZG K fd ["desk","goal"] []) (c_NoPoint:Fx.XCls K mg "NoPoint" X_NoPoint) (e_NoPoint:cl "NoPoint" = .ref X_NoPoint) (C_best:Fx.Clx P w K mg base cl k "best" 2 JS) (C_weight:Fx.Cle P w K mg base k "weight" 2 WH) :
  Fx.Clx P w K mg base cl (k+1) "top" 2 JQ:=by
 exact WK F hm b sc_top rfl rfl fun cdv A outer s H E W hr=>
  (Zg (Zq (i:=2) sc_top.nd rfl (Or.inl rfl) (Zh (Fx.Clx.cal Zr.pin C_best) hr rfl (Zb (Za 0) (Zb (Za 1) Ze))))
  (Zg (Yl (ZX (XS hr.units) (Zu (Za 2) Zf (fun _ _=>rfl)) YG (ZC _))
  (Zi (YA Zr.pin c_NoPoint e_NoPoint (Zb YG Ze) rfl))
  ZJ)
  (Zg (Yl (ZX (XS hr.units) (Zu (Za 2) Zf (fun _ _=>rfl)) YG (ZC _))
  (Zi (Zp QF))
  ZJ)
  (Zi (Zp (Zh (Fx.Cle.cal C_weight) hr rfl (Zb (Za 1) (Zb (Zu (Za 2) Zf (fun _ _=>rfl)) Ze))))))))
abbrev WX:Stmt:=top 53
theorem VZ:FnScope ["desk","kind","up","greatest","least"] ["desk","kind"] (Zd WX):=⟨rfl,rfl,rfl,by decide +kernel,rfl,by decide +kernel,by decide +kernel⟩
theorem zfb {cl:Str->Value}(F:Fun K "stretch" "stretch" WX fa fd) (hm:mg "stretch" = some (.ref fa)) (b:ZG K fd ["desk","kind"] []) (C_check_place:Fx.Clx P w K mg base cl k "check_place" 2 Xu) (C_unit:Fx.Cle P w K mg base k "unit" 2 QE) (C_top:Fx.Clx P w K mg base cl k "top" 2 JQ) (C_turned:Fx.Cle P w K mg base k "turned" 1 UX) :
  Fx.Clx P w K mg base cl (k+1) "stretch" 2 Z1:=by
 exact WK F hm b VZ rfl rfl fun cdv A outer s H E W hr=>
  (Zg (zdh (Zh (Fx.Clx.cal Zr.pin C_check_place) hr rfl (Zb (Zu (Za 0) Zf (fun _ _=>rfl)) (Zb (Za 1) Ze))))
  (Zg (Zq (i:=2) VZ.nd rfl (Or.inl rfl) (Zh (Fx.Cle.cal C_unit) hr rfl (Zb (Zu (Za 0) Zf (fun _ _=>rfl)) (Zb (Za 1) Ze))))
  (Zg (Zq (i:=3) VZ.nd rfl (Or.inl rfl) (Zh (Fx.Clx.cal Zr.pin C_top) hr rfl (Zb (Za 0) (Zb (Za 2) Ze))))
  (Zg (Zq (i:=4) VZ.nd rfl (Or.inl rfl) (Zh (Fx.Clx.cal Zr.pin C_top) hr rfl (Zb (Za 0) (Zb (Yu (Yy (N:=["number"]) (nv:=1) (cap:=[]) (Yv rfl) rfl (ZF (by decide)) (XA (Za 2)) (Xz Zr) (fun _ _ _ _=>(ZD (i:=0) (show List.Nodup (["number"]:List Str) from by decide +kernel) rfl (Or.inl rfl))) (fun _ _ _ _ hp1=>Yh) (fun _ _ _ _ hp1=>(YH (Za 0))))) Ze))))
  (Zi (Zp (Ya (Zb (zbS (Js (Za 4)) QF (Zh (Fx.Cle.cal C_turned) hr rfl (Zb (Za 4) Ze))) (Zb (Za 3) Ze)))))))))
abbrev V4:Stmt:=top 55
theorem zcq:FnScope ["desk","told"] ["desk"] (Zd V4):=⟨rfl,rfl,rfl,by decide +kernel,rfl,by decide +kernel,by decide +kernel⟩
theorem zgO (F:Fun K "judged" "judged" V4 fa fd) (hm:mg "judged" = some (.ref fa)) (b:ZG K fd ["desk"] []) (C_settled:Fx.Cle P w K mg base k "settled" 2 Z8) (C_point_of:Fx.Cle P w K mg base k "point_of" 1 YT) (C_clash_of:Fx.Cle P w K mg base k "clash_of" 2 Xi) :
  Fx.Cle P w K mg base (k+1) "judged" 1 Xs:=by
 exact ZQ F hm b zcq rfl rfl fun cdv A outer s H E hr=>
  (Zg (Zq (i:=1) zcq.nd rfl (Or.inl rfl) (Zh (Fx.Cle.cal C_settled) hr rfl (Zb (Za 0) (Zb (Yu (zgF (zcB (Zb Zf Ze)) (Zu (Za 0) Zf (fun _ _=>rfl)))) Ze))))
  (Zg (Yl (Js (Zu (Za 1) Zf (fun _ _=>rfl)))
  (Zi (Zp (Ya (Zb YG (Zb (Zh (Fx.Cle.cal C_point_of) hr rfl (Zb (Zu (Za 1) Zf (fun _ _=>rfl)) Ze)) Ze)))))
  ZJ)
  (Zi (Zp (Ya (Zb YG (Zb (Zh (Fx.Cle.cal C_clash_of) hr rfl (Zb (Zu (Za 1) Zf (fun _ _=>rfl)) (Zb (Zu (Za 1) Zf (fun _ _=>rfl)) Ze))) Ze)))))))
abbrev Ym:Stmt:=top 58
theorem Y0:FnScope ["desk","kind","ends","least","greatest"] ["desk","kind"] (Zd Ym):=⟨rfl,rfl,rfl,by decide +kernel,rfl,by decide +kernel,by decide +kernel⟩
theorem Jc {cl:Str->Value}{X_TooMany:Addr}(F:Fun K "whole_stretch" "whole_stretch" Ym fa fd) (hm:mg "whole_stretch" = some (.ref fa)) (b:ZG K fd ["desk","kind"] []) (c_TooMany:Fx.XCls K mg "TooMany" X_TooMany) (e_TooMany:cl "TooMany" = .ref X_TooMany) (C_stretch:Fx.Clx P w K mg base cl k "stretch" 2 Z1) :
  Fx.Clx P w K mg base cl (k+1) "whole_stretch" 2 ZM:=by
 exact WK F hm b Y0 rfl rfl fun cdv A outer s H E W hr=>
  (Zg (Zq (i:=2) Y0.nd rfl (Or.inl rfl) (Zh (Fx.Clx.cal Zr.pin C_stretch) hr rfl (Zb (Za 0) (Zb (Za 1) Ze))))
  (Zg (Yl (Fx.tv_w (Qf (Js (Zu (Za 2) Zf (fun _ _=>rfl))) (Vz (Js (Zu (Za 2) Zf (fun _ _=>rfl))))))
  (Zi (YA Zr.pin c_TooMany e_TooMany (Zb YG Ze) rfl))
  ZJ)
  (Zg (Zq (i:=3) Y0.nd rfl (Or.inl rfl) (YH (Zz VB (YH (Zu (Zu (Za 2) Zf (fun _ _=>rfl)) Zf (fun _ _=>rfl))) (Zu (Zu (Za 2) Zf (fun _ _=>rfl)) Zf (fun _ _=>rfl)))))
  (Zg (Zq (i:=4) Y0.nd rfl (Or.inl rfl) (Zz VB (Zu (Zu (Za 2) Zf (fun _ _=>rfl)) Zf (fun _ _=>rfl)) (Zu (Zu (Za 2) Zf (fun _ _=>rfl)) Zf (fun _ _=>rfl))))
  (Zi (Zp (Ya (Zb (Za 3) (Zb (Zz Z0 (Zz WM (Za 4) (Za 3)) Zf) Ze)))))))))
abbrev Wl:Stmt:=top 59
theorem Vk:FnScope ["stretches","count","each"] ["stretches"] (Zd Wl):=⟨rfl,rfl,rfl,by decide +kernel,rfl,by decide +kernel,by decide +kernel⟩
theorem zdG (F:Fun K "count_of" "count_of" Wl fa fd) (hm:mg "count_of" = some (.ref fa)) (b:ZG K fd ["stretches"] []) :
  Fx.Cle P w K mg base (k+1) "count_of" 1 W5:=by
 exact ZQ F hm b Vk rfl rfl fun cdv A outer s H E hr=>
  (Zg (Zq (i:=1) Vk.nd rfl (Or.inl rfl) Zf)
  (Zg (Wr PassesOwn.never rfl (XA (Za 0)) (ZD (i:=2) Vk.nd rfl (Or.inl rfl))
  (Zi (Zq (i:=1) Vk.nd rfl (Or.inl rfl) (Zz Yo (Za 1) (Zu (Za 2) Zf (fun _ _=>rfl))))))
  (Zi (Zp (Za 1)))))
abbrev Wf:Stmt:=top 60
theorem Ws:FnScope ["stretches","number","point","each"] ["stretches","number"] (Zd Wf):=⟨rfl,rfl,rfl,by decide +kernel,rfl,by decide +kernel,by decide +kernel⟩
theorem zdA (F:Fun K "point_at" "point_at" Wf fa fd) (hm:mg "point_at" = some (.ref fa)) (b:ZG K fd ["stretches","number"] []) (z_reversed:mg "reversed" = none) :
  Fx.Cle P w K mg base (k+1) "point_at" 2 Wo:=by
 exact ZQ F hm b Ws rfl rfl fun cdv A outer s H E hr=>
  (Zg (Zq (i:=2) Ws.nd rfl (Or.inl rfl) (YB Ze))
  (Zg (Wr PassesOwn.never rfl (Fx.iv_rev rfl z_reversed (Za 0)) (ZD (i:=3) Ws.nd rfl (Or.inl rfl))
  (Zg (Zq (i:=2) Ws.nd rfl (Or.inl rfl) (Zz Z0 (YB (Zb (Zz Z0 (Zu (Za 3) Zf (fun _ _=>rfl)) (Zz Xp (Za 1) (Zu (Za 3) Zf (fun _ _=>rfl)))) Ze)) (Za 2)))
  (Zi (Zq (i:=1) Ws.nd rfl (Or.inl rfl) (Zz VB (Za 1) (Zu (Za 3) Zf (fun _ _=>rfl)))))))
  (Zi (Zp (Za 2)))))
abbrev XH:Stmt:=top 61
theorem zcp:FnScope ["desk","point"] ["desk","point"] (Zd XH):=⟨rfl,rfl,rfl,by decide +kernel,rfl,by decide +kernel,by decide +kernel⟩
theorem zcD {cl:Str->Value}(F:Fun K "keeps_all" "keeps_all" XH fa fd) (hm:mg "keeps_all" = some (.ref fa)) (b:ZG K fd ["desk","point"] []) (C_broken:Fx.Clx P w K mg base cl k "broken" 2 UY) :
  Fx.Clx P w K mg base cl (k+1) "keeps_all" 2 XM:=by
 exact WK F hm b zcp rfl rfl fun cdv A outer s H E W hr=>
  (Zi (Zp (Wx (XS hr.units) (Zh (Fx.Clx.cal Zr.pin C_broken) hr rfl (Zb (Za 0) (Zb (Yu (Yy (N:=["amount"]) (nv:=1) (cap:=[]) (Yv rfl) rfl (ZF (by decide)) (XA (Za 1)) (Xz Zr) (fun _ _ _ _=>(ZD (i:=0) (show List.Nodup (["amount"]:List Str) from by decide +kernel) rfl (Or.inl rfl))) (fun _ _ _ _ hp1=>Yh) (fun _ _ _ _ hp1=>(Ya (Zb (Za 0) (Zb Zf Ze)))))) Ze))) (YB Ze) (ZC _))))
abbrev Yw:Stmt:=top 62
theorem Xm:FnScope ["desk","stretches","count","points"] ["desk"] (Zd Yw):=⟨rfl,rfl,rfl,by decide +kernel,rfl,by decide +kernel,by decide +kernel⟩
theorem JE {cl:Str->Value}{X_TooMany:Addr}(F:Fun K "whole_points" "whole_points" Yw fa fd) (hm:mg "whole_points" = some (.ref fa)) (b:ZG K fd ["desk"] []) (z_range:mg "range" = none) (g_MOST_POINTS:∃t,mg "MOST_POINTS" = some (.int 400 t)) (c_TooMany:Fx.XCls K mg "TooMany" X_TooMany) (e_TooMany:cl "TooMany" = .ref X_TooMany) (C_judged:Fx.Cle P w K mg base k "judged" 1 Xs) (C_whole_stretch:Fx.Clx P w K mg base cl k "whole_stretch" 2 ZM) (C_count_of:Fx.Cle P w K mg base k "count_of" 1 W5) (C_point_at:Fx.Cle P w K mg base k "point_at" 2 Wo) (C_keeps_all:Fx.Clx P w K mg base cl k "keeps_all" 2 XM) :
  Fx.Clx P w K mg base cl (k+1) "whole_points" 1 Zo:=by
 obtain⟨t_MOST_POINTS,g_MOST_POINTS⟩:=g_MOST_POINTS;exact WK F hm b Xm rfl rfl fun cdv A outer s H E W hr=>
  (Zg (Yl (ZX (XS hr.units) (Zu (Zh (Fx.Cle.cal C_judged) hr rfl (Zb (Za 0) Ze)) Zf (fun _ _=>rfl)) YG (ZC _))
  (Zi (Zp (YB Ze)))
  ZJ)
  (Zg (Zq (i:=1) Xm.nd rfl (Or.inr rfl) (Yu (Yy (N:=["kind","desk"]) (nv:=1) (cap:=[0]) (Yv rfl) rfl (ZF (by decide)) (Yk rfl z_range (Zu (Za 0) Zf (fun _ _=>rfl))) (Xz Zr) (fun _ _ _ _=>(ZD (i:=0) (show List.Nodup (["kind","desk"]:List Str) from by decide +kernel) rfl (Or.inl rfl))) (fun _ _ _ _ hp1=>Yh) (fun _ _ _ _ hp1=>(Zh (Fx.Clx.cal hp1 C_whole_stretch) hr rfl (Zb (Za 1) (Zb (Za 0) Ze)))))))
  (Zg (Zq (i:=2) Xm.nd rfl (Or.inl rfl) (Zh (Fx.Cle.cal C_count_of) hr rfl (Zb (Za 1) Ze)))
  (Zg (Yl (ZX Ud (Za 2) (Jp rfl g_MOST_POINTS) (ZC _))
  (Zi (YA Zr.pin c_TooMany e_TooMany (Zb YG Ze) rfl))
  ZJ)
  (Zg (Qk (N:=["number","stretches"]) (nv:=1) (cap:=[1]) (i:=3) (Yv rfl) rfl (ZF (by decide)) (Yk rfl z_range (Za 2)) (Xz Zr) (fun _ _ _ _=>(ZD (i:=0) (show List.Nodup (["number","stretches"]:List Str) from by decide +kernel) rfl (Or.inl rfl))) (fun _ _ _ _ hp1=>Yh) (fun _ _ _ _ hp1=>(Zh (Fx.Cle.cal C_point_at) hr rfl (Zb (Za 1) (Zb (Za 0) Ze)))) Xm.nd rfl (Or.inl rfl))
  (Zi (Zp (Yu (Yy (N:=["point","desk"]) (nv:=1) (cap:=[0]) (Yv rfl) rfl (ZF (by decide)) (XA (Za 3)) (Xz Zr) (fun _ _ _ _=>(ZD (i:=0) (show List.Nodup (["point","desk"]:List Str) from by decide +kernel) rfl (Or.inl rfl))) (fun _ _ _ _ hp1=>(zeL (Xk (Zh (Fx.Clx.cal hp1 C_keeps_all) hr rfl (Zb (Za 1) (Zb (Za 0) Ze))) (fun _=>rfl)))) (fun _ _ _ _ hp1=>(Za 0)))))))))))
abbrev YM:Stmt:=top 64
theorem zat:FnScope ["_law_script","_law_k"] ["_law_script","_law_k"] (Zd YM):=⟨rfl,rfl,rfl,by decide +kernel,rfl,by decide +kernel,by decide +kernel⟩
theorem zay (F:Fun K "_law_cell_at" "_law_cell_at" YM fa fd) (hm:mg "_law_cell_at" = some (.ref fa)) (b:ZG K fd ["_law_script","_law_k"] []) (z_len:mg "len" = none) :
  Fx.Cle P w K mg base (k+1) "_law_cell_at" 2 Zm:=by
 exact ZQ F hm b zat rfl rfl fun cdv A outer s H E hr=>
  (Zg (Yl (ZX VA (Za 1) (Xj rfl z_len (Za 0)) (ZC _))
  (Zi (Zp (Zu (Za 0) (Za 1) (fun _ _=>rfl))))
  ZJ)
  (Zg (Yl (ZX (XS hr.units) (Za 0) (YB Ze) (ZC _))
  (Zi (Zp Zf))
  ZJ)
  (Zi (Zp (Zz Z0 (Zz Yo (Zu (Za 0) (Zz Xp (Za 1) (Xj rfl z_len (Za 0))) (fun _ _=>rfl)) Zf) (Za 1))))))
abbrev Xa:Stmt:=top 65
theorem UP:FnScope ["_law_cell","_law_wide","_law_number_here"] ["_law_cell","_law_wide"] (Zd Xa):=⟨rfl,rfl,rfl,by decide +kernel,rfl,by decide +kernel,by decide +kernel⟩
theorem zby (F:Fun K "_law_number" "_law_number" Xa fa fd) (hm:mg "_law_number" = some (.ref fa)) (b:ZG K fd ["_law_cell","_law_wide"] []) :
  Fx.Cle P w K mg base (k+1) "_law_number" 2 ZT:=by
 exact ZQ F hm b UP rfl rfl fun cdv A outer s H E hr=>
  (Zg (Zq (i:=2) UP.nd rfl (Or.inl rfl) (Zz Xp (Za 0) (Zz Z0 (Zz Yo Zf (Za 1)) Zf)))
  (Zg (Yl (ZX Ud (Za 2) (Za 1) (ZC _))
  (Zi (Zp (Zz WM (Zz WM (Za 2) (Zz Yo Zf (Za 1))) Zf)))
  ZJ)
  (Zi (Zp (Za 2)))))
abbrev Xc:Stmt:=top 66
theorem zbo:FnScope ["_law_limits_here"] ["_law_limits_here"] (Zd Xc):=⟨rfl,rfl,rfl,by decide +kernel,rfl,by decide +kernel,by decide +kernel⟩
theorem zbA (F:Fun K "_law_copied" "_law_copied" Xc fa fd) (hm:mg "_law_copied" = some (.ref fa)) (b:ZG K fd ["_law_limits_here"] []) (z_list:mg "list" = none) :
  Fx.Cle P w K mg base (k+1) "_law_copied" 1 XU:=by
 exact ZQ F hm b zbo rfl rfl fun cdv A outer s H E hr=>
  (Zi (Zp (Yu (Yy (N:=["_law_limit"]) (nv:=1) (cap:=[]) (Yv rfl) rfl (ZF (by decide)) (XA (Za 0)) YC (fun _ _ _ _=>(ZD (i:=0) (show List.Nodup (["_law_limit"]:List Str) from by decide +kernel) rfl (Or.inl rfl))) (fun _ _ _ _ _=>Yh) (fun _ _ _ _ _=>(Ya (Zb (Yu (zgG rfl z_list (Zu (Za 0) Zf (fun _ _=>rfl)))) (Zb (Zu (Za 0) Zf (fun _ _=>rfl)) Ze))))))))
abbrev Xb:Stmt:=top 67
theorem YK:FnScope ["_law_script","_law_kinds","_law_lacking","_law_made","_law_k","_law_row"] ["_law_script","_law_kinds","_law_lacking"] (Zd Xb):=⟨rfl,rfl,rfl,by decide +kernel,rfl,by decide +kernel,by decide +kernel⟩
theorem zbz (F:Fun K "_law_limits" "_law_limits" Xb fa fd) (hm:mg "_law_limits" = some (.ref fa)) (b:ZG K fd ["_law_script","_law_kinds","_law_lacking"] []) (z_range:mg "range" = none) (z_int:mg "int" = none) (C_law_cell_at:Fx.Cle P w K mg base k "_law_cell_at" 2 Zm) (C_law_number:Fx.Cle P w K mg base k "_law_number" 2 ZT) :
  Fx.Cle P w K mg base (k+1) "_law_limits" 3 XT:=by
 exact ZQ F hm b YK rfl rfl fun cdv A outer s H E hr=>
  (Zg (Up (i:=3) YK.nd rfl (Or.inl rfl) (zcB Ze))
  (Zg (Wr PassesOwn.never rfl (Yk rfl z_range (Za 1)) (ZD (i:=4) YK.nd rfl (Or.inr rfl))
  (Zg (zd6 (i:=3) rfl (Ya (Zb (Yu (Yy (N:=["_law_j","_law_k"]) (nv:=1) (cap:=[4]) (Yv rfl) rfl (ZF (by decide)) (Yk rfl z_range (Za 1)) YC (fun _ _ _ _=>(ZD (i:=0) (show List.Nodup (["_law_j","_law_k"]:List Str) from by decide +kernel) rfl (Or.inl rfl))) (fun _ _ _ _ _=>Yh) (fun _ _ _ _ _=>(zhq rfl z_int (Wx (XS hr.units) (Za 0) (Za 1) (ZC _)))))) (Zb (Zz Xp (Zh (Fx.Cle.cal C_law_cell_at) hr rfl (Zb (Za 0) (Zb (Zz Z0 Zf (Za 4)) Ze))) Zf) Ze))))
  (Zi (zd6 (i:=3) rfl (Ya (Zb (Yu (Yy (N:=["_law_j","_law_k"]) (nv:=1) (cap:=[4]) (Yv rfl) rfl (ZF (by decide)) (Yk rfl z_range (Za 1)) YC (fun _ _ _ _=>(ZD (i:=0) (show List.Nodup (["_law_j","_law_k"]:List Str) from by decide +kernel) rfl (Or.inl rfl))) (fun _ _ _ _ _=>Yh) (fun _ _ _ _ _=>(YH (zhq rfl z_int (Wx (XS hr.units) (Za 0) (Za 1) (ZC _))))))) (Zb (Zz Xp (Zh (Fx.Cle.cal C_law_cell_at) hr rfl (Zb (Za 0) (Zb (Zz Z0 Zf (Za 4)) Ze))) Zf) Ze)))))))
  (Zg (Up (i:=3) YK.nd rfl (Or.inl rfl) (Fx.ov_cat (Yu (zgH (Za 3) Fx.pv_no (Fx.pv_at (Za 2)))) (Yu (zgH (Za 3) (Fx.pv_at (Zz Z0 (Za 2) Zf)) Fx.pv_no))))
  (Zg (Wr PassesOwn.never rfl (Yk rfl z_range (Zz Xp (Zh (Fx.Cle.cal C_law_cell_at) hr rfl (Zb (Za 0) (Zb Zf Ze))) Zf)) (ZD (i:=4) YK.nd rfl (Or.inr rfl))
  (Zg (Qk (N:=["_law_j","_law_script","_law_k"]) (nv:=1) (cap:=[0,4]) (i:=5) (Yv rfl) rfl (ZF (by decide)) (Yk rfl z_range (Zz Z0 (Za 1) Zf)) YC (fun _ _ _ _=>(ZD (i:=0) (show List.Nodup (["_law_j","_law_script","_law_k"]:List Str) from by decide +kernel) rfl (Or.inl rfl))) (fun _ _ _ _ _=>Yh) (fun _ _ _ _ _=>(Zh (Fx.Cle.cal C_law_number) hr rfl (Zb (Zh (Fx.Cle.cal C_law_cell_at) hr rfl (Zb (Za 1) (Zb (Zz Z0 (Zz Z0 Zf (Zz Yo Zf (Za 2))) (Za 0)) Ze))) (Zb Zf Ze)))) YK.nd rfl (Or.inl rfl))
  (Zi (zd6 (i:=3) rfl (Ya (Zb (Yu (zgH (Za 5) Fx.pv_no (Fx.pv_at (Za 1)))) (Zb (Zu (Za 5) (Za 1) (fun _ _=>rfl)) Ze)))))))
  (Zi (Zp (Za 3)))))))
abbrev WZ:Stmt:=top 68
theorem XF:FnScope ["_law_kinds","_law_made","_law_k","_law_wider","_law_row","_law_number_here"] ["_law_kinds"] (Zd WZ):=⟨rfl,rfl,rfl,by decide +kernel,rfl,by decide +kernel,by decide +kernel⟩
theorem zfd (F:Fun K "_law_box" "_law_box" WZ fa fd) (hm:mg "_law_box" = some (.ref fa)) (b:ZG K fd ["_law_kinds"] []) (z_range:mg "range" = none) :
  Fx.Cle P w K mg base (k+1) "_law_box" 1 XV:=by
 exact ZQ F hm b XF rfl rfl fun cdv A outer s H E hr=>
  (Zg (Zq (i:=1) XF.nd rfl (Or.inl rfl) (YB (Zb (YB Ze) Ze)))
  (Zg (Wr PassesOwn.never rfl (Yk rfl z_range (Za 0)) (ZD (i:=2) XF.nd rfl (Or.inl rfl))
  (Zg (Up (i:=3) XF.nd rfl (Or.inl rfl) (zcB Ze))
  (Zg (Wr PassesOwn.never rfl (XA (Za 1)) (ZD (i:=4) XF.nd rfl (Or.inl rfl))
  (Zi (Wr PassesOwn.never rfl (zg9 rfl z_range (YH Zf) Zf) (ZD (i:=5) XF.nd rfl (Or.inl rfl))
  (Zi (zd6 (i:=3) rfl (Zz Z0 (Za 4) (YB (Zb (Za 5) Ze))))))))
  (Zi (Zq (i:=1) XF.nd rfl (Or.inl rfl) (Za 3))))))
  (Zi (Zp (Za 1)))))
abbrev Wj:Stmt:=top 69
theorem Wt:FnScope ["_law_limits_here","_law_row","_law_limit","_law_made","_law_k"] ["_law_limits_here","_law_row"] (Zd Wj):=⟨rfl,rfl,rfl,by decide +kernel,rfl,by decide +kernel,by decide +kernel⟩
theorem zdE (F:Fun K "_law_kept" "_law_kept" Wj fa fd) (hm:mg "_law_kept" = some (.ref fa)) (b:ZG K fd ["_law_limits_here","_law_row"] []) (z_range:mg "range" = none) (z_len:mg "len" = none) :
  Fx.Cle P w K mg base (k+1) "_law_kept" 2 Xh:=by
 exact ZQ F hm b Wt rfl rfl fun cdv A outer s H E hr=>
  (Zg (Wr PassesOwn.never rfl (XA (Za 0)) (ZD (i:=2) Wt.nd rfl (Or.inl rfl))
  (Zg (Zq (i:=3) Wt.nd rfl (Or.inl rfl) Zf)
  (Zg (Wr PassesOwn.never rfl (Yk rfl z_range (Xj rfl z_len (Za 1))) (ZD (i:=4) Wt.nd rfl (Or.inl rfl))
  (Zi (Zq (i:=3) Wt.nd rfl (Or.inl rfl) (Zz Z0 (Za 3) (Zz Yo (Zu (Zu (Za 2) Zf (fun _ _=>rfl)) (Za 4) (fun _ _=>rfl)) (Zu (Za 1) (Za 4) (fun _ _=>rfl)))))))
  (Zi (Yl (ZX Ud (Za 3) (Zu (Za 2) Zf (fun _ _=>rfl)) (ZC _))
  (Zi (Zp zaG))
  ZJ)))))
  (Zi (Zp zaG)))
abbrev Wi:Stmt:=top 70
theorem YD:FnScope ["_law_script","_law_size","_law_shift","_law_desk","_law_refused","_law_found"] ["_law_script"] (Zd Wi):=⟨rfl,rfl,rfl,by decide +kernel,rfl,by decide +kernel,by decide +kernel⟩
theorem zdD {cl:Str->Value}{X_TooMany:Addr}(F:Fun K "_law_long" "_law_long" Wi fa fd) (hm:mg "_law_long" = some (.ref fa)) (b:ZG K fd ["_law_script"] []) (z_range:mg "range" = none) (c_TooMany:Fx.XCls K mg "TooMany" X_TooMany) (e_TooMany:cl "TooMany" = .ref X_TooMany) (u_TooMany_TooMany:PySem.W.subIn K (.ref X_TooMany) (.ref X_TooMany)=some true) (C_law_cell_at:Fx.Cle P w K mg base k "_law_cell_at" 2 Zm) (C_law_number:Fx.Cle P w K mg base k "_law_number" 2 ZT) (C_desk_of:Fx.Clx P w K mg base cl k "desk_of" 2 Yt) (C_whole_points:Fx.Clx P w K mg base cl k "whole_points" 1 Zo) :
  Fx.Clx P w K mg base cl (k+1) "_law_long" 1 W4:=by
 exact WK F hm b YD rfl rfl fun cdv A outer s H E W hr=>
  (Zg (Zq (i:=1) YD.nd rfl (Or.inl rfl) (Zz Z0 Zf (Zz Xp (Zh (Fx.Cle.cal C_law_cell_at) hr rfl (Zb (Za 0) (Zb Zf Ze))) Zf)))
  (Zg (Zq (i:=2) YD.nd rfl (Or.inr rfl) (Zh (Fx.Cle.cal C_law_number) hr rfl (Zb (Zh (Fx.Cle.cal C_law_cell_at) hr rfl (Zb (Za 0) (Zb Zf Ze))) (Zb (Zz Fx.op_powF Zf Zf) Ze))))
  (Zg (Zq (i:=3) YD.nd rfl (Or.inl rfl) (Zh (Fx.Clx.cal Zr.pin C_desk_of) hr rfl (Zb Zf (Zb (YB (Zb (Ya (Zb (YB (Zb Zf Ze)) (Zb (Zz WM (Zz Z0 (Za 2) (Za 1)) Zf) Ze))) (Zb (Ya (Zb (YB (Zb (YH Zf) Ze)) (Zb (YH (Za 2)) Ze))) Ze))) Ze))))
  (Zg (Zq (i:=4) YD.nd rfl (Or.inl rfl) zaG)
  (Zg (Zq (i:=5) YD.nd rfl (Or.inl rfl) QF)
  (Zg (zf1 (i:=5) (Fx.InFrame.wish Zr) C_whole_points hr YD.nd rfl (Or.inl rfl) rfl (Zb (Za 3) Ze) c_TooMany rfl (UH e_TooMany u_TooMany_TooMany Qz) (fun _=>
  (Zi (Zq (i:=4) YD.nd rfl (Or.inl rfl) zaG))))
  (Zg (Yl (ZX Ud (Za 1) Zf (ZC _))
  (Zi (Zp (Za 4)))
  ZJ)
  (Zi (Zp (Wx (XS hr.units) (Za 5) (Yu (Yy (N:=["_law_k","_law_shift"]) (nv:=1) (cap:=[2]) (Yv rfl) rfl (ZF (by decide)) (Yk rfl z_range (Za 1)) (Xz Zr) (fun _ _ _ _=>(ZD (i:=0) (show List.Nodup (["_law_k","_law_shift"]:List Str) from by decide +kernel) rfl (Or.inl rfl))) (fun _ _ _ _ hp1=>Yh) (fun _ _ _ _ hp1=>(YB (Zb (Zz Z0 (Za 1) (Za 0)) Ze))))) (ZC _)))))))))))
abbrev Wh:Stmt:=top 71
theorem Y4:FnScope ["_law_script","_law_size","_law_limits_here","_law_refused","_law_found"] ["_law_script"] (Zd Wh):=⟨rfl,rfl,rfl,by decide +kernel,rfl,by decide +kernel,by decide +kernel⟩
theorem zdC {cl:Str->Value}{X_TooMany:Addr}(F:Fun K "_law_thin" "_law_thin" Wh fa fd) (hm:mg "_law_thin" = some (.ref fa)) (b:ZG K fd ["_law_script"] []) (z_range:mg "range" = none) (c_TooMany:Fx.XCls K mg "TooMany" X_TooMany) (e_TooMany:cl "TooMany" = .ref X_TooMany) (u_TooMany_TooMany:PySem.W.subIn K (.ref X_TooMany) (.ref X_TooMany)=some true) (C_law_cell_at:Fx.Cle P w K mg base k "_law_cell_at" 2 Zm) (C_whole_points:Fx.Clx P w K mg base cl k "whole_points" 1 Zo) (C_desk_of:Fx.Clx P w K mg base cl k "desk_of" 2 Yt) :
  Fx.Cle P w K mg base (k+1) "_law_thin" 1 W3:=by
 exact ZQ F hm b Y4 rfl rfl fun cdv A outer s H E hr=>
  (Zg (Zq (i:=1) Y4.nd rfl (Or.inl rfl) (Zz Z0 Zf (Zz Xp (Zh (Fx.Cle.cal C_law_cell_at) hr rfl (Zb (Za 0) (Zb Zf Ze))) Zf)))
  (Zg (Zq (i:=2) Y4.nd rfl (Or.inl rfl) (YB (Zb (Ya (Zb (YB (Zb Zf (Zb Zf Ze))) (Zb (Za 1) Ze))) (Zb (Ya (Zb (YB (Zb (YH Zf) (Zb Zf Ze))) (Zb Zf Ze))) (Zb (Ya (Zb (YB (Zb Zf (Zb Zf Ze))) (Zb (Za 1) Ze))) (Zb (Ya (Zb (YB (Zb Zf (Zb (YH Zf) Ze))) (Zb Zf Ze))) (Zb (Ya (Zb (YB (Zb Zf (Zb (YH Zf) Ze))) (Zb Zf Ze))) (Zb (Ya (Zb (YB (Zb (YH Zf) (Zb Zf Ze))) (Zb Zf Ze))) Ze))))))))
  (Zg (Zq (i:=3) Y4.nd rfl (Or.inl rfl) zaG)
  (Zg (Zq (i:=4) Y4.nd rfl (Or.inl rfl) QF)
  (Zg (zf1 (i:=4) (Fx.InFrame.wish Zr) C_whole_points hr Y4.nd rfl (Or.inl rfl) rfl (Zb (Zh (Fx.Clx.calN C_desk_of) hr rfl (Zb Zf (Zb (Za 2) Ze))) Ze) c_TooMany rfl (UH e_TooMany u_TooMany_TooMany Qz) (fun _=>
  (Zi (Zq (i:=3) Y4.nd rfl (Or.inl rfl) zaG))))
  (Zg (Yl (ZX Ud (Za 1) Zf (ZC _))
  (Zi (Zp (Za 3)))
  ZJ)
  (Zi (Zp (Wx (XS hr.units) (Za 4) (Yu (Yy (N:=["_law_k"]) (nv:=1) (cap:=[]) (Yv rfl) rfl (ZF (by decide)) (Yk rfl z_range (Zz Z0 (Za 1) Zf)) YC (fun _ _ _ _=>(ZD (i:=0) (show List.Nodup (["_law_k"]:List Str) from by decide +kernel) rfl (Or.inl rfl))) (fun _ _ _ _ _=>Yh) (fun _ _ _ _ _=>(YB (Zb (Za 0) (Zb (Za 0) Ze)))))) (ZC _))))))))))
abbrev Z6:Stmt:=top 72
theorem WD:FnScope ["_law_desk","_law_kind","_law_side","e"] ["_law_desk","_law_kind","_law_side"] (Zd Z6):=⟨rfl,rfl,rfl,by decide +kernel,rfl,by decide +kernel,by decide +kernel⟩
theorem UR {cl:Str->Value}{X_TooMany:Addr}(F:Fun K "_law_without_end" "_law_without_end" Z6 fa fd) (hm:mg "_law_without_end" = some (.ref fa)) (b:ZG K fd ["_law_desk","_law_kind","_law_side"] []) (z_isinstance:mg "isinstance" = none) (z_ValueError:mg "ValueError" = none) (c_TooMany:Fx.XCls K mg "TooMany" X_TooMany) (e_TooMany:cl "TooMany" = .ref X_TooMany) (u_TooMany_TooMany:PySem.W.subIn K (.ref X_TooMany) (.ref X_TooMany)=some true) (u_TooMany_ValueError:PySem.W.subIn K (.ref X_TooMany) (.type "ValueError")=some true) (C_judged:Fx.Cle P w K mg base k "judged" 1 Xs) (C_whole_points:Fx.Clx P w K mg base cl k "whole_points" 1 Zo) (C_stretch:Fx.Clx P w K mg base cl k "stretch" 2 Z1) :
  Fx.Clx P w K mg base cl (k+1) "_law_without_end" 3 ZH:=by
 exact WK F hm b WD rfl rfl fun cdv A outer s H E W hr=>
  (Zg (Yl (ZX (XS hr.units) (Zu (Zh (Fx.Cle.cal C_judged) hr rfl (Zb (Za 0) Ze)) Zf (fun _ _=>rfl)) YG (ZC _))
  (Zi (Zp (Wx (XS hr.units) (Zh (Fx.Clx.cal Zr.pin C_whole_points) hr rfl (Zb (Za 0) Ze)) (YB Ze) (ZC _))))
  ZJ)
  (Zg (Yl (Jr (Zu (Zh (Fx.Clx.cal Zr.pin C_stretch) hr rfl (Zb (Za 0) (Zb (Za 1) Ze))) (Za 2) (fun _ _=>rfl)))
  (Zi (Zp zaG))
  ZJ)
  (Zg (Fx.ss_tryA (i:=3) (Fx.InFrame.wish Zr) C_whole_points hr rfl (Zb (Za 0) Ze) c_TooMany rfl (UH e_TooMany u_TooMany_TooMany Qz) (Fx.ve_cons e_TooMany u_TooMany_ValueError Fx.ve_nil) WD.nd rfl rfl (fun _=>
  (Zi (Zp (Fx.ev_isx rfl z_isinstance rfl z_ValueError (Za 3))))))
  (Zi (Zp zaG)))))
abbrev zbr:Stmt:=top 73
theorem QC:FnScope ["_law_script","_law_way","_law_kinds","_law_lacking","_law_limits_here","_law_desk","_law_found"] ["_law_script"] (Zd zbr):=⟨rfl,rfl,rfl,by decide +kernel,rfl,by decide +kernel,by decide +kernel⟩
theorem law_fn {cl:Str->Value}(F:Fun K "law" "law" zbr fa fd) (C_law_cell_at:Fx.Cle P w K mg base k "_law_cell_at" 2 Zm) (C_law_long:Fx.Clx P w K mg base cl k "_law_long" 1 W4) (C_law_thin:Fx.Cle P w K mg base k "_law_thin" 1 W3) (C_law_limits:Fx.Cle P w K mg base k "_law_limits" 3 XT) (C_law_copied:Fx.Cle P w K mg base k "_law_copied" 1 XU) (C_desk_of:Fx.Clx P w K mg base cl k "desk_of" 2 Yt) (C_law_without_end:Fx.Clx P w K mg base cl k "_law_without_end" 3 ZH) (C_whole_points:Fx.Clx P w K mg base cl k "whole_points" 1 Zo) (C_law_box:Fx.Cle P w K mg base k "_law_box" 1 XV) (C_law_kept:Fx.Cle P w K mg base k "_law_kept" 2 Xh) :
  FnOk P w K mg base CX0 (k+1) fa fd ["_law_script"] (Fx.spF K none 1 zhm):=by
 exact Fx.fn_ok F QC rfl fun cdv A outer s H E hr=>
  (Zg (Zq (i:=1) QC.nd rfl (Or.inl rfl) (Zz Xp (Zh (Fx.Cle.cal C_law_cell_at) hr rfl (Zb (Za 0) (Zb Zf Ze))) Zf))
  (Zg (Yl (ZX (XS hr.units) (Za 1) Zf (ZC _))
  (Zi (Zp (Zh (Fx.Clx.calN C_law_long) hr rfl (Zb (Za 0) Ze))))
  ZJ)
  (Zg (Yl (ZX (XS hr.units) (Za 1) Zf (ZC _))
  (Zi (Zp (Zh (Fx.Cle.cal C_law_thin) hr rfl (Zb (Za 0) Ze))))
  ZJ)
  (Zg (Zq (i:=2) QC.nd rfl (Or.inl rfl) (Zz Z0 Zf (Zz Xp (Zh (Fx.Cle.cal C_law_cell_at) hr rfl (Zb (Za 0) (Zb Zf Ze))) Zf)))
  (Zg (Zq (i:=3) QC.nd rfl (Or.inl rfl) (Zz Yo Zf (Za 2)))
  (Zg (Yl (ZX (XS hr.units) (Zz Xp (Zh (Fx.Cle.cal C_law_cell_at) hr rfl (Zb (Za 0) (Zb Zf Ze))) Zf) Zf (ZC _))
  (Zi (Zq (i:=3) QC.nd rfl (Or.inl rfl) (Zz Xp (Zz VB (Zh (Fx.Cle.cal C_law_cell_at) hr rfl (Zb (Za 0) (Zb Zf Ze))) Zf) (Zz Yo Zf (Za 2)))))
  ZJ)
  (Zg (Zq (i:=4) QC.nd rfl (Or.inr rfl) (Zh (Fx.Cle.cal C_law_limits) hr rfl (Zb (Za 0) (Zb (Za 2) (Zb (Za 3) Ze)))))
  (Zg (Zq (i:=5) QC.nd rfl (Or.inl rfl) (Zh (Fx.Clx.calN C_desk_of) hr rfl (Zb (Za 2) (Zb (Zh (Fx.Cle.cal C_law_copied) hr rfl (Zb (Za 4) Ze)) Ze))))
  (Zg (Yl (ZX VA (Za 3) (Zz Yo Zf (Za 2)) (ZC _))
  (Zi (Zp (Zh (Fx.Clx.calN C_law_without_end) hr rfl (Zb (Za 5) (Zb (Zz VB (Za 3) Zf) (Zb (Zz WM Zf (Zz Xp (Za 3) Zf)) Ze))))))
  ZJ)
  (Zg (Zq (i:=6) QC.nd rfl (Or.inl rfl) (Zh (Fx.Clx.calN C_whole_points) hr rfl (Zb (Za 5) Ze)))
  (Zi (Zp (Wx (XS hr.units) (Za 6) (Yu (Yy (N:=["_law_row","_law_limits_here"]) (nv:=1) (cap:=[4]) (Yv rfl) rfl (ZF (by decide)) (XA (Zh (Fx.Cle.cal C_law_box) hr rfl (Zb (Za 2) Ze))) YC (fun _ _ _ _=>(ZD (i:=0) (show List.Nodup (["_law_row","_law_limits_here"]:List Str) from by decide +kernel) rfl (Or.inl rfl))) (fun _ _ _ _ _=>(zeL (Xk (Zh (Fx.Cle.cal C_law_kept) hr rfl (Zb (Za 1) (Zb (Za 0) Ze))) (fun _=>rfl)))) (fun _ _ _ _ _=>(Za 0)))) (ZC _))))))))))))))
theorem all_mk {l:PySem.W.OpenLaw}{w:World}{K:PySem.W.Frag}{h:Heap}{mg:Str->Option Value}{fa:Addr}(X:K.In h) (G:h.Ns mainGlobals mg) (hfa:mg "law" = some (.ref fa))
  {f0 f1 f2 f3 f4 f5 f6 f7 f8 f9 f10 f11 f12 f13 f14 f15 f16 f17 f18 f19 f20 f21 f22 f23 f25 f26 f27 f28 f29 f30 f31 f32 f33 f34 f35 f36 f37 f38 f39 f40 f41 f42 f43 f44 f45 f46 f47 f48 f49 f50 f51 f52 f53:Addr}{od0 an0 od1 an1 od2 an2 od3 an3 od4 an4 od5 an5 od6 an6 od7 an7 od8 an8 od9 an9 od10 an10 od11 an11 od12 an12 od13 an13 od14 an14 od15 an15 od16 an16 od17 an17 od18 an18 od19 an19 od20 an20 od21 an21 od22 an22 od23 an23 od25 an25 od26 an26 od27 an27 od28 an28 od29 an29 od30 an30 od31 an31 od32 an32 od33 an33 od34 an34 od35 an35 od36 an36 od37 an37 od38 an38 od39 an39 od40 an40 od41 an41 od42 an42 od43 an43 od44 an44 od45 an45 od46 an46 od47 an47 od48 an48 od49 an49 od50 an50 od51 an51 od52 an52 od53 an53:Option Addr}{sl0 sl1 sl2 sl3 sl4 sl5 sl6 sl7 sl8 sl9 sl10 sl11 sl12 sl13 sl14 sl15 sl16 sl17 sl18 sl19 sl20 sl21 sl22 sl23 sl25 sl26 sl27 sl28 sl29 sl30 sl31 sl32 sl33 sl34 sl35 sl36 sl37 sl38 sl39 sl40 sl41 sl42 sl43 sl44 sl45 sl46 sl47 sl48 sl49 sl50 sl51 sl52 sl53:Array (Option Value)}{oc0 kV0 dc0 pm0 cd0 ct0 oc1 kV1 dc1 pm1 cd1 ct1 oc2 kV2 dc2 pm2 cd2 ct2 oc3 kV3 dc3 pm3 cd3 ct3 oc4 kV4 dc4 pm4 cd4 ct4 oc5 kV5 dc5 pm5 cd5 ct5 oc6 kV6 dc6 pm6 cd6 ct6 oc7 kV7 dc7 pm7 cd7 ct7 oc8 kV8 dc8 pm8 cd8 ct8 oc9 kV9 dc9 pm9 cd9 ct9 oc10 kV10 dc10 pm10 cd10 ct10 oc11 kV11 dc11 pm11 cd11 ct11 oc12 kV12 dc12 pm12 cd12 ct12 oc13 kV13 dc13 pm13 cd13 ct13 oc14 kV14 dc14 pm14 cd14 ct14 oc15 kV15 dc15 pm15 cd15 ct15 oc16 kV16 dc16 pm16 cd16 ct16 oc17 kV17 dc17 pm17 cd17 ct17 oc18 kV18 dc18 pm18 cd18 ct18 oc19 kV19 dc19 pm19 cd19 ct19 oc20 kV20 dc20 pm20 cd20 ct20 oc21 kV21 dc21 pm21 cd21 ct21 oc22 kV22 dc22 pm22 cd22 ct22 oc23 kV23 dc23 pm23 cd23 ct23 oc25 kV25 dc25 pm25 cd25 ct25 oc26 kV26 dc26 pm26 cd26 ct26 oc27 kV27 dc27 pm27 cd27 ct27 oc28 kV28 dc28 pm28 cd28 ct28 oc29 kV29 dc29 pm29 cd29 ct29 oc30 kV30 dc30 pm30 cd30 ct30 oc31 kV31 dc31 pm31 cd31 ct31 oc32 kV32 dc32 pm32 cd32 ct32 oc33 kV33 dc33 pm33 cd33 ct33 oc34 kV34 dc34 pm34 cd34 ct34 oc35 kV35 dc35 pm35 cd35 ct35 oc36 kV36 dc36 pm36 cd36 ct36 oc37 kV37 dc37 pm37 cd37 ct37 oc38 kV38 dc38 pm38 cd38 ct38 oc39 kV39 dc39 pm39 cd39 ct39 oc40 kV40 dc40 pm40 cd40 ct40 oc41 kV41 dc41 pm41 cd41 ct41 oc42 kV42 dc42 pm42 cd42 ct42 oc43 kV43 dc43 pm43 cd43 ct43 oc44 kV44 dc44 pm44 cd44 ct44 oc45 kV45 dc45 pm45 cd45 ct45 oc46 kV46 dc46 pm46 cd46 ct46 oc47 kV47 dc47 pm47 cd47 ct47 oc48 kV48 dc48 pm48 cd48 ct48 oc49 kV49 dc49 pm49 cd49 ct49 oc50 kV50 dc50 pm50 cd50 ct50 oc51 kV51 dc51 pm51 cd51 ct51 oc52 kV52 dc52 pm52 cd52 ct52 oc53 kV53 dc53 pm53 cd53 ct53:Value}
  {f24:Addr}{od24 an24:Option Addr}{sl24:Array (Option Value)}{oc24 kV24 dc24 pm24 ct24:Value}
  {tg_GREATEST_NUMBER:Tok}
  {tg_MOST_KINDS:Tok}
  {tg_MOST_LIMITS:Tok}
  {tg_MOST_POINTS:Tok}
  {X_NoDesk:Addr}
  {X_BadPoint:Addr}
  {X_NoPlace:Addr}
  {X_NoGoal:Addr}
  {X_NoPoint:Addr}
  {X_TooMany:Addr}
  {C_Board fI_Board:Addr}{odI_Board anI_Board:Option Addr}{slI_Board:Array (Option Value)}{ocI_Board kVI_Board dcI_Board pmI_Board cdI_Board ctI_Board:Value}
  {cL_raising_column TL_raising_column:Addr}{occ_raising_column:Value}{odc_raising_column:Option Addr}{vsc_raising_column:Array Value}{slc_raising_column:Array (Option Value)}
  (a0:PySem.W.nsIn K mainGlobals "is_whole" = some (some (.ref f0))) (l0:K.lookup f0=some ⟨oc0,od0,.func (PySem.W.fnOf "is_whole" "is_whole" (Zn Wk) (Zl Wk) (Zd Wk) .none kV0 dc0 pm0 an0 cd0 ct0),sl0⟩) (c0:PySem.W.codeIn K cd0 "is_whole" = true) (k0:PySem.W.keepIn K (.ref f0)=true)
  (a1:PySem.W.nsIn K mainGlobals "common_divisor" = some (some (.ref f1))) (l1:K.lookup f1=some ⟨oc1,od1,.func (PySem.W.fnOf "common_divisor" "common_divisor" (Zn Yc) (Zl Yc) (Zd Yc) .none kV1 dc1 pm1 an1 cd1 ct1),sl1⟩) (c1:PySem.W.codeIn K cd1 "common_divisor" = true) (k1:PySem.W.keepIn K (.ref f1)=true)
  (a2:PySem.W.nsIn K mainGlobals "is_fraction" = some (some (.ref f2))) (l2:K.lookup f2=some ⟨oc2,od2,.func (PySem.W.fnOf "is_fraction" "is_fraction" (Zn YN) (Zl YN) (Zd YN) .none kV2 dc2 pm2 an2 cd2 ct2),sl2⟩) (c2:PySem.W.codeIn K cd2 "is_fraction" = true) (k2:PySem.W.keepIn K (.ref f2)=true)
  (a3:PySem.W.nsIn K mainGlobals "frac" = some (some (.ref f3))) (l3:K.lookup f3=some ⟨oc3,od3,.func (PySem.W.fnOf "frac" "frac" (Zn zaM) (Zl zaM) (Zd zaM) .none kV3 dc3 pm3 an3 cd3 ct3),sl3⟩) (c3:PySem.W.codeIn K cd3 "frac" = true) (k3:PySem.W.keepIn K (.ref f3)=true)
  (a4:PySem.W.nsIn K mainGlobals "plus" = some (some (.ref f4))) (l4:K.lookup f4=some ⟨oc4,od4,.func (PySem.W.fnOf "plus" "plus" (Zn zaL) (Zl zaL) (Zd zaL) .none kV4 dc4 pm4 an4 cd4 ct4),sl4⟩) (c4:PySem.W.codeIn K cd4 "plus" = true) (k4:PySem.W.keepIn K (.ref f4)=true)
  (a5:PySem.W.nsIn K mainGlobals "turned" = some (some (.ref f5))) (l5:K.lookup f5=some ⟨oc5,od5,.func (PySem.W.fnOf "turned" "turned" (Zn V2) (Zl V2) (Zd V2) .none kV5 dc5 pm5 an5 cd5 ct5),sl5⟩) (c5:PySem.W.codeIn K cd5 "turned" = true) (k5:PySem.W.keepIn K (.ref f5)=true)
  (a6:PySem.W.nsIn K mainGlobals "below" = some (some (.ref f6))) (l6:K.lookup f6=some ⟨oc6,od6,.func (PySem.W.fnOf "below" "below" (Zn Qo) (Zl Qo) (Zd Qo) .none kV6 dc6 pm6 an6 cd6 ct6),sl6⟩) (c6:PySem.W.codeIn K cd6 "below" = true) (k6:PySem.W.keepIn K (.ref f6)=true)
  (a7:PySem.W.nsIn K mainGlobals "is_number" = some (some (.ref f7))) (l7:K.lookup f7=some ⟨oc7,od7,.func (PySem.W.fnOf "is_number" "is_number" (Zn XI) (Zl XI) (Zd XI) .none kV7 dc7 pm7 an7 cd7 ct7),sl7⟩) (c7:PySem.W.codeIn K cd7 "is_number" = true) (k7:PySem.W.keepIn K (.ref f7)=true)
  (a8:PySem.W.nsIn K mainGlobals "limit_of" = some (some (.ref f8))) (l8:K.lookup f8=some ⟨oc8,od8,.func (PySem.W.fnOf "limit_of" "limit_of" (Zn Wg) (Zl Wg) (Zd Wg) .none kV8 dc8 pm8 an8 cd8 ct8),sl8⟩) (c8:PySem.W.codeIn K cd8 "limit_of" = true) (k8:PySem.W.keepIn K (.ref f8)=true)
  (a9:PySem.W.nsIn K mainGlobals "desk_of" = some (some (.ref f9))) (l9:K.lookup f9=some ⟨oc9,od9,.func (PySem.W.fnOf "desk_of" "desk_of" (Zn W0) (Zl W0) (Zd W0) .none kV9 dc9 pm9 an9 cd9 ct9),sl9⟩) (c9:PySem.W.codeIn K cd9 "desk_of" = true) (k9:PySem.W.keepIn K (.ref f9)=true)
  (a10:PySem.W.nsIn K mainGlobals "check_point" = some (some (.ref f10))) (l10:K.lookup f10=some ⟨oc10,od10,.func (PySem.W.fnOf "check_point" "check_point" (Zn YQ) (Zl YQ) (Zd YQ) .none kV10 dc10 pm10 an10 cd10 ct10),sl10⟩) (c10:PySem.W.codeIn K cd10 "check_point" = true) (k10:PySem.W.keepIn K (.ref f10)=true)
  (a11:PySem.W.nsIn K mainGlobals "check_place" = some (some (.ref f11))) (l11:K.lookup f11=some ⟨oc11,od11,.func (PySem.W.fnOf "check_place" "check_place" (Zn YR) (Zl YR) (Zd YR) .none kV11 dc11 pm11 an11 cd11 ct11),sl11⟩) (c11:PySem.W.codeIn K cd11 "check_place" = true) (k11:PySem.W.keepIn K (.ref f11)=true)
  (a12:PySem.W.nsIn K mainGlobals "weight" = some (some (.ref f12))) (l12:K.lookup f12=some ⟨oc12,od12,.func (PySem.W.fnOf "weight" "weight" (Zn V0) (Zl V0) (Zd V0) .none kV12 dc12 pm12 an12 cd12 ct12),sl12⟩) (c12:PySem.W.codeIn K cd12 "weight" = true) (k12:PySem.W.keepIn K (.ref f12)=true)
  (a13:PySem.W.nsIn K mainGlobals "broken" = some (some (.ref f13))) (l13:K.lookup f13=some ⟨oc13,od13,.func (PySem.W.fnOf "broken" "broken" (Zn V5) (Zl V5) (Zd V5) .none kV13 dc13 pm13 an13 cd13 ct13),sl13⟩) (c13:PySem.W.codeIn K cd13 "broken" = true) (k13:PySem.W.keepIn K (.ref f13)=true)
  (a14:PySem.W.nsIn K mainGlobals "unit" = some (some (.ref f14))) (l14:K.lookup f14=some ⟨oc14,od14,.func (PySem.W.fnOf "unit" "unit" (Zn zaK) (Zl zaK) (Zd zaK) .none kV14 dc14 pm14 an14 cd14 ct14),sl14⟩) (c14:PySem.W.codeIn K cd14 "unit" = true) (k14:PySem.W.keepIn K (.ref f14)=true)
  (a15:PySem.W.nsIn K mainGlobals "room_row" = some (some (.ref f15))) (l15:K.lookup f15=some ⟨oc15,od15,.func (PySem.W.fnOf "room_row" "room_row" (Zn Wd) (Zl Wd) (Zd Wd) .none kV15 dc15 pm15 an15 cd15 ct15),sl15⟩) (c15:PySem.W.codeIn K cd15 "room_row" = true) (k15:PySem.W.keepIn K (.ref f15)=true)
  (a16:PySem.W.nsIn K mainGlobals "first_board" = some (some (.ref f16))) (l16:K.lookup f16=some ⟨oc16,od16,.func (PySem.W.fnOf "first_board" "first_board" (Zn YO) (Zl YO) (Zd YO) .none kV16 dc16 pm16 an16 cd16 ct16),sl16⟩) (c16:PySem.W.codeIn K cd16 "first_board" = true) (k16:PySem.W.keepIn K (.ref f16)=true)
  (a17:PySem.W.nsIn K mainGlobals "rooms_of" = some (some (.ref f17))) (l17:K.lookup f17=some ⟨oc17,od17,.func (PySem.W.fnOf "rooms_of" "rooms_of" (Zn Wc) (Zl Wc) (Zd Wc) .none kV17 dc17 pm17 an17 cd17 ct17),sl17⟩) (c17:PySem.W.codeIn K cd17 "rooms_of" = true) (k17:PySem.W.keepIn K (.ref f17)=true)
  (a18:PySem.W.nsIn K mainGlobals "worth_of" = some (some (.ref f18))) (l18:K.lookup f18=some ⟨oc18,od18,.func (PySem.W.fnOf "worth_of" "worth_of" (Zn Wb) (Zl Wb) (Zd Wb) .none kV18 dc18 pm18 an18 cd18 ct18),sl18⟩) (c18:PySem.W.codeIn K cd18 "worth_of" = true) (k18:PySem.W.keepIn K (.ref f18)=true)
  (a19:PySem.W.nsIn K mainGlobals "swapped_row" = some (some (.ref f19))) (l19:K.lookup f19=some ⟨oc19,od19,.func (PySem.W.fnOf "swapped_row" "swapped_row" (Zn YL) (Zl YL) (Zd YL) .none kV19 dc19 pm19 an19 cd19 ct19),sl19⟩) (c19:PySem.W.codeIn K cd19 "swapped_row" = true) (k19:PySem.W.keepIn K (.ref f19)=true)
  (a20:PySem.W.nsIn K mainGlobals "swapped" = some (some (.ref f20))) (l20:K.lookup f20=some ⟨oc20,od20,.func (PySem.W.fnOf "swapped" "swapped" (Zn WW) (Zl WW) (Zd WW) .none kV20 dc20 pm20 an20 cd20 ct20),sl20⟩) (c20:PySem.W.codeIn K cd20 "swapped" = true) (k20:PySem.W.keepIn K (.ref f20)=true)
  (a21:PySem.W.nsIn K mainGlobals "first_room_on" = some (some (.ref f21))) (l21:K.lookup f21=some ⟨oc21,od21,.func (PySem.W.fnOf "first_room_on" "first_room_on" (Zn Yn) (Zl Yn) (Zd Yn) .none kV21 dc21 pm21 an21 cd21 ct21),sl21⟩) (c21:PySem.W.codeIn K cd21 "first_room_on" = true) (k21:PySem.W.keepIn K (.ref f21)=true)
  (a22:PySem.W.nsIn K mainGlobals "freed" = some (some (.ref f22))) (l22:K.lookup f22=some ⟨oc22,od22,.func (PySem.W.fnOf "freed" "freed" (Zn Qn) (Zl Qn) (Zd Qn) .none kV22 dc22 pm22 an22 cd22 ct22),sl22⟩) (c22:PySem.W.codeIn K cd22 "freed" = true) (k22:PySem.W.keepIn K (.ref f22)=true)
  (a23:PySem.W.nsIn K mainGlobals "helps" = some (some (.ref f23))) (l23:K.lookup f23=some ⟨oc23,od23,.func (PySem.W.fnOf "helps" "helps" (Zn Qm) (Zl Qm) (Zd Qm) .none kV23 dc23 pm23 an23 cd23 ct23),sl23⟩) (c23:PySem.W.codeIn K cd23 "helps" = true) (k23:PySem.W.keepIn K (.ref f23)=true)
  (a24:PySem.W.nsIn K mainGlobals "raising_column" = some (some (.ref f24))) (l24:K.lookup f24=some ⟨oc24,od24,.func (PySem.W.fnOf "raising_column" "raising_column" (Zn Yb) (Zl Yb) (Zd Yb) .none kV24 dc24 pm24 an24 (.ref cL_raising_column) ct24),sl24⟩) (c24:PySem.W.codeIn K (.ref cL_raising_column) "raising_column" = true) (k24:PySem.W.keepIn K (.ref f24)=true)
  (a25:PySem.W.nsIn K mainGlobals "short_room" = some (some (.ref f25))) (l25:K.lookup f25=some ⟨oc25,od25,.func (PySem.W.fnOf "short_room" "short_room" (Zn Y9) (Zl Y9) (Zd Y9) .none kV25 dc25 pm25 an25 cd25 ct25),sl25⟩) (c25:PySem.W.codeIn K cd25 "short_room" = true) (k25:PySem.W.keepIn K (.ref f25)=true)
  (a26:PySem.W.nsIn K mainGlobals "settled" = some (some (.ref f26))) (l26:K.lookup f26=some ⟨oc26,od26,.func (PySem.W.fnOf "settled" "settled" (Zn WY) (Zl WY) (Zd WY) .none kV26 dc26 pm26 an26 cd26 ct26),sl26⟩) (c26:PySem.W.codeIn K cd26 "settled" = true) (k26:PySem.W.keepIn K (.ref f26)=true)
  (a27:PySem.W.nsIn K mainGlobals "point_of" = some (some (.ref f27))) (l27:K.lookup f27=some ⟨oc27,od27,.func (PySem.W.fnOf "point_of" "point_of" (Zn We) (Zl We) (Zd We) .none kV27 dc27 pm27 an27 cd27 ct27),sl27⟩) (c27:PySem.W.codeIn K cd27 "point_of" = true) (k27:PySem.W.keepIn K (.ref f27)=true)
  (a28:PySem.W.nsIn K mainGlobals "shares_of" = some (some (.ref f28))) (l28:K.lookup f28=some ⟨oc28,od28,.func (PySem.W.fnOf "shares_of" "shares_of" (Zn XG) (Zl XG) (Zd XG) .none kV28 dc28 pm28 an28 cd28 ct28),sl28⟩) (c28:PySem.W.codeIn K cd28 "shares_of" = true) (k28:PySem.W.keepIn K (.ref f28)=true)
  (a29:PySem.W.nsIn K mainGlobals "clash_of" = some (some (.ref f29))) (l29:K.lookup f29=some ⟨oc29,od29,.func (PySem.W.fnOf "clash_of" "clash_of" (Zn Wm) (Zl Wm) (Zd Wm) .none kV29 dc29 pm29 an29 cd29 ct29),sl29⟩) (c29:PySem.W.codeIn K cd29 "clash_of" = true) (k29:PySem.W.keepIn K (.ref f29)=true)
  (a30:PySem.W.nsIn K mainGlobals "check_goal" = some (some (.ref f30))) (l30:K.lookup f30=some ⟨oc30,od30,.func (PySem.W.fnOf "check_goal" "check_goal" (Zn Xe) (Zl Xe) (Zd Xe) .none kV30 dc30 pm30 an30 cd30 ct30),sl30⟩) (c30:PySem.W.codeIn K cd30 "check_goal" = true) (k30:PySem.W.keepIn K (.ref f30)=true)
  (a31:PySem.W.nsIn K mainGlobals "sooner" = some (some (.ref f31))) (l31:K.lookup f31=some ⟨oc31,od31,.func (PySem.W.fnOf "sooner" "sooner" (Zn V3) (Zl V3) (Zd V3) .none kV31 dc31 pm31 an31 cd31 ct31),sl31⟩) (c31:PySem.W.codeIn K cd31 "sooner" = true) (k31:PySem.W.keepIn K (.ref f31)=true)
  (a32:PySem.W.nsIn K mainGlobals "first_stop" = some (some (.ref f32))) (l32:K.lookup f32=some ⟨oc32,od32,.func (PySem.W.fnOf "first_stop" "first_stop" (Zn Xd) (Zl Xd) (Zd Xd) .none kV32 dc32 pm32 an32 cd32 ct32),sl32⟩) (c32:PySem.W.codeIn K cd32 "first_stop" = true) (k32:PySem.W.keepIn K (.ref f32)=true)
  (a33:PySem.W.nsIn K mainGlobals "way_of" = some (some (.ref f33))) (l33:K.lookup f33=some ⟨oc33,od33,.func (PySem.W.fnOf "way_of" "way_of" (Zn V1) (Zl V1) (Zd V1) .none kV33 dc33 pm33 an33 cd33 ct33),sl33⟩) (c33:PySem.W.codeIn K cd33 "way_of" = true) (k33:PySem.W.keepIn K (.ref f33)=true)
  (a34:PySem.W.nsIn K mainGlobals "climbed" = some (some (.ref f34))) (l34:K.lookup f34=some ⟨oc34,od34,.func (PySem.W.fnOf "climbed" "climbed" (Zn W1) (Zl W1) (Zd W1) .none kV34 dc34 pm34 an34 cd34 ct34),sl34⟩) (c34:PySem.W.codeIn K cd34 "climbed" = true) (k34:PySem.W.keepIn K (.ref f34)=true)
  (a35:PySem.W.nsIn K mainGlobals "best" = some (some (.ref f35))) (l35:K.lookup f35=some ⟨oc35,od35,.func (PySem.W.fnOf "best" "best" (Zn zaN) (Zl zaN) (Zd zaN) .none kV35 dc35 pm35 an35 cd35 ct35),sl35⟩) (c35:PySem.W.codeIn K cd35 "best" = true) (k35:PySem.W.keepIn K (.ref f35)=true)
  (a36:PySem.W.nsIn K mainGlobals "top" = some (some (.ref f36))) (l36:K.lookup f36=some ⟨oc36,od36,.func (PySem.W.fnOf "top" "top" (Zn ze7) (Zl ze7) (Zd ze7) .none kV36 dc36 pm36 an36 cd36 ct36),sl36⟩) (c36:PySem.W.codeIn K cd36 "top" = true) (k36:PySem.W.keepIn K (.ref f36)=true)
  (a37:PySem.W.nsIn K mainGlobals "stretch" = some (some (.ref f37))) (l37:K.lookup f37=some ⟨oc37,od37,.func (PySem.W.fnOf "stretch" "stretch" (Zn WX) (Zl WX) (Zd WX) .none kV37 dc37 pm37 an37 cd37 ct37),sl37⟩) (c37:PySem.W.codeIn K cd37 "stretch" = true) (k37:PySem.W.keepIn K (.ref f37)=true)
  (a38:PySem.W.nsIn K mainGlobals "judged" = some (some (.ref f38))) (l38:K.lookup f38=some ⟨oc38,od38,.func (PySem.W.fnOf "judged" "judged" (Zn V4) (Zl V4) (Zd V4) .none kV38 dc38 pm38 an38 cd38 ct38),sl38⟩) (c38:PySem.W.codeIn K cd38 "judged" = true) (k38:PySem.W.keepIn K (.ref f38)=true)
  (a39:PySem.W.nsIn K mainGlobals "whole_stretch" = some (some (.ref f39))) (l39:K.lookup f39=some ⟨oc39,od39,.func (PySem.W.fnOf "whole_stretch" "whole_stretch" (Zn Ym) (Zl Ym) (Zd Ym) .none kV39 dc39 pm39 an39 cd39 ct39),sl39⟩) (c39:PySem.W.codeIn K cd39 "whole_stretch" = true) (k39:PySem.W.keepIn K (.ref f39)=true)
  (a40:PySem.W.nsIn K mainGlobals "count_of" = some (some (.ref f40))) (l40:K.lookup f40=some ⟨oc40,od40,.func (PySem.W.fnOf "count_of" "count_of" (Zn Wl) (Zl Wl) (Zd Wl) .none kV40 dc40 pm40 an40 cd40 ct40),sl40⟩) (c40:PySem.W.codeIn K cd40 "count_of" = true) (k40:PySem.W.keepIn K (.ref f40)=true)
  (a41:PySem.W.nsIn K mainGlobals "point_at" = some (some (.ref f41))) (l41:K.lookup f41=some ⟨oc41,od41,.func (PySem.W.fnOf "point_at" "point_at" (Zn Wf) (Zl Wf) (Zd Wf) .none kV41 dc41 pm41 an41 cd41 ct41),sl41⟩) (c41:PySem.W.codeIn K cd41 "point_at" = true) (k41:PySem.W.keepIn K (.ref f41)=true)
  (a42:PySem.W.nsIn K mainGlobals "keeps_all" = some (some (.ref f42))) (l42:K.lookup f42=some ⟨oc42,od42,.func (PySem.W.fnOf "keeps_all" "keeps_all" (Zn XH) (Zl XH) (Zd XH) .none kV42 dc42 pm42 an42 cd42 ct42),sl42⟩) (c42:PySem.W.codeIn K cd42 "keeps_all" = true) (k42:PySem.W.keepIn K (.ref f42)=true)
  (a43:PySem.W.nsIn K mainGlobals "whole_points" = some (some (.ref f43))) (l43:K.lookup f43=some ⟨oc43,od43,.func (PySem.W.fnOf "whole_points" "whole_points" (Zn Yw) (Zl Yw) (Zd Yw) .none kV43 dc43 pm43 an43 cd43 ct43),sl43⟩) (c43:PySem.W.codeIn K cd43 "whole_points" = true) (k43:PySem.W.keepIn K (.ref f43)=true)
  (a44:PySem.W.nsIn K mainGlobals "_law_cell_at" = some (some (.ref f44))) (l44:K.lookup f44=some ⟨oc44,od44,.func (PySem.W.fnOf "_law_cell_at" "_law_cell_at" (Zn YM) (Zl YM) (Zd YM) .none kV44 dc44 pm44 an44 cd44 ct44),sl44⟩) (c44:PySem.W.codeIn K cd44 "_law_cell_at" = true) (k44:PySem.W.keepIn K (.ref f44)=true)
  (a45:PySem.W.nsIn K mainGlobals "_law_number" = some (some (.ref f45))) (l45:K.lookup f45=some ⟨oc45,od45,.func (PySem.W.fnOf "_law_number" "_law_number" (Zn Xa) (Zl Xa) (Zd Xa) .none kV45 dc45 pm45 an45 cd45 ct45),sl45⟩) (c45:PySem.W.codeIn K cd45 "_law_number" = true) (k45:PySem.W.keepIn K (.ref f45)=true)
  (a46:PySem.W.nsIn K mainGlobals "_law_copied" = some (some (.ref f46))) (l46:K.lookup f46=some ⟨oc46,od46,.func (PySem.W.fnOf "_law_copied" "_law_copied" (Zn Xc) (Zl Xc) (Zd Xc) .none kV46 dc46 pm46 an46 cd46 ct46),sl46⟩) (c46:PySem.W.codeIn K cd46 "_law_copied" = true) (k46:PySem.W.keepIn K (.ref f46)=true)
  (a47:PySem.W.nsIn K mainGlobals "_law_limits" = some (some (.ref f47))) (l47:K.lookup f47=some ⟨oc47,od47,.func (PySem.W.fnOf "_law_limits" "_law_limits" (Zn Xb) (Zl Xb) (Zd Xb) .none kV47 dc47 pm47 an47 cd47 ct47),sl47⟩) (c47:PySem.W.codeIn K cd47 "_law_limits" = true) (k47:PySem.W.keepIn K (.ref f47)=true)
  (a48:PySem.W.nsIn K mainGlobals "_law_box" = some (some (.ref f48))) (l48:K.lookup f48=some ⟨oc48,od48,.func (PySem.W.fnOf "_law_box" "_law_box" (Zn WZ) (Zl WZ) (Zd WZ) .none kV48 dc48 pm48 an48 cd48 ct48),sl48⟩) (c48:PySem.W.codeIn K cd48 "_law_box" = true) (k48:PySem.W.keepIn K (.ref f48)=true)
  (a49:PySem.W.nsIn K mainGlobals "_law_kept" = some (some (.ref f49))) (l49:K.lookup f49=some ⟨oc49,od49,.func (PySem.W.fnOf "_law_kept" "_law_kept" (Zn Wj) (Zl Wj) (Zd Wj) .none kV49 dc49 pm49 an49 cd49 ct49),sl49⟩) (c49:PySem.W.codeIn K cd49 "_law_kept" = true) (k49:PySem.W.keepIn K (.ref f49)=true)
  (a50:PySem.W.nsIn K mainGlobals "_law_long" = some (some (.ref f50))) (l50:K.lookup f50=some ⟨oc50,od50,.func (PySem.W.fnOf "_law_long" "_law_long" (Zn Wi) (Zl Wi) (Zd Wi) .none kV50 dc50 pm50 an50 cd50 ct50),sl50⟩) (c50:PySem.W.codeIn K cd50 "_law_long" = true) (k50:PySem.W.keepIn K (.ref f50)=true)
  (a51:PySem.W.nsIn K mainGlobals "_law_thin" = some (some (.ref f51))) (l51:K.lookup f51=some ⟨oc51,od51,.func (PySem.W.fnOf "_law_thin" "_law_thin" (Zn Wh) (Zl Wh) (Zd Wh) .none kV51 dc51 pm51 an51 cd51 ct51),sl51⟩) (c51:PySem.W.codeIn K cd51 "_law_thin" = true) (k51:PySem.W.keepIn K (.ref f51)=true)
  (a52:PySem.W.nsIn K mainGlobals "_law_without_end" = some (some (.ref f52))) (l52:K.lookup f52=some ⟨oc52,od52,.func (PySem.W.fnOf "_law_without_end" "_law_without_end" (Zn Z6) (Zl Z6) (Zd Z6) .none kV52 dc52 pm52 an52 cd52 ct52),sl52⟩) (c52:PySem.W.codeIn K cd52 "_law_without_end" = true) (k52:PySem.W.keepIn K (.ref f52)=true)
  (a53:PySem.W.nsIn K mainGlobals "law" = some (some (.ref f53))) (l53:K.lookup f53=some ⟨oc53,od53,.func (PySem.W.fnOf "law" "law" (Zn zbr) (Zl zbr) (Zd zbr) .none kV53 dc53 pm53 an53 cd53 ct53),sl53⟩) (c53:PySem.W.codeIn K cd53 "law" = true) (k53:PySem.W.keepIn K (.ref f53)=true)
  (z_isinstance:PySem.W.nsIn K mainGlobals "isinstance" = some none)
  (z_int:PySem.W.nsIn K mainGlobals "int" = some none)
  (z_bool:PySem.W.nsIn K mainGlobals "bool" = some none)
  (z_abs:PySem.W.nsIn K mainGlobals "abs" = some none)
  (z_tuple:PySem.W.nsIn K mainGlobals "tuple" = some none)
  (z_len:PySem.W.nsIn K mainGlobals "len" = some none)
  (z_list:PySem.W.nsIn K mainGlobals "list" = some none)
  (z_all:PySem.W.nsIn K mainGlobals "all" = some none)
  (z_zip:PySem.W.nsIn K mainGlobals "zip" = some none)
  (z_enumerate:PySem.W.nsIn K mainGlobals "enumerate" = some none)
  (z_range:PySem.W.nsIn K mainGlobals "range" = some none)
  (z_min:PySem.W.nsIn K mainGlobals "min" = some none)
  (z_reversed:PySem.W.nsIn K mainGlobals "reversed" = some none)
  (z_ValueError:PySem.W.nsIn K mainGlobals "ValueError" = some none)
  (g_GREATEST_NUMBER:PySem.W.nsIn K mainGlobals "GREATEST_NUMBER" = some (some (.int 999999999999 tg_GREATEST_NUMBER)))
  (g_MOST_KINDS:PySem.W.nsIn K mainGlobals "MOST_KINDS" = some (some (.int 4 tg_MOST_KINDS)))
  (g_MOST_LIMITS:PySem.W.nsIn K mainGlobals "MOST_LIMITS" = some (some (.int 10 tg_MOST_LIMITS)))
  (g_MOST_POINTS:PySem.W.nsIn K mainGlobals "MOST_POINTS" = some (some (.int 400 tg_MOST_POINTS)))
  (x_NoDesk:PySem.W.nsIn K mainGlobals "NoDesk" = some (some (.ref X_NoDesk))) (q_NoDesk:PySem.W.excIn K X_NoDesk [.type "ValueError",.type "Exception",.type "BaseException",.type "object"] "ValueError.__new__" = true)
  (x_BadPoint:PySem.W.nsIn K mainGlobals "BadPoint" = some (some (.ref X_BadPoint))) (q_BadPoint:PySem.W.excIn K X_BadPoint [.type "ValueError",.type "Exception",.type "BaseException",.type "object"] "ValueError.__new__" = true)
  (x_NoPlace:PySem.W.nsIn K mainGlobals "NoPlace" = some (some (.ref X_NoPlace))) (q_NoPlace:PySem.W.excIn K X_NoPlace [.type "ValueError",.type "Exception",.type "BaseException",.type "object"] "ValueError.__new__" = true)
  (x_NoGoal:PySem.W.nsIn K mainGlobals "NoGoal" = some (some (.ref X_NoGoal))) (q_NoGoal:PySem.W.excIn K X_NoGoal [.type "ValueError",.type "Exception",.type "BaseException",.type "object"] "ValueError.__new__" = true)
  (x_NoPoint:PySem.W.nsIn K mainGlobals "NoPoint" = some (some (.ref X_NoPoint))) (q_NoPoint:PySem.W.excIn K X_NoPoint [.type "ValueError",.type "Exception",.type "BaseException",.type "object"] "ValueError.__new__" = true)
  (x_TooMany:PySem.W.nsIn K mainGlobals "TooMany" = some (some (.ref X_TooMany))) (q_TooMany:PySem.W.excIn K X_TooMany [.type "ValueError",.type "Exception",.type "BaseException",.type "object"] "ValueError.__new__" = true)
  (u_TooMany_TooMany:PySem.W.subIn K (.ref X_TooMany) (.ref X_TooMany)=some true)
  (u_TooMany_ValueError:PySem.W.subIn K (.ref X_TooMany) (.type "ValueError")=some true)
  (aC_Board:PySem.W.nsIn K mainGlobals "Board" = some (some (.ref C_Board))) (iI_Board:PySem.W.findIn K (.ref C_Board) "__init__" = some (some (.ref fI_Board))) (jI_Board:PySem.W.isFn K (.ref fI_Board)=true) (lI_Board:K.lookup fI_Board=some ⟨ocI_Board,odI_Board,.func (PySem.W.fnOf "__init__" "Board.__init__" (Zn Xf) (Zl Xf) (Zd Xf) .none kVI_Board dcI_Board pmI_Board anI_Board cdI_Board ctI_Board),slI_Board⟩) (cI_Board:PySem.W.codeIn K cdI_Board "Board.__init__" = true) (kI_Board:PySem.W.keepIn K (.ref fI_Board)=true)
  (pg_Board:PySem.W.plainGet K C_Board Str.empty=true) (hd_Board:PySem.W.hasDictIn K C_Board=true) (po_Board:PySem.W.plainOver K C_Board=true) (sa_Board:PySem.W.findIn K (.ref C_Board) "__setattr__" = some (some (.builtin "object.__setattr__"))) (mk_Board:PySem.W.makesIn K C_Board=true) (kc_Board:PySem.W.keepIn K (.ref C_Board)=true)
  (nA0_Board:PySem.W.findIn K (.ref C_Board) "heads" = some none)
  (nA1_Board:PySem.W.findIn K (.ref C_Board) "divisor" = some none)
  (nA2_Board:PySem.W.findIn K (.ref C_Board) "rows" = some none)
  (lc_raising_column:K.lookup cL_raising_column=some ⟨occ_raising_column,odc_raising_column,.fields vsc_raising_column,slc_raising_column⟩) (v11_raising_column:vsc_raising_column[11]? = some (.ref TL_raising_column)) (hno:PySem.W.noTabs K=true) :
  ∃(fd:FuncData) (c T:Addr),PySem.W.tabIn K "raising_column" = some (c,T)/\PySem.W.noTabs K=true/\(∀(s:Shared) (v:Value),BindsTo s fd ⟨[v],[]⟩ [("_law_script",v)])/\∀base:Heap,K.In base->base.Ns mainGlobals mg->zcb mg base->PySem.W.CodeHd base c T->FnOk l.prog w K mg base CX0 12 fa fd ["_law_script"] (Fx.spF K none 1 zhm):=by
 have e:=hfa.symm.trans (PySem.W.mg_of X G a53)
 cases e
 have F0:=Zx (st:=Wk) l0 c0 k0
 have b0:=F0.binds (ps:=["value"]) fun _ _ _ _ _ _ us hl=>match us,hl with | [_],_=>rfl
 have F1:=Zx (st:=Yc) l1 c1 k1
 have b1:=F1.binds (ps:=["a","b"]) fun _ _ _ _ _ _ us hl=>match us,hl with | [_,_],_=>rfl
 have F2:=Zx (st:=YN) l2 c2 k2
 have b2:=F2.binds (ps:=["value"]) fun _ _ _ _ _ _ us hl=>match us,hl with | [_],_=>rfl
 have F3:=Zx (st:=zaM) l3 c3 k3
 have b3:=F3.binds (ps:=["upper","lower"]) fun _ _ _ _ _ _ us hl=>match us,hl with | [_,_],_=>rfl
 have F4:=Zx (st:=zaL) l4 c4 k4
 have b4:=F4.binds (ps:=["a","b"]) fun _ _ _ _ _ _ us hl=>match us,hl with | [_,_],_=>rfl
 have F5:=Zx (st:=V2) l5 c5 k5
 have b5:=F5.binds (ps:=["a"]) fun _ _ _ _ _ _ us hl=>match us,hl with | [_],_=>rfl
 have F6:=Zx (st:=Qo) l6 c6 k6
 have b6:=F6.binds (ps:=["a","b"]) fun _ _ _ _ _ _ us hl=>match us,hl with | [_,_],_=>rfl
 have F7:=Zx (st:=XI) l7 c7 k7
 have b7:=F7.binds (ps:=["value"]) fun _ _ _ _ _ _ us hl=>match us,hl with | [_],_=>rfl
 have F8:=Zx (st:=Wg) l8 c8 k8
 have b8:=F8.binds (ps:=["kinds","limit"]) fun _ _ _ _ _ _ us hl=>match us,hl with | [_,_],_=>rfl
 have F9:=Zx (st:=W0) l9 c9 k9
 have b9:=F9.binds (ps:=["kinds","limits"]) fun _ _ _ _ _ _ us hl=>match us,hl with | [_,_],_=>rfl
 have F10:=Zx (st:=YQ) l10 c10 k10
 have b10:=F10.binds (ps:=["kinds","point"]) fun _ _ _ _ _ _ us hl=>match us,hl with | [_,_],_=>rfl
 have F11:=Zx (st:=YR) l11 c11 k11
 have b11:=F11.binds (ps:=["count","place"]) fun _ _ _ _ _ _ us hl=>match us,hl with | [_,_],_=>rfl
 have F12:=Zx (st:=V0) l12 c12 k12
 have b12:=F12.binds (ps:=["weights","point"]) fun _ _ _ _ _ _ us hl=>match us,hl with | [_,_],_=>rfl
 have F13:=Zx (st:=V5) l13 c13 k13
 have b13:=F13.binds (ps:=["desk","point"]) fun _ _ _ _ _ _ us hl=>match us,hl with | [_,_],_=>rfl
 have F14:=Zx (st:=zaK) l14 c14 k14
 have b14:=F14.binds (ps:=["length","place"]) fun _ _ _ _ _ _ us hl=>match us,hl with | [_,_],_=>rfl
 have F15:=Zx (st:=Wd) l15 c15 k15
 have b15:=F15.binds (ps:=["limit"]) fun _ _ _ _ _ _ us hl=>match us,hl with | [_],_=>rfl
 have F16:=Zx (st:=YO) l16 c16 k16
 have b16:=F16.binds (ps:=["desk","goal"]) fun _ _ _ _ _ _ us hl=>match us,hl with | [_,_],_=>rfl
 have F17:=Zx (st:=Wc) l17 c17 k17
 have b17:=F17.binds (ps:=["board"]) fun _ _ _ _ _ _ us hl=>match us,hl with | [_],_=>rfl
 have F18:=Zx (st:=Wb) l18 c18 k18
 have b18:=F18.binds (ps:=["board"]) fun _ _ _ _ _ _ us hl=>match us,hl with | [_],_=>rfl
 have F19:=Zx (st:=YL) l19 c19 k19
 have b19:=F19.binds (ps:=["row","line","column","divisor"]) fun _ _ _ _ _ _ us hl=>match us,hl with | [_,_,_,_],_=>rfl
 have F20:=Zx (st:=WW) l20 c20 k20
 have b20:=F20.binds (ps:=["board","thing","column"]) fun _ _ _ _ _ _ us hl=>match us,hl with | [_,_,_],_=>rfl
 have F21:=Zx (st:=Yn) l21 c21 k21
 have b21:=F21.binds (ps:=["board","column"]) fun _ _ _ _ _ _ us hl=>match us,hl with | [_,_],_=>rfl
 have F22:=Zx (st:=Qn) l22 c22 k22
 have b22:=F22.binds (ps:=["board"]) fun _ _ _ _ _ _ us hl=>match us,hl with | [_],_=>rfl
 have F23:=Zx (st:=Qm) l23 c23 k23
 have b23:=F23.binds (ps:=["board","column","number"]) fun _ _ _ _ _ _ us hl=>match us,hl with | [_,_,_],_=>rfl
 have F24:=Zx (st:=Yb) l24 c24 k24
 have b24:=F24.binds (ps:=["board","thing"]) fun _ _ _ _ _ _ us hl=>match us,hl with | [_,_],_=>rfl
 have F25:=Zx (st:=Y9) l25 c25 k25
 have b25:=F25.binds (ps:=["board"]) fun _ _ _ _ _ _ us hl=>match us,hl with | [_],_=>rfl
 have F26:=Zx (st:=WY) l26 c26 k26
 have b26:=F26.binds (ps:=["desk","goal"]) fun _ _ _ _ _ _ us hl=>match us,hl with | [_,_],_=>rfl
 have F27:=Zx (st:=We) l27 c27 k27
 have b27:=F27.binds (ps:=["board"]) fun _ _ _ _ _ _ us hl=>match us,hl with | [_],_=>rfl
 have F28:=Zx (st:=XG) l28 c28 k28
 have b28:=F28.binds (ps:=["board","thing"]) fun _ _ _ _ _ _ us hl=>match us,hl with | [_,_],_=>rfl
 have F29:=Zx (st:=Wm) l29 c29 k29
 have b29:=F29.binds (ps:=["board","thing"]) fun _ _ _ _ _ _ us hl=>match us,hl with | [_,_],_=>rfl
 have F30:=Zx (st:=Xe) l30 c30 k30
 have b30:=F30.binds (ps:=["kinds","goal"]) fun _ _ _ _ _ _ us hl=>match us,hl with | [_,_],_=>rfl
 have F31:=Zx (st:=V3) l31 c31 k31
 have b31:=F31.binds (ps:=["row","other","column"]) fun _ _ _ _ _ _ us hl=>match us,hl with | [_,_,_],_=>rfl
 have F32:=Zx (st:=Xd) l32 c32 k32
 have b32:=F32.binds (ps:=["board","column"]) fun _ _ _ _ _ _ us hl=>match us,hl with | [_,_],_=>rfl
 have F33:=Zx (st:=V1) l33 c33 k33
 have b33:=F33.binds (ps:=["board","column"]) fun _ _ _ _ _ _ us hl=>match us,hl with | [_,_],_=>rfl
 have F34:=Zx (st:=W1) l34 c34 k34
 have b34:=F34.binds (ps:=["board"]) fun _ _ _ _ _ _ us hl=>match us,hl with | [_],_=>rfl
 have F35:=Zx (st:=zaN) l35 c35 k35
 have b35:=F35.binds (ps:=["desk","goal"]) fun _ _ _ _ _ _ us hl=>match us,hl with | [_,_],_=>rfl
 have F36:=Zx (st:=ze7) l36 c36 k36
 have b36:=F36.binds (ps:=["desk","goal"]) fun _ _ _ _ _ _ us hl=>match us,hl with | [_,_],_=>rfl
 have F37:=Zx (st:=WX) l37 c37 k37
 have b37:=F37.binds (ps:=["desk","kind"]) fun _ _ _ _ _ _ us hl=>match us,hl with | [_,_],_=>rfl
 have F38:=Zx (st:=V4) l38 c38 k38
 have b38:=F38.binds (ps:=["desk"]) fun _ _ _ _ _ _ us hl=>match us,hl with | [_],_=>rfl
 have F39:=Zx (st:=Ym) l39 c39 k39
 have b39:=F39.binds (ps:=["desk","kind"]) fun _ _ _ _ _ _ us hl=>match us,hl with | [_,_],_=>rfl
 have F40:=Zx (st:=Wl) l40 c40 k40
 have b40:=F40.binds (ps:=["stretches"]) fun _ _ _ _ _ _ us hl=>match us,hl with | [_],_=>rfl
 have F41:=Zx (st:=Wf) l41 c41 k41
 have b41:=F41.binds (ps:=["stretches","number"]) fun _ _ _ _ _ _ us hl=>match us,hl with | [_,_],_=>rfl
 have F42:=Zx (st:=XH) l42 c42 k42
 have b42:=F42.binds (ps:=["desk","point"]) fun _ _ _ _ _ _ us hl=>match us,hl with | [_,_],_=>rfl
 have F43:=Zx (st:=Yw) l43 c43 k43
 have b43:=F43.binds (ps:=["desk"]) fun _ _ _ _ _ _ us hl=>match us,hl with | [_],_=>rfl
 have F44:=Zx (st:=YM) l44 c44 k44
 have b44:=F44.binds (ps:=["_law_script","_law_k"]) fun _ _ _ _ _ _ us hl=>match us,hl with | [_,_],_=>rfl
 have F45:=Zx (st:=Xa) l45 c45 k45
 have b45:=F45.binds (ps:=["_law_cell","_law_wide"]) fun _ _ _ _ _ _ us hl=>match us,hl with | [_,_],_=>rfl
 have F46:=Zx (st:=Xc) l46 c46 k46
 have b46:=F46.binds (ps:=["_law_limits_here"]) fun _ _ _ _ _ _ us hl=>match us,hl with | [_],_=>rfl
 have F47:=Zx (st:=Xb) l47 c47 k47
 have b47:=F47.binds (ps:=["_law_script","_law_kinds","_law_lacking"]) fun _ _ _ _ _ _ us hl=>match us,hl with | [_,_,_],_=>rfl
 have F48:=Zx (st:=WZ) l48 c48 k48
 have b48:=F48.binds (ps:=["_law_kinds"]) fun _ _ _ _ _ _ us hl=>match us,hl with | [_],_=>rfl
 have F49:=Zx (st:=Wj) l49 c49 k49
 have b49:=F49.binds (ps:=["_law_limits_here","_law_row"]) fun _ _ _ _ _ _ us hl=>match us,hl with | [_,_],_=>rfl
 have F50:=Zx (st:=Wi) l50 c50 k50
 have b50:=F50.binds (ps:=["_law_script"]) fun _ _ _ _ _ _ us hl=>match us,hl with | [_],_=>rfl
 have F51:=Zx (st:=Wh) l51 c51 k51
 have b51:=F51.binds (ps:=["_law_script"]) fun _ _ _ _ _ _ us hl=>match us,hl with | [_],_=>rfl
 have F52:=Zx (st:=Z6) l52 c52 k52
 have b52:=F52.binds (ps:=["_law_desk","_law_kind","_law_side"]) fun _ _ _ _ _ _ us hl=>match us,hl with | [_,_,_],_=>rfl
 have F53:=Zx (st:=zbr) l53 c53 k53
 have b53:=F53.binds (ps:=["_law_script"]) fun _ _ _ _ _ _ us hl=>match us,hl with | [_],_=>rfl
 have FI_Board:=Zx (st:=Xf) lI_Board cI_Board kI_Board
 have bI_Board:=FI_Board.binds (ps:=["self","heads","divisor","rows"]) fun _ _ _ _ _ _ us hl=>match us,hl with | [_,_,_,_],_=>rfl
 have tL_raising_column:PySem.W.tabIn K "raising_column" = some (cL_raising_column,TL_raising_column):=Fx.tab_mk a24 l24 rfl lc_raising_column v11_raising_column
 have m_isinstance:=PySem.W.mg_none_of X G z_isinstance
 have m_int:=PySem.W.mg_none_of X G z_int
 have m_bool:=PySem.W.mg_none_of X G z_bool
 have m_abs:=PySem.W.mg_none_of X G z_abs
 have m_tuple:=PySem.W.mg_none_of X G z_tuple
 have m_len:=PySem.W.mg_none_of X G z_len
 have m_list:=PySem.W.mg_none_of X G z_list
 have m_all:=PySem.W.mg_none_of X G z_all
 have m_zip:=PySem.W.mg_none_of X G z_zip
 have m_enumerate:=PySem.W.mg_none_of X G z_enumerate
 have m_range:=PySem.W.mg_none_of X G z_range
 have m_min:=PySem.W.mg_none_of X G z_min
 have m_reversed:=PySem.W.mg_none_of X G z_reversed
 have m_ValueError:=PySem.W.mg_none_of X G z_ValueError
 have n_GREATEST_NUMBER:=PySem.W.mg_of X G g_GREATEST_NUMBER
 have n_MOST_KINDS:=PySem.W.mg_of X G g_MOST_KINDS
 have n_MOST_LIMITS:=PySem.W.mg_of X G g_MOST_LIMITS
 have n_MOST_POINTS:=PySem.W.mg_of X G g_MOST_POINTS
 obtain⟨cl,hcl⟩:∃cl:Str->Value,cl "NoDesk" = .ref X_NoDesk/\cl "BadPoint" = .ref X_BadPoint/\cl "NoPlace" = .ref X_NoPlace/\cl "NoGoal" = .ref X_NoGoal/\cl "NoPoint" = .ref X_NoPoint/\cl "TooMany" = .ref X_TooMany/\True:=⟨fun c=>if c = "NoDesk" then .ref X_NoDesk else if c = "BadPoint" then .ref X_BadPoint else if c = "NoPlace" then .ref X_NoPlace else if c = "NoGoal" then .ref X_NoGoal else if c = "NoPoint" then .ref X_NoPoint else if c = "TooMany" then .ref X_TooMany else .none,(if_pos rfl),((if_neg (by decide)).trans (if_pos rfl)),((if_neg (by decide)).trans ((if_neg (by decide)).trans (if_pos rfl))),((if_neg (by decide)).trans ((if_neg (by decide)).trans ((if_neg (by decide)).trans (if_pos rfl)))),((if_neg (by decide)).trans ((if_neg (by decide)).trans ((if_neg (by decide)).trans ((if_neg (by decide)).trans (if_pos rfl))))),((if_neg (by decide)).trans ((if_neg (by decide)).trans ((if_neg (by decide)).trans ((if_neg (by decide)).trans ((if_neg (by decide)).trans (if_pos rfl)))))),trivial⟩
 obtain⟨e_NoDesk,hcl⟩:=hcl
 obtain⟨e_BadPoint,hcl⟩:=hcl
 obtain⟨e_NoPlace,hcl⟩:=hcl
 obtain⟨e_NoGoal,hcl⟩:=hcl
 obtain⟨e_NoPoint,hcl⟩:=hcl
 obtain⟨e_TooMany,hcl⟩:=hcl
 have c_NoDesk:Fx.XCls K mg "NoDesk" X_NoDesk:=⟨PySem.W.mg_of X G x_NoDesk,q_NoDesk⟩
 have c_BadPoint:Fx.XCls K mg "BadPoint" X_BadPoint:=⟨PySem.W.mg_of X G x_BadPoint,q_BadPoint⟩
 have c_NoPlace:Fx.XCls K mg "NoPlace" X_NoPlace:=⟨PySem.W.mg_of X G x_NoPlace,q_NoPlace⟩
 have c_NoGoal:Fx.XCls K mg "NoGoal" X_NoGoal:=⟨PySem.W.mg_of X G x_NoGoal,q_NoGoal⟩
 have c_NoPoint:Fx.XCls K mg "NoPoint" X_NoPoint:=⟨PySem.W.mg_of X G x_NoPoint,q_NoPoint⟩
 have c_TooMany:Fx.XCls K mg "TooMany" X_TooMany:=⟨PySem.W.mg_of X G x_TooMany,q_TooMany⟩
 refine⟨PySem.W.fnOf "law" "law" (Zn zbr) (Zl zbr) (Zd zbr) .none kV53 dc53 pm53 an53 cd53 ct53,cL_raising_column,TL_raising_column,tL_raising_column,hno,fun s v=>.of_eq rfl,fun base hKb _ hB hC=>?_⟩
 have L_raising_column:Fx.LamHyp K mg base "raising_column" cL_raising_column TL_raising_column:=⟨tL_raising_column,zbd tL_raising_column hKb hC,hB⟩
 have hcode_raising_column:=PySem.W.law_code X G tL_raising_column (PySem.W.mg_of X G a24) (X _ _ l24) rfl
 have M_Board:Fx.Mko l.prog w K mg base 1 "Board" ["heads","divisor","rows"]:=⟨C_Board,fI_Board,_,_,⟨mk_Board,iI_Board,jI_Board,kc_Board⟩,zbD FI_Board ⟨pg_Board,hd_Board,po_Board,sa_Board⟩ nA0_Board nA1_Board nA2_Board,PySem.W.mg_of X G aC_Board,bI_Board,⟨pg_Board,hd_Board,po_Board,sa_Board⟩,fun n hn=>by
  rcases List.mem_cons.mp hn with rfl | hn
  ·exact nA0_Board
  ·rcases List.mem_cons.mp hn with rfl | hn
   ·exact nA1_Board
   ·rw[List.mem_singleton.mp hn];exact nA2_Board⟩
 have R_is_whole:=zdF (P:=l.prog) (w:=w) (base:=base) (k:=0) F0 (PySem.W.mg_of X G a0) b0 m_isinstance m_int m_bool
 have R_common_divisor:=Qr (P:=l.prog) (w:=w) (base:=base) (k:=0) F1 (PySem.W.mg_of X G a1) b1 m_abs
 have R_is_fraction:=zaz (P:=l.prog) (w:=w) (base:=base) (k:=1) F2 (PySem.W.mg_of X G a2) b2 m_isinstance m_tuple m_len (R_is_whole.mono (by decide)) (R_common_divisor.mono (by decide))
 have R_frac:=ok_frac (P:=l.prog) (w:=w) (base:=base) (k:=1) F3 (PySem.W.mg_of X G a3) b3 (R_common_divisor.mono (by decide))
 have R_plus:=ok_plus (P:=l.prog) (w:=w) (base:=base) (k:=2) F4 (PySem.W.mg_of X G a4) b4 (R_frac.mono (by decide))
 have R_turned:=zgM (P:=l.prog) (w:=w) (base:=base) (k:=0) F5 (PySem.W.mg_of X G a5) b5 
 have R_below:=ok_below (P:=l.prog) (w:=w) (base:=base) (k:=0) F6 (PySem.W.mg_of X G a6) b6 
 have R_is_number:=zcE (P:=l.prog) (w:=w) (base:=base) (k:=1) F7 (PySem.W.mg_of X G a7) b7 m_abs ⟨_,n_GREATEST_NUMBER⟩ (R_is_whole.mono (by decide))
 have R_limit_of:=zdB (P:=l.prog) (w:=w) (base:=base) (k:=2) (cl:=cl) F8 (PySem.W.mg_of X G a8) b8 m_isinstance m_tuple m_len m_list m_all c_NoDesk e_NoDesk (R_is_number.mono (by decide))
 have R_desk_of:=zfe (P:=l.prog) (w:=w) (base:=base) (k:=3) (cl:=cl) F9 (PySem.W.mg_of X G a9) b9 m_isinstance m_list m_len m_tuple ⟨_,n_MOST_KINDS⟩ ⟨_,n_MOST_LIMITS⟩ c_NoDesk e_NoDesk (R_is_whole.mono (by decide)) (R_limit_of.mono (by decide))
 have R_check_point:=zaB (P:=l.prog) (w:=w) (base:=base) (k:=2) (cl:=cl) F10 (PySem.W.mg_of X G a10) b10 m_isinstance m_list m_len m_all c_BadPoint e_BadPoint (R_is_fraction.mono (by decide))
 have R_check_place:=zaC (P:=l.prog) (w:=w) (base:=base) (k:=1) (cl:=cl) F11 (PySem.W.mg_of X G a11) b11 c_NoPlace e_NoPlace (R_is_whole.mono (by decide))
 have R_weight:=zgK (P:=l.prog) (w:=w) (base:=base) (k:=3) F12 (PySem.W.mg_of X G a12) b12 m_zip (R_frac.mono (by decide)) (R_plus.mono (by decide))
 have R_broken:=zgP (P:=l.prog) (w:=w) (base:=base) (k:=4) (cl:=cl) F13 (PySem.W.mg_of X G a13) b13 m_enumerate (R_check_point.mono (by decide)) (R_weight.mono (by decide)) (R_below.mono (by decide))
 have R_unit:=ok_unit (P:=l.prog) (w:=w) (base:=base) (k:=0) F14 (PySem.W.mg_of X G a14) b14 
 have R_room_row:=zdy (P:=l.prog) (w:=w) (base:=base) (k:=0) F15 (PySem.W.mg_of X G a15) b15 
 have R_first_board:=zaA (P:=l.prog) (w:=w) (base:=base) (k:=0) F16 (PySem.W.mg_of X G a16) b16 m_range m_list (R_unit.mono (by decide)) (R_room_row.mono (by decide)) (M_Board.mono (by decide))
 have R_rooms_of:=zdx (P:=l.prog) (w:=w) (base:=base) (k:=0) F17 (PySem.W.mg_of X G a17) b17 m_list m_range m_len
 have R_worth_of:=zdw (P:=l.prog) (w:=w) (base:=base) (k:=0) F18 (PySem.W.mg_of X G a18) b18 m_len
 have R_swapped_row:=zax (P:=l.prog) (w:=w) (base:=base) (k:=0) F19 (PySem.W.mg_of X G a19) b19 m_abs m_zip
 have R_swapped:=zfa (P:=l.prog) (w:=w) (base:=base) (k:=0) F20 (PySem.W.mg_of X G a20) b20 m_list m_abs (R_swapped_row.mono (by decide)) (M_Board.mono (by decide))
 have R_first_room_on:=Jd (P:=l.prog) (w:=w) (base:=base) (k:=1) F21 (PySem.W.mg_of X G a21) b21 (R_rooms_of.mono (by decide))
 have R_freed:=ok_freed (P:=l.prog) (w:=w) (base:=base) (k:=3) F22 (PySem.W.mg_of X G a22) b22 m_range m_len (R_first_room_on.mono (by decide)) (R_swapped.mono (by decide))
 have R_helps:=ok_helps (P:=l.prog) (w:=w) (base:=base) (k:=0) F23 (PySem.W.mg_of X G a23) b23 m_len
 have R_raising_column:=Qq (P:=l.prog) (w:=w) (base:=base) (k:=0) F24 (PySem.W.mg_of X G a24) b24 m_range m_len m_min (R_helps.mono (by decide)) L_raising_column hcode_raising_column
 have R_short_room:=zbx (P:=l.prog) (w:=w) (base:=base) (k:=1) F25 (PySem.W.mg_of X G a25) b25 (R_rooms_of.mono (by decide))
 have R_settled:=zfc (P:=l.prog) (w:=w) (base:=base) (k:=4) F26 (PySem.W.mg_of X G a26) b26 (R_first_board.mono (by decide)) (R_freed.mono (by decide)) (R_short_room.mono (by decide)) (R_raising_column.mono (by decide)) (R_swapped.mono (by decide))
 have R_point_of:=zdz (P:=l.prog) (w:=w) (base:=base) (k:=2) F27 (PySem.W.mg_of X G a27) b27 m_range m_len (R_frac.mono (by decide))
 have R_shares_of:=zcC (P:=l.prog) (w:=w) (base:=base) (k:=2) F28 (PySem.W.mg_of X G a28) b28 m_len m_zip (R_rooms_of.mono (by decide)) (R_frac.mono (by decide))
 have R_clash_of:=zdH (P:=l.prog) (w:=w) (base:=base) (k:=3) F29 (PySem.W.mg_of X G a29) b29 m_len (R_shares_of.mono (by decide))
 have R_check_goal:=zbC (P:=l.prog) (w:=w) (base:=base) (k:=1) (cl:=cl) F30 (PySem.W.mg_of X G a30) b30 m_isinstance m_list m_len m_all c_NoGoal e_NoGoal (R_is_whole.mono (by decide))
 have R_sooner:=zgN (P:=l.prog) (w:=w) (base:=base) (k:=0) F31 (PySem.W.mg_of X G a31) b31 
 have R_first_stop:=zbB (P:=l.prog) (w:=w) (base:=base) (k:=1) F32 (PySem.W.mg_of X G a32) b32 (R_rooms_of.mono (by decide)) (R_sooner.mono (by decide))
 have R_way_of:=zgL (P:=l.prog) (w:=w) (base:=base) (k:=2) F33 (PySem.W.mg_of X G a33) b33 m_range m_len (R_worth_of.mono (by decide)) (R_frac.mono (by decide))
 have R_climbed:=zff (P:=l.prog) (w:=w) (base:=base) (k:=3) F34 (PySem.W.mg_of X G a34) b34 (R_worth_of.mono (by decide)) (R_raising_column.mono (by decide)) (R_first_stop.mono (by decide)) (R_point_of.mono (by decide)) (R_way_of.mono (by decide)) (R_swapped.mono (by decide)) (R_shares_of.mono (by decide))
 have R_best:=ok_best (P:=l.prog) (w:=w) (base:=base) (k:=5) (cl:=cl) F35 (PySem.W.mg_of X G a35) b35 (R_check_goal.mono (by decide)) (R_settled.mono (by decide)) (R_clash_of.mono (by decide)) (R_climbed.mono (by decide))
 have R_top:=ok_top (P:=l.prog) (w:=w) (base:=base) (k:=6) (cl:=cl) F36 (PySem.W.mg_of X G a36) b36 c_NoPoint e_NoPoint (R_best.mono (by decide)) (R_weight.mono (by decide))
 have R_stretch:=zfb (P:=l.prog) (w:=w) (base:=base) (k:=7) (cl:=cl) F37 (PySem.W.mg_of X G a37) b37 (R_check_place.mono (by decide)) (R_unit.mono (by decide)) (R_top.mono (by decide)) (R_turned.mono (by decide))
 have R_judged:=zgO (P:=l.prog) (w:=w) (base:=base) (k:=5) F38 (PySem.W.mg_of X G a38) b38 (R_settled.mono (by decide)) (R_point_of.mono (by decide)) (R_clash_of.mono (by decide))
 have R_whole_stretch:=Jc (P:=l.prog) (w:=w) (base:=base) (k:=8) (cl:=cl) F39 (PySem.W.mg_of X G a39) b39 c_TooMany e_TooMany (R_stretch.mono (by decide))
 have R_count_of:=zdG (P:=l.prog) (w:=w) (base:=base) (k:=0) F40 (PySem.W.mg_of X G a40) b40 
 have R_point_at:=zdA (P:=l.prog) (w:=w) (base:=base) (k:=0) F41 (PySem.W.mg_of X G a41) b41 m_reversed
 have R_keeps_all:=zcD (P:=l.prog) (w:=w) (base:=base) (k:=5) (cl:=cl) F42 (PySem.W.mg_of X G a42) b42 (R_broken.mono (by decide))
 have R_whole_points:=JE (P:=l.prog) (w:=w) (base:=base) (k:=9) (cl:=cl) F43 (PySem.W.mg_of X G a43) b43 m_range ⟨_,n_MOST_POINTS⟩ c_TooMany e_TooMany (R_judged.mono (by decide)) (R_whole_stretch.mono (by decide)) (R_count_of.mono (by decide)) (R_point_at.mono (by decide)) (R_keeps_all.mono (by decide))
 have R_law_cell_at:=zay (P:=l.prog) (w:=w) (base:=base) (k:=0) F44 (PySem.W.mg_of X G a44) b44 m_len
 have R_law_number:=zby (P:=l.prog) (w:=w) (base:=base) (k:=0) F45 (PySem.W.mg_of X G a45) b45 
 have R_law_copied:=zbA (P:=l.prog) (w:=w) (base:=base) (k:=0) F46 (PySem.W.mg_of X G a46) b46 m_list
 have R_law_limits:=zbz (P:=l.prog) (w:=w) (base:=base) (k:=1) F47 (PySem.W.mg_of X G a47) b47 m_range m_int (R_law_cell_at.mono (by decide)) (R_law_number.mono (by decide))
 have R_law_box:=zfd (P:=l.prog) (w:=w) (base:=base) (k:=0) F48 (PySem.W.mg_of X G a48) b48 m_range
 have R_law_kept:=zdE (P:=l.prog) (w:=w) (base:=base) (k:=0) F49 (PySem.W.mg_of X G a49) b49 m_range m_len
 have R_law_long:=zdD (P:=l.prog) (w:=w) (base:=base) (k:=10) (cl:=cl) F50 (PySem.W.mg_of X G a50) b50 m_range c_TooMany e_TooMany u_TooMany_TooMany (R_law_cell_at.mono (by decide)) (R_law_number.mono (by decide)) (R_desk_of.mono (by decide)) (R_whole_points.mono (by decide))
 have R_law_thin:=zdC (P:=l.prog) (w:=w) (base:=base) (k:=10) (cl:=cl) F51 (PySem.W.mg_of X G a51) b51 m_range c_TooMany e_TooMany u_TooMany_TooMany (R_law_cell_at.mono (by decide)) (R_whole_points.mono (by decide)) (R_desk_of.mono (by decide))
 have R_law_without_end:=UR (P:=l.prog) (w:=w) (base:=base) (k:=10) (cl:=cl) F52 (PySem.W.mg_of X G a52) b52 m_isinstance m_ValueError c_TooMany e_TooMany u_TooMany_TooMany u_TooMany_ValueError (R_judged.mono (by decide)) (R_whole_points.mono (by decide)) (R_stretch.mono (by decide))
 exact law_fn F53 (R_law_cell_at.mono (by decide)) (R_law_long.mono (by decide)) (R_law_thin.mono (by decide)) (R_law_limits.mono (by decide)) (R_law_copied.mono (by decide)) (R_desk_of.mono (by decide)) (R_law_without_end.mono (by decide)) (R_whole_points.mono (by decide)) (R_law_box.mono (by decide)) (R_law_kept.mono (by decide))
end K13
namespace K13
open PySem Fx
def rg (a:Int) (n:Nat):List Int:=(List.range n).map fun(i:Nat)=>a+(i:Int)
def YF:List (List Int)->List (List Int)
 | []=>[[]]
 | R::Rs=>R.flatMap fun x=>(YF Rs).map fun r=>x::r
def cnt:List (Int × Nat)->Nat
 | []=>1
 | p::r=>p.2 * cnt r
def pat:List (Int × Nat)->Nat->List Int × Nat
 | [],m=>([],m)
 | p::r,m=>((p.1+(((pat r m).2 % p.2:Nat):Int))::(pat r m).1,(pat r m).2 / p.2)
theorem zbw:∀(ss:List (Int × Nat)) (m:Nat),(pat ss m).2=m / cnt ss
 | [],m=>by simp[pat,cnt]
 | p::r,m=>by simp only[pat,cnt];rw[zbw r m,Nat.div_div_eq_div_mul,Nat.mul_comm]
theorem zgD:∀(ss:List (Int × Nat)) (m q:Nat),0 < cnt ss->(pat ss (q * cnt ss+m)).1=(pat ss m).1
 | [],m,q,_=>rfl
 | p::r,m,q,h=>by
  have h1:0 < p.2 * cnt r:=h
  have h2:0 < cnt r:=Nat.pos_of_mul_pos_left h1
  have h3:0 < p.2:=Nat.pos_of_mul_pos_right h1
  simp only[pat,cnt]
  have e:q * (p.2 * cnt r)+m=(q * p.2) * cnt r+m:=by rw[Nat.mul_assoc]
  rw[e,zgD r m (q * p.2) h2,zbw,zbw,Nat.mul_comm (q * p.2),Nat.mul_add_div h2,Nat.mul_comm q,Nat.mul_add_mod]
theorem zcv (f:Nat->List Int) (c:Nat):∀n,(List.range (n * c)).map f=(List.range n).flatMap fun q=>(List.range c).map fun t=>f (q * c+t)
 | 0=>by simp
 | n+1=>by
  rw[Nat.succ_mul,List.range_add,List.map_append,zcv f c n,List.range_succ,List.flatMap_append,List.map_map]
  simp[Function.comp_def]
theorem zcx:∀(ss:List (Int × Nat)),0 < cnt ss->(List.range (cnt ss)).map (fun m=>(pat ss m).1)=YF (ss.map fun p=>rg p.1 p.2)
 | [],_=>rfl
 | p::r,h=>by
  have h1:0 < p.2 * cnt r:=h
  have h2:0 < cnt r:=Nat.pos_of_mul_pos_left h1
  have ih:=zcx r h2
  simp only[List.map_cons,YF]
  rw[<- ih]
  show(List.range (p.2 * cnt r)).map _=_
  rw[zcv]
  unfold rg
  rw[List.flatMap_map]
  have key:∀L:List Nat,(∀q ∈ L,q < p.2)->(L.flatMap fun q=>(List.range (cnt r)).map fun t=>(pat (p::r) (q * cnt r+t)).1)=L.flatMap fun(q:Nat)=>((List.range (cnt r)).map fun m=>(pat r m).1).map fun y=>(p.1+(q:Int))::y:=by
   intro L
   induction L with
   | nil=>intro _;rfl
   | cons q L ihL=>
    intro hL
    rw[List.flatMap_cons,List.flatMap_cons,ihL fun z hz=>hL z (List.mem_cons_of_mem _ hz)]
    congr 1
    rw[List.map_map]
    refine List.map_congr_left fun t ht=>?_
    have ht':=List.mem_range.mp ht
    have hq:=hL q List.mem_cons_self
    simp only[pat,Function.comp]
    rw[zgD r t q h2,zbw,Nat.mul_comm q,Nat.mul_add_div h2,Nat.div_eq_of_lt ht',Nat.add_zero,Nat.mod_eq_of_lt hq]
  exact key _ fun q hq=>List.mem_range.mp hq
theorem zcy:∀(ss:List (Int × Nat)),cnt ss=0->YF (ss.map fun p=>rg p.1 p.2)=[]
 | [],h=>by simp[cnt] at h
 | p::r,h=>by
  have h1:p.2 * cnt r=0:=h
  simp only[List.map_cons,YF]
  rcases Nat.mul_eq_zero.mp h1 with e | e
  ·rw[e];rfl
  ·rw[zcy r e];simp
theorem zeg (ss:List (Int × Nat)):(List.range (cnt ss)).map (fun m=>(pat ss m).1)=YF (ss.map fun p=>rg p.1 p.2):=by
 by_cases h:0 < cnt ss
 ·exact zcx ss h
 ·have e:cnt ss=0:=by omega
  rw[zcy ss e,e];rfl
def inB:List (Int × Nat)->List Int->Bool
 | p::r,x::xs=>decide (p.1<=x) && decide (x < p.1+(p.2:Int)) && inB r xs
 | _,_=>true
theorem rg_sub {a lo:Int}{n N:Nat}(h1:lo<=a) (h2:a+n<=lo+N):rg a n=(rg lo N).filter fun x=>decide (a<=x) && decide (x < a+(n:Int)):=by
 obtain⟨d,rfl⟩:∃d:Nat,a=lo+d:=⟨(a - lo).toNat,by omega⟩
 obtain⟨e,rfl⟩:∃e:Nat,N=d+n+e:=⟨N - d - n,by omega⟩
 unfold rg
 rw[List.range_add,List.range_add,List.map_append,List.map_append,List.filter_append,List.filter_append]
 have f1:((List.range d).map fun(i:Nat)=>lo+(i:Int)).filter (fun x=>decide (lo+(d:Int)<=x) && decide (x < lo+(d:Int)+(n:Int)))=[]:=by
  rw[List.filter_eq_nil_iff]
  intro x hx
  obtain⟨i,hi,rfl⟩:=List.mem_map.mp hx
  have:=List.mem_range.mp hi
  simp;omega
 have f3:(((List.range e).map fun x=>d+n+x).map fun(i:Nat)=>lo+(i:Int)).filter (fun x=>decide (lo+(d:Int)<=x) && decide (x < lo+(d:Int)+(n:Int)))=[]:=by
  rw[List.filter_eq_nil_iff]
  intro x hx
  obtain⟨i,hi,rfl⟩:=List.mem_map.mp hx
  obtain⟨j,hj,rfl⟩:=List.mem_map.mp hi
  simp;omega
 have f2:(((List.range n).map fun x=>d+x).map fun(i:Nat)=>lo+(i:Int)).filter (fun x=>decide (lo+(d:Int)<=x) && decide (x < lo+(d:Int)+(n:Int)))=((List.range n).map fun x=>d+x).map fun(i:Nat)=>lo+(i:Int):=by
  rw[List.filter_eq_self]
  intro x hx
  obtain⟨i,hi,rfl⟩:=List.mem_map.mp hx
  obtain⟨j,hj,rfl⟩:=List.mem_map.mp hi
  have:=List.mem_range.mp hj
  simp;omega
 rw[f1,f2,f3,List.nil_append,List.append_nil,List.map_map]
 refine List.map_congr_left fun i _=>?_
 simp;omega
theorem zdM {α:Type}(B:List Int) (q:Int->Bool) (g:Int->List α):(B.filter q).flatMap g=B.flatMap fun x=>if q x then g x else []:=by
 induction B with
 | nil=>rfl
 | cons x B ih=>
  rw[List.filter_cons,List.flatMap_cons]
  by_cases h:q x=true
  ·rw[if_pos h,if_pos h,List.flatMap_cons,ih]
  ·rw[if_neg h,if_neg h,List.nil_append,ih]
theorem zcw {lo:Int}{N:Nat}:∀(ss:List (Int × Nat)),(∀p ∈ ss,lo<=p.1/\p.1+p.2<=lo+N)->YF (ss.map fun p=>rg p.1 p.2)=(YF (ss.map fun _=>rg lo N)).filter (inB ss)
 | [],_=>rfl
 | p::r,h=>by
  have ih:=zcw r fun q hq=>h q (List.mem_cons_of_mem _ hq)
  obtain⟨h1,h2⟩:=h p List.mem_cons_self
  simp only[List.map_cons,YF]
  rw[ih,rg_sub h1 h2,zdM,List.filter_flatMap]
  refine congrArg (fun g=>List.flatMap g (rg lo N)) (funext fun x=>?_)
  rw[List.filter_map]
  by_cases q:(decide (p.1<=x) && decide (x < p.1+(p.2:Int)))=true
  ·rw[if_pos q]
   refine congrArg _ (List.filter_congr fun y _=>?_)
   show inB r y=(decide (p.1<=x) && decide (x < p.1+(p.2:Int)) && inB r y)
   rw[q,Bool.true_and]
  ·rw[if_neg q]
   refine(List.map_eq_nil_iff.mpr (List.filter_eq_nil_iff.mpr fun y _ z=>q ?_)).symm
   have z':(decide (p.1<=x) && decide (x < p.1+(p.2:Int)) && inB r y)=true:=z
   exact(Bool.and_eq_true_iff.mp z').1
theorem ze8 {lo:Int}{N:Nat}{ss:List (Int × Nat)}(h:∀p ∈ ss,lo<=p.1/\p.1+p.2<=lo+N) {P:List Int->Bool}(hP:∀x ∈ YF (ss.map fun _=>rg lo N),P x=true->inB ss x=true) :
  (YF (ss.map fun p=>rg p.1 p.2)).filter P=(YF (ss.map fun _=>rg lo N)).filter P:=by
 rw[zcw ss h,List.filter_filter]
 refine List.filter_congr fun x hx=>?_
 cases e:P x with
 | true=>rw[hP x hx e];rfl
 | false=>rfl
theorem JC:∀(Rs:List (List Int)) (x:List Int),x ∈ YF Rs->x.length=Rs.length
 | [],x,h=>by simp[YF] at h;rw[h];rfl
 | R::Rs,x,h=>by
  simp only[YF,List.mem_flatMap,List.mem_map] at h
  obtain⟨a,_,r,hr,rfl⟩:=h
  simp[JC Rs r hr]
theorem JB:∀(Rs:List (List Int)) (x:List Int),x ∈ YF Rs->∀y ∈ x,∃R ∈ Rs,y ∈ R
 | [],x,h,y,hy=>by simp[YF] at h;rw[h] at hy;cases hy
 | R::Rs,x,h,y,hy=>by
  simp only[YF,List.mem_flatMap,List.mem_map] at h
  obtain⟨a,ha,r,hr,rfl⟩:=h
  rcases List.mem_cons.mp hy with e | e
  ·exact⟨R,List.mem_cons_self,e ▸ ha⟩
  ·obtain⟨R',h1,h2⟩:=JB Rs r hr y e
   exact⟨R',List.mem_cons_of_mem _ h1,h2⟩
theorem Jm {q:Rat}{x:Int}:(x:Rat)<=q ↔ x<=q.num / (q.den:Int):=by
 have hd:(0:Int) < q.den:=by have:=q.den_pos;omega
 rw[Int.le_ediv_iff_mul_le hd]
 rw[Rat.le_iff]
 simp
theorem zdW {q:Rat}{x:Int}:q<=(x:Rat) ↔ -(-q.num / (q.den:Int))<=x:=by
 have h:=Jm (q:=-q) (x:=-x)
 have e1:(-q).num=-q.num:=by simp
 have e2:(-q).den=q.den:=by simp
 rw[e1,e2] at h
 constructor
 ·intro z
  have e3:((-x:Int):Rat)=-(x:Rat):=by simp
  have:=h.mp (by rw[e3];grind)
  omega
 ·intro z
  have:=h.mpr (by omega)
  have e:((-x:Int):Rat)=-(x:Rat):=by simp
  rw[e] at this
  grind
theorem gap_nn {a b:Rat}(h:a<=b):-(-a.num / (a.den:Int))<=b.num / (b.den:Int)+1:=by
 refine zdW.mp ?_
 have:¬(((b.num / (b.den:Int)+1:Int):Rat)<=b):=fun z=>by have:=Jm.mp z;omega
 have:=Rat.not_le.mp this
 grind
end K13
namespace Lx
open PySem Fx
open Lw
section
variable {K B n0:Nat}{ls:List Lim}
theorem check_ok {k:Nat}{ps:List Rat}(h:ps.length=k) (hk:k<=1000):Xt [.int k,.list (ps.map fr)]=.ok .none:=by
 have e:=ZY (st:=Zw 0) (e:=(Zk YU (Zc (dVar 0) dNil))) (C:=[.emp]) fr (fun _=>PyData.bool true) ps fun x hx=>⟨[.val (fr x)],rfl,by simp[zha]⟩
 have hl:ps.length<=16777216:=by omega
 have a:=Qd ps
 subst h
 simp[Xt,runF,U9,VT,fNe,hl,e,a]
end
end Lx
namespace K13
open PySem Fx Lx
open Lw
open K06 (wv cc bc be ec ee at30 at31 at32 Uv X0 Vy YI X1)
theorem dk_of {k w:Nat}{ls:List Lim}(h:∀l ∈ ls,LimOk k w l) (hw:w<=999999999999) (hk:1<=k/\k<=4) (hl:ls.length<=10):DK k ls.length 999999999999 210 ls:=by
 refine⟨by omega,by omega,rfl,fun l hl=>(h l hl).1,by omega,fun l hl=>⟨fun x hx=>by have:=(h l hl).2 x hx;omega,by have:=(h l hl).3;omega⟩,?_,by omega,?_⟩
 ·rcases(show k=1\/k=2\/k=3\/k=4 by omega) with e | e | e | e <;> rw[e] <;> decide
 ·exact Nat.lt_of_le_of_lt (Nat.le_trans (Nat.pow_le_pow_left (show k+ls.length+1<=15 by omega) k) (Nat.pow_le_pow_right (by decide) hk.2)) (by decide)
section
variable {K m n0:Nat}{ls:List Lim}{goal:List Int}
theorem pr_le {ps ss x:List Rat}(hw:∀l ∈ ls,l.1.length=K) (r:Pr K n0 ls goal ps ss) (hg:goal.length=K) (hx:x.length=K) (kp:∀l ∈ ls,dot l.1 x<=(l.2:Rat)):dot goal x<=dot goal ps:=by
 have h1:=zdf (ps:=x) ls ss r.len.symm r.nn kp
 have h2:=zdg (ps:=x) ls ss (fun l hl=>by rw[hw l hl,hx])
 have h3:=JV goal x (by rw[hg,hx])
 rw[r.b] at h1
 rw[h3]
 have e:sumR x.length (fun j=>((goal.getD j 0:Int):Rat) * x.getD j 0)=sumW x ls ss:=by
  rw[h2]
  exact WU fun j hj=>by rw[r.w j (by omega)];exact Rat.mul_comm _ _
 rw[e];exact h1
structure Top (K:Nat) (ls:List Lim) (goal:List Int) (v:Option Rat):Prop where
 some:∀q,v=some q->Sz 1005 q/\(∃ps,Pt K 210 ls ps/\dot goal ps=q)/\∀x:List Rat,x.length=K->(∀l ∈ ls,dot l.1 x<=(l.2:Rat))->dot goal x<=q
 none:v=none->∃ws,Wy K 210 ls goal ws
theorem top_ok (d:DK K m 999999999999 210 ls) (hK:K<=4) (hp:∃ps,Pt K 210 ls ps) (hg:goal.length=K) (hgs:∀x ∈ goal,x.natAbs<=999999999999) :
  ∃v,Top K ls goal v/\JQ [Z4 K ls,eI goal]=.ok (wv v):=by
 have g40:∀x ∈ goal,x.natAbs < 2 ^ 40:=fun x hx=>Nat.lt_of_le_of_lt (hgs x hx) pow40
 obtain⟨r,hr,e5⟩:=best_ok d hg hgs
 have e5':JS [Z4 K ls,.list (goal.map .int)]=.ok r:=e5
 cases hr with
 | clash c=>obtain⟨ps,p⟩:=hp;exact(Jk d.w c p).elim
 | @best ps ss p r=>
  have hw:WP 40 210 goal ps:=⟨g40,p.sz,by omega,by rw[hg,p.len]⟩
  have z4:wSz 40 210 ps.length<=1005:=Nat.le_trans (zfH (show ps.length<=4 by rw[p.len];omega)) (by decide)
  have q6:=zcd (t:=.list (goal.map .int)) (.inl rfl) hw (by omega)
  have sz:=hw.sz ps.length (Nat.le_refl _)
  have t1:goal.take ps.length=goal:=by rw[List.take_of_length_le];rw[p.len,hg];exact Nat.le_refl _
  have t2:ps.take ps.length=ps:=List.take_of_length_le (Nat.le_refl _)
  rw[t1,t2] at sz
  refine⟨some (dot goal ps),⟨fun q e=>?_,fun e=>by cases e⟩,?_⟩
  ·cases e
   exact⟨sz.mono z4,⟨ps,p,rfl⟩,fun x hx kp=>pr_le d.w r hg hx kp⟩
  ·simp[JQ,d_top,zdS,zdR,zhw,runF,e5',at30,at31,bc,be,q6,wv]
 | @endless ps ws p r=>
  refine⟨none,⟨fun q e=>(by cases e),fun _=>⟨ws,r⟩⟩,?_⟩
  simp[JQ,d_top,zdS,zdR,runF,e5',at30,ec,ee,wv]
theorem ze3 (hK:K<=4) {i:Nat}(hi:i < K) {vh vl:Option Rat}(e1:JQ [Z4 K ls,eI (YJ K i)]=.ok (wv vh)) (e2:JQ [Z4 K ls,eI ((YJ K i).map fun x=>-x)]=.ok (wv vl)) :
  Z1 [Z4 K ls,.int i]=.ok (.tuple [wv (vl.map fun q=>-q),wv vh]):=by
 have c1:=zaH hi
 have c2:=zfK hi (by omega)
 have c3:=Uv (YJ K i)
 have c4:K<=16777216:=by omega
 have hul:=YI K i
 generalize (YJ K i).map (fun x=>-x)=nu at *
 generalize YJ K i=u at *
 generalize wv vh=th at *
 cases vl with
 | none=>
  have e2':JQ [Z4 K ls,eI nu]=.ok .none:=e2
  show _=Res.ok (PyData.tuple [.none,th])
  simp[Z1,zab,UE,UD,UC,UB,runF,at0,c1,c2,e1,c3,hul,c4,e2']
 | some q=>
  have c5:=zfO (a:=q)
  have e2':JQ [Z4 K ls,eI nu]=.ok (fr q):=e2
  have c6:fIsN (fr q)=.ok (.bool false):=rfl
  show _=Res.ok (PyData.tuple [fr (-q),th])
  generalize fr q=fq at *
  simp[Z1,zab,UE,UD,UC,UB,runF,at0,c1,c2,e1,c3,hul,c4,e2',c5,c6,-fIsN]
theorem Ju (c:Rat) (f:Nat->Rat) (i:Nat):∀n,sumR n (fun j=>(if j=i then c else 0) * f j)=if i < n then c * f i else 0
 | 0=>by simp[sumR]
 | n+1=>by
  simp only[sumR]
  rw[Ju c f i n]
  by_cases h:n=i
  ·subst h;rw[if_neg (by omega),if_pos rfl,if_pos (by omega)];grind
  ·rw[if_neg h]
   by_cases h2:i < n
   ·rw[if_pos h2,if_pos (by omega)];grind
   ·rw[if_neg h2,if_neg (by omega)];grind
theorem U0 {i:Nat}(hi:i < K) {x:List Rat}(hx:x.length=K):dot (YJ K i) x=x.getD i 0:=by
 rw[JV _ _ (by rw[YI,hx]),hx,X0]
 have:sumR K (fun j=>((((List.range K).map fun j=>if j=i then(1:Int) else 0).getD j 0:Int):Rat) * x.getD j 0)=sumR K (fun j=>(if j=i then(1:Rat) else 0) * x.getD j 0):=WU fun j hj=>by
  have:((List.range K).map fun j=>if j=i then(1:Int) else 0).getD j 0=if j=i then 1 else 0:=by simp[hj]
  rw[this];split <;> rfl
 rw[this,Ju,if_pos hi,Rat.one_mul]
theorem VC {i:Nat}(hi:i < K) {x:List Rat}(hx:x.length=K):dot ((YJ K i).map fun x=>-x) x=-(x.getD i 0):=by
 rw[JV _ _ (by rw[List.length_map,YI,hx]),hx,X0,List.map_map]
 have:sumR K (fun j=>((((List.range K).map ((fun x=>-x) ∘ fun j=>if j=i then(1:Int) else 0)).getD j 0:Int):Rat) * x.getD j 0)=sumR K (fun j=>(if j=i then(-1:Rat) else 0) * x.getD j 0):=WU fun j hj=>by
  have:((List.range K).map ((fun x=>-x) ∘ fun j=>if j=i then(1:Int) else 0)).getD j 0=if j=i then -1 else 0:=by simp[hj];split <;> rfl
  rw[this];split <;> rfl
 rw[this,Ju,if_pos hi];grind
structure Ends (K:Nat) (ls:List Lim) (i:Nat) (vl vh:Option Rat):Prop where
 lo:∀q,vl=some q->Sz 1005 q/\(∃ps,Pt K 210 ls ps/\ps.getD i 0=q)/\∀x:List Rat,x.length=K->(∀l ∈ ls,dot l.1 x<=(l.2:Rat))->q<=x.getD i 0
 hi:∀q,vh=some q->Sz 1005 q/\(∃ps,Pt K 210 ls ps/\ps.getD i 0=q)/\∀x:List Rat,x.length=K->(∀l ∈ ls,dot l.1 x<=(l.2:Rat))->x.getD i 0<=q
 loN:vl=none->∃ws:List Rat,ws.length=K/\(∀l ∈ ls,dot l.1 ws<=0)/\ws.getD i 0 < 0
 hiN:vh=none->∃ws:List Rat,ws.length=K/\(∀l ∈ ls,dot l.1 ws<=0)/\0 < ws.getD i 0
theorem ends_ok (d:DK K m 999999999999 210 ls) (hK:K<=4) (hp:∃ps,Pt K 210 ls ps) {i:Nat}(hi:i < K):∃vl vh,Ends K ls i vl vh/\Z1 [Z4 K ls,.int i]=.ok (.tuple [wv vl,wv vh]):=by
 obtain⟨vh,th,eh⟩:=top_ok d hK hp (YI K i) Vy
 obtain⟨vl,tl,el⟩:=top_ok d hK hp (goal:=(YJ K i).map fun x=>-x) (by rw[List.length_map,YI]) (fun x hx=>by obtain⟨y,hy,rfl⟩:=List.mem_map.mp hx;rw[Int.natAbs_neg];exact Vy y hy)
 refine⟨_,vh,⟨fun q e=>?_,fun q e=>?_,fun e=>?_,fun e=>?_⟩,ze3 hK hi eh el⟩
 ·obtain⟨q0,e0,rfl⟩:=Option.map_eq_some_iff.mp e
  obtain⟨s,⟨ps,p,e1⟩,h⟩:=tl.some q0 e0
  refine⟨s.neg,⟨ps,p,?_⟩,fun x hx kp=>?_⟩
  ·rw[VC hi p.len] at e1;grind
  ·have:=h x hx kp;rw[VC hi hx] at this;grind
 ·obtain⟨s,⟨ps,p,e1⟩,h⟩:=th.some q e
  refine⟨s,⟨ps,p,?_⟩,fun x hx kp=>?_⟩
  ·rw[U0 hi p.len] at e1;exact e1
  ·have:=h x hx kp;rw[U0 hi hx] at this;exact this
 ·have e0:vl=none:=by cases vl <;> simp_all
  obtain⟨ws,w⟩:=tl.none e0
  refine⟨ws,w.len,w.l,?_⟩
  have:=w.g;rw[VC hi w.len] at this;grind
 ·obtain⟨ws,w⟩:=th.none e
  refine⟨ws,w.len,w.l,?_⟩
  have:=w.g;rw[U0 hi w.len] at this;exact this
def los (q:Rat):Int:=-(-q.num / (q.den:Int))
def his (q:Rat):Int:=q.num / (q.den:Int)
def wsR:Option Rat->Option Rat->Res PyData
 | some a,some b=>.ok (.tuple [.int (los a),.int (his b - los a+1)])
 | _,_=>.exc "TooMany"
theorem Q9 {i:Nat}{vl vh:Option Rat}(e:Ends K ls i vl vh) (h:Z1 [Z4 K ls,.int i]=.ok (.tuple [wv vl,wv vh])) :
  ZM [Z4 K ls,.int i]=wsR vl vh:=by
 cases vl with
 | none=>cases vh <;> simp[ZM,Xv,YW,runF,h,at0,at1,wsR,wv]
 | some a=>
  cases vh with
  | none=>
   have c6:fIsN (fr a)=.ok (.bool false):=rfl
   simp[ZM,Xv,YW,runF,h,at0,at1,wsR,wv,fr]
  | some b=>
   obtain⟨sa,_,_⟩:=e.lo a rfl
   obtain⟨sb,_,_⟩:=e.hi b rfl
   have da:=WI (WJ a) sa.denI (by omega)
   have db:=WI (WJ b) sb.denI (by omega)
   have f1:(-a.num).fdiv (a.den:Int)=-a.num / (a.den:Int):=V8
   have f2:b.num.fdiv (b.den:Int)=b.num / (b.den:Int):=V8
   simp[ZM,Xv,YW,W9,W8,W7,runF,h,at0,at1,wsR,wv,fr,da,db,f1,f2,los,his]
end
end K13
namespace K13
open PySem Fx Lx
open Lw
open K06 (wv cc bc be ec ee at30 at31 at32 Uv X0 Vy YI X1)
def dotI:List Int->List Int->Int
 | w::ws,x::xs=>w * x+dotI ws xs
 | _,_=>0
def qs (x:List Int):List Rat:=x.map fun(i:Int)=>(i:Rat)
theorem zdN:∀(ws x:List Int),dot ws (qs x)=((dotI ws x:Int):Rat)
 | [],[]=>rfl
 | [],_::_=>rfl
 | _::_,[]=>rfl
 | w::ws,x::xs=>by
  show(w:Rat) * (x:Rat)+dot ws (qs xs)=_
  rw[zdN ws xs]
  show _=((w * x+dotI ws xs:Int):Rat)
  simp
def W2 (ls:List Lim) (x:List Int):Bool:=ls.all fun l=>decide (dotI l.1 x<=l.2)
section
variable {k w:Nat}{ls:List Lim}{x:List Int}
theorem Qe {p:Lim->Bool}:∀(ls:List Lim) (n:Nat),((ls.zipIdx n).filter fun q=>p q.1)=[] ↔ ∀l ∈ ls,p l=false:=fun ls n=>by
 rw[List.filter_eq_nil_iff]
 constructor
 ·intro h l hl
  obtain⟨i,hi,rfl⟩:=List.getElem_of_mem hl
  have m:(ls[i],n+i) ∈ ls.zipIdx n:=by
   rw[List.mem_iff_getElem?];exact⟨i,by rw[List.getElem?_zipIdx,List.getElem?_eq_getElem hi];rfl⟩
  simpa using h _ m
 ·intro h q hq
  rw[h q.1 (mem_zipIdx hq)];simp
theorem zhS (h:∀l ∈ ls,LimOk k w l) (hw:w<=999999999999) (hk:k<=4) (hl:ls.length<=10) (hp:x.length=k) (hs:∀i ∈ x,i.natAbs < 2 ^ 1006):UY [Z4 k ls,.list ((qs x).map fr)]=.ok (.list (overs ls (qs x))):=by
 have hq:(qs x).length=k:=by unfold qs;simpa using hp
 have sq:∀q ∈ qs x,Sz 1006 q:=fun q hq=>by
  obtain⟨i,hi,rfl⟩:=List.mem_map.mp hq
  exact Sz.ofInt (hs i hi) (by decide)
 have c:=check_ok hq (by omega)
 generalize qs x=ps at *
 have z4:wSz 40 1006 ps.length<=4189:=Nat.le_trans (zfH (show ps.length<=4 by omega)) (by decide)
 have e:=Vb (st:=Uc 0 1) (c:=(tV (Zk Qt (Zc (dTup (Zc (d2 fIx (dVar 1) (dC (.int 1))) (Zc (dC (.int 1)) dNil))) (Zc (Zk WH (Zc (d2 fIx (dVar 1) (dC (.int 0))) (Zc (dVar 2) dNil))) dNil))))) (e:=(dVar 0)) (C:=[.emp,.emp,.val (.list (ps.map fr))])
  (fun(p:Lim × Nat)=>PyData.tuple [.int (p.2:Int),limT p.1]) (fun p=>.int (p.2:Int)) (fun p=>decide ((p.1.2:Rat) < dot p.1.1 ps)) (ls.zipIdx) fun p hm=>by
   have hL:=h p.1 (mem_zipIdx hm)
   have wp:WP 40 1006 p.1.1 ps:=⟨fun y hy=>Nat.lt_of_le_of_lt (Nat.le_trans (hL.2 y hy) hw) pow40,sq,by omega,by rw[hL.1,hq]⟩
   have w1:=zcd (t:=.tuple (p.1.1.map .int)) (.inr rfl) wp (by omega)
   have s:=wp.sz ps.length (Nat.le_refl _)
   have e1:dot (p.1.1.take ps.length) (ps.take ps.length)=dot p.1.1 ps:=by rw[List.take_length,<- wp.len,List.take_length]
   rw[e1] at s
   have s2:Sz 40 (p.1.2:Rat):=Sz.ofInt (Nat.lt_of_le_of_lt (Nat.le_trans hL.3 hw) pow40) (by decide)
   have b:=below_ok s2 (s.mono z4) (by decide)
   exact⟨[.val (.int (p.2:Int)),.val (limT p.1),.val (.list (ps.map fr))],rfl,by simp[limT,at0,at1,w1,fr_int,b],fun _=>rfl⟩
 have hl':ls.length<=16777216:=by omega
 simp[UY,runF,zeJ,zbc,at0,at1,c,zcV,hl',e,overs]
theorem zcL (h:∀l ∈ ls,LimOk k w l) (hw:w<=999999999999) (hk:k<=4) (hl:ls.length<=10) (hp:x.length=k) (hs:∀i ∈ x,i.natAbs < 2 ^ 1006):XM [Z4 k ls,eI x]=.ok (.bool (W2 ls x)):=by
 have e1:=zhS h hw hk hl hp hs
 have e2:Yj (Zw 0) tT (dTup (Zc (dVar 0) (Zc (dC (.int 1)) dNil))) [.emp] (x.map .int)=.ok ((qs x).map fr):=by
  unfold qs
  rw[List.map_map]
  exact ZY PyData.int _ _ fun i _=>⟨_,rfl,by simp[fr_int]⟩
 have e3:overs ls (qs x)=(((ls.zipIdx).filter fun p=>decide ((p.1.2:Rat) < dot p.1.1 (qs x))).map fun p=>(p.2:Int)).map .int:=by unfold overs;rw[List.map_map];rfl
 have hx:x.length<=16777216:=by omega
 have key:(((ls.zipIdx).filter fun p=>decide ((p.1.2:Rat) < dot p.1.1 (qs x))).map fun p=>(p.2:Int)).isEmpty=W2 ls x:=by
  rw[Bool.eq_iff_iff,List.isEmpty_iff,List.map_eq_nil_iff,Qe (p:=fun l=>decide ((l.2:Rat) < dot l.1 (qs x)))]
  unfold W2
  rw[List.all_eq_true]
  refine forall_congr' fun l=>forall_congr' fun _=>?_
  rw[zdN,decide_eq_false_iff_not,decide_eq_true_iff,Rat.intCast_lt_intCast]
  omega
 rw[e3] at e1
 generalize (((ls.zipIdx).filter fun p=>decide ((p.1.2:Rat) < dot p.1.1 (qs x))).map fun p=>(p.2:Int))=os at *
 have e4:=zhs os
 have e5:=Us os
 rw[key] at e4
 simp[XM,zaf,runF,hx,e2,e1,fEq,e4,e5,Ql]
end
def sT (p:Int × Nat):PyData:=.tuple [.int p.1,.int (p.2:Int)]
def bCnt:DS:=(dSet 1 [] (d2 fMul (dVar 1) (d2 fIx (dVar 2) (dC (.int 1)))))
theorem zeN (t:PyData):∀(ss:List (Int × Nat)) (c a:Nat) (s2:Sl),(∀p ∈ ss,p.2 < 2 ^ 1007)->c < 2 ^ a->a+1007 * ss.length<=1000000 ->
  ∃s2',forL (Zw 2) bCnt (ss.map sT) [.val t,.val (.int (c:Int)),s2]=.ok (.nx [.val t,.val (.int ((c * cnt ss:Nat):Int)),s2'])
 | [],c,a,s2,_,_,_=>⟨s2,by simp[forL,cnt]⟩
 | p::r,c,a,s2,h,hc,ha=>by
  have hp:=h p List.mem_cons_self
  have ha':a+1007 * (r.length+1)<=1000000:=ha
  have o:XL (c:Int) (p.2:Int)=true:=Xq (m:=a) (n:=1007) (by simpa using hc) (by simpa using hp) (by omega)
  have hc2:c * p.2 < 2 ^ (a+1007):=by
   have:=Yq (i:=(c:Int)) (j:=(p.2:Int)) (m:=a) (n:=1007) (by simpa using hc) (by simpa using hp)
   have e:((c:Int) * (p.2:Int))=((c * p.2:Nat):Int):=by simp
   rw[e,Int.natAbs_natCast] at this
   exact this
  obtain⟨s2',e⟩:=zeN t r (c * p.2) (a+1007) (.val (sT p)) (fun q hq=>h q (List.mem_cons_of_mem _ hq)) hc2 (by omega)
  refine⟨s2',?_⟩
  have b1:bCnt [.val t,.val (.int (c:Int)),.val (sT p)]=.ok (.nx [.val t,.val (.int ((c * p.2:Nat):Int)),.val (sT p)]):=by
   simp[bCnt,sT,at1,o]
  rw[List.map_cons]
  unfold forL
  simp[b1]
  have e':c * p.2 * cnt r=c * cnt (p::r):=by show _=c * (p.2 * cnt r);rw[Nat.mul_assoc]
  rw[e'] at e
  simpa using e
theorem count_ok (ss:List (Int × Nat)) (h:∀p ∈ ss,p.2 < 2 ^ 1007) (hl:ss.length<=4):W5 [.list (ss.map sT)]=.ok (.int (cnt ss:Int)):=by
 obtain⟨s,e⟩:=zeN (.list (ss.map sT)) ss 1 1 .emp h (by decide) (by omega)
 rw[Nat.one_mul] at e
 have hd:Q3=dSeq (dFor (Zw 2) [] (iSeq (dVar 0)) bCnt) VS:=rfl
 generalize bCnt=b at *
 have e':forL (Zw 2) b (ss.map sT) [.val (.list (ss.map sT)),.val (.int 1),.emp]=.ok (.nx [.val (.list (ss.map sT)),.val (.int (cnt ss:Int)),s]):=e
 simp[W5,zba,hd,VS,runQ,runF,e']
theorem zes {st:PyData->List Sl->Res (List Sl)}{b:DS}:∀(xs ys:List PyData) (G G':List Sl),forL st b xs G=.ok (.nx G')->(∀G1 o,b G1=.ok o->∃G2,o=.nx G2)->forL st b (xs++ys) G=forL st b ys G'
 | [],ys,G,G',h,_=>by
  have:Res.ok (Out.nx G)=Res.ok (Out.nx G'):=h
  cases this;rfl
 | x::xs,ys,G,G',h,hb=>by
  rw[List.cons_append]
  have u:∀ts,forL st b (x::ts) G=(st x G).bind fun G1=>(b G1).bind fun o=>match o with
   | .nx G'=>forL st b ts G'
   | .ct G'=>forL st b ts G'
   | .bk G'=>.ok (.nx G')
   | .rt t=>.ok (.rt t):=fun _=>rfl
  rw[u] at h ⊢
  cases e1:st x G with
  | stuck=>rw[e1] at h;cases h
  | exc c=>rw[e1] at h;cases h
  | ok G1=>
   rw[e1,Res.bind_ok] at h
   rw[Res.bind_ok]
   cases e2:b G1 with
   | stuck=>rw[e2] at h;cases h
   | exc c=>rw[e2] at h;cases h
   | ok o=>
    obtain⟨G2,rfl⟩:=hb G1 o e2
    rw[e2,Res.bind_ok] at h
    rw[Res.bind_ok]
    exact zes xs ys G2 G' h hb
def bPt:DS:=(dSeq (dSet 2 [] (d2 fAdd (dLst (Zc (d2 fAdd (d2 fIx (dVar 3) (dC (.int 0))) (d2 fMod (dVar 1) (d2 fIx (dVar 3) (dC (.int 1))))) dNil)) (dVar 2)))
  (dSet 1 [] (d2 fDiv (dVar 1) (d2 fIx (dVar 3) (dC (.int 1))))))
theorem pt_step {p:Int × Nat}{m:Nat}{xs:List Int}(t:PyData) (s3:Sl) (h0:0 < p.2) (h1:p.2 < 2 ^ 1007) (hx:xs.length<=1000) :
  bPt [.val t,.val (.int (m:Int)),.val (eI xs),.val (sT p)]=.ok (.nx [.val t,.val (.int ((m / p.2:Nat):Int)),.val (eI ((p.1+((m % p.2:Nat):Int))::xs)),.val (sT p)]):=by
 have n0:(p.2:Int) ≠ 0:=by omega
 have dv:Qu (p.2:Int)=true:=WI n0 (by simpa using h1) (by decide)
 have f1:(m:Int).fmod (p.2:Int)=((m % p.2:Nat):Int):=by rw[Int.fmod_eq_emod_of_nonneg _ (Int.natCast_nonneg _)];simp
 have f2:(m:Int).fdiv (p.2:Int)=((m / p.2:Nat):Int):=by rw[V8];simp
 have hl:1+xs.length<=16777216:=by omega
 have n0':¬p.2=0:=by omega
 simp[bPt,sT,at0,at1,eI,n0',dv,f1,f2,hl]
theorem bPt_nx (G1:List Sl) (o:Out) (h:bPt G1=.ok o):∃G2,o=.nx G2:=by
 unfold bPt at h
 unfold dSeq at h
 rw[zb3] at h
 revert h
 generalize d2 fAdd _ (dVar 2) G1=r
 cases r with
 | stuck=>intro h;cases h
 | exc c=>intro h;cases h
 | ok t=>
  intro h
  simp only[Res.bind_ok] at h
  rw[zb3] at h
  revert h
  generalize d2 fDiv _ _ (G1.set 2 (.val t))=r
  cases r with
  | stuck=>intro h;cases h
  | exc c=>intro h;cases h
  | ok t=>intro h;cases h;exact⟨_,rfl⟩
theorem zgr (t:PyData) (m:Nat):∀(ss:List (Int × Nat)),(∀p ∈ ss,0 < p.2/\p.2 < 2 ^ 1007)->ss.length<=1000 ->
  ∃s3,forL (Zw 3) bPt (ss.map sT).reverse [.val t,.val (.int (m:Int)),.val (eI []),.emp]=.ok (.nx [.val t,.val (.int ((pat ss m).2:Int)),.val (eI (pat ss m).1),s3])/\(pat ss m).1.length=ss.length
 | [],_,_=>⟨.emp,rfl,rfl⟩
 | p::r,h,hl=>by
  have hl':r.length+1<=1000:=hl
  obtain⟨s3,e,el⟩:=zgr t m r (fun q hq=>h q (List.mem_cons_of_mem _ hq)) (by omega)
  obtain⟨h0,h1⟩:=h p List.mem_cons_self
  refine⟨.val (sT p),?_,by simp[pat,el]⟩
  rw[List.map_cons,List.reverse_cons,zes _ _ _ _ e bPt_nx]
  have b1:=pt_step (p:=p) (m:=(pat r m).2) (xs:=(pat r m).1) t s3 h0 h1 (by omega)
  unfold forL
  simp[b1,forL,pat]
theorem zdu (ss:List (Int × Nat)) (m:Nat) (h:∀p ∈ ss,0 < p.2/\p.2 < 2 ^ 1007) (hl:ss.length<=4):Wo [.list (ss.map sT),.int (m:Int)]=.ok (eI (pat ss m).1):=by
 obtain⟨s,e,_⟩:=zgr (.list (ss.map sT)) m ss h (by omega)
 have hd:QG=dSeq (dFor (Zw 3) [] (iRev (dVar 0)) bPt) VJ:=rfl
 generalize bPt=b at *
 generalize pat ss m=pm at *
 have e':forL (Zw 3) b (ss.map sT).reverse [.val (.list (ss.map sT)),.val (.int (m:Int)),.val (.list []),.emp]=.ok (.nx [.val (.list (ss.map sT)),.val (.int (pm.2:Int)),.val (eI pm.1),s]):=e
 simp[Wo,za3,hd,VJ,runQ,runF,iRev,e']
end K13
namespace K13
open PySem Fx Lx
open Lw
open K06 (wv cc bc be ec ee at30 at31 at32 Uv X0 Vy YI X1)
theorem pc:fEq (.str "point") (.str "clash")=.ok (.bool false):=by rw[zaU (by decide +kernel) (by decide +kernel)];rfl
theorem zhM {α:Type}{st:PyData->List Sl->Res (List Sl)}{e:DE}{C:List Sl}{c:Str}(inj f:α->PyData) (b:α->Bool):∀(xs:List α),(∀x ∈ xs,∃G1,st (inj x) C=.ok G1/\e G1=if b x then .ok (f x) else .exc c) ->
  Yj st tT e C (xs.map inj)=if xs.all b then .ok (xs.map f) else .exc c
 | [],_=>rfl
 | x::xs,h=>by
  obtain⟨G1,e1,e2⟩:=h x List.mem_cons_self
  have ih:=zhM inj f b xs fun y hy=>h y (List.mem_cons_of_mem _ hy)
  rw[List.map_cons]
  unfold Yj
  cases hb:b x with
  | false=>simp[e1,e2,hb]
  | true=>
   rw[hb] at e2
   cases ha:xs.all b with
   | false=>rw[ha] at ih;simp[e1,e2,ih,hb,ha]
   | true=>rw[ha] at ih;simp[e1,e2,ih,hb,ha]
structure Dk (K w:Nat) (ls:List Lim):Prop where
 lim:∀l ∈ ls,LimOk K w l
 wb:w<=999999999999
 k:1<=K/\K<=4
 len:ls.length<=10
section
variable {K w:Nat}{ls:List Lim}
theorem Dk.dk (h:Dk K w ls):DK K ls.length 999999999999 210 ls:=dk_of h.lim h.wb h.k h.len
theorem zcO (h:Dk K w ls) {ss:List Rat}(c:Cl K 210 ls ss):∃t,Xs [Z4 K ls]=.ok (.tuple [.str "clash",t]):=by
 rcases JM h.dk with ⟨ps,h1,h2,h3,_⟩ | ⟨ss',_,_,_,_,_,e⟩
 ·exact(Jk h.dk.w c ⟨h1,h2,h3⟩).elim
 ·exact⟨_,e⟩
theorem zcN (h:Dk K w ls) {ps:List Rat}(p:Pt K 210 ls ps):∃t,Xs [Z4 K ls]=.ok (.tuple [.str "point",t]):=by
 rcases JM h.dk with ⟨ps,h1,h2,h3,e⟩ | ⟨ss',h1,h2,h3,h4,h5,e⟩
 ·exact⟨_,e⟩
 ·exact(Jk h.dk.w ⟨h1,h2,h3,h4,h5⟩ p).elim
theorem zeP (h:Dk K w ls):(∃ss,Cl K 210 ls ss)\/∃ps,Pt K 210 ls ps:=by
 rcases JM h.dk with ⟨ps,h1,h2,h3,e⟩ | ⟨ss',h1,h2,h3,h4,h5,e⟩
 ·exact .inr ⟨ps,h1,h2,h3⟩
 ·exact .inl ⟨ss',h1,h2,h3,h4,h5⟩
theorem zd4 (h:Dk K w ls) {ss:List Rat}(c:Cl K 210 ls ss):Zo [Z4 K ls]=.ok (.list []):=by
 obtain⟨t,e⟩:=zcO h c
 simp[Zo,YY,runF,e,at0,cc]
def gS (vl vh:Nat->Option Rat) (i:Nat):Int × Nat:=match vl i,vh i with
 | some a,some b=>(los a,(his b - los a+1).toNat)
 | _,_=>(0,0)
def bS (vl vh:Nat->Option Rat) (i:Nat):Bool:=(vl i).isSome && (vh i).isSome
theorem zey (a:Int) (b:Nat):(a / (b:Int)).natAbs<=a.natAbs:=Int.natAbs_ediv_le_natAbs _ _
theorem zgW (q:Rat):(los q).natAbs<=q.num.natAbs:=by
 unfold los
 rw[Int.natAbs_neg]
 exact Nat.le_trans (zey _ _) (by rw[Int.natAbs_neg];exact Nat.le_refl _)
theorem zhg (q:Rat):(his q).natAbs<=q.num.natAbs:=zey _ _
theorem zhO:∀(ss:List (Int × Nat)),0 < cnt ss->∀p ∈ ss,0 < p.2
 | [],_,p,hp=>by cases hp
 | q::r,h,p,hp=>by
  have h1:0 < q.2 * cnt r:=h
  rcases List.mem_cons.mp hp with e | e
  ·rw[e];exact Nat.pos_of_mul_pos_right h1
  ·exact zhO r (Nat.pos_of_mul_pos_left h1) p e
structure EA (K:Nat) (ls:List Lim) (vl vh:Nat->Option Rat):Prop where
 e:∀i,i < K->Ends K ls i (vl i) (vh i)
 s:∀i,i < K->Z1 [Z4 K ls,.int i]=.ok (.tuple [wv (vl i),wv (vh i)])
theorem ea_ok (h:Dk K w ls) (hp:∃ps,Pt K 210 ls ps):∃vl vh,EA K ls vl vh:=by
 have key:∀i,∃vl vh,i < K->Ends K ls i vl vh/\Z1 [Z4 K ls,.int i]=.ok (.tuple [wv vl,wv vh]):=fun i=>by
  by_cases hi:i < K
  ·obtain⟨vl,vh,a,b⟩:=ends_ok h.dk h.k.2 hp hi
   exact⟨vl,vh,fun _=>⟨a,b⟩⟩
  ·exact⟨none,none,fun z=>(hi z).elim⟩
 exact⟨fun i=>(key i).choose,fun i=>(key i).choose_spec.choose,fun i hi=>((key i).choose_spec.choose_spec hi).1,fun i hi=>((key i).choose_spec.choose_spec hi).2⟩
variable {vl vh:Nat->Option Rat}
theorem gap (hp:∃ps,Pt K 210 ls ps) (E:EA K ls vl vh) {i:Nat}(hi:i < K) {a b:Rat}(ha:vl i=some a) (hb:vh i=some b):0<=his b - los a+1:=by
 obtain⟨ps,p⟩:=hp
 have h1:=((E.e i hi).lo a ha).2.2 ps p.len p.kp
 have h2:=((E.e i hi).hi b hb).2.2 ps p.len p.kp
 have h3:a<=b:=by grind
 have:=gap_nn h3
 unfold his los
 omega
theorem big_two:(2:Nat) ^ 1005+2 ^ 1005+1 < 2 ^ 1007:=by
 have e:(2:Nat) ^ 1007=2 ^ 1005 * 4:=by rw[show 1007=1005+2 from rfl,Nat.pow_add]
 have:0 < (2:Nat) ^ 1005:=Nat.pow_pos (by decide)
 omega
theorem big_one:(2:Nat) ^ 1005 < 2 ^ 1006:=Nat.pow_lt_pow_right (by decide) (by decide)
theorem g_lt (E:EA K ls vl vh) {i:Nat}(hi:i < K):(gS vl vh i).2 < 2 ^ 1007:=by
 unfold gS
 cases ha:vl i with
 | none=>exact Nat.pow_pos (by decide)
 | some a=>
  cases hb:vh i with
  | none=>exact Nat.pow_pos (by decide)
  | some b=>
   have s1:=((E.e i hi).lo a ha).1.num
   have s2:=((E.e i hi).hi b hb).1.num
   have l1:=zgW a
   have l2:=zhg b
   have b2:=big_two
   show(his b - los a+1).toNat < _
   omega
theorem ws_ok (hp:∃ps,Pt K 210 ls ps) (E:EA K ls vl vh) {i:Nat}(hi:i < K):ZM [Z4 K ls,.int i]=if bS vl vh i then .ok (sT (gS vl vh i)) else .exc "TooMany":=by
 rw[Q9 (E.e i hi) (E.s i hi)]
 unfold bS gS sT wsR
 cases ha:vl i with
 | none=>rfl
 | some a=>
  cases hb:vh i with
  | none=>rfl
  | some b=>
   have:=gap hp E hi ha hb
   have e:(((his b - los a+1).toNat:Nat):Int)=his b - los a+1:=Int.toNat_of_nonneg this
   show Res.ok (PyData.tuple [.int (los a),.int (his b - los a+1)])=Res.ok (PyData.tuple [.int (los a),.int (((his b - los a+1).toNat:Nat):Int)])
   rw[e]
theorem g_small (hp:∃ps,Pt K 210 ls ps) (E:EA K ls vl vh) {i:Nat}(hi:i < K) {y:Int}(hy:y ∈ rg (gS vl vh i).1 (gS vl vh i).2):y.natAbs < 2 ^ 1006:=by
 obtain⟨j,hj,rfl⟩:=List.mem_map.mp hy
 have hj':=List.mem_range.mp hj
 revert hj'
 unfold gS
 cases ha:vl i with
 | none=>intro z;exact absurd z (by simp)
 | some a=>
  cases hb:vh i with
  | none=>intro z;exact absurd z (by simp)
  | some b=>
   intro z
   have z':j < (his b - los a+1).toNat:=z
   have s1:=((E.e i hi).lo a ha).1.num
   have s2:=((E.e i hi).hi b hb).1.num
   have l1:=zgW a
   have l2:=zhg b
   have b1:=big_one
   show(los a+(j:Int)).natAbs < _
   omega
def sS (K:Nat) (vl vh:Nat->Option Rat):List (Int × Nat):=(List.range K).map (gS vl vh)
theorem wp_ok (h:Dk K w ls) (hp:∃ps,Pt K 210 ls ps) (E:EA K ls vl vh):Zo [Z4 K ls] =
  if(List.range K).all (bS vl vh) then(if 400 < cnt (sS K vl vh) then .exc "TooMany" else .ok (.list (((YF ((sS K vl vh).map fun p=>rg p.1 p.2)).filter (W2 ls)).map eI))) else .exc "TooMany":=by
 obtain⟨ps,p⟩:=hp
 obtain⟨t,ej⟩:=zcN h p
 have k1:=h.k
 have r1:X7 (K:Int)=true:=ZK (by omega)
 have r2:K<=16777216:=by omega
 have e1:=zhM (st:=Zw 0) (e:=Zk ZM (Zc (dVar 1) (Zc (dVar 0) dNil))) (C:=[.emp,.val (Z4 K ls)]) (c:="TooMany") (fun(i:Nat)=>PyData.int (i:Int)) (fun i=>sT (gS vl vh i)) (bS vl vh) (List.range K) fun i hi=>by
  have:=ws_ok ⟨ps,p⟩ E (List.mem_range.mp hi)
  refine⟨[.val (.int (i:Int)),.val (Z4 K ls)],rfl,?_⟩
  simp[this]
 rw[<- Y1] at e1
 cases ha:(List.range K).all (bS vl vh) with
 | false=>
  rw[ha] at e1
  simp only[Bool.false_eq_true,if_false] at e1 ⊢
  simp only[Z4] at ej e1
  simp[Zo,YY,Y3,runF,ej,at0,at1,pc,r1,Yp,r2,e1]
 | true=>
  rw[ha] at e1
  simp only[if_true] at e1 ⊢
  have ess:(List.range K).map (fun i=>sT (gS vl vh i))=(sS K vl vh).map sT:=by unfold sS;rw[List.map_map];rfl
  rw[ess] at e1
  have hlt:∀q ∈ sS K vl vh,q.2 < 2 ^ 1007:=fun q hq=>by
   obtain⟨i,hi,rfl⟩:=List.mem_map.mp hq
   exact g_lt E (List.mem_range.mp hi)
  have hln:(sS K vl vh).length=K:=by unfold sS;simp
  have e2:=count_ok (sS K vl vh) hlt (by omega)
  have hmem:∀x ∈ YF ((sS K vl vh).map fun p=>rg p.1 p.2),∀y ∈ x,y.natAbs < 2 ^ 1006:=fun x hx y hy=>by
   obtain⟨R,h1,h2⟩:=JB _ x hx y hy
   obtain⟨q,hq,rfl⟩:=List.mem_map.mp h1
   obtain⟨i,hi,rfl⟩:=List.mem_map.mp hq
   exact g_small ⟨ps,p⟩ E (List.mem_range.mp hi) h2
  have hlen:∀x ∈ YF ((sS K vl vh).map fun p=>rg p.1 p.2),x.length=K:=fun x hx=>by
   rw[JC _ x hx,List.length_map,hln]
  have e4:=Vb (st:=Zw 0) (c:=tV (Zk XM (Zc (dVar 1) (Zc (dVar 0) dNil)))) (e:=dVar 0) (C:=[.emp,.val (Z4 K ls)]) eI eI (W2 ls) (YF ((sS K vl vh).map fun p=>rg p.1 p.2)) fun x hx=>by
   have:=zcL h.lim h.wb k1.2 h.len (hlen x hx) (hmem x hx)
   exact⟨[.val (eI x),.val (Z4 K ls)],rfl,by simp[this],fun _=>rfl⟩
  have e3:=ZY (st:=Zw 0) (e:=Zk Wo (Zc (dVar 1) (Zc (dVar 0) dNil))) (C:=[.emp,.val (.list ((sS K vl vh).map sT))]) (fun(n:Nat)=>PyData.int (n:Int)) (fun n=>eI (pat (sS K vl vh) n).1) (List.range (cnt (sS K vl vh))) fun n hn=>by
   have hn':=List.mem_range.mp hn
   have:=zdu (sS K vl vh) n (fun q hq=>⟨zhO _ (by omega) q hq,hlt q hq⟩) (by omega)
   exact⟨[.val (.int (n:Int)),.val (.list ((sS K vl vh).map sT))],rfl,by simp[this]⟩
  rw[<- Y1] at e3
  have e3':(List.range (cnt (sS K vl vh))).map (fun n=>eI (pat (sS K vl vh) n).1)=(YF ((sS K vl vh).map fun p=>rg p.1 p.2)).map eI:=by
   rw[<- zeg,List.map_map];rfl
  have e3l:(YF ((sS K vl vh).map fun p=>rg p.1 p.2)).length=cnt (sS K vl vh):=by rw[<- zeg];simp
  rw[e3'] at e3
  generalize YF ((sS K vl vh).map fun p=>rg p.1 p.2)=xs at *
  generalize (sS K vl vh).map sT=st at *
  generalize cnt (sS K vl vh)=c at *
  generalize (xs.filter (W2 ls)).map eI=told at *
  have hx:(xs.map eI).length=xs.length:=List.length_map _
  generalize xs.map eI=ys at *
  simp only[Z4] at ej e1 e4
  by_cases hc:400 < c
  ·rw[if_pos hc]
   have hc':(400:Int) < (c:Int):=by omega
   simp[Zo,YY,Y3,X3,X2,runF,ej,at0,at1,pc,r1,Yp,r2,e1,e2,hc']
  ·rw[if_neg hc]
   have hc':¬(400:Int) < (c:Int):=by omega
   have r3:X7 (c:Int)=true:=ZK (by omega)
   have r4:c<=16777216:=by omega
   have r5:ys.length<=16777216:=by omega
   simp[Zo,YY,Y3,X3,X2,Vv,Vu,runF,ej,at0,at1,pc,r1,Yp,r2,e1,e2,hc',r3,r4,r5,e3,e4]
end
end K13
namespace K13
open PySem Fx Lx
open Lw
open K06 (wv cc bc be ec ee at30 at31 at32 Uv X0 Vy YI X1)
theorem zcY:∀(ws x:List Int) (i:Nat) (w p:Int),ws[i]? = some w->x[i]? = some p->dotI (ws.take (i+1)) (x.take (i+1))=dotI (ws.take i) (x.take i)+w * p
 | [],_,i,w,p,h,_=>by simp at h
 | _::_,[],i,w,p,_,h=>by simp at h
 | a::ws,b::xs,0,w,p,h1,h2=>by
  simp at h1 h2
  subst h1;subst h2
  simp[dotI]
 | a::ws,b::xs,i+1,w,p,h1,h2=>by
  have ih:=zcY ws xs i w p (by simpa using h1) (by simpa using h2)
  show a * b+dotI (ws.take (i+1)) (xs.take (i+1))=a * b+dotI (ws.take i) (xs.take i)+w * p
  rw[ih];omega
def bKi:DS:=(dSet 3 [] (d2 fAdd (dVar 3) (d2 fMul (d2 fIx (d2 fIx (dVar 2) (dC (.int 0))) (dVar 4)) (d2 fIx (dVar 1) (dVar 4)))))
def bKo:DS:=(dSeq (dSet 3 [] (dC (.int 0)))
  (dSeq (dFor (Zw 4) [] (iRng (d1 fLen (dVar 1))) bKi)
  (dIf (tV (d2 fGt (dVar 3) (d2 fIx (dVar 2) (dC (.int 1)))))
  (dRet (dC (.bool false)))
  Z2)))
theorem ki_step {l:Lim}{x:List Int}(t:PyData) (hl:l.1.length=x.length) (hx:∀y ∈ x,y.natAbs<=1000000) {i:Nat}(hi:i < x.length) (c:Int) :
  bKi [.val t,.val (eI x),.val (limL l),.val (.int c),.val (.int (i:Int))]=.ok (.nx [.val t,.val (eI x),.val (limL l),.val (.int (c+(l.1[i]'(by omega)) * x[i])),.val (.int (i:Int))]):=by
 have a1:=zb7 (f:=PyData.int) (xs:=l.1) (i:=i) (by omega)
 have a2:=zb7 (f:=PyData.int) (xs:=x) (i:=i) hi
 have m1:XL (l.1[i]'(by omega)) x[i]=true:=zgU (by have:=hx x[i] (List.getElem_mem hi);omega)
 generalize (l.1[i]'(by omega))=u at *
 generalize x[i]=v at *
 simp[bKi,limL,at0,a1,a2,m1,eI]
theorem ki_loop (t:PyData) {l:Lim}{x:List Int}(hl:l.1.length=x.length) (hx:∀y ∈ x,y.natAbs<=1000000) (s4:Sl):∃s4',forL (Zw 4) bKi (rngT 0 x.length) [.val t,.val (eI x),.val (limL l),.val (.int 0),s4]=.ok (.nx [.val t,.val (eI x),.val (limL l),.val (.int (dotI l.1 x)),s4']):=by
 obtain⟨G',e,s',rfl⟩:=zbP (st:=Zw 4) (b:=bKi) (n:=x.length) (G:=[.val t,.val (eI x),.val (limL l),.val (.int 0),s4])
  (fun i G=>∃s4,G=[.val t,.val (eI x),.val (limL l),.val (.int (dotI (l.1.take i) (x.take i))),s4]) ⟨s4,by simp[dotI]⟩ fun i G hi ⟨s,hG⟩=>by
   subst hG
   refine⟨_,rfl,_,.inl (ki_step t hl hx hi _),.val (.int (i:Int)),?_⟩
   rw[zcY l.1 x i (l.1[i]'(by omega)) x[i] (List.getElem?_eq_getElem _) (List.getElem?_eq_getElem _)]
 refine⟨s',?_⟩
 rw[e,List.take_length,<- hl,List.take_length]
theorem ko_step (t:PyData) {l:Lim}{x:List Int}(hl:l.1.length=x.length) (hx:∀y ∈ x,y.natAbs<=1000000) (hn:x.length<=1000) (s3 s4:Sl):∃s4',bKo [.val t,.val (eI x),.val (limL l),s3,s4]=.ok (if dotI l.1 x<=l.2 then .nx [.val t,.val (eI x),.val (limL l),.val (.int (dotI l.1 x)),s4'] else .rt (.bool false)):=by
 obtain⟨s4',e⟩:=ki_loop t hl hx s4
 refine⟨s4',?_⟩
 have r:=ZK (n:=x.length) (by omega)
 unfold bKo
 generalize bKi=b at *
 generalize dotI l.1 x=v at *
 have c1:fIx (limL l) (.int 1)=.ok (.int l.2):=by simp[limL,at1]
 have c2:fLen (eI x)=.ok (.int (x.length:Int)):=by simp[eI]
 generalize limL l=L at *
 generalize eI x=ex at *
 by_cases h:v<=l.2
 ·have h':¬l.2 < v:=by omega
  simp[c1,c2,e,r,h,h',-fIx,-fLen]
 ·have h':l.2 < v:=by omega
  simp[c1,c2,e,r,h,h',-fIx,-fLen]
theorem zg5 (t:PyData) {x:List Int}(hx:∀y ∈ x,y.natAbs<=1000000) (hn:x.length<=1000):∀(ls:List Lim) (s2 s3 s4:Sl),(∀l ∈ ls,l.1.length=x.length) ->
  ∃s2' s3' s4',forL (Zw 2) bKo (ls.map limL) [.val t,.val (eI x),s2,s3,s4]=.ok (if W2 ls x then .nx [.val t,.val (eI x),s2',s3',s4'] else .rt (.bool false))
 | [],s2,s3,s4,_=>⟨s2,s3,s4,rfl⟩
 | l::ls,s2,s3,s4,h=>by
  obtain⟨s4',e⟩:=ko_step t (h l List.mem_cons_self) hx hn s3 s4
  obtain⟨a,b,c,e2⟩:=zg5 t hx hn ls (.val (limL l)) (.val (.int (dotI l.1 x))) s4' fun m hm=>h m (List.mem_cons_of_mem _ hm)
  refine⟨a,b,c,?_⟩
  rw[List.map_cons]
  unfold forL
  have kb:W2 (l::ls) x=(decide (dotI l.1 x<=l.2) && W2 ls x):=rfl
  rw[kb]
  by_cases g:dotI l.1 x<=l.2
  ·rw[if_pos g] at e
   simp[e,e2,g]
  ·rw[if_neg g] at e
   simp[e,g]
theorem kept_ok {x:List Int}(hx:∀y ∈ x,y.natAbs<=1000000) (hn:x.length<=1000) {ls:List Lim}(h:∀l ∈ ls,l.1.length=x.length):Xh [.list (ls.map limL),eI x]=.ok (.bool (W2 ls x)):=by
 obtain⟨a,b,c,e⟩:=zg5 (.list (ls.map limL)) hx hn ls .emp .emp .emp h
 have hd:za7=dSeq (dFor (Zw 2) [] (iSeq (dVar 0)) bKo) VM:=rfl
 generalize bKo=bo at *
 generalize W2 ls x=k at *
 cases k <;> simp at e <;> simp[Xh,hd,VM,runQ,runF,e]
theorem cut_hi' {xs:List PyData}(p:Nat):cutT xs (some (p:Int)) none=xs.drop p:=by
 by_cases h:p<=xs.length
 ·exact cut_hi h
 ·have h1:¬((p:Int) < 0):=by omega
  have h2:min p xs.length=xs.length:=by omega
  simp only[cutT,sIxT,if_neg h1,Int.toNat_natCast,h2]
  rw[List.drop_eq_nil_of_le (show xs.length<=p by omega)]
  simp
theorem zfL (k i:Nat):Yj (Zw 0) tT (d1 fInt (d2 fEq (dVar 0) (dVar 1))) [.emp,.val (.int (i:Int))] (rngT 0 k)=.ok ((YJ k i).map .int):=by
 rw[Y1,X0,List.map_map]
 exact ZY _ _ _ fun j _=>⟨_,rfl,by simp[X1];split <;> split <;> first | rfl | omega⟩
theorem zeZ (k i:Nat):Yj (Zw 0) tT (d1 fNeg (d1 fInt (d2 fEq (dVar 0) (dVar 1)))) [.emp,.val (.int (i:Int))] (rngT 0 k)=.ok (((YJ k i).map fun x=>-x).map .int):=by
 rw[Y1,X0,List.map_map,List.map_map]
 exact ZY _ _ _ fun j _=>⟨_,rfl,by simp[X1];split <;> split <;> first | rfl | omega⟩
def bL1:DS:=(dSeq (dApp 3 [] (dTup (Zc (dL (Yz 1 [4] (Zw 0) (iRng (dVar 1)) tT (d1 fInt (d2 fEq (dVar 0) (dVar 1))))) (Zc (d2 fMod (Zk Zm (Zc (dVar 0) (Zc (d2 fAdd (dC (.int 2)) (dVar 4)) dNil))) (dC (.int 4))) dNil))))
  (dApp 3 [] (dTup (Zc (dL (Yz 1 [4] (Zw 0) (iRng (dVar 1)) tT (d1 fNeg (d1 fInt (d2 fEq (dVar 0) (dVar 1)))))) (Zc (d2 fMod (Zk Zm (Zc (dVar 0) (Zc (d2 fAdd (dC (.int 5)) (dVar 4)) dNil))) (dC (.int 4))) dNil)))))
def bL2:DS:=(dSeq (dSet 5 [] (dL (Yz 1 [0,4] (Zw 0) (iRng (d2 fAdd (dVar 1) (dC (.int 1)))) tT (Zk ZT (Zc (Zk Zm (Zc (dVar 1) (Zc (d2 fAdd (d2 fAdd (dC (.int 10)) (d2 fMul (dC (.int 4)) (dVar 2))) (dVar 0)) dNil))) (Zc (dC (.int 3)) dNil))))))
  (dApp 3 [] (dTup (Zc (dL (oCut (dVar 5) pNo (pAt (dVar 1)))) (Zc (d2 fIx (dVar 5) (dVar 1)) dNil)))))
theorem l1_step (ns:List Int) {k i:Nat}(p:PyData) (hk:k<=4) (xs:List PyData) (hx:xs.length < 100):∃c d:Nat,c<=3/\d<=3 /\
  bL1 [.val (.list (ns.map .int)),.val (.int k),.val p,.own xs,.val (.int (i:Int)),.emp]=.ok (.nx [.val (.list (ns.map .int)),.val (.int k),.val p,.own (xs++[limL (YJ k i,(c:Int))]++[limL ((YJ k i).map fun x=>-x,(d:Int))]),.val (.int (i:Int)),.emp]):=by
 obtain⟨c0,e1⟩:=WT ns ((2:Int)+(i:Int)) (by omega)
 obtain⟨d0,e2⟩:=WT ns ((5:Int)+(i:Int)) (by omega)
 obtain⟨c,f1,h1⟩:=JI (c:=c0) (n:=4) (by decide)
 obtain⟨d,f2,h2⟩:=JI (c:=d0) (n:=4) (by decide)
 refine⟨c,d,by omega,by omega,?_⟩
 have u1:=zfL k i
 have u2:=zeZ k i
 have r:=ZK (n:=k) (by omega)
 have r2:k<=16777216:=by omega
 have f1':c0.fmod 4=(c:Int):=f1
 have f2':d0.fmod 4=(d:Int):=f2
 have x1:xs.length < 16777216:=by omega
 have x2:xs.length+1 < 16777216:=by omega
 unfold bL1 limL
 generalize (d1 fInt (d2 fEq (dVar 0) (dVar 1)))=q1 at *
 generalize (d1 fNeg q1)=q2 at *
 generalize ((YJ k i).map fun x=>-x)=nu at *
 generalize YJ k i=u at *
 simp[u1,u2,e1,e2,f1',f2',r,r2,Yp,x1,x2]
structure L1 (k n:Nat) (ls:List Lim):Prop where
 ok:∀l ∈ ls,LimOk k 3 l
 un:∀i,i < n->∃c d:Int,(YJ k i,c) ∈ ls/\((YJ k i).map fun x=>-x,d) ∈ ls
theorem zaI {n i:Nat}:∀x ∈ YJ n i,x.natAbs<=3:=fun x hx=>by
 rw[X0] at hx
 obtain⟨j,_,rfl⟩:=List.mem_map.mp hx
 split <;> decide
theorem l1_loop (ns:List Int) {k:Nat}(p:PyData) (hk:k<=4):∃(ls:List Lim) (s4:Sl),ls.length=2 * k/\L1 k k ls /\
  forL (Zw 4) bL1 (rngT 0 k) [.val (.list (ns.map .int)),.val (.int k),.val p,.own [],.emp,.emp]=.ok (.nx [.val (.list (ns.map .int)),.val (.int k),.val p,.own (ls.map limL),s4,.emp]):=by
 obtain⟨G',e,ls,s4,hl,h,rfl⟩:=zbP (st:=Zw 4) (b:=bL1) (n:=k) (G:=[.val (.list (ns.map .int)),.val (.int k),.val p,.own [],.emp,.emp])
  (fun i G=>∃(ls:List Lim) (s4:Sl),ls.length=2 * i/\L1 k i ls/\G=[.val (.list (ns.map .int)),.val (.int k),.val p,.own (ls.map limL),s4,.emp])
  ⟨[],.emp,rfl,⟨by simp,fun i hi=>absurd hi (by omega)⟩,rfl⟩ fun i G hi ⟨ls,s4,hl,h,hG⟩=>by
   subst hG
   obtain⟨c,d,hc,hd,e⟩:=l1_step ns (k:=k) (i:=i) p hk (ls.map limL) (by rw[List.length_map];omega)
   refine⟨_,rfl,_,.inl e,ls++[(YJ k i,(c:Int))]++[((YJ k i).map fun x=>-x,(d:Int))],.val (.int (i:Int)),by simp[hl];omega,⟨?_,?_⟩,by simp⟩
   ·intro l hm
    rw[List.append_assoc] at hm
    rcases List.mem_append.mp hm with hm | hm
    ·exact h.ok l hm
    ·rcases List.mem_cons.mp hm with rfl | hm
     ·exact⟨YI k i,zaI,by simp;omega⟩
     ·rcases List.mem_cons.mp hm with rfl | hm
      ·refine⟨by simp[YI],fun x hx=>?_,by simp;omega⟩
       obtain⟨y,hy,rfl⟩:=List.mem_map.mp hx
       rw[Int.natAbs_neg];exact zaI y hy
      ·cases hm
   ·intro j hj
    by_cases q:j < i
    ·obtain⟨c,d,h1,h2⟩:=h.un j q
     exact⟨c,d,by simp[h1],by simp[h2]⟩
    ·have:j=i:=by omega
     subst this
     exact⟨c,d,by simp,by simp⟩
 exact⟨ls,s4,hl,h,e⟩
theorem comp3 (ns:List Int) (i:Nat):∀(ks:List Nat),∃rs:List Int,Yj (Zw 0) tT (Zk ZT (Zc (Zk Zm (Zc (dVar 1) (Zc (d2 fAdd (d2 fAdd (dC (.int 10)) (d2 fMul (dC (.int 4)) (dVar 2))) (dVar 0)) dNil))) (Zc (dC (.int 3)) dNil)))
  [.emp,.val (.list (ns.map .int)),.val (.int (i:Int))] (ks.map fun(k:Nat)=>PyData.int (k:Int))=.ok (rs.map .int)/\rs.length=ks.length/\∀x ∈ rs,x.natAbs<=3
 | []=>⟨[],rfl,rfl,by simp⟩
 | k::ks=>by
  obtain⟨rs,e,hl,hb⟩:=comp3 ns i ks
  obtain⟨c,e1⟩:=WT ns ((10:Int)+4 * (i:Int)+(k:Int)) (by omega)
  obtain⟨r,e2,h1,h2⟩:=zcF c 3 (by omega) (by decide)
  have m:XL 4 (i:Int)=true:=JG (by decide)
  refine⟨r::rs,?_,by simp[hl],?_⟩
  ·rw[List.map_cons]
   unfold Yj
   simp[e1,e2,e,m]
  ·intro x hx
   rcases List.mem_cons.mp hx with rfl | hx
   ·omega
   ·exact hb x hx
theorem l2_step (ns:List Int) {k i:Nat}(p:PyData) (hk:k<=4) (xs:List PyData) (hx:xs.length < 100) (s5:Sl):∃(l:Lim) (s5':Sl),LimOk k 3 l /\
  bL2 [.val (.list (ns.map .int)),.val (.int k),.val p,.own xs,.val (.int (i:Int)),s5]=.ok (.nx [.val (.list (ns.map .int)),.val (.int k),.val p,.own (xs++[limL l]),.val (.int (i:Int)),s5']):=by
 obtain⟨rs,e,hl,hb⟩:=comp3 ns i (List.range (k+1))
 rw[<- Y1] at e
 have hl':rs.length=k+1:=by rw[hl,List.length_range]
 have r:=ZK (n:=k+1) (by omega)
 have r2:k+1<=16777216:=by omega
 have x1:xs.length < 16777216:=by omega
 have a1:=zb7 (f:=PyData.int) (xs:=rs) (i:=k) (by omega)
 have c1:=cut_lo (xs:=rs.map PyData.int) (p:=k) (by simp;omega)
 rw[<- List.map_take] at c1
 have hk0:rs[k] ∈ rs:=List.getElem_mem _
 refine⟨(rs.take k,rs[k]),.val (.list (rs.map .int)),⟨by simp;omega,fun x hx=>hb x (List.mem_of_mem_take hx),hb _ hk0⟩,?_⟩
 unfold bL2 limL
 generalize (Zk ZT (Zc (Zk Zm (Zc (dVar 1) (Zc (d2 fAdd (d2 fAdd (dC (.int 10)) (d2 fMul (dC (.int 4)) (dVar 2))) (dVar 0)) dNil))) (Zc (dC (.int 3)) dNil)))=q at *
 generalize rs[k]=v at *
 generalize rs.take k=rt at *
 have hk1:(k:Int)+1=((k+1:Nat):Int):=by simp
 have r':X7 ((k:Int)+1)=true:=by rw[hk1];exact r
 have r3:((k:Int)+1).toNat=k+1:=by omega
 simp[e,r',r3,r2,Yp,x1,a1,c1]
theorem l2_loop (ns:List Int) {k:Nat}(p:PyData) (hk:k<=4) (n:Nat) (hn:n<=3) (l0:List Lim) (hl0:l0.length<=20) (h0:∀l ∈ l0,LimOk k 3 l) (s4 s5:Sl):∃(ls:List Lim) (s4' s5':Sl),ls.length=l0.length+n/\(∀l ∈ ls,LimOk k 3 l)/\(∀l ∈ l0,l ∈ ls) /\
  forL (Zw 4) bL2 (rngT 0 n) [.val (.list (ns.map .int)),.val (.int k),.val p,.own (l0.map limL),s4,s5]=.ok (.nx [.val (.list (ns.map .int)),.val (.int k),.val p,.own (ls.map limL),s4',s5']):=by
 obtain⟨G',e,ls,s4',s5',hl,h,hm,rfl⟩:=zbP (st:=Zw 4) (b:=bL2) (n:=n) (G:=[.val (.list (ns.map .int)),.val (.int k),.val p,.own (l0.map limL),s4,s5])
  (fun i G=>∃(ls:List Lim) (s4 s5:Sl),ls.length=l0.length+i/\(∀l ∈ ls,LimOk k 3 l)/\(∀l ∈ l0,l ∈ ls)/\G=[.val (.list (ns.map .int)),.val (.int k),.val p,.own (ls.map limL),s4,s5])
  ⟨l0,s4,s5,rfl,h0,fun _ h=>h,rfl⟩ fun i G hi ⟨ls,s4,s5,hl,h,hm,hG⟩=>by
   subst hG
   obtain⟨l,s5',hlk,e⟩:=l2_step ns (k:=k) (i:=i) p hk (ls.map limL) (by rw[List.length_map];omega) s5
   refine⟨_,rfl,_,.inl e,ls++[l],.val (.int (i:Int)),s5',by simp[hl];omega,?_,fun m q=>List.mem_append_left _ (hm m q),by simp⟩
   intro m q
   rcases List.mem_append.mp q with q | q
   ·exact h m q
   ·rw[List.mem_singleton.mp q];exact hlk
 exact⟨ls,s4',s5',hl,h,hm,e⟩
structure LL (k p:Nat) (ls:List Lim):Prop where
 ok:∀l ∈ ls,LimOk k 3 l
 len:ls.length<=10
 un:p=2 * k->∀i,i < k->∃c d:Int,(YJ k i,c) ∈ ls/\((YJ k i).map fun x=>-x,d) ∈ ls
theorem zgZ (ns:List Int) {k p:Nat}(hk:1<=k/\k<=3) (hp:p<=2 * k):∃ls,LL k p ls/\XT [.list (ns.map .int),.int k,.int p]=.ok (.list (ls.map limL)):=by
 obtain⟨l1,s4,hl1,h1,e1⟩:=l1_loop ns (k:=k) (.int (p:Int)) (by omega)
 obtain⟨c,ec⟩:=WT ns 8 (by omega)
 obtain⟨n,fn,hn⟩:=JI (c:=c) (n:=4) (by decide)
 have fn':c.fmod 4=(n:Int):=fn
 have sub:∀l ∈ l1.take p++l1.drop (p+1),l ∈ l1:=fun l hl=>by
  rcases List.mem_append.mp hl with q | q
  ·exact List.mem_of_mem_take q
  ·exact List.mem_of_mem_drop q
 have hlen:(l1.take p++l1.drop (p+1)).length<=6:=by simp;omega
 obtain⟨ls,s4',s5',hl,h,hm,e2⟩:=l2_loop ns (k:=k) (.int (p:Int)) (by omega) n (by omega) (l1.take p++l1.drop (p+1)) (by omega) (fun l hl=>h1.ok l (sub l hl)) s4 .emp
 refine⟨ls,⟨h,by omega,fun hp2 i hi=>?_⟩,?_⟩
 ·obtain⟨c,d,m1,m2⟩:=h1.un i hi
  have all:∀l ∈ l1,l ∈ ls:=fun l q=>hm l (by
   rw[hp2,<- hl1,List.take_length]
   exact List.mem_append_left _ q)
  exact⟨c,d,all _ m1,all _ m2⟩
 ·have hd1:Ui=dSeq (dFor (Zw 4) [] (iRng (dVar 1)) bL1) WR:=rfl
  have hd3:Uh=dSeq (dFor (Zw 4) [] (iRng (d2 fMod (Zk Zm (Zc (dVar 0) (Zc (dC (.int 8)) dNil))) (dC (.int 4)))) bL2) WQ:=rfl
  have r1:=ZK (n:=k) (by omega)
  have r2:=ZK (n:=n) (by omega)
  have cl:cutT (l1.map limL) none (some (p:Int))=(l1.take p).map limL:=by rw[cut_lo (by simp;omega),List.map_take]
  have ch:cutT (l1.map limL) (some ((p:Int)+1)) none=(l1.drop (p+1)).map limL:=by
   have:=cut_hi' (xs:=l1.map limL) (p+1)
   rw[<- List.map_drop] at this
   simpa using this
  have q1:(l1.take p).length+(l1.drop (p+1)).length<=16777216:=by rw[List.length_append] at hlen;omega
  rw[List.map_append] at e2
  generalize bL1=b1 at *
  generalize bL2=b2 at *
  generalize l1.take p=ta at *
  generalize l1.drop (p+1)=dr at *
  simp[XT,Q0,hd1,WR,hd3,WQ,runQ,runF,e1,e2,r1,r2,cl,ch,q1,ec,fn']
theorem box1:XV [.int 1]=.ok (.list ((YF (List.replicate 1 (rg (-3) 7))).map eI)):=by rfl
theorem box2:XV [.int 2]=.ok (.list ((YF (List.replicate 2 (rg (-3) 7))).map eI)):=by rfl
theorem box3:XV [.int 3]=.ok (.list ((YF (List.replicate 3 (rg (-3) 7))).map eI)):=by rfl
end K13
namespace K13
open PySem Fx Lx
open Lw
open K06 (wv cc bc be ec ee at30 at31 at32 Uv X0 Vy YI X1)
theorem inB_of:∀(ss:List (Int × Nat)) (x:List Int),(∀(i:Nat) p y,ss[i]? = some p->x[i]? = some y->p.1<=y/\y < p.1+(p.2:Int))->inB ss x=true
 | [],x,_=>by cases x <;> rfl
 | p::r,[],_=>rfl
 | p::r,x::xs,h=>by
  have h0:=h 0 p x rfl rfl
  have ih:=inB_of r xs fun i p y a b=>h (i+1) p y (by simpa using a) (by simpa using b)
  show(decide (p.1<=x) && decide (x < p.1+(p.2:Int)) && inB r xs)=true
  simp[h0.1,h0.2,ih]
theorem cnt_le {N:Nat}:∀ss:List (Int × Nat),(∀p ∈ ss,p.2<=N)->cnt ss<=N ^ ss.length
 | [],_=>Nat.le_refl _
 | p::r,h=>by
  show p.2 * cnt r<=N ^ (r.length+1)
  rw[Nat.pow_succ,Nat.mul_comm]
  exact Nat.mul_le_mul (cnt_le r fun q hq=>h q (List.mem_cons_of_mem _ hq)) (h p List.mem_cons_self)
section
variable {k w:Nat}{ls:List Lim}{vl vh:Nat->Option Rat}
theorem zg4 {x:List Int}(h:W2 ls x=true):∀l ∈ ls,dot l.1 (qs x)<=(l.2:Rat):=fun l hl=>by
 rw[zdN]
 exact Rat.intCast_le_intCast.mpr (of_decide_eq_true (List.all_eq_true.mp h l hl))
theorem zgs {x:List Int}(hx:x.length=k) (hs:∀y ∈ x,y.natAbs < 2 ^ 60) (h:W2 ls x=true):Pt k 210 ls (qs x):=by
 refine⟨by unfold qs;simpa using hx,fun q hq=>?_,zg4 h⟩
 obtain⟨i,hi,rfl⟩:=List.mem_map.mp hq
 exact Sz.ofInt (Nat.lt_of_lt_of_le (hs i hi) (Nat.pow_le_pow_right (by decide) (by decide))) (by decide)
theorem qs_at {x:List Int}{i:Nat}{y:Int}(h:x[i]? = some y):(qs x).getD i 0=(y:Rat):=by
 simp[qs,h]
theorem a_los (a:Rat):a<=((los a:Int):Rat):=zdW.mpr (Int.le_refl _)
theorem his_b (b:Rat):((his b:Int):Rat)<=b:=Jm.mpr (Int.le_refl _)
theorem rg3 {y:Int}(h:y ∈ rg (-3) 7):y.natAbs<=3:=by
 obtain⟨i,hi,rfl⟩:=List.mem_map.mp h
 have:=List.mem_range.mp hi
 omega
theorem zap {x:List Int}(h:x ∈ YF (List.replicate k (rg (-3) 7))):x.length=k/\∀y ∈ x,y.natAbs<=3:=by
 refine⟨by rw[JC _ x h,List.length_replicate],fun y hy=>?_⟩
 obtain⟨R,h1,h2⟩:=JB _ x h y hy
 rw[(List.mem_replicate.mp h1).2] at h2
 exact rg3 h2
theorem ends3 (h:LL k (2 * k) ls) (E:EA k ls vl vh) {i:Nat}(hi:i < k):∃a b,vl i=some a/\vh i=some b/\-3<=los a/\his b<=3:=by
 obtain⟨c,d,m1,m2⟩:=h.un rfl i hi
 have b1:c.natAbs<=3:=(h.ok _ m1).3
 have b2:d.natAbs<=3:=(h.ok _ m2).3
 cases ha:vl i with
 | none=>
  obtain⟨ws,wl,wk,wn⟩:=(E.e i hi).loN ha
  have:=wk _ m2
  rw[VC hi wl] at this
  exfalso;grind
 | some a=>
  cases hb:vh i with
  | none=>
   obtain⟨ws,wl,wk,wn⟩:=(E.e i hi).hiN hb
   have:=wk _ m1
   rw[U0 hi wl] at this
   exfalso;grind
  | some b=>
   refine⟨a,b,rfl,rfl,?_,?_⟩
   ·obtain⟨_,⟨ps,p,e⟩,_⟩:=(E.e i hi).lo a ha
    have q:=p.kp _ m2
    rw[VC hi p.len,e] at q
    have q':-a<=(d:Rat):=q
    have q2:((-d:Int):Rat)<=((los a:Int):Rat):=by
     have:=a_los a
     rw[Rat.intCast_neg];grind
    have:=Rat.intCast_le_intCast.mp q2
    omega
   ·obtain⟨_,⟨ps,p,e⟩,_⟩:=(E.e i hi).hi b hb
    have q:=p.kp _ m1
    rw[U0 hi p.len,e] at q
    have q':b<=(c:Rat):=q
    have q2:((his b:Int):Rat)<=((c:Int):Rat):=Rat.le_trans (his_b b) q'
    have:=Rat.intCast_le_intCast.mp q2
    omega
theorem wp_main (hk:1<=k/\k<=3) (h:LL k (2 * k) ls):Zo [Z4 k ls]=.ok (.list (((YF (List.replicate k (rg (-3) 7))).filter (W2 ls)).map eI)):=by
 have D:Dk k 3 ls:=⟨h.ok,by decide,by omega,h.len⟩
 rcases zeP D with ⟨ss,c⟩ | hp
 ·rw[zd4 D c]
  have:(YF (List.replicate k (rg (-3) 7))).filter (W2 ls)=[]:=List.filter_eq_nil_iff.mpr fun x hx hq=>by
   obtain⟨h1,h2⟩:=zap hx
   exact Jk D.dk.w c (zgs h1 (fun y hy=>Nat.lt_of_le_of_lt (h2 y hy) (by decide)) hq)
  rw[this];rfl
 ·obtain⟨vl,vh,E⟩:=ea_ok D hp
  rw[wp_ok D hp E]
  have hall:(List.range k).all (bS vl vh)=true:=by
   rw[List.all_eq_true]
   intro i hi
   obtain⟨a,b,ha,hb,_⟩:=ends3 h E (List.mem_range.mp hi)
   simp[bS,ha,hb]
  have hss:∀p ∈ sS k vl vh,(-3:Int)<=p.1/\p.1+(p.2:Int) <= -3+((7:Nat):Int):=fun p hq=>by
   obtain⟨i,hi,rfl⟩:=List.mem_map.mp hq
   obtain⟨a,b,ha,hb,h1,h2⟩:=ends3 h E (List.mem_range.mp hi)
   have g:=gap hp E (List.mem_range.mp hi) ha hb
   have e:gS vl vh i=(los a,(his b - los a+1).toNat):=by unfold gS;rw[ha,hb]
   rw[e]
   constructor
   ·exact h1
   ·show los a+(((his b - los a+1).toNat:Nat):Int)<=_
    omega
  have hln:(sS k vl vh).length=k:=by unfold sS;simp
  have hc:¬400 < cnt (sS k vl vh):=by
   have h1:=cnt_le (N:=7) (sS k vl vh) fun p hq=>by have:=hss p hq;omega
   rw[hln] at h1
   have h2:7 ^ k<=7 ^ 3:=Nat.pow_le_pow_right (by decide) hk.2
   have h3:(7:Nat) ^ 3=343:=by decide
   omega
  rw[if_pos hall,if_neg hc]
  have er:((sS k vl vh).map fun _=>rg (-3) 7)=List.replicate k (rg (-3) 7):=by rw[List.map_const',hln]
  rw[ze8 hss fun x hx hq=>?_,er]
  refine inB_of _ _ fun i p y hi hy=>?_
  obtain⟨h1,h2⟩:=zap (er ▸ hx)
  have hik:i < k:=by
   have:=(List.getElem?_eq_some_iff.mp hy).1
   omega
  have e:(sS k vl vh)[i]? = some (gS vl vh i):=by unfold sS;simp[hik]
  rw[e] at hi
  have hi':=Option.some.inj hi
  obtain⟨a,b,ha,hb,_⟩:=ends3 h E hik
  have g:=gap hp E hik ha hb
  have e2:gS vl vh i=(los a,(his b - los a+1).toNat):=by unfold gS;rw[ha,hb]
  rw[e2] at hi'
  subst hi'
  have q1:=((E.e i hik).lo a ha).2.2 (qs x) (by unfold qs;simpa using h1) (zg4 hq)
  have q2:=((E.e i hik).hi b hb).2.2 (qs x) (by unfold qs;simpa using h1) (zg4 hq)
  rw[qs_at hy] at q1 q2
  have z1:los a<=y:=zdW.mp q1
  have z2:y<=his b:=Jm.mp q2
  constructor
  ·exact z1
  ·show y < los a+(((his b - los a+1).toNat:Nat):Int)
   omega
theorem eq_nil:fEq (.list []) (.list [])=.ok (.bool true):=Jo (n:=1) (Vi (α:=Int) (f:=.int) (xs:=[]) (n:=0) (by simp)) (by decide)
theorem s_tt:subs ["TooMany"] ("TooMany" : Str)=true:=by decide +kernel
theorem zgT (q:Rat):UZ (fr q)=.ok (.bool true):=rfl
theorem none_exc (D:Dk k w ls) (hp:∃ps,Pt k 210 ls ps) (E:EA k ls vl vh) {i:Nat}(hi:i < k) (h:vl i=none\/vh i=none):Zo [Z4 k ls]=.exc "TooMany":=by
 rw[wp_ok D hp E]
 have:(List.range k).all (bS vl vh)=false:=by
  rw[List.all_eq_false]
  refine⟨i,List.mem_range.mpr hi,?_⟩
  rcases h with h | h <;> simp[bS,h]
 rw[this];rfl
theorem zeY (D:Dk k w ls) {i s:Nat}(hi:i < k) (hs:s < 2):ZH [Z4 k ls,.int i,.int s]=.ok (.bool true):=by
 have st:=s_tt
 rcases zeP D with ⟨ss,c⟩ | hp
 ·obtain⟨t,ej⟩:=zcO D c
  have ew:=zd4 D c
  generalize Z4 k ls=dk at *
  simp[ZH,Z7,runF,ej,at0,cc,ew,eq_nil]
 ·obtain⟨vl,vh,E⟩:=ea_ok D hp
  obtain⟨ps,p⟩:=id hp
  obtain⟨t,ej⟩:=zcN D p
  have es:=E.s i hi
  have en:=fun h=>none_exc D hp E hi h
  generalize Z4 k ls=dk at *
  rcases(show s=0\/s=1 by omega) with rfl | rfl
  ·cases hv:vl i with
   | some q=>
    rw[hv] at es
    have es':Z1 [dk,.int (i:Int)]=.ok (.tuple [fr q,wv (vh i)]):=es
    have nf:=zgT q
    generalize fr q=fq at *
    simp[ZH,Z7,Z9,runF,ej,at0,pc,es',nf,-UZ]
   | none=>
    rw[hv] at es
    have es':Z1 [dk,.int (i:Int)]=.ok (.tuple [.none,wv (vh i)]):=es
    have ew:=en (.inl hv)
    simp only[ZH,Z7,Z9,Y8,Y7]
    simp[runF,ej,at0,pc,es',ew]
  ·cases hv:vh i with
   | some q=>
    rw[hv] at es
    have es':Z1 [dk,.int (i:Int)]=.ok (.tuple [wv (vl i),fr q]):=es
    have nf:=zgT q
    generalize fr q=fq at *
    simp[ZH,Z7,Z9,runF,ej,at0,at1,pc,es',nf,-UZ]
   | none=>
    rw[hv] at es
    have es':Z1 [dk,.int (i:Int)]=.ok (.tuple [wv (vl i),.none]):=es
    have ew:=en (.inr hv)
    simp only[ZH,Z7,Z9,Y8,Y7]
    simp[runF,ej,at0,at1,pc,es',ew]
theorem zaV (hp:∃ps,Pt k 210 ls ps) (E:EA k ls vl vh) {i:Nat}(hi:i < k) {A B:Int}
  (m:∀x:List Rat,x.length=k->(∀l ∈ ls,dot l.1 x<=(l.2:Rat))->(A:Rat)<=x.getD i 0/\x.getD i 0<=(B:Rat))
  (pA:∃x:List Rat,x.length=k/\(∀l ∈ ls,dot l.1 x<=(l.2:Rat))/\x.getD i 0=(A:Rat)) (pB:∃x:List Rat,x.length=k/\(∀l ∈ ls,dot l.1 x<=(l.2:Rat))/\x.getD i 0=(B:Rat))
  (r:∀ws:List Rat,ws.length=k->(∀l ∈ ls,dot l.1 ws<=0)->ws.getD i 0=0):gS vl vh i=(A,(B - A+1).toNat)/\bS vl vh i=true:=by
 cases ha:vl i with
 | none=>
  obtain⟨ws,wl,wk,wn⟩:=(E.e i hi).loN ha
  rw[r ws wl wk] at wn
  exact absurd wn (by decide)
 | some a=>
  cases hb:vh i with
  | none=>
   obtain⟨ws,wl,wk,wn⟩:=(E.e i hi).hiN hb
   rw[r ws wl wk] at wn
   exact absurd wn (by decide)
  | some b=>
   obtain⟨_,⟨p1,q1,e1⟩,l1⟩:=(E.e i hi).lo a ha
   obtain⟨_,⟨p2,q2,e2⟩,l2⟩:=(E.e i hi).hi b hb
   obtain⟨x1,y1,y2,y3⟩:=pA
   obtain⟨x2,z1,z2,z3⟩:=pB
   have ea:a=(A:Rat):=by
    have h1:=l1 x1 y1 y2
    have h2:=(m p1 q1.len q1.kp).1
    rw[y3] at h1;rw[e1] at h2
    exact Rat.le_antisymm h1 h2
   have eb:b=(B:Rat):=by
    have h1:=l2 x2 z1 z2
    have h2:=(m p2 q2.len q2.kp).2
    rw[z3] at h1;rw[e2] at h2
    exact Rat.le_antisymm h2 h1
   have e3:los (A:Rat)=A:=by unfold los;simp
   have e4:his (B:Rat)=B:=by unfold his;simp
   subst ea;subst eb
   constructor
   ·unfold gS
    rw[ha,hb]
    show(los (A:Rat),(his (B:Rat) - los (A:Rat)+1).toNat)=_
    rw[e3,e4]
   ·simp[bS,ha,hb]
end
end K13
namespace K13
open PySem Fx Lx
open Lw
open K06 (wv cc bc be ec ee at30 at31 at32 Uv X0 Vy YI X1)
def zaD (size:Nat) (shift:Int):List Lim:=[([1],shift+size - 1),([-1],-shift)]
theorem lists1 {x:List Rat}(h:x.length=1):∃u,x=[u]:=by
 match x,h with
 | [u],_=>exact⟨u,rfl⟩
theorem lists2 {x:List Rat}(h:x.length=2):∃u v,x=[u,v]:=by
 match x,h with
 | [u,v],_=>exact⟨u,v,rfl⟩
theorem zgY {size:Nat}{shift:Int}(h1:1<=size/\size<=500) (h2:shift.natAbs<=1000000000):Dk 1 1000001000 (zaD size shift):=by
 refine⟨fun l hl=>?_,by decide,by decide,by show 2<=10;decide⟩
 rcases List.mem_cons.mp hl with rfl | hl
 ·exact⟨rfl,by simp,by show(shift+(size:Int) - 1).natAbs<=_;omega⟩
 ·rw[List.mem_singleton.mp hl]
  exact⟨rfl,by simp,by show(-shift).natAbs<=_;omega⟩
theorem Jl {size:Nat}{shift:Int}{P:Lim->Prop}:(∀l ∈ zaD size shift,P l) ↔ P ([1],shift+size - 1)/\P ([-1],-shift):=by simp[zaD]
theorem long_wp {size:Nat}{shift:Int}(h1:1<=size/\size<=500) (h2:shift.natAbs<=1000000000) :
  Zo [Z4 1 (zaD size shift)]=if 400 < size then .exc "TooMany" else .ok (.list ((List.range size).map fun(k:Nat)=>eI [shift+(k:Int)])):=by
 have D:=zgY h1 h2
 have kb:∀y:Int,W2 (zaD size shift) [y]=decide (shift<=y/\y<=shift+size - 1):=fun y=>by
  simp[W2,zaD,dotI]
  by_cases a:shift<=y <;> by_cases b:y<=shift+size - 1 <;> simp[a,b]
 have hp:∃ps,Pt 1 210 (zaD size shift) ps:=⟨qs [shift],zgs rfl (fun y hy=>by rw[List.mem_singleton.mp hy];omega) (by rw[kb];exact decide_eq_true (by omega))⟩
 obtain⟨vl,vh,E⟩:=ea_ok D hp
 have c1:((shift+(size:Int) - 1:Int):Rat)=(shift:Rat)+((size:Int):Rat) - 1:=by simp
 have nz:(1:Rat)<=((size:Int):Rat):=Rat.intCast_le_intCast.mpr (by omega:(1:Int)<=(size:Int))
 obtain⟨g,b⟩:=zaV hp E (i:=0) (by decide) (A:=shift) (B:=shift+size - 1) (fun x hx kp=>by
   obtain⟨u,rfl⟩:=lists1 hx
   obtain⟨k1,k2⟩:=Jl.mp kp
   simp[dot] at k1 k2
   simp
   constructor <;> grind) ⟨[(shift:Rat)],rfl,Jl.mpr (by simp[dot];grind),rfl⟩ ⟨[((shift+(size:Int) - 1:Int):Rat)],rfl,Jl.mpr (by simp[dot];grind),rfl⟩ (fun ws hx kp=>by
   obtain⟨u,rfl⟩:=lists1 hx
   obtain⟨k1,k2⟩:=Jl.mp kp
   simp[dot] at k1 k2
   simp
   grind)
 have g':gS vl vh 0=(shift,size):=by
  rw[g]
  have:(shift+(size:Int) - 1 - shift+1).toNat=size:=by omega
  rw[this]
 have es:sS 1 vl vh=[(shift,size)]:=by show [gS vl vh 0]=_;rw[g']
 have ha:(List.range 1).all (bS vl vh)=true:=by show(bS vl vh 0 && true)=true;rw[b];rfl
 have ec:cnt [(shift,size)]=size:=by show size * 1=size;omega
 rw[wp_ok D hp E,es,if_pos ha,ec]
 by_cases hc:400 < size
 ·rw[if_pos hc,if_pos hc]
 ·rw[if_neg hc,if_neg hc]
  have ep:(YF ([(shift,size)].map fun p=>rg p.1 p.2)).filter (W2 (zaD size shift))=(List.range size).map fun(k:Nat)=>[shift+(k:Int)]:=by
   have e0:YF ([(shift,size)].map fun p=>rg p.1 p.2)=(List.range size).map fun(k:Nat)=>[shift+(k:Int)]:=by
    show(rg shift size).flatMap (fun x=>[[x]])=_
    unfold rg
    rw[List.flatMap_map]
    generalize List.range size=L
    induction L with
    | nil=>rfl
    | cons a L ih=>rw[List.flatMap_cons,ih];rfl
   rw[e0,List.filter_eq_self]
   intro x hx
   obtain⟨i,hi,rfl⟩:=List.mem_map.mp hx
   have:=List.mem_range.mp hi
   rw[kb];exact decide_eq_true (by omega)
  rw[ep,List.map_map];rfl
theorem long_ok (ns:List Int):W4 [.list (ns.map .int)]=.ok (.bool true):=by
 obtain⟨c2,e2⟩:=WT ns 2 (by omega)
 obtain⟨c3,e3⟩:=WT ns 3 (by omega)
 obtain⟨r,fr,hr⟩:=JI (c:=c2) (n:=8) (by decide)
 have fr':c2.fmod 8=(r:Int):=fr
 obtain⟨shift,e4,h1,h2⟩:=zcF c3 1000000000 (by omega) (by decide)
 have b9:(10:Int) ^ 9=1000000000:=by decide
 obtain⟨size,hs,hs2⟩:∃size:Nat,(396:Int)+(r:Int)=(size:Int)/\size=396+r:=⟨396+r,by simp,rfl⟩
 have D:=zgY (size:=size) (shift:=shift) (by omega) (by omega)
 have ed:Yt [.int 1,.list [.tuple [.list [.int 1],.int (shift+(size:Int) - 1)],.tuple [.list [.int (-1)],.int (-shift)]]]=.ok (Z4 1 (zaD size shift)):=Qv (k:=1) D.lim D.wb D.k D.len
 have ew:=long_wp (size:=size) (shift:=shift) (by omega) (by omega)
 have st:=s_tt
 have rk:=ZK (n:=size) (by omega)
 have r2:size<=16777216:=by omega
 have ecomp:=ZY (st:=Zw 0) (e:=dLst (Zc (d2 fAdd (dVar 1) (dVar 0)) dNil)) (C:=[.emp,.val (.int shift)]) (fun(n:Nat)=>PyData.int (n:Int)) (fun(n:Nat)=>eI [shift+(n:Int)]) (List.range size) fun n _=>⟨_,rfl,by simp[eI,zfn]⟩
 rw[<- Y1] at ecomp
 have er:fEq (.list ((List.range size).map fun(k:Nat)=>eI [shift+(k:Int)])) (.list ((List.range size).map fun(k:Nat)=>eI [shift+(k:Int)]))=.ok (.bool true):=Jo (n:=2) (Vi (n:=1) fun x _=>Vi (n:=0) fun y _=>zdi y) (by decide)
 have hd:QT=(dRet (d2 fEq (dVar 5) (dL (Yz 1 [2] (Zw 0) (iRng (dVar 1)) tT (dLst (Zc (d2 fAdd (dVar 1) (dVar 0)) dNil)))))):=rfl
 generalize (List.range size).map (fun(k:Nat)=>eI [shift+(k:Int)])=L at *
 generalize Z4 1 (zaD size shift)=dk at *
 generalize (dLst (Zc (d2 fAdd (dVar 1) (dVar 0)) dNil))=q at *
 simp only[W4,za6,QZ,QY,QX,QW,QV,QU]
 by_cases hc:400 < size
 ·rw[if_pos hc] at ew
  have hc':(400:Int) < (size:Int):=by omega
  simp[runF,e2,e3,fr',hs,b9,e4,ed,ew,hc']
 ·rw[if_neg hc] at ew
  have hc':¬(400:Int) < (size:Int):=by omega
  simp[runF,e2,e3,fr',hs,b9,e4,ed,ew,hc',hd,rk,r2,Yp,ecomp,er]
def Jb (n:Nat):List Lim:=[([1,0],(n:Int)),([-1,0],0),([0,1],(n:Int)),([0,-1],0),([1,-1],0),([-1,1],0)]
theorem UJ {n:Nat}{P:Lim->Prop}:(∀l ∈ Jb n,P l) ↔ P ([1,0],(n:Int))/\P ([-1,0],0)/\P ([0,1],(n:Int))/\P ([0,-1],0)/\P ([1,-1],0)/\P ([-1,1],0):=by simp[Jb]
theorem zfR {n:Nat}(h:n<=100):Dk 2 100 (Jb n):=by
 refine⟨UJ.mpr ⟨?_,?_,?_,?_,?_,?_⟩,by decide,by decide,by show 6<=10;decide⟩ <;> exact⟨rfl,by simp,by simp;try omega⟩
theorem thin_wp {n:Nat}(h:n=18\/n=19\/n=20\/n=21) :
  Zo [Z4 2 (Jb n)]=if 19 < n then .exc "TooMany" else .ok (.list ((List.range (n+1)).map fun(k:Nat)=>eI [(k:Int),(k:Int)])):=by
 have D:=zfR (n:=n) (by omega)
 have hp:∃ps,Pt 2 210 (Jb n) ps:=⟨qs [0,0],zgs rfl (fun y hy=>by simp at hy;rw[hy];decide) (by rcases h with h | h | h | h <;> subst h <;> decide +kernel)⟩
 obtain⟨vl,vh,E⟩:=ea_ok D hp
 have nn:(0:Rat)<=((n:Int):Rat):=Rat.intCast_le_intCast.mpr (by omega:(0:Int)<=(n:Int))
 have m:∀x:List Rat,x.length=2->(∀l ∈ Jb n,dot l.1 x<=(l.2:Rat))->∃u,x=[u,u]/\0<=u/\u<=((n:Int):Rat):=fun x hx kp=>by
  obtain⟨u,v,rfl⟩:=lists2 hx
  obtain⟨k1,k2,k3,k4,k5,k6⟩:=UJ.mp kp
  simp[dot] at k1 k2 k3 k4 k5 k6
  have:v=u:=by grind
  subst this
  exact⟨v,rfl,by grind,by grind⟩
 have r:∀ws:List Rat,ws.length=2->(∀l ∈ Jb n,dot l.1 ws<=0)->ws=[0,0]:=fun x hx kp=>by
  obtain⟨u,v,rfl⟩:=lists2 hx
  obtain⟨k1,k2,k3,k4,k5,k6⟩:=UJ.mp kp
  simp[dot] at k1 k2 k3 k4 k5 k6
  have e1:u=0:=by grind
  have e2:v=0:=by grind
  rw[e1,e2]
 have p0:∀l ∈ Jb n,dot l.1 [((0:Int):Rat),((0:Int):Rat)]<=(l.2:Rat):=UJ.mpr (by simp[dot];grind)
 have pn:∀l ∈ Jb n,dot l.1 [((n:Int):Rat),((n:Int):Rat)]<=(l.2:Rat):=UJ.mpr (by simp[dot];grind)
 have ex:∀i,i < 2->gS vl vh i=(0,n+1)/\bS vl vh i=true:=fun i hi=>by
  have gu:∀u:Rat,[u,u].getD i 0=u:=fun u=>by
   rcases(show i=0\/i=1 by omega) with rfl | rfl <;> rfl
  obtain⟨g,b⟩:=zaV hp E hi (A:=0) (B:=(n:Int)) (fun x hx kp=>by
    obtain⟨u,rfl,h1,h2⟩:=m x hx kp
    rw[gu];exact⟨h1,h2⟩) ⟨_,rfl,p0,gu _⟩ ⟨_,rfl,pn,gu _⟩ (fun ws hx kp=>by rw[r ws hx kp];exact gu 0)
  refine⟨?_,b⟩
  rw[g]
  have:((n:Int) - 0+1).toNat=n+1:=by omega
  rw[this]
 have es:sS 2 vl vh=[(0,n+1),(0,n+1)]:=by show [gS vl vh 0,gS vl vh 1]=_;rw[(ex 0 (by decide)).1,(ex 1 (by decide)).1]
 have ha:(List.range 2).all (bS vl vh)=true:=by show(bS vl vh 0 && (bS vl vh 1 && true))=true;rw[(ex 0 (by decide)).2,(ex 1 (by decide)).2];rfl
 rw[wp_ok D hp E,es,if_pos ha]
 have fin:n<=19->(YF ([((0:Int),n+1),(0,n+1)].map fun p=>rg p.1 p.2)).filter (W2 (Jb n))=(List.range (n+1)).map fun(k:Nat)=>[(k:Int),(k:Int)]:=fun hn=>by
  rcases(show n=18\/n=19 by omega) with rfl | rfl <;> decide +kernel
 by_cases hn:19 < n
 ·rw[if_pos hn,if_pos]
  rcases(show n=20\/n=21 by omega) with rfl | rfl <;> decide
 ·rw[if_neg hn,if_neg]
  ·rw[fin (by omega),List.map_map];rfl
  ·rcases(show n=18\/n=19 by omega) with rfl | rfl <;> decide
theorem thin_ok (ns:List Int):W3 [.list (ns.map .int)]=.ok (.bool true):=by
 obtain⟨c2,e2⟩:=WT ns 2 (by omega)
 obtain⟨r,fr,hr⟩:=JI (c:=c2) (n:=4) (by decide)
 have fr':c2.fmod 4=(r:Int):=fr
 obtain⟨n,hs,hs2⟩:∃n:Nat,(18:Int)+(r:Int)=(n:Int)/\n=18+r:=⟨18+r,by simp,rfl⟩
 have D:=zfR (n:=n) (by omega)
 have ed:Yt [.int 2,.list [.tuple [.list [.int 1,.int 0],.int (n:Int)],.tuple [.list [.int (-1),.int 0],.int 0],.tuple [.list [.int 0,.int 1],.int (n:Int)],.tuple [.list [.int 0,.int (-1)],.int 0],.tuple [.list [.int 1,.int (-1)],.int 0],.tuple [.list [.int (-1),.int 1],.int 0]]]=.ok (Z4 2 (Jb n)):=Qv (k:=2) D.lim D.wb D.k D.len
 have ew:=thin_wp (n:=n) (by omega)
 have st:=s_tt
 have rk:X7 ((n:Int)+1)=true:=by have:=ZK (n:=n+1) (by omega);simpa using this
 have r2:n+1<=16777216:=by omega
 have r3:((n:Int)+1).toNat=n+1:=by omega
 have ecomp:=ZY (st:=Zw 0) (e:=dLst (Zc (dVar 0) (Zc (dVar 0) dNil))) (C:=[.emp]) (fun(n:Nat)=>PyData.int (n:Int)) (fun(n:Nat)=>eI [(n:Int),(n:Int)]) (List.range (n+1)) fun n _=>⟨_,rfl,by simp[eI,zfn]⟩
 rw[<- Y1] at ecomp
 have er:fEq (.list ((List.range (n+1)).map fun(k:Nat)=>eI [(k:Int),(k:Int)])) (.list ((List.range (n+1)).map fun(k:Nat)=>eI [(k:Int),(k:Int)]))=.ok (.bool true):=Jo (n:=2) (Vi (n:=1) fun x _=>Vi (n:=0) fun y _=>zdi y) (by decide)
 have hd:QN=(dRet (d2 fEq (dVar 4) (dL (Yz 1 [] (Zw 0) (iRng (d2 fAdd (dVar 1) (dC (.int 1)))) tT (dLst (Zc (dVar 0) (Zc (dVar 0) dNil))))))):=rfl
 generalize (List.range (n+1)).map (fun(k:Nat)=>eI [(k:Int),(k:Int)])=L at *
 generalize Z4 2 (Jb n)=dk at *
 generalize (dLst (Zc (dVar 0) (Zc (dVar 0) dNil)))=q at *
 simp only[W3,za5,QS,QR,QQ,QP,QO]
 by_cases hc:19 < n
 ·rw[if_pos hc] at ew
  have hc':(19:Int) < (n:Int):=by omega
  simp[runQ,runF,e2,fr',hs,ed,ew,hc']
 ·rw[if_neg hc] at ew
  have hc':¬(19:Int) < (n:Int):=by omega
  simp[runQ,runF,e2,fr',hs,ed,ew,hc',hd,rk,r2,r3,Yp,ecomp,er]
theorem main_ok {k:Nat}{ls:List Lim}(hk:1<=k/\k<=3) (h:LL k (2 * k) ls):∃L,Zo [Z4 k ls]=.ok (.list L)/\(∃B,XV [.int (k:Int)]=.ok (.list B)/\B.length<=16777216/\Yj (Zw 0) (tV (Zk Xh (Zc (dVar 1) (Zc (dVar 0) dNil)))) (dVar 0) [.emp,.val (.list (ls.map limL))] B=.ok L)/\fEq (.list L) (.list L)=.ok (.bool true):=by
 refine⟨_,wp_main hk h,⟨(YF (List.replicate k (rg (-3) 7))).map eI,?_,?_,?_⟩,?_⟩
 ·rcases(show k=1\/k=2\/k=3 by omega) with rfl | rfl | rfl
  ·exact box1
  ·exact box2
  ·exact box3
 ·rcases(show k=1\/k=2\/k=3 by omega) with rfl | rfl | rfl <;> rw[List.length_map] <;> decide +kernel
 ·refine Vb eI eI (W2 ls) _ fun x hx=>?_
  obtain⟨h1,h2⟩:=zap hx
  have e:=kept_ok (x:=x) (ls:=ls) (fun y hy=>by have:=h2 y hy;omega) (by omega) (fun l hl=>by rw[(h.ok l hl).1,h1])
  exact⟨[.val (eI x),.val (.list (ls.map limL))],rfl,by simp[e],fun _=>rfl⟩
 ·exact Jo (n:=2) (Vi (n:=1) fun x _=>Vi (n:=0) fun y _=>zdi y) (by decide)
theorem zfS (ns:List Int) {k p:Nat}(hk:1<=k/\k<=3) (hp:p<=2 * k) (s4 s5 s6:Sl) (way:PyData):∃t,Qw [.val (.list (ns.map .int)),.val way,.val (.int (k:Int)),.val (.int (p:Int)),.emp,.emp,.emp]=.ok (.rt t)/\t=.bool true:=by
 obtain⟨ls,h,el⟩:=zgZ ns hk hp
 have ec:=zhL ls (by have:=h.len;omega)
 have ed:Yt [.int (k:Int),.list (ls.map limL)]=.ok (Z4 k ls):=Qv (k:=k) h.ok (by decide) (by omega) h.len
 have D:Dk k 3 ls:=⟨h.ok,by decide,by omega,h.len⟩
 have m2:XL 2 (k:Int)=true:=JG (by decide)
 refine⟨_,?_,rfl⟩
 simp only[Qw,zhA,zhz]
 by_cases hq:p < 2 * k
 ·have hq':(p:Int) < 2 * (k:Int):=by omega
  have ew:=zeY D (i:=p / 2) (s:=1 - p % 2) (by omega) (by omega)
  have f1:(p:Int).fdiv 2=((p / 2:Nat):Int):=by have:(p:Int).fdiv ((2:Nat):Int)=_:=V8;simpa using this
  have f2:(1:Int) - (p:Int).fmod 2=((1 - p % 2:Nat):Int):=by
   have:(p:Int).fmod 2=(p:Int) % 2:=Int.fmod_eq_emod_of_nonneg _ (by decide)
   rw[this];omega
  generalize ((p / 2:Nat):Int)=pi at *
  generalize ((1 - p % 2:Nat):Int)=ps at *
  generalize Z4 k ls=dk at *
  have dv2:Qu 2=true:=WI (j:=2) (m:=10) (by decide) (by decide) (by decide)
  simp[el,ec,ed,m2,hq',f1,f2,ew,dv2]
 ·have hq':¬(p:Int) < 2 * (k:Int):=by omega
  have hp2:p=2 * k:=by omega
  subst hp2
  obtain⟨L,e1,⟨B,e2,hB,e3⟩,e4⟩:=main_ok hk h
  generalize Z4 k ls=dk at *
  have hd:zeI=(dRet (d2 fEq (dVar 6) (dL (Yz 1 [4] (Zw 0) (iSeq (Zk XV (Zc (dVar 2) dNil))) (tV (Zk Xh (Zc (dVar 1) (Zc (dVar 0) dNil)))) (dVar 0))))):=rfl
  generalize (tV (Zk Xh (Zc (dVar 1) (Zc (dVar 0) dNil))))=q at *
  have e5:(((2 * k:Nat)):Int)=2 * (k:Int):=by simp
  rw[e5] at el ⊢
  have hq2:¬(2 * (k:Int)) < 2 * (k:Int):=by omega
  simp[el,ec,ed,m2,hq2,zhy,e1,hd,e2,hB,e3,e4]
theorem law_ok (ns:List Int) (_hl:ns.length<=63):zhm [.list (ns.map .int)]=.ok (.bool true):=by
 obtain⟨c9,e9⟩:=WT ns 9 (by omega)
 obtain⟨c0,e0⟩:=WT ns 0 (by omega)
 obtain⟨c1,e1⟩:=WT ns 1 (by omega)
 have el:=long_ok ns
 have et:=thin_ok ns
 simp only[zhm,d_law,zhF,zhE,zhD,zhC,zhB]
 by_cases w1:c9.fmod 8=1
 ·simp[runQ,runF,e9,w1,el,X1]
 ·by_cases w2:c9.fmod 8=2
  ·simp[runQ,runF,e9,w2,et,X1]
  ·obtain⟨r,fr,hr⟩:=JI (c:=c0) (n:=3) (by decide)
   have fr':c0.fmod 3=(r:Int):=fr
   obtain⟨k,hk,hk2⟩:∃k:Nat,(1:Int)+(r:Int)=(k:Int)/\k=1+r:=⟨1+r,by simp,rfl⟩
   have m2:XL 2 (k:Int)=true:=JG (by decide)
   by_cases w3:c1.fmod 6=1
   ·obtain⟨p,fp,hp⟩:=JI (c:=c1.fdiv 6) (n:=2 * k) (by omega)
    have fp':(c1.fdiv 6).fmod (2 * (k:Int))=(p:Int):=by have:=fp;simpa using this
    obtain⟨t,e,rfl⟩:=zfS ns (k:=k) (p:=p) (by omega) (by omega) .emp .emp .emp (.int (c9.fmod 8))
    have dv:Qu 6=true:=WI (j:=6) (m:=10) (by decide) (by decide) (by decide)
    have n0:¬(2 * (k:Int))=0:=by omega
    generalize Qw=d6 at *
    simp[runQ,runF,e9,w1,w2,X1,e0,fr',hk,m2,e1,w3,fp',dv,n0,e]
   ·obtain⟨t,e,rfl⟩:=zfS ns (k:=k) (p:=2 * k) (by omega) (by omega) .emp .emp .emp (.int (c9.fmod 8))
    have e':Qw [.val (.list (ns.map .int)),.val (.int (c9.fmod 8)),.val (.int (k:Int)),.val (.int (2 * (k:Int))),.emp,.emp,.emp]=.ok (.rt (.bool true)):=by have:=e;simpa using this
    generalize Qw=d6 at *
    simp[runQ,runF,e9,w1,w2,X1,e0,fr',hk,m2,e1,w3,e']
end K13
namespace K13
open PySem PySem.Spec PyProof.Rows L2 Fx Lx
open Lw
theorem walk {l:PySem.W.OpenLaw}{q:Program}{loose:List Str}{XP:(Str->Option Value)->Heap->Prop}{YP:World->Heap->Prop}{d:DefRec}{K:Params->PySem.W.Frag}(hn:l.most=some 63) (hdf:d.params.defaults=[])
  (hrec:∃d0,(recsOf q).find? (fun e=>e.name == ("raising_column" : Str))=some d0) (hY:∀(w:World) (h:Heap),YP w h->(K w.params).In h)
  (F:∀(w:World) (mg:Str->Option Value) (fa:Addr) (h:Heap),(K w.params).In h->h.Ns mainGlobals mg->mg d.name=some (.ref fa) ->
   ∃(fd:FuncData) (c T:Addr),PySem.W.tabIn (K w.params) "raising_column" = some (c,T)/\PySem.W.noTabs (K w.params)=true/\(∀(s:Shared) (u:Value),BindsTo s fd ⟨[u],[]⟩ [("_law_script",u)])/\∀base:Heap,(K w.params).In base->base.Ns mainGlobals mg->zcb mg base->PySem.W.CodeHd base c T->FnOk l.prog w (K w.params) mg base CX0 12 fa fd ["_law_script"] (Fx.spF (K w.params) none 1 zhm)) :
  PySem.W.WalkO q loose XP YP l.row.toRowW d [] (fun f vs=>PySem.call f vs):=
 let⟨d0,h0⟩:=hrec
 Fx.walk_T (n:=63) (k:=12) (x:="_law_script") (x0:="raising_column") hn (by decide) hdf ⟨rfl,by decide,by decide⟩ (List.mem_singleton.mpr rfl) h0 hY F (fun ns hl=>law_ok ns hl)
end K13
open PySem PySem.W PyProof.Rows
namespace PySem.W.Fast
def tw15423406584090198908:=0
def tw16225194248033634377:=0
def tw16204412440293360308:=0
def tw7195682340414498836:=0
def tw6672061527838782623:=0
def tw11633354500527409507:=0
def tw9711954928875367312:=0
def tw2607069203167869078:=0
def tw4118897045440364330:=0
def tw6064425754453328196:=0
def tw12440791771086612310:=0
def tw15217843230037280286:=0
def tw3216707426757307554:=0
def tw14273343891282869522:=0
def tw10167664253897779720:=0
def tw7795781602251423346:=0
def tw11288455983772775356:=0
def tw4031937544365587370:=0
def tw2295200197638991272:=0
def tw11975666432815956510:=0
def tw17604275107557476197:=0
def tw1966683613815240692:=0
def tw380613852496148980:=0
def tw3435750362218484070:=0
def tw13833440805677581095:=0
def tw8177485613640020503:=0
def tw10925763529728151458:=0
def tw12952052914822717023:=0
def tw4548716931161264526:=0
def tw7348368207892188907:=0
def tw10151052016473441573:=0
def tw12115692512188309149:=0
def tw11447892316589255321:=0
def tw5060918873283352224:=0
def tw11317633411906942211:=0
def tw14554436129783746856:=0
def tw2964629094738343449:=0
def tw13978838031264566355:=0
def tw9135686958182310438:=0
def tw11216163557134541138:=0
def tw1309630026509397427:=0
def tw9725822376242238101:=0
def tw11912687842222575899:=0
def tw4516845649501672606:=0
def tw7645416390092070827:=0
def tw11945152724777698866:=0
def tw6841128862205747258:=0
def tw3534117880247651790:=0
def tw1105153804644765027:=0
def tw5136874715065713659:=0
def tw977576890359685026:=0
def tw5299962345091893061:=0
def tw15509756856468420741:=0
def tw8460119896489651521:=0
def tw9444447942619004603:=0
def tw10344896689212750510:=0
def tw15778416472552991125:=0
def tw6056621713465076228:=0
def tw1285208808360693314:=0
def tw4571922273907070079:=0
def tw7370577899674131838:=0
def tw16758636161078501038:=0
def tw4186333947239516124:=0
def tw15856835333542922623:=0
def tw11133758206473535544:=0
def tw10699808233093921953:=0
def tw3108483415963379190:=0
def tw18351548945293608396:=0
def tw4641029392132924058:=0
def tw7488161695123173251:=0
def tw3969629699942048320:=0
def tw15245871270142817352:=0
def tw905687004127710788:=0
def tw3729915457117907879:=0
def tw12159448589748359499:=0
def tw6588829488329857093:=0
def tw11608425735805045638:=0
def tw8174667721717692082:=0
def tw4784643272908727493:=0
def tw14223649352275656535:=0
def tw6353295231330454175:=0
def tw5157787378450544416:=0
def tw17529270991516803523:=0
def tw322246393825066428:=0
def tw17340392581604642620:=0
def tw6739525557496409547:=0
def tw10029721991014468308:=0
def tw18023975081765592299:=0
def tw14096197037043200830:=0
def tw6514450717764817971:=0
def tw4336994658883549837:=0
def tw256690999887383248:=0
def tw9820201441105961022:=0
def tw3450556638183297332:=0
def tw16730471330917396929:=0
def tw11818714411050328033:=0
def tw427108790911643039:=0
def tw6494396296813815164:=0
def tw14946912985312900670:=0
def tw6175924291117578186:=0
def tw8384597237439927658:=0
def tw929024404724896295:=0
def tw1570343123660808273:=0
def tw11828011635132027362:=0
def tw15051777270047550540:=0
def tw12621537897726513419:=0
def tw9910181659141230622:=0
def tw7374632377443112672:=0
def tw15312460671609622301:=0
def tw16474390427555234554:=0
def tw16930918604314615817:=0
def tw11637500964336998108:=0
def tw4146384411615569800:=0
def tw10365311532367866304:=0
def tw13515818928702035149:=0
def tw17011234919069523158:=0
def tw10168185229330487160:=0
def tw14894152169160135160:=0
def tw5117679264081283680:=0
def tw17644862832664301978:=0
def tw14052391142970471854:=0
def tw11178208784776152411:=0
def tw12602458895563018685:=0
def tw6197153394122425554:=0
def tw11763171365382142395:=0
def tw10078730737609587607:=0
def tw4751011703966396138:=0
def tw16251035981585778205:=0
def tw1501390132534014446:=0
def tw5173702073085515656:=0
def tw13637008051487374061:=0
def tw16284957404161518808:=0
def tw16019666781730026757:=0
def tw2313944454314122786:=0
def tw6127640266249980267:=0
def tw2395117887939194335:=0
def tw7919298860476467163:=0
def tw10492942786683933085:=0
def tw18235658217019434314:=0
def tw14208510328528279408:=0
def tw6348174947450983038:=0
def tw541846002170696098:=0
def tw16065557212415812583:=0
def tw4262039410520428207:=0
def tw1577839702301179964:=0
def tw16967154798824566534:=0
def tw2412074710236401461:=0
def tw5988367653917664449:=0
def tw3337362550896710898:=0
def tw430502860980040158:=0
def tw8263885954272526715:=0
def tw10680190163546004805:=0
def tw3813566779250811674:=0
def tw6131129726710277485:=0
def tw5944559409867623456:=0
def tw11770898028563807799:=0
def tw93121122004587077:=0
def tw11724228825278586413:=0
def tw12059361907736304051:=0
def tw5461407325338532789:=0
def tw44146849569508355:=0
def tw5823658386988087750:=0
def tw4683032978725401681:=0
def tw16487429355389545381:=0
def tw7444561955962157971:=0
def tw9836623854341533760:=0
def tw6523097638732959025:=0
def tw16731933890547907225:=0
def tw2140668381479763788:=0
def tw14529793147179816661:=0
def tw5021949586081511952:=0
def tw5838612030781427106:=0
def tw6132639498370864052:=0
def tw8543653488735122816:=0
def tw17605035129270754554:=0
def tw14498822429119682594:=0
def tw12840006456416597796:=0
def tw1752491327300734074:=0
def tw8010398449280087059:=0
def tw11536319423495721928:=0
def tw4685453739281049122:=0
def tw2911995809517342459:=0
def tw12393545529451364902:=0
def tw3606108794176287700:=0
def tw5498948425237426330:=0
def tw8255891665490852074:=0
def tw5455408376702523505:=0
def tw4759822507193736155:=0
def tw6236512619262140324:=0
def tw11495500096230633865:=0
def tw17333189053162108260:=0
def tw18304063772535664543:=0
def tw6463899456713841507:=0
def tw1404487272225106116:=0
def tw13305842348876122675:=0
def tw13222726264105547723:=0
def tw964177333602973418:=0
def tw14800857366994774563:=0
def tw10056073090604124081:=0
def tw5936630310285575595:=0
def tw13926438709575151594:=0
def tw8607395049052385311:=0
def tw14412007015827463458:=0
def tw14680789079763426600:=0
def tw14219700645202745510:=0
def tw15769426819975298538:=0
def tw16177166157878816470:=0
def tw5601956657330824369:=0
def tw17809110130373386355:=0
def tw8475075503471846110:=0
def tw11096442967205760139:=0
def tw14720950670600351448:=0
def tw4748428855489214639:=0
def tw4449414057324337459:=0
def tw1162227882468085297:=0
def tw4037582755885317188:=0
def tw8815369373923661409:=0
def tw13218789256703397429:=0
def tw8060968069554363925:=0
def tw11860573222023533020:=0
def tw10506022849998222840:=0
def tw2210074693287640170:=0
def tw11683892171502976744:=0
def tw16669131856576974724:=0
def tw9223070049988016531:=0
def tw4471901696905900480:=0
def tw5320847219481979818:=0
def tw4546437030191718278:=0
def tw4607403829913211945:=0
def tw5130189703217015149:=0
def tw16209055762705049337:=0
def tw11138527161707136431:=0
def tw10843722385072671164:=0
def tw16943942958569895874:=0
def tw11246214135409109886:=0
def tw4656380948871261477:=0
def tw5130567947355892835:=0
def tw15489858742501742826:=0
def tw17185169935653979546:=0
def tw3191324503596363755:=0
def tw1599760055109250620:=0
def tw5284133656680001287:=0
def tw8934565103664877758:=0
def tw5043305523887255237:=0
def tw16962320497188441672:=0
def tw4406236420481712309:=0
def tw52656835190996067:=0
def tw2678387672389802593:=0
def tw11830904303340220021:=0
def tw11139552854662737683:=0
def tw7137723461350906638:=0
def tw4778050887062638881:=0
def tw5736744215331936133:=0
def tw16666726217699133028:=0
def tw9586237727914026253:=0
def tw16667215699171282138:=0
def tw17339778474243677396:=0
def tw6749902472946450371:=0
def tw5683418415946895137:=0
def tw430476212576777264:=0
def tw851237201557898277:=0
def tw17727647106644441039:=0
def tw974350278982601918:=0
def tw9039007819417585338:=0
def tw3971382388640610484:=0
def tw9772988527361046299:=0
def tw15048056392177761719:=0
def tw12445797117594840107:=0
def tw2385936763331568236:=0
def tw8287232754350215424:=0
def tw8530907576678155800:=0
def tw2355881313585873877:=0
def tw12361532596067840882:=0
def tw12672574275522542622:=0
def tw7973538095159055164:=0
def tw17026213355380794202:=0
def tw14129241529559274464:=0
def tw3402002864446568678:=0
def tw17103401231355645375:=0
def tw12675288162858033605:=0
def tw6915377434999001649:=0
def tw8151296762153535106:=0
def tw14386711212544528171:=0
def tw16808888855561463549:=0
def tw4681023497336994009:=0
def tw12283713513250516458:=0
def tw14778858443252793292:=0
def tw9964751376655638144:=0
def tw3944956545477935528:=0
def tw6647470840105238052:=0
def tw12807987097469863497:=0
def tw14612979275734095778:=0
def tw10022310731872702062:=0
def tw10785309268380275358:=0
def tw14229354403745094072:=0
def tw15274987231669320637:=0
def tw13977883006387821085:=0
def tw13887134404199263804:=0
def tw14804919420603866673:=0
def tw2173300786260832671:=0
def tw859801457650321188:=0
def tw14754821273540928701:=0
def tw908012360373945011:=0
def tw427396716638542633:=0
def tw7391755927666092557:=0
def tw11494499952789328176:=0
def tw9998409233482992645:=0
def tw11209707105872277675:=0
def tw6023028516038536668:=0
def tw5685365021953818720:=0
def tw16683665584243412895:=0
def tw15980348875262211822:=0
def tw13121896292380834751:=0
def tw5018580530487679822:=0
def tw9025035986669312055:=0
def tw965521641908586894:=0
def tw11432039288893559488:=0
def tw12835689540401818974:=0
def tw3081880271504473934:=0
def tw9684221510254616115:=0
def tw5387820112076774413:=0
def tw2502767702891480659:=0
def tw11376821382554582704:=0
def tw12586517372507695835:=0
def tw10403764213631338267:=0
def tw13538491786477581547:=0
def tw13381364938168204591:=0
def tw1080533628666298825:=0
def tw4896762756393459102:=0
def tw16079198186243096711:=0
def tw13320235671217166230:=0
def tw1102039368710412799:=0
def tw11843915178621089559:=0
def tw12312878207520112489:=0
def tw14518213519390064681:=0
def tw12492885850514523269:=0
def tw6800538543190301159:=0
def tw2489665953226700478:=0
def tw9862490038963909293:=0
def tw2926746789354593325:=0
def tw11904151223186077130:=0
def tw9160204056325360114:=0
def tw6334882644139238450:=0
def tw12137885802235517442:=0
def tw9718241230797029491:=0
def tw12086552238373352833:=0
def tw11851640275077325372:=0
def tw5128047011931554742:=0
def tw7966952161135879870:=0
def tw11484099835306460630:=0
def tw13752492656961354695:=0
def tw11726171288903765347:=0
def tw15968995850445563096:=0
def tw16373734933977755210:=0
def tw2716465959791468667:=0
def tw16822416825304152235:=0
def tw12636327428209931686:=0
def tw14715402451912249107:=0
def tw1015888788656839226:=0
def tw4334320665118465733:=0
def tw3885859096247550829:=0
def tw4690232452632861708:=0
def tw11715288539063974303:=0
def tw9531436392150679092:=0
def tw17027899841875103575:=0
def tw12806185523012398125:=0
def tw1923787989811341370:=0
def tw5509358224415008016:=0
def tw15128772407917784051:=0
def tw615115857281796304:=0
def tw3876519114689976075:=0
def tw453639600768707197:=0
def tw16994196175166652738:=0
def tw3908957474628728779:=0
def tw5429342948391674190:=0
def tw15117677780017789488:=0
def tw6590032466912942289:=0
def tw11117631634648675762:=0
def tw9624760360240039579:=0
def tw2697848337265250814:=0
def tw1960496582232513612:=0
def tw2759905251199546502:=0
def tw13590309875936456338:=0
def tw840600101767619146:=0
def tw8891849912223793000:=0
def tw4459308146888786400:=0
def tw16792983734569188396:=0
def tw4401972649351110668:=0
def tw11502714406953533311:=0
def tw289361245956698287:=0
def tw15017014284007527790:=0
def tw12840046309180982917:=0
def tw17154041883610646254:=0
def tw11683884333103741892:=0
def tw7722921306360583344:=0
def tw4180269907292715436:=0
def tw16262264477307071972:=0
def tw12183601447745348210:=0
def tw14879778396639333587:=0
def tw4659239454821101390:=0
def tw11635194693061873970:=0
def tw4164512863952756275:=0
def tw15330784089459491553:=0
def tw4079336393905840053:=0
def tw14690175078023762259:=0
def tw3757545333446999066:=0
def tw1672693525665879219:=0
def tw4957194443696920405:=0
def tw16499209730643019154:=0
def tw12687254518368071634:=0
def tw7148858570139541699:=0
def tw8697366481772820812:=0
def tw7883426310042268095:=0
def tw3855788569276532638:=0
def tw6215300486145228473:=0
def tw15185014196236823667:=0
def tw4101459601267593408:=0
def tw15595546975405407453:=0
def tw9041022940747953305:=0
def tw13028605581261737914:=0
def tw4418542313350967813:=0
def tw7435694162881623039:=0
def tw9076284931244882391:=0
def tw7565878899608144885:=0
def tw13810349812873476803:=0
def tw14600484047073879475:=0
def tw3628295359743609040:=0
def tw7931954449386499581:=0
def tw9215799959544016979:=0
def tw15869385373430677586:=0
def tw9841374964039485688:=0
def tw7419702250275151903:=0
def tw17521369155102394928:=0
def tw2689387435109476958:=0
end PySem.W.Fast
set_option maxRecDepth 100000 in
set_option maxHeartbeats 0 in
theorem PySem.Challenge.cw_limitdesk_k13_whole_points_holds : PySem.Challenge.rw_limitdesk_k13_whole_points.Holds := by
 w_on; o_law; k_head; (case hw => w_witness2)
 k_fill
 refine K13.walk (l := PySem.Challenge.rw_limitdesk_k13_whole_points) rfl rfl ⟨_, rfl⟩ (fun w h Y => PySem.W.km_in_of Y) ?F
 case F =>
  intro w mg fa h KX G hmg
  refine' K13.all_mk KX G hmg ?a0 ?l0 ?c0 ?k0 ?a1 ?l1 ?c1 ?k1 ?a2 ?l2 ?c2 ?k2 ?a3 ?l3 ?c3 ?k3 ?a4 ?l4 ?c4 ?k4 ?a5 ?l5 ?c5 ?k5 ?a6 ?l6 ?c6 ?k6 ?a7 ?l7 ?c7 ?k7 ?a8 ?l8 ?c8 ?k8 ?a9 ?l9 ?c9 ?k9 ?a10 ?l10 ?c10 ?k10 ?a11 ?l11 ?c11 ?k11 ?a12 ?l12 ?c12 ?k12 ?a13 ?l13 ?c13 ?k13 ?a14 ?l14 ?c14 ?k14 ?a15 ?l15 ?c15 ?k15 ?a16 ?l16 ?c16 ?k16 ?a17 ?l17 ?c17 ?k17 ?a18 ?l18 ?c18 ?k18 ?a19 ?l19 ?c19 ?k19 ?a20 ?l20 ?c20 ?k20 ?a21 ?l21 ?c21 ?k21 ?a22 ?l22 ?c22 ?k22 ?a23 ?l23 ?c23 ?k23 ?a24 ?l24 ?c24 ?k24 ?a25 ?l25 ?c25 ?k25 ?a26 ?l26 ?c26 ?k26 ?a27 ?l27 ?c27 ?k27 ?a28 ?l28 ?c28 ?k28 ?a29 ?l29 ?c29 ?k29 ?a30 ?l30 ?c30 ?k30 ?a31 ?l31 ?c31 ?k31 ?a32 ?l32 ?c32 ?k32 ?a33 ?l33 ?c33 ?k33 ?a34 ?l34 ?c34 ?k34 ?a35 ?l35 ?c35 ?k35 ?a36 ?l36 ?c36 ?k36 ?a37 ?l37 ?c37 ?k37 ?a38 ?l38 ?c38 ?k38 ?a39 ?l39 ?c39 ?k39 ?a40 ?l40 ?c40 ?k40 ?a41 ?l41 ?c41 ?k41 ?a42 ?l42 ?c42 ?k42 ?a43 ?l43 ?c43 ?k43 ?a44 ?l44 ?c44 ?k44 ?a45 ?l45 ?c45 ?k45 ?a46 ?l46 ?c46 ?k46 ?a47 ?l47 ?c47 ?k47 ?a48 ?l48 ?c48 ?k48 ?a49 ?l49 ?c49 ?k49 ?a50 ?l50 ?c50 ?k50 ?a51 ?l51 ?c51 ?k51 ?a52 ?l52 ?c52 ?k52 ?a53 ?l53 ?c53 ?k53 ?z_isinstance ?z_int ?z_bool ?z_abs ?z_tuple ?z_len ?z_list ?z_all ?z_zip ?z_enumerate ?z_range ?z_min ?z_reversed ?z_ValueError ?g_GREATEST_NUMBER ?g_MOST_KINDS ?g_MOST_LIMITS ?g_MOST_POINTS ?x_NoDesk ?q_NoDesk ?x_BadPoint ?q_BadPoint ?x_NoPlace ?q_NoPlace ?x_NoGoal ?q_NoGoal ?x_NoPoint ?q_NoPoint ?x_TooMany ?q_TooMany ?u_TooMany_TooMany ?u_TooMany_ValueError ?aC_Board ?iI_Board ?jI_Board ?lI_Board ?cI_Board ?kI_Board ?pg_Board ?hd_Board ?po_Board ?sa_Board ?mk_Board ?kc_Board ?nA0_Board ?nA1_Board ?nA2_Board ?lc_raising_column ?v11_raising_column ?hno
  (case a0 => k_is)
  (case l0 => k_is)
  (case c0 => k_is)
  (case k0 => k_is)
  (case a1 => k_is)
  (case l1 => k_is)
  (case c1 => k_is)
  (case k1 => k_is)
  (case a2 => k_is)
  (case l2 => k_is)
  (case c2 => k_is)
  (case k2 => k_is)
  (case a3 => k_is)
  (case l3 => k_is)
  (case c3 => k_is)
  (case k3 => k_is)
  (case a4 => k_is)
  (case l4 => k_is)
  (case c4 => k_is)
  (case k4 => k_is)
  (case a5 => k_is)
  (case l5 => k_is)
  (case c5 => k_is)
  (case k5 => k_is)
  (case a6 => k_is)
  (case l6 => k_is)
  (case c6 => k_is)
  (case k6 => k_is)
  (case a7 => k_is)
  (case l7 => k_is)
  (case c7 => k_is)
  (case k7 => k_is)
  (case a8 => k_is)
  (case l8 => k_is)
  (case c8 => k_is)
  (case k8 => k_is)
  (case a9 => k_is)
  (case l9 => k_is)
  (case c9 => k_is)
  (case k9 => k_is)
  (case a10 => k_is)
  (case l10 => k_is)
  (case c10 => k_is)
  (case k10 => k_is)
  (case a11 => k_is)
  (case l11 => k_is)
  (case c11 => k_is)
  (case k11 => k_is)
  (case a12 => k_is)
  (case l12 => k_is)
  (case c12 => k_is)
  (case k12 => k_is)
  (case a13 => k_is)
  (case l13 => k_is)
  (case c13 => k_is)
  (case k13 => k_is)
  (case a14 => k_is)
  (case l14 => k_is)
  (case c14 => k_is)
  (case k14 => k_is)
  (case a15 => k_is)
  (case l15 => k_is)
  (case c15 => k_is)
  (case k15 => k_is)
  (case a16 => k_is)
  (case l16 => k_is)
  (case c16 => k_is)
  (case k16 => k_is)
  (case a17 => k_is)
  (case l17 => k_is)
  (case c17 => k_is)
  (case k17 => k_is)
  (case a18 => k_is)
  (case l18 => k_is)
  (case c18 => k_is)
  (case k18 => k_is)
  (case a19 => k_is)
  (case l19 => k_is)
  (case c19 => k_is)
  (case k19 => k_is)
  (case a20 => k_is)
  (case l20 => k_is)
  (case c20 => k_is)
  (case k20 => k_is)
  (case a21 => k_is)
  (case l21 => k_is)
  (case c21 => k_is)
  (case k21 => k_is)
  (case a22 => k_is)
  (case l22 => k_is)
  (case c22 => k_is)
  (case k22 => k_is)
  (case a23 => k_is)
  (case l23 => k_is)
  (case c23 => k_is)
  (case k23 => k_is)
  (case a24 => k_is)
  (case l24 => k_is)
  (case c24 => k_is)
  (case k24 => k_is)
  (case a25 => k_is)
  (case l25 => k_is)
  (case c25 => k_is)
  (case k25 => k_is)
  (case a26 => k_is)
  (case l26 => k_is)
  (case c26 => k_is)
  (case k26 => k_is)
  (case a27 => k_is)
  (case l27 => k_is)
  (case c27 => k_is)
  (case k27 => k_is)
  (case a28 => k_is)
  (case l28 => k_is)
  (case c28 => k_is)
  (case k28 => k_is)
  (case a29 => k_is)
  (case l29 => k_is)
  (case c29 => k_is)
  (case k29 => k_is)
  (case a30 => k_is)
  (case l30 => k_is)
  (case c30 => k_is)
  (case k30 => k_is)
  (case a31 => k_is)
  (case l31 => k_is)
  (case c31 => k_is)
  (case k31 => k_is)
  (case a32 => k_is)
  (case l32 => k_is)
  (case c32 => k_is)
  (case k32 => k_is)
  (case a33 => k_is)
  (case l33 => k_is)
  (case c33 => k_is)
  (case k33 => k_is)
  (case a34 => k_is)
  (case l34 => k_is)
  (case c34 => k_is)
  (case k34 => k_is)
  (case a35 => k_is)
  (case l35 => k_is)
  (case c35 => k_is)
  (case k35 => k_is)
  (case a36 => k_is)
  (case l36 => k_is)
  (case c36 => k_is)
  (case k36 => k_is)
  (case a37 => k_is)
  (case l37 => k_is)
  (case c37 => k_is)
  (case k37 => k_is)
  (case a38 => k_is)
  (case l38 => k_is)
  (case c38 => k_is)
  (case k38 => k_is)
  (case a39 => k_is)
  (case l39 => k_is)
  (case c39 => k_is)
  (case k39 => k_is)
  (case a40 => k_is)
  (case l40 => k_is)
  (case c40 => k_is)
  (case k40 => k_is)
  (case a41 => k_is)
  (case l41 => k_is)
  (case c41 => k_is)
  (case k41 => k_is)
  (case a42 => k_is)
  (case l42 => k_is)
  (case c42 => k_is)
  (case k42 => k_is)
  (case a43 => k_is)
  (case l43 => k_is)
  (case c43 => k_is)
  (case k43 => k_is)
  (case a44 => k_is)
  (case l44 => k_is)
  (case c44 => k_is)
  (case k44 => k_is)
  (case a45 => k_is)
  (case l45 => k_is)
  (case c45 => k_is)
  (case k45 => k_is)
  (case a46 => k_is)
  (case l46 => k_is)
  (case c46 => k_is)
  (case k46 => k_is)
  (case a47 => k_is)
  (case l47 => k_is)
  (case c47 => k_is)
  (case k47 => k_is)
  (case a48 => k_is)
  (case l48 => k_is)
  (case c48 => k_is)
  (case k48 => k_is)
  (case a49 => k_is)
  (case l49 => k_is)
  (case c49 => k_is)
  (case k49 => k_is)
  (case a50 => k_is)
  (case l50 => k_is)
  (case c50 => k_is)
  (case k50 => k_is)
  (case a51 => k_is)
  (case l51 => k_is)
  (case c51 => k_is)
  (case k51 => k_is)
  (case a52 => k_is)
  (case l52 => k_is)
  (case c52 => k_is)
  (case k52 => k_is)
  (case a53 => k_is)
  (case l53 => k_is)
  (case c53 => k_is)
  (case k53 => k_is)
  (case z_isinstance => k_is)
  (case z_int => k_is)
  (case z_bool => k_is)
  (case z_abs => k_is)
  (case z_tuple => k_is)
  (case z_len => k_is)
  (case z_list => k_is)
  (case z_all => k_is)
  (case z_zip => k_is)
  (case z_enumerate => k_is)
  (case z_range => k_is)
  (case z_min => k_is)
  (case z_reversed => k_is)
  (case z_ValueError => k_is)
  (case g_GREATEST_NUMBER => k_is)
  (case g_MOST_KINDS => k_is)
  (case g_MOST_LIMITS => k_is)
  (case g_MOST_POINTS => k_is)
  (case x_NoDesk => k_is)
  (case q_NoDesk => k_exc)
  (case x_BadPoint => k_is)
  (case q_BadPoint => k_exc)
  (case x_NoPlace => k_is)
  (case q_NoPlace => k_exc)
  (case x_NoGoal => k_is)
  (case q_NoGoal => k_exc)
  (case x_NoPoint => k_is)
  (case q_NoPoint => k_exc)
  (case x_TooMany => k_is)
  (case q_TooMany => k_exc)
  (case u_TooMany_TooMany => k_is)
  (case u_TooMany_ValueError => k_is)
  (case aC_Board => k_is)
  (case iI_Board => k_is)
  (case jI_Board => k_is)
  (case lI_Board => k_is)
  (case cI_Board => k_is)
  (case kI_Board => k_is)
  (case pg_Board => k_is)
  (case hd_Board => k_is)
  (case po_Board => k_is)
  (case sa_Board => k_is)
  (case mk_Board => k_is)
  (case kc_Board => k_is)
  (case nA0_Board => k_is)
  (case nA1_Board => k_is)
  (case nA2_Board => k_is)
  (case lc_raising_column => k_is)
  (case v11_raising_column => rfl)
  (case hno => kernel_rfl)
#print axioms PySem.Challenge.cw_limitdesk_k13_whole_points_holds
