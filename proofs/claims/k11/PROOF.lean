import PyProof.Rows.All
import Wide.All
import OpenK.AllK
import Wide.FinOn
import Lean
import PyProof.EqAt
import PyProof.EqKinds
import PyProof.EqLayable
import PyProof.TupleCall
import PyProof.P3Statements
import PySem.Challenge.RW_limitdesk_k11_whole_dropped
set_option Elab.async false
set_option linter.all false
set_option maxRecDepth 100000
open PySem renaming PyData → ya,Value → yb,Addr → yc,wpAny_bind → yf,Shared → ye,Heap → yd,mainGlobals → yn,wpAny → yi,wpAny_pure → yt,Expr → yj,model → yk,starEach → yp,Stmt → ym,sizeLine → y7,Program → y6,World → y3,eval → yz,Builtin → y9,Around → yB,bootBuiltins → yK,wpAny_mono → yO,PassesOwn → yS,FuncData → yQ,Scope → yJ,compareOp → jd,NameKind → yZ,binaryOp → je,IsPair → yY,wpAny_field → jq,wpAny_newObj_type → jN,wpAny_seqItems → jI,behindInMarks → jJ,swapsWith → jv,wpAny_callSpecial?_slot → qj,assignEach → j2,sizeLine_eq → j9,wpAny_truthy_bool → qa,wpAny_call_entry → qb,sysModules → jK,wpAny_holding → jT,foldedSetIterable → qk,wpAny_passesOwn → qo,wpAny_setField_rec → qE,wpAny_typeNameOfWhole_keyiter → yar,wpAny_tryCatch → qp,wpAny_typeNameOf_keyiter → yas,wpAny_Call_Name_kw → qY
open PySem.W renaming Frag → yh,keepIn → yr,codeIn → yx,nsIn → yo,mg_of → yw,fnOf → yu,mg_none_of → j8,findIn → jB,tabIn → j3,kla_fn → jC,emptyDict → jV,CodeHd → jR,instObj → qe,kia_one → qM,noTabs → yaj,hasDictIn → ya0,plainGet → ya3,methodObj → ybx,plainOver → yby,takerIn → yb6,makesIn → yb7,cellsFrom_some → ycu,OpenLaw → yca,lookIn → ycc,tabObj → ycd
open List renaming getD_eq_getElem?_getD → y8,replicate → y0,mem_cons_of_mem → yR,mem_append_right → yT,size_toArray → yL,getElem?_eq_some_iff → jb,mem_cons_self → yP,mem_map → yD,map_cons → yH,mem_cons → yI,range → yF,getElem?_set_ne → jg,getElem?_map → jc,mem_filter → yX,getElem?_append_right → j6,getElem?_eq_getElem → j7,getElem?_set_self → jy,length_cons → jk,getElem?_append_left → jH,length_map → jm,take_length → jp,getElem_mem → jr,Nodup → yV,map_map → jf,mem_append → ju,mem_range → js,replicate_succ → jU,getElem?_replicate → ql,zipWith → j4,append_nil → jO,length_set → jP,length_append → qc,mem_singleton → qd,getElem?_cons_succ → qF,of_mem_zip → jW,map_congr_left → qq,length_filter_le → qG,mem_append_left → qH,flatten_cons → qr,getElem?_cons_zero → yaa,getElem_of_mem → qI,not_mem_nil → qu,all_eq_true → qw,set → jt,lookup_cons → qK,nil_append → qL,find?_cons → qN,lookup → qi,mem_of_getElem? → yav,length_take → yaf,getElem?_eq_none_iff → ybh,nodup_cons → yah,length_nil → yai,map_nil → qQ,append_assoc → ya1,getElem?_set → ya2,cons_append → ya4,take_append_drop → ybo,mem_of_mem_take → ybq,mem_of_mem_drop → ybr,eq_nil_of_length_eq_zero → yck,map_append → ya7,filterMap_cons → ybs,getElem_range → ybu,getElem?_zip_eq_some → ycm,drop_eq_getElem_cons → ycn,length_drop → yb2,ext_getElem → yb4,mem_flatMap → yb5,length_eq_zero_iff → ycs,map → qW,forIn_cons → yb8,range_succ_eq_map → ycw,getElem_cons_drop → ycx,any_cons → ych
open PySem.Heap renaming get?_push_of_some → yA,get?_push_size → yN,lt_size → yG,size_push → qy,SameBut → qf,get?_update_self → ybm,get?_update_other → ycv
open Nat renaming le_refl → yq,le_trans → yE,lt_of_lt_of_le → yU,lt_of_le_of_lt → jh,ne_of_lt → yW,le_of_lt → jD,lt_irrefl → jS,zero_le → jZ,add_comm → qz,lt_succ_self → yae,le_add_right → yag,mul_le_mul_left → yaw,lt_or_gt_of_ne → yaz,zero_add → qR,mul_le_mul → yak,mul_le_mul_right → ybp,div_le_self → ya5,ne_of_gt → yal,le_succ → yao,one_mul → yap,lt_trichotomy → yb0,pow_succ → ybb,add_assoc → yce,mul_assoc → ycf
open Or renaming inl → yg,inr → yC
open Rat renaming divInt → y4,mul_le_mul_of_nonneg_left → jG,num_divInt_den → ji,le_of_mul_le_mul_left → qD,intCast_mul → jX,divInt_eq_div → qt,not_lt → jM,divInt_nonneg_iff_of_pos_right → ybf,le_trans → qg,divInt_mul_divInt → yau,div_def → qB,le_refl → qC,mul_zero → qT,le_of_lt → qU,divInt_add_divInt → ybn,zero_mul → yan,not_le → qV,num_divInt → ya8,den_divInt → ya9,mul_comm → ybd,mul_one → ybe,mul_assoc → ycg
open Classical renaming byContradiction → jx,axiomOfChoice → yct
open Bool renaming and_eq_true → jl,false_ne_true → jz,or_eq_true → qx,false_eq_true → yac
open Int renaming natAbs_natCast → j1,mul_zero → jo,gcd → yM,natAbs_mul → jw,mul_ne_zero → jA,natCast_add → jQ,mul_ediv_cancel_left → qZ,le_refl → jL,fmod_eq_emod_of_nonneg → yat,mul_comm → jY,mul_left_comm → qJ,mul_le_mul_of_nonneg_right → ybg,fmod → jF,mul_one → qh,toNat_natCast → yad,natAbs_neg → qO,mul_nonneg → qP,zero_mul → q9,le_of_lt → qA,emod_lt_of_pos → yax,sub_zero → qS,emod_nonneg → ya6,add_zero → yam,natCast_nonneg → ybt,cast_ofNat_Int → ybw,one_mul → yaq,gcd_dvd_right → ybz,mul_assoc → yba,eq_ofNat_of_zero_le → yco,gcd_natCast_natCast → ycp,gcd_comm → ybc,fdiv_eq_ediv_of_dvd → ycq,mul_eq_zero → ycb
open Option renaming some → ja,isSome_some → ybv,isSome_map → yb1,getD_some → yb3,map_some → yb9
open PySem.F renaming slot_dict_keyiterator_next → qX,plain_min_loop → qm,args_dict_keyiterator_next_1 → yci,args_tuple_add_2 → ybi,entry_dict_keyiterator_next → ycj,entry_tuple_add → ybj,slot_tuple_add → ybk,entry_min_loop → ybl,plainAttrs_list → ycr,slot_dict_iter → ycy
open PySem.Obj renaming mapSeq → jE,data_mapFields → yay
open Array renaming length_toList → yab,getElem?_eq_some_iff → ycl
namespace L2
open PySem PySem.Spec PyProof.Rows
abbrev Key:=Sum Int Str
def Vy:Key->yb->Bool
 | .inl k,v=>yb.isInt k v
 | .inr x,v=>yb.isStrOf x v
def keyH(w:y3):Key->Int
 | .inl k=>hashInt k
 | .inr x=>hashStr w x
theorem YB:∀{k:Key}{v:yb},Vy k v=true->(∃i t,k=Sum.inl i/\v=yb.int i t)\/(∃x t,k=Sum.inr x/\v=yb.str x t)
 | .inl i,v,h=>by
  obtain⟨t,e⟩:=yb.isInt_shape (k:=i) (v:=v) h;exact .inl ⟨i,t,rfl,e⟩
 | .inr x,v,h=>by
  obtain⟨t,e⟩:=yb.isStrOf_shape (x:=x) (v:=v) h;exact .inr ⟨x,t,rfl,e⟩
theorem zjr(i:Int)(t:Tok):Vy (.inl i) (.int i t)=true:=by simp[Vy,yb.isInt]
theorem zjq(x:Str)(t:Tok):Vy (.inr x) (.str x t)=true:=by simp[Vy,yb.isStrOf]
theorem key_ll(a b:Int):decide ((Sum.inl a:Key)=Sum.inl b)=(a == b):=by
 by_cases e:a=b
 ·subst e;simp
 ·have h:¬(Sum.inl a:Key)=Sum.inl b:=λq=>e (Sum.inl.inj q)
  rw[decide_eq_false h];exact(beq_eq_false_iff_ne.mpr e).symm
theorem key_rr(a b:Str):decide ((Sum.inr a:Key)=Sum.inr b)=decide (a=b):=by
 by_cases e:a=b
 ·subst e;simp
 ·have h:¬(Sum.inr a:Key)=Sum.inr b:=λq=>e (Sum.inr.inj q)
  rw[decide_eq_false h,decide_eq_false e]
theorem key_lr(a:Int)(b:Str):decide ((Sum.inl a:Key)=Sum.inr b)=false:=decide_eq_false (λq=>nomatch q)
theorem key_rl(a:Str)(b:Int):decide ((Sum.inr a:Key)=Sum.inl b)=false:=decide_eq_false (λq=>nomatch q)
def Xi(prog:y6)(w:y3):PySem.KeyKind prog w Key where
 is:=Vy
 hash:=keyH w
 inj:=λv a b ha hb=>by
  rcases YB ha with ⟨i,t,rfl,rfl⟩ | ⟨x,t,rfl,rfl⟩
  ·rcases YB hb with ⟨j,u,rfl,e⟩ | ⟨y,u,rfl,e⟩
   ·injection e with e1 _;rw[e1]
   ·exact nomatch e
  ·rcases YB hb with ⟨j,u,rfl,e⟩ | ⟨y,u,rfl,e⟩
   ·exact nomatch e
   ·injection e with e1 _;rw[e1]
 byValue:=λk v h=>by
  rcases YB h with ⟨i,t,rfl,rfl⟩ | ⟨x,t,rfl,rfl⟩ <;> rfl
 pyHash:=λhv h=>by
  rcases YB hv with ⟨i,t,rfl,rfl⟩ | ⟨x,t,rfl,rfl⟩
  ·exact wpAny_pyHash_int h
  ·exact wpAny_pyHash_str h
 eqBool:=λhu hv h=>by
  rcases YB hu with ⟨i,t,rfl,rfl⟩ | ⟨x,t,rfl,rfl⟩
  ·rcases YB hv with ⟨j,u,rfl,rfl⟩ | ⟨y,u,rfl,rfl⟩
   ·rw[key_ll] at h;exact wpAny_eqBool_int h
   ·rw[key_lr] at h;exact SeqAt.EqAt.int_str i t y u _ _ _ _ h
  ·rcases YB hv with ⟨j,u,rfl,rfl⟩ | ⟨y,u,rfl,rfl⟩
   ·rw[key_rl] at h;exact SeqAt.EqAt.str_int x t j u _ _ _ _ h
   ·rw[key_rr] at h;exact wpAny_eqBool_str h
 «strs»:=λk x t v h=>by
  rcases YB h with ⟨i,u,rfl,e⟩ | ⟨y,u,rfl,e⟩
  ·exact nomatch e
  ·injection e with e1 _
   subst e1;cases v <;> rfl
theorem mixKind_is(prog:y6)(w:y3)(k:Key)(v:yb):(Xi prog w).is k v=Vy k v:=rfl
theorem zfE(prog:y6)(w:y3)(i:Int)(t:Tok):(Xi prog w).is (.inl i) (.int i t)=true:=zjr i t
theorem zfD(prog:y6)(w:y3)(x:Str)(t:Tok):(Xi prog w).is (.inr x) (.str x t)=true:=zjq x t
inductive V where
 | non | bl (b:Bool) | int (i:Int) | str (x:Str) | byt (b:Array UInt8) | flt (b:UInt64) | ref (a:yc) | ty (n:String)
 deriving DecidableEq
def RelV:V->yb->Prop
 | .non,u=>u=yb.none
 | .bl b,u=>u=yb.bool b
 | .int i,u=>∃t,u=yb.int i t
 | .str x,u=>∃t,u=yb.str x t
 | .byt b,u=>∃t,u=yb.bytes b t
 | .flt b,u=>∃t,u=yb.float b t
 | .ref a,u=>u=yb.ref a
 | .ty n,u=>u=yb.type n
abbrev Vals:List V->List yb->Prop:=Paired RelV
theorem Vals.length{xs:List V}{us:List yb}(r:Vals xs us):xs.length=us.length:=Paired.length r
theorem Vals.get:∀{xs:List V}{us:List yb}{i:Nat}{x:V},Vals xs us->xs[i]? = some x->∃u,us[i]? = some u/\RelV x u
 | _,_,_,_,.nil,e=>by simp at e
 | _,_,0,_,.cons r _,e=>by simp at e;subst e;exact⟨_,rfl,r⟩
 | _,_,i+1,x,.cons _ t,e=>by
  obtain⟨u,h1,h2⟩:=Vals.get (i:=i) (x:=x) t (by simpa using e)
  exact⟨u,by simpa using h1,h2⟩
theorem Vals.set{x:V}{u:yb}(r:RelV x u):∀{xs:List V}{us:List yb}(i:Nat),Vals xs us->Vals (xs.set i x) (us.set i u)
 | _,_,_,.nil=>.nil
 | _,_,0,.cons _ t=>.cons r t
 | _,_,i+1,.cons q t=>.cons q (Vals.set r i t)
theorem Vals.append:∀{xs ys:List V}{us ws:List yb},Vals xs us->Vals ys ws->Vals (xs++ys) (us++ws)
 | _,_,_,_,.nil,s=>s
 | _,_,_,_,.cons r t,s=>.cons r (Vals.append t s)
theorem Vals.take:∀{xs:List V}{us:List yb}(n:Nat),Vals xs us->Vals (xs.take n) (us.take n)
 | _,_,0,_=>.nil
 | _,_,_+1,.nil=>.nil
 | _,_,n+1,.cons r t=>.cons r (Vals.take n t)
theorem Vals.drop:∀{xs:List V}{us:List yb}(n:Nat),Vals xs us->Vals (xs.drop n) (us.drop n)
 | _,_,0,r=>r
 | _,_,_+1,.nil=>.nil
 | _,_,n+1,.cons _ t=>Vals.drop n t
def RelO:Option V->Option yb->Prop
 | some v,some u=>RelV v u
 | none,none=>True
 | _,_=>False
def KV{κ:Type}:List (κ × V)->List (κ × yb)->Prop:=Paired λ(p:κ × V) (q:κ × yb)=>p.1=q.1/\RelV p.2 q.2
def kV:Key->V
 | .inl i=>.int i
 | .inr x=>.str x
inductive HO where
 /-- a list -/
 | lst (xs:List V)
 /-- a tuple (never changes) -/
 | tup (xs:List V)
 /-- a dict whose keys are ints and texts;one whose keys are tuples of ints and texts (the empty one is both) -/
 | dK (kvs:List (Key × V)) | dT (kvs:List (List Key × V))
 /-- a set of ints: its members,its size -/
 | set (S:Int->Bool) (n:Nat)
 /-- an instance of the class at C,its dict at dx,its attributes -/
 | ins (C dx:yc) (fs:List (Str × V))
 /-- the dict of the instance at x -/
 | own (x:yc)
 /-- the dict of an exception -/
 | xd (fs:List (Str × V))
 /-- a bound method,f of x -/
 | met (f x:yc)
 /-- a range object lo,lo+1,.. below hi -/
 | rng (lo hi:Int)
 /-- a thing that is known to the object (the script;a dict while a loop walks it): read,never written while it is so -/
 | frz (o:Obj) (u:HO)
 /-- a code object's table -/
 | tbl (ps:Array yb)
 /-- any other thing,by what is true of its one object (a def of one's own: SetO a S n:=HO.ext λh=>..) -/
 | ext (φ:yd->Prop)
abbrev Hp:=yc->Option HO
def upd(H:Hp)(a:yc)(o:HO):Hp:=λb=>if b=a then some o else H b
theorem Zt{H:Hp}{a:yc}{o:HO}:upd H a o a=some o:=by unfold upd;rw[if_pos rfl]
theorem Zr{H:Hp}{a b:yc}{o:HO}(h:b ≠ a):upd H a o b=H b:=by unfold upd;rw[if_neg h]
theorem zh2{H:Hp}{a:yc}{o u:HO}:upd (upd H a o) a u=upd H a u:=by
 funext b;unfold upd;split <;> rfl
theorem ne_of{H:Hp}{a b:yc}{o u:HO}(h:H a=some o)(h':H b=some u)(d:o ≠ u):a ≠ b:=by
 intro e;subst e;rw[h] at h';exact d (ja.inj h')
theorem ZH{H:Hp}{a b:yc}{o:HO}(h:H a=some o)(h':H b=none):a ≠ b:=by
 intro e;subst e;rw[h] at h';cases h'
section
variable (P:y6)(w:y3)
def X3(H:Hp)(h:yd)(a:yc):HO->Prop
 | .lst xs=>xs.length<=y7/\∃(its:List yb) (n:Nat),Vals xs its/\h.get? a=some { cls:=.type "list",data:=.seq its.toArray n }
 | .tup xs=>xs.length<=y7/\∃its:List yb,Vals xs its/\IsTup h a its.toArray
 | .dK kvs=>kvs.length<=y7/\(a == jK)=false/\∃vs,KV kvs vs/\h.DictOf (Xi P w) a vs
 | .dT kvs=>kvs.length<=y7/\(a == jK)=false/\∃xs:List (List Key × yc × yb),
   Paired (λ(p:List Key × V) (q:List Key × yc × yb)=>p.1=q.1/\H q.2.1=some (.tup (p.1.map kV))/\RelV p.2 q.2.2) kvs xs /\
   ∃o es ep,h.get? a=some o/\o.ExactDict/\o.data=.dict es ep/\es.toList=xs.map (entryOfKey (tupleKind (Xi P w)))/\(xs.map (·.1)).Nodup
 | .set S n=>h.SetOf (intKind P w) a S n
 | .ins C dx fs=>H dx=some (.own a)/\fs.length<=1000/\dx ≠ a/\h.get? a=some (qe C dx) /\
   ∃mA,h.Ns1 dx mA/\(∀f,RelO (fs.lookup f) (mA f))/\PySem.Within mA (fs.map (·.1))
 | .own _=>∃o,h.get? a=some o
 | .xd fs=>∃mA,h.Ns1 a mA/\∀f,RelO (fs.lookup f) (mA f)
 | .rng lo hi=>∃t u v,h.get? a=some { cls:=.type "range",data:=.fields #[.int lo t,.int hi u,.int 1 v] }
 | .frz o u=>h.get? a=some o/\X3 H h a u
 | .tbl ps=>h.get? a=some { cls:=.none,data:=.fields ps }
 | .met f x=>h.get? a=some (ybx (.ref f) (.ref x))
 | .ext φ=>φ h/\(∃o,h.get? a=some o)/\∀h1 h2:yd,φ h1->(∀o,h1.get? a=some o->h2.get? a=some o)->φ h2
def HOk(H:Hp)(h:yd):Prop:=∀a o,H a=some o->X3 P w H h a o
end
section
variable {P:y6}{w:y3}{H H':Hp}{h h':yd}{a:yc}{o:HO}
theorem X3.lt(x:X3 P w H h a o):a < h.objs.size:=by
 cases o with
 | lst xs=>obtain⟨_,_,_,_,e⟩:=x;exact yG e
 | tup xs=>obtain⟨_,_,_,p⟩:=x;exact p.lt
 | dK kvs=>obtain⟨_,_,_,_,o,_,_,e,_⟩:=x;exact yG e
 | dT kvs=>obtain⟨_,_,_,_,o,_,_,e,_⟩:=x;exact yG e
 | set S n=>obtain⟨o,_,_,_,e,_⟩:=x;exact yG e
 | ins C dx fs=>obtain⟨_,_,_,e,_⟩:=x;exact yG e
 | own y=>obtain⟨_,e⟩:=x;exact yG e
 | xd fs=>obtain⟨_,⟨_,_,_,e,_⟩,_⟩:=x;exact yG e
 | rng lo hi=>obtain⟨_,_,_,e⟩:=x;exact yG e
 | frz ob u=>obtain⟨e,_⟩:=x;exact yG e
 | tbl ps=>exact yG (show h.get? a=some _ from x)
 | met f y=>exact yG (show h.get? a=some _ from x)
 | ext φ=>obtain⟨_,⟨_,e⟩,_⟩:=x;exact yG e
theorem Paired.mapP{α β:Type}{F G:α->β->Prop}:∀{l₁:List α}{l₂:List β},Paired F l₁ l₂->(∀a b,F a b->G a b)->Paired G l₁ l₂
 | _,_,.nil,_=>.nil
 | _,_,.cons r t,f=>.cons (f _ _ r) (Paired.mapP t f)
theorem X3.stay(x:X3 P w H h a o)(k:∀b u,(b=a\/H b=some (.own a))->h.get? b=some u->h'.get? b=some u)
  (ho:∀b,H b=some (.own a)->H' b=some (.own a)) (ht:∀b xs,H b=some (.tup xs)->H' b=some (.tup xs)):X3 P w H' h' a o:=by
 induction o with
 | lst xs=>obtain⟨z,its,n,r,e⟩:=x;exact⟨z,its,n,r,k _ _ (.inl rfl) e⟩
 | tup xs=>obtain⟨z,its,r,ob,e,c⟩:=x;exact⟨z,its,r,ob,k _ _ (.inl rfl) e,c⟩
 | dK kvs=>obtain⟨z,y,vs,r,ob,es,ep,e,c⟩:=x;exact⟨z,y,vs,r,ob,es,ep,k _ _ (.inl rfl) e,c⟩
 | dT kvs=>
  obtain⟨z,y,xs,r,ob,es,ep,e,c⟩:=x;exact⟨z,y,xs,Paired.mapP r λp q z=>⟨z.1,ht _ _ z.2.1,z.2.2⟩,ob,es,ep,k _ _ (.inl rfl) e,c⟩
 | set S n=>obtain⟨ob,es,ep,t,e,c⟩:=x;exact⟨ob,es,ep,t,k _ _ (.inl rfl) e,c⟩
 | ins C dx fs=>
  obtain⟨d,z,ne,e,mA,⟨od,es,ep,e2,c⟩,r⟩:=x;exact⟨ho _ d,z,ne,k _ _ (.inl rfl) e,mA,⟨od,es,ep,k _ _ (.inr d) e2,c⟩,r⟩
 | own y=>obtain⟨ob,e⟩:=x;exact⟨ob,k _ _ (.inl rfl) e⟩
 | xd fs=>obtain⟨mA,⟨od,es,ep,e,c⟩,r⟩:=x;exact⟨mA,⟨od,es,ep,k _ _ (.inl rfl) e,c⟩,r⟩
 | rng lo hi=>obtain⟨t,u,v,e⟩:=x;exact⟨t,u,v,k _ _ (.inl rfl) e⟩
 | frz ob u ih=>obtain⟨e,q⟩:=x;exact⟨k _ _ (.inl rfl) e,ih q⟩
 | tbl ps=>
  have e:h.get? a=some { cls:=.none,data:=.fields ps }:=x;show h'.get? a=some { cls:=.none,data:=.fields ps };exact k a _ (.inl rfl) e
 | met f y=>
  have e:h.get? a=some (ybx (.ref f) (.ref y)):=x;show h'.get? a=some (ybx (.ref f) (.ref y));exact k a _ (.inl rfl) e
 | ext φ=>obtain⟨p,⟨o,e⟩,st⟩:=x;exact⟨st _ _ p λo q=>k _ _ (.inl rfl) q,⟨o,k _ _ (.inl rfl) e⟩,st⟩
theorem HOk.lt(x:HOk P w H h)(e:H a=some o):a < h.objs.size:=(x a o e).lt
theorem HOk.fresh(x:HOk P w H h)(e:h.objs.size<=a):H a=none:=by
 cases q:H a with
 | none=>rfl
 | some u=>exact absurd (yU (x.lt q) e) (jS _)
theorem HOk.kept(x:HOk P w H h)(k:∀b u,h.get? b=some u->h'.get? b=some u):HOk P w H h':=λa o e=>
 (x a o e).stay (λb u _ q=>k b u q) (λ_ q=>q) λ_ _ q=>q
theorem HOk.laid(x:HOk P w H h)(k:∀b u,h.get? b=some u->h'.get? b=some u)(hp:h.objs.size<=a)(new:X3 P w (upd H a o) h' a o):HOk P w (upd H a o) h':=λb u e=>by
 have hn:=x.fresh hp;by_cases hb:b=a
 ·subst hb;rw[Zt] at e;cases e;exact new
 ·rw[Zr hb] at e;exact(x b u e).stay (λc v _ q=>k c v q) (λc q=>by rw[Zr (ZH q hn)];exact q) λc xs q=>by rw[Zr (ZH q hn)];exact q
end
def Rd(H:Hp)(a:yc)(u:HO):Prop:=H a=some u\/∃o,H a=some (.frz o u)
theorem Rd.ok{P:y6}{w:y3}{H:Hp}{h:yd}{a:yc}{u:HO}(r:Rd H a u)(x:HOk P w H h):X3 P w H h a u:=by
 rcases r with r | ⟨o,r⟩
 ·exact x a u r
 ·obtain⟨_,q⟩:=x a _ r;exact q
def Mut:Option HO->Prop
 | some (.lst _)=>True
 | some (.dK _)=>True
 | some (.dT _)=>True
 | some (.set _ _)=>True
 | some (.ins _ _ _)=>True
 | some (.ext _)=>True
 | _=>False
section
variable {P:y6}{w:y3}{H:Hp}{h h':yd}{x e:yc}{o':HO}
theorem HOk.write(ok:HOk P w H h)(mu:Mut (H x))(he:e=x\/H e=some (.own x))(k:∀b u,b ≠ e->h.get? b=some u->h'.get? b=some u)(heo:∃u,h'.get? e=some u)
  (new:X3 P w (upd H x o') h' x o'):HOk P w (upd H x o') h':=λb u q=>by
 have nown:∀c y,H c=some (.own y)->c ≠ x:=λc y r z=>by subst z;rw[r] at mu;exact mu
 have ntup:∀c xs,H c=some (.tup xs)->c ≠ x:=λc xs r z=>by subst z;rw[r] at mu;exact mu
 by_cases hb:b=x
 ·subst hb;rw[Zt] at q;cases q;exact new
 ·rw[Zr hb] at q;by_cases hbe:b=e
  ·have q':H b=some (.own x):=by
    rcases he with z | z
    ·exact absurd (hbe.trans z) hb
    ·rw[hbe];exact z
   rw[q] at q';cases q';obtain⟨v,hv⟩:=heo;exact⟨v,by rw[hbe];exact hv⟩
  ·refine(ok b u q).stay (λc v hc r=>k c v ?_ r) (λc r=>by rw[Zr (nown c b r)];exact r) λc xs r=>by rw[Zr (ntup c xs r)];exact r
   rcases hc with rfl | hc
   ·exact hbe
   ·rintro rfl
    rcases he with z | z
    ·exact nown c b hc z
    ·rw[hc] at z;cases z;exact hb rfl
end
structure Un(fs ex:List yc)(H H':Hp)(h h':yd):Prop where
 keep:∀b o,h.get? b=some o->H b=none->b ∉ fs->b ∉ ex->h'.get? b=some o
 slot:∀b o,h.get? b=some o->H b=none->b ∈ fs->b ∉ ex->∃sl,h'.get? b=some { o with slots:=sl }
 free:∀b o,h.get? b=some o->H b=none->b ∉ ex->H' b=none
 there:∀b o,h.get? b=some o->b ∉ ex->∃o',h'.get? b=some o'
 tups:∀b xs,H b=some (.tup xs)->H' b=some (.tup xs)
 frzs:∀b o u,H b=some (.frz o u)->H' b=some (.frz o u)
 tbls:∀b ps,H b=some (.tbl ps)->∃more,H' b=some (.tbl (ps++more))
section
variable {fs fs' ex ex':List yc}{H H1 H2:Hp}{h h1 h2 h':yd}{a x e:yc}{o:HO}
theorem Un.any(u:Un fs ex H H1 h h1){b:yc}{ob:Obj}(q:h.get? b=some ob)(n:H b=none)(hx:b ∉ ex):∃sl,h1.get? b=some { ob with slots:=sl }:=by
 by_cases hb:b ∈ fs
 ·exact u.slot b ob q n hb hx
 ·exact⟨ob.slots,u.keep b ob q n hb hx⟩
theorem Un.kept(k:∀b u,h.get? b=some u->h'.get? b=some u):Un fs ex H H h h':=
 ⟨λb ob q _ _ _=>k b ob q,λb ob q _ _ _=>⟨ob.slots,k b ob q⟩,λ_ _ _ n _=>n,λb ob q _=>⟨ob,k b ob q⟩,λ_ _ q=>q,λ_ _ _ q=>q,λ_ ps q=>⟨#[],by rw[q];simp⟩⟩
theorem Un.refl:Un fs ex H H h h:=Un.kept λ_ _ q=>q
theorem Un.laid(k:∀b u,h.get? b=some u->h'.get? b=some u)(hp:h.objs.size<=a)(hn:H a=none):Un fs ex H (upd H a o) h h' where
 keep:=λb u q _ _ _=>k b u q
 slot:=λb u q _ _ _=>⟨u.slots,k b u q⟩
 free:=λb u q n _=>by rw[Zr (yW (yU (yG q) hp))];exact n
 there:=λb u q _=>⟨u,k b u q⟩
 tups:=λb xs q=>by rw[Zr (ZH q hn)];exact q
 frzs:=λb u xs q=>by rw[Zr (ZH q hn)];exact q
 tbls:=λb ps q=>⟨#[],by rw[Zr (ZH q hn),q];simp⟩
theorem Un.write(mu:Mut (H x))(he:e=x\/H e=some (.own x))(k:∀b u,b ≠ e->h.get? b=some u->h'.get? b=some u)(heo:∃u,h'.get? e=some u):Un fs ex H (upd H x o) h h':=by
 have hx:∀b,H b=none->b ≠ x:=λb n z=>by subst z;rw[n] at mu;exact mu
 have hb:∀b,H b=none->b ≠ e:=λb n z=>by
  subst z;rcases he with r | r
  ·exact hx b n r
  ·rw[n] at r;cases r
 have hm:∀b u,H b=some u->¬Mut (some u)->b ≠ x:=λb u q nm z=>by subst z;rw[q] at mu;exact nm mu
 refine⟨λb u q n _ _=>k b u (hb b n) q,λb u q n _ _=>⟨u.slots,k b u (hb b n) q⟩,λb u q n _=>by rw[Zr (hx b n)];exact n,λb u q _=>?_,
  λb xs q=>by rw[Zr (hm b _ q λz=>z)];exact q,λb u xs q=>by rw[Zr (hm b _ q λz=>z)];exact q,λb ps q=>⟨#[],by rw[Zr (hm b _ q λz=>z),q];simp⟩⟩
 by_cases hbe:b=e
 ·subst hbe;exact heo
 ·exact⟨u,k b u hbe q⟩
end
def trk(h:yd)(H:Hp):List yc:=(yF h.objs.size).filter λa=>(H a).isSome
def hidT(h:yd)(H:Hp):yd:=PySem.W.hideAll h (trk h H)
theorem zjE(h:yd)(H:Hp):(hidT h H).objs.size=h.objs.size:=PySem.W.hideAll_size _ _
theorem hidT_get{h:yd}{H:Hp}{b:yc}{o:Obj}(e:h.get? b=some o)(n:H b=none):(hidT h H).get? b=some o:=
 PySem.W.hideAll_get _ e λhm=>by
  have q:(H b).isSome=true:=(yX.mp hm).2;rw[n] at q;simp at q
theorem of_hidT{h:yd}{H:Hp}{b:yc}{o:Obj}(e:(hidT h H).get? b=some o):h.get? b=some o/\H b=none:=by
 have e':h.get? b=some o:=PySem.W.of_hideAll (trk h H) e;refine⟨e',?_⟩;cases q:H b with
 | none=>rfl
 | some x=>
  have hm:b ∈ trk h H:=yX.mpr ⟨js.mpr (yG e'),by simp[q]⟩
  have z:(hidT h H).get? b=none:=PySem.W.hideAll_none (trk h H) hm;rw[z] at e;cases e
structure Mod(K:yh)(mg:Str->Option yb)(base:yd):Prop where
 kin:K.In base
 glob:base.Ns yn mg
 blt:∃mb,base.Ns builtinsNs mb/\∀x:Str,x ≠ "__name__" -> mb x=yK x
 nolimit:base.NoLimit
structure Cx where
 prog:y6
 w:y3
 K:yh
 mg:Str->Option yb
 base:yd
 A:yB
 N:List Str
 s₀:ye
 H₀:Hp
 env:Env
 outer:List Env
 stack:List Env
 ex:List yc
 fn:Str->Bool
 calm:Bool
 pn:List (yc × Obj)
 xe:yb->ye->Prop
def frs(l:List Env):List yc:=l.filterMap (·.frame)
abbrev Cx.fs(X:Cx):List yc:=frs X.outer
def Vis(sc:yJ)(x:Str):Prop:=sc.names.lookup x=some .local\/sc.names.lookup x=some .cell\/sc.names.lookup x=some .free
def Loc(sc:yJ)(x:Str):Prop:=sc.names.lookup x=some .local\/sc.names.lookup x=some .cell
def Look(env:Env)(h:yd)(m:Str->Option yb)(x:Str)(u:yb):Prop:=
 (env.kindOf x=some .local/\m x=some u)\/((env.kindOf x=some .cell\/env.kindOf x=some .free)/\∃c,env.cells.lookup x=some c/\h.IsCell c (some u))
structure Cx.Ok(X:Cx):Prop where
 mod:Mod X.K X.mg X.base
 kind:X.env.scope.kind=.function
 glob:X.env.globals=yn
 blt:X.env.builtins=builtinsNs
 above:X.s₀.heap.objs.size<=X.env.locals
 inj:∀x y c,X.env.cells.lookup x=some c->X.env.cells.lookup y=some c->x=y
 has:∀x,(X.env.kindOf x=some .cell\/X.env.kindOf x=some .free)->∃c,X.env.cells.lookup x=some c
 cab:∀x c,X.fn x=true->X.env.cells.lookup x=some c->X.s₀.heap.objs.size<=c
 hd:X.calm=true->X.A.handled=none
 frames:X.A.frames=some X.stack
 stk:X.stack=X.outer\/(X.stack=X.env::X.outer/\X.env.frame=some X.env.locals)
 exf:∀b ∈ X.ex,b ≠ X.env.locals/\∀x c,X.env.cells.lookup x=some c->c ≠ b
 bs:∀b o,X.base.get? b=some o->X.s₀.heap.get? b=some o/\X.H₀ b=none
 bsz:X.base.objs.size<=X.s₀.heap.objs.size
 noex:∀b o,X.base.get? b=some o->b ∉ X.ex
 exfs:∀b ∈ X.ex,b ∉ X.fs
 funs:X.s₀.heap.FunFrames X.base X.outer
 frf:∀b ∈ X.fs,X.H₀ b=none
structure Inv(X:Cx)(pins:List (yc × Obj))(σ:List (Option V))(H:Hp)(s:ye):Prop where
 ok:X.Ok
 os:s.os=X.s₀.os
 bare:AllBare s.gens
 base:Un X.fs X.ex X.H₀ H X.s₀.heap s.heap
 loc:∃m,s.heap.Ns X.env.locals m/\∀(i:Nat) (x:Str) (v:V),X.N[i]? = some x->σ[i]? = some (some v)->Vis X.env.scope x->∃u,RelV v u/\Look X.env s.heap m x u
 cell:∀x c,X.env.cells.lookup x=some c->∃v,s.heap.IsCell c v
 free:H X.env.locals=none
 freeC:∀x c,X.env.cells.lookup x=some c->H c=none
 pin:∀p ∈ X.pn++pins,s.heap.get? p.1=some p.2/\H p.1=none/\p.1 ≠ X.env.locals/\p.1 ∉ X.fs/\∀v,p.2.data ≠ .cell v
 hok:HOk X.prog X.w H s.heap
 len:σ.length=X.N.length
section
variable {X:Cx}{pins:List (yc × Obj)}{σ:List (Option V)}{H H':Hp}{s:ye}{h':yd}
theorem Cx.Ok.nofr(ok:X.Ok){b:yc}{o:Obj}(e:X.base.get? b=some o):b ∉ X.fs:=λhb=>by
 have:=(ok.funs.mem hb).1;rw[e] at this;cases this
theorem Inv.bs(I:Inv X pins σ H s):∀b o,X.base.get? b=some o->s.heap.get? b=some o/\H b=none:=λb o e=>
 ⟨I.base.keep b o (I.ok.bs b o e).1 (I.ok.bs b o e).2 (I.ok.nofr e) (I.ok.noex b o e),I.base.free b o (I.ok.bs b o e).1 (I.ok.bs b o e).2 (I.ok.noex b o e)⟩
theorem Inv.bk(I:Inv X pins σ H s):∀b o,X.base.get? b=some o->s.heap.get? b=some o:=λb o e=>(I.bs b o e).1
theorem Inv.mod(I:Inv X pins σ H s):Mod X.K X.mg X.base:=I.ok.mod
theorem Inv.kIn(I:Inv X pins σ H s):X.K.In s.heap:=I.ok.mod.kin.keeps I.bk
theorem Inv.nolimit(I:Inv X pins σ H s):s.heap.NoLimit:=I.ok.mod.nolimit.keeps I.bk
theorem Inv.lt(I:Inv X pins σ H s):X.env.locals < s.heap.objs.size:=let⟨_,hn,_⟩:=I.loc;hn.lt
theorem Inv.sz(I:Inv X pins σ H s):X.s₀.heap.objs.size<=s.heap.objs.size:=yE I.ok.above (jD I.lt)
theorem Inv.nofs(I:Inv X pins σ H s){a:yc}(h:s.heap.objs.size<=a):a ∉ X.fs:=λhb=>by
 obtain⟨_,o,ho,_⟩:=I.ok.funs.mem hb;exact absurd (yU (yG ho) (yE I.sz h)) (jS _)
theorem Inv.cne(I:Inv X pins σ H s):∀x c,X.env.cells.lookup x=some c->c ≠ X.env.locals:=λx c e z=>by
 obtain⟨v,o,ho,hd⟩:=I.cell x c e;obtain⟨m,⟨o',es,ep,ho',hd',_⟩,_⟩:=I.loc;rw[z,ho'] at ho;cases ho;rw[hd'] at hd;cases hd
theorem Inv.funs(I:Inv X pins σ H s):s.heap.FunFrames X.base X.outer:=by
 have all:∀(l:List Env),(∀b ∈ frs l,b ∈ X.fs)->X.s₀.heap.FunFrames X.base l->s.heap.FunFrames X.base l:=by
  intro l
  induction l with
  | nil=>intro _ _;trivial
  | cons env r ih=>
   intro hs hl;obtain⟨hk,⟨L,o,hf,hn,ho,hd⟩,hr⟩:=hl;have hL:L ∈ X.fs:=hs L (by unfold frs;rw[ybs,hf];exact yP)
   obtain⟨sl,e⟩:=I.base.slot L o ho (I.ok.frf L hL) hL λz=>I.ok.exfs L z hL
   exact⟨hk,⟨L,_,hf,hn,e,hd⟩,ih (λb hb=>hs b (by unfold frs;rw[ybs,hf];exact yR _ hb)) hr⟩
 exact all X.outer (λ_ hb=>hb) I.ok.funs
theorem Inv.stack(I:Inv X pins σ H s):s.heap.FunFrames X.base X.stack:=by
 rcases I.ok.stk with e | ⟨e,hf⟩
 ·rw[e];exact I.funs
 ·rw[e];obtain⟨m,hn,_⟩:=I.loc;refine .cons (by rw[I.ok.kind];decide) hf hn ?_ I.funs
  exact yd.get?_none_of_le (yE I.ok.bsz I.ok.above)
theorem Inv.stkSub(I:Inv X pins σ H s):∀b ∈ frs X.stack,b ∈ X.env.locals::X.fs:=λb hb=>by
 rcases I.ok.stk with e | ⟨e,hf⟩
 ·rw[e] at hb;exact yR _ hb
 ·rw[e] at hb;unfold frs at hb;rw[ybs,hf] at hb;exact hb
theorem Inv.stkFree(I:Inv X pins σ H s):∀b ∈ frs X.stack,H b=none:=λb hb=>by
 rcases yI.mp (I.stkSub b hb) with e | hb
 ·rw[e];exact I.free
 ·obtain⟨_,o,ho,_⟩:=I.ok.funs.mem hb;exact I.base.free b o ho (I.ok.frf b hb) λz=>I.ok.exfs b z hb
theorem Inv.step{g':Array GenState}{t':Nat}{d':Drawn}{ch:List yc}(I:Inv X pins σ H s)
  (hch:∀b ∈ ch,(b ∈ X.ex\/X.s₀.heap.objs.size<=b)/\b ≠ X.env.locals/\(∀x c,X.env.cells.lookup x=some c->c ≠ b)/\∀p ∈ X.pn++pins,p.1 ≠ b)
  (keep:∀b o,b ≠ X.env.locals->b ∉ X.fs->b ∉ ch->s.heap.get? b=some o->H b=none->h'.get? b=some o)
  (slot:∀b o,b ≠ X.env.locals->b ∈ X.fs->b ∉ ch->s.heap.get? b=some o->H b=none->∃sl,h'.get? b=some { o with slots:=sl }) (free:∀b o,b ∉ ch->s.heap.get? b=some o->H b=none->H' b=none)
  (there:∀b o,b ∉ ch->s.heap.get? b=some o->∃o',h'.get? b=some o')
  (tups:∀b xs,H b=some (.tup xs)->H' b=some (.tup xs)) (frzs:∀b o u,H b=some (.frz o u)->H' b=some (.frz o u)) (tbls:∀b ps,H b=some (.tbl ps)->∃more,H' b=some (.tbl (ps++more)))
  (ns:∀m,s.heap.Ns X.env.locals m->h'.Ns X.env.locals m) (hok:HOk X.prog X.w H' h') (hg:AllBare g') :
  Inv X pins σ H' { s with heap:=h',gens:=g',drawn:=d',toks:=t' }:=by
 have neL:∀b o,X.s₀.heap.get? b=some o->b ≠ X.env.locals:=λb o e=>yW (yU (yG e) I.ok.above)
 have neC:∀b o,X.s₀.heap.get? b=some o->b ∉ X.ex->b ∉ ch:=λb o e hx hb=>by
  rcases(hch b hb).1 with z | z
  ·exact hx z
  ·exact absurd (yU (yG e) z) (jS _)
 have cellK:∀x c,X.env.cells.lookup x=some c->∀v,s.heap.IsCell c v->h'.IsCell c v:=λx c e v ⟨o,ho,hd⟩=>by
  have nch:c ∉ ch:=λz=>(hch c z).2.2.1 x c e rfl
  by_cases hc:c ∈ X.fs
  ·obtain⟨sl,q⟩:=slot c o (I.cne x c e) hc nch ho (I.freeC x c e);exact⟨_,q,hd⟩
  ·exact⟨o,keep c o (I.cne x c e) hc nch ho (I.freeC x c e),hd⟩
 refine⟨I.ok,I.os,hg,⟨λb o e n hb hx=>?_,λb o e n hb hx=>?_,λb o e n hx=>?_,λb o e hx=>?_,λb xs e=>tups b xs (I.base.tups b xs e),λb o xs e=>frzs b o xs (I.base.frzs b o xs e),λb ps e=>?_⟩,?_,λx c e=>?_,?_,λx c e=>?_,λp hp=>?_,hok,I.len⟩
 ·exact keep b o (neL b o e) hb (neC b o e hx) (I.base.keep b o e n hb hx) (I.base.free b o e n hx)
 ·obtain⟨sl,e1⟩:=I.base.slot b o e n hb hx;obtain⟨sl',e2⟩:=slot b _ (neL b o e) hb (neC b o e hx) e1 (I.base.free b o e n hx);exact⟨sl',e2⟩
 ·obtain⟨o',e1⟩:=I.base.there b o e hx;exact free b o' (neC b o e hx) e1 (I.base.free b o e n hx)
 ·obtain⟨o',e1⟩:=I.base.there b o e hx;exact there b o' (neC b o e hx) e1
 ·obtain⟨m1,e1⟩:=I.base.tbls b ps e;obtain⟨m2,e2⟩:=tbls b _ e1;exact⟨m1++m2,by rw[e2,Array.append_assoc]⟩
 ·obtain⟨m,hn,hl⟩:=I.loc;refine⟨m,ns m hn,λi x v e1 e2 e3=>?_⟩
  obtain⟨u,r,l⟩:=hl i x v e1 e2 e3;refine⟨u,r,?_⟩;rcases l with l | ⟨k,c,e,z⟩
  ·exact .inl l
  ·exact .inr ⟨k,c,e,cellK x c e _ z⟩
 ·obtain⟨v,z⟩:=I.cell x c e;exact⟨v,cellK x c e v z⟩
 ·obtain⟨m,⟨o,_,_,ho,_⟩,_⟩:=I.loc;exact free _ o (λz=>(hch _ z).2.1 rfl) ho I.free
 ·obtain⟨v,o,ho,hd⟩:=I.cell x c e;exact free c o (λz=>(hch c z).2.2.1 x c e rfl) ho (I.freeC x c e)
 ·obtain⟨e,n,ne,nf,d⟩:=I.pin p hp;have nch:p.1 ∉ ch:=λz=>(hch p.1 z).2.2.2 p hp rfl
  exact⟨keep p.1 p.2 ne nf nch e n,free p.1 p.2 nch e n,ne,nf,d⟩
theorem Inv.un{t':Nat}(I:Inv X pins σ H s)(u:Un X.fs [] H H' s.heap h')(hok:HOk X.prog X.w H' h'):Inv X pins σ H' { s with heap:=h',toks:=t' }:=by
 obtain⟨m,⟨o,es,ep,ho,r⟩,_⟩:=id I.loc;obtain⟨sl,hL⟩:=u.any ho I.free (by simp)
 exact I.step (g':=s.gens) (d':=s.drawn) (ch:=[]) (λ_ z=>nomatch z) (λb o _ hb _ e n=>u.keep b o e n hb (by simp)) (λb o _ hb _ e n=>u.slot b o e n hb (by simp)) (λb o _ e n=>u.free b o e n (by simp)) (λb o _ e=>u.there b o e (by simp)) u.tups u.frzs u.tbls (λm' hm=>by
  obtain⟨o',es',ep',ho',r'⟩:=hm;rw[ho] at ho';cases ho';exact⟨_,es',ep',hL,r'⟩) hok I.bare
theorem Inv.call{g':Array GenState}{t':Nat}{d':Drawn}{ch:List yc}(I:Inv X pins σ H s)(u:Un (frs X.stack) ch H H' s.heap h')(hok:HOk X.prog X.w H' h')(hg:AllBare g')
  (hch:∀b ∈ ch,(b ∈ X.ex\/X.s₀.heap.objs.size<=b)/\b ≠ X.env.locals/\(∀x c,X.env.cells.lookup x=some c->c ≠ b)/\∀p ∈ X.pn++pins,p.1 ≠ b) :
  Inv X pins σ H' { s with heap:=h',gens:=g',drawn:=d',toks:=t' }:=by
 obtain⟨m,⟨o,es,ep,ho,r⟩,_⟩:=id I.loc;obtain⟨sl,hL⟩:=u.any ho I.free λz=>(hch _ z).2.1 rfl
 exact I.step (ch:=ch) hch (λb o hL hb hc e n=>u.keep b o e n (λz=>(yI.mp (I.stkSub b z)).elim hL hb) hc) (λb o _ _ hc e n=>u.any e n hc) (λb o hc e n=>u.free b o e n hc) (λb o hc e=>u.there b o e hc) u.tups u.frzs u.tbls (λm' hm=>by
  obtain⟨o',es',ep',ho',r'⟩:=hm;rw[ho] at ho';cases ho';exact⟨_,es',ep',hL,r'⟩) hok hg
theorem Inv.turned{t':Nat}{it:yc}(I:Inv X pins σ H s)(k:∀b o,b ≠ it->s.heap.get? b=some o->h'.get? b=some o)(hn:H it=none)(hL:it ≠ X.env.locals)
  (h1:it ∈ X.ex\/X.s₀.heap.objs.size<=it) (h2:∀x c,X.env.cells.lookup x=some c->c ≠ it) (h3:∀p ∈ X.pn++pins,p.1 ≠ it):Inv X pins σ H { s with heap:=h',toks:=t' }:=by
 have nit:∀b u,H b=some u->b ≠ it:=λb u e z=>by rw[z,hn] at e;cases e
 refine I.step (g':=s.gens) (d':=s.drawn) (ch:=[it]) (λb hb=>?_) (λb o _ _ hc e _=>k b o (λz=>hc (by simp[z])) e) (λb o _ _ hc e _=>⟨o.slots,k b o (λz=>hc (by simp[z])) e⟩) (λ_ _ _ _ n=>n)
  (λb o hc e=>⟨o,k b o (λz=>hc (by simp[z])) e⟩) (λ_ _ e=>e) (λ_ _ _ e=>e) (λb ps e=>⟨#[],by rw[e];simp⟩) (λm hm=>?_) (λb u e=>?_) I.bare
 ·have e:b=it:=by simpa using hb
  subst e;exact⟨h1,hL,h2,h3⟩
 ·obtain⟨o,es,ep,ho,r⟩:=hm;exact⟨o,es,ep,k _ o (Ne.symm hL) ho,r⟩
 ·refine(I.hok b u e).stay (λc v hc q=>k c v ?_ q) (λ_ q=>q) λ_ _ q=>q
  rcases hc with z | z
  ·rw[z];exact nit b u e
  ·exact nit c _ z
theorem Inv.tok(I:Inv X pins σ H s)(t:Nat):Inv X pins σ H { s with toks:=t }:=I.un (h':=s.heap) (t':=t) Un.refl I.hok
theorem Inv.kept{t':Nat}(I:Inv X pins σ H s)(k:∀b u,s.heap.get? b=some u->h'.get? b=some u):Inv X pins σ H { s with heap:=h',toks:=t' }:=I.un (Un.kept k) (I.hok.kept k)
theorem Inv.laid{a:yc}{o:HO}{t':Nat}(I:Inv X pins σ H s)(k:∀b u,s.heap.get? b=some u->h'.get? b=some u)(hp:s.heap.objs.size<=a)(new:X3 X.prog X.w (upd H a o) h' a o) :
  Inv X pins σ (upd H a o) { s with heap:=h',toks:=t' }:=I.un (Un.laid k hp (I.hok.fresh hp)) (I.hok.laid k hp new)
theorem Inv.write{x e:yc}{o:HO}{t':Nat}(I:Inv X pins σ H s)(mu:Mut (H x))(he:e=x\/H e=some (.own x))(k:∀b u,b ≠ e->s.heap.get? b=some u->h'.get? b=some u)(heo:∃u,h'.get? e=some u)
  (new:X3 X.prog X.w (upd H x o) h' x o):Inv X pins σ (upd H x o) { s with heap:=h',toks:=t' }:=I.un (Un.write mu he k heo) (I.hok.write mu he k heo new)
theorem Inv.pins_of{pins':List (yc × Obj)}(I:Inv X pins σ H s)(h:∀p ∈ pins',s.heap.get? p.1=some p.2/\H p.1=none/\p.1 ≠ X.env.locals/\p.1 ∉ X.fs/\∀v,p.2.data ≠ .cell v):Inv X pins' σ H s:=
 ⟨I.ok,I.os,I.bare,I.base,I.loc,I.cell,I.free,I.freeC,λp hp=>(ju.mp hp).elim (λz=>I.pin p (qH _ z)) (h p),I.hok,I.len⟩
theorem zgn{N:List Str}(hN:N.Nodup){i j:Nat}{x:Str}(a:N[i]? = some x)(b:N[j]? = some x):i=j:=by
 obtain⟨h1,e1⟩:=jb.mp a;obtain⟨h2,e2⟩:=jb.mp b;exact(List.getElem_inj hN).mp (e1.trans e2.symm)
theorem zd5{M:Model}{A:yB}{E:yb->ye->Prop}{i:Nat}{x:Str}{v:V}{u:yb}{Q:Unit->ye->Prop}(I:Inv X pins σ H s)(hN:X.N.Nodup)(hi:X.N[i]? = some x)(hx:Loc X.env.scope x)(r:RelV v u)
  (h:∀s',Inv X pins (σ.set i (some v)) H s'->(∃a,qf a s.heap s'.heap/\(a=X.env.locals\/X.env.cells.lookup x=some a))->Q () s') (hf:X.fn x=true\/X.env.scope.names.lookup x=some .local:=by first | exact .inl rfl | exact .inr rfl | assumption):yi M A (storeName X.env x u) Q E s:=by
 obtain⟨m,hn,hl⟩:=id I.loc;have hcls:(X.env.scope.kind == .class || (X.env.scope.kind == .module && X.env.locals != X.env.globals))=false:=by rw[I.ok.kind];rfl
 have hiσ:i < σ.length:=by rw[I.len];exact(jb.mp hi).1
 have cne:=I.cne;have tracked:∀{a:yc}{h':yd},(∃o,s.heap.get? a=some o/\H a=none)->qf a s.heap h'->HOk X.prog X.w H h':=λ{a h'} ha hs b ob e=>by
  obtain⟨_,_,hfree⟩:=ha;refine(I.hok b ob e).stay (λc w' hc q=>(hs.2 c ?_).trans q) (λ_ q=>q) λ_ _ q=>q
  rintro rfl
  rcases hc with rfl | hc
  ·rw[hfree] at e;cases e
  ·rw[hfree] at hc;cases hc
 rcases hx with hk | hk
 ·refine wpAny_storeName_local hk hn (λh' hn' hs=>?_) hcls
  obtain⟨oL,_,_,hoL,_⟩:=id hn;refine h _ ⟨I.ok,I.os,I.bare,⟨λb o e n hb hx=>?_,λb o e n hb hx=>?_,I.base.free,λb o e hx=>?_,I.base.tups,I.base.frzs,I.base.tbls⟩,⟨_,hn',λj y v' e1 e2 e3=>?_⟩,λy c e=>?_,I.free,I.freeC,λp hp=>?_,tracked ⟨oL,hoL,I.free⟩ hs,by simpa using I.len⟩ ⟨_,hs,.inl rfl⟩
  ·exact(hs.2 b (yW (yU (yG e) I.ok.above))).trans (I.base.keep b o e n hb hx)
  ·obtain⟨sl,e1⟩:=I.base.slot b o e n hb hx;exact⟨sl,(hs.2 b (yW (yU (yG e) I.ok.above))).trans e1⟩
  ·obtain⟨o',e1⟩:=I.base.there b o e hx;exact⟨o',(hs.2 b (yW (yU (yG e) I.ok.above))).trans e1⟩
  ·by_cases hj:j=i
   ·subst hj;rw[hi] at e1;cases e1;rw[jy hiσ] at e2;cases e2;exact⟨u,r,.inl ⟨hk,by simp⟩⟩
   ·rw[jg (Ne.symm hj)] at e2;obtain⟨u',r',q⟩:=hl j y v' e1 e2 e3;refine⟨u',r',?_⟩;rcases q with ⟨k,e⟩ | ⟨k,c,e,z⟩
    ·refine .inl ⟨k,?_⟩;have:y ≠ x:=λe=>hj (zgn hN e1 (e ▸ hi))
     simp[this,e]
    ·exact .inr ⟨k,c,e,z.sameBut hs (cne y c e)⟩
  ·obtain⟨w',z⟩:=I.cell y c e;exact⟨w',z.sameBut hs (cne y c e)⟩
  ·obtain⟨e,n,ne,nf,d⟩:=I.pin p hp;exact⟨(hs.2 p.1 ne).trans e,n,ne,nf,d⟩
 ·have hfn:X.fn x=true:=by
   rcases hf with z | z
   ·exact z
   ·rw[z] at hk;cases hk
  obtain⟨c,hc⟩:=I.ok.has x (.inl hk);obtain⟨w',z⟩:=I.cell x c hc;refine wpAny_storeName_cell I.ok.kind hk hc z (λh' hc' hs=>?_)
  obtain⟨oc,hoc,hocd⟩:=id z;refine h { s with heap:=h' } ⟨I.ok,I.os,I.bare,⟨λb o e n hb hx=>?_,λb o e n hb hx=>?_,I.base.free,λb o e hx=>?_,I.base.tups,I.base.frzs,I.base.tbls⟩,⟨m,hn.sameBut hs (Ne.symm (cne x c hc)),λj y v' e1 e2 e3=>?_⟩,λy c' e=>?_,I.free,I.freeC,λp hp=>?_,tracked ⟨oc,hoc,I.freeC x c hc⟩ hs,by simpa using I.len⟩ ⟨c,hs,.inr hc⟩
  ·exact(hs.2 b (yW (yU (yG e) (I.ok.cab x c hfn hc)))).trans (I.base.keep b o e n hb hx)
  ·obtain⟨sl,e1⟩:=I.base.slot b o e n hb hx;exact⟨sl,(hs.2 b (yW (yU (yG e) (I.ok.cab x c hfn hc)))).trans e1⟩
  ·obtain⟨o',e1⟩:=I.base.there b o e hx;exact⟨o',(hs.2 b (yW (yU (yG e) (I.ok.cab x c hfn hc)))).trans e1⟩
  ·by_cases hj:j=i
   ·subst hj;rw[hi] at e1;cases e1;rw[jy hiσ] at e2;cases e2;exact⟨u,r,.inr ⟨.inl hk,c,hc,hc'⟩⟩
   ·rw[jg (Ne.symm hj)] at e2;obtain⟨u',r',q⟩:=hl j y v' e1 e2 e3;refine⟨u',r',?_⟩;rcases q with q | ⟨k,c',e,z'⟩
    ·exact .inl q
    ·refine .inr ⟨k,c',e,z'.sameBut hs ?_⟩
     rintro rfl
     exact hj (zgn hN e1 (I.ok.inj _ _ _ e hc ▸ hi))
  ·by_cases hcc:c'=c
   ·subst hcc;exact⟨_,hc'⟩
   ·obtain⟨w2,z2⟩:=I.cell y c' e;exact⟨w2,z2.sameBut hs hcc⟩
  ·obtain⟨e,n,ne,nf,d⟩:=I.pin p hp;refine⟨(hs.2 p.1 ?_).trans e,n,ne,nf,d⟩;intro q;rw[q,hoc] at e;have q':oc=p.2:=ja.inj e;exact d w' (by rw[<- q'];exact hocd)
theorem zf3{M:Model}{A:yB}{E:yb->ye->Prop}{i:Nat}{x:Str}{v:V}{u:yb}{Q:Unit->ye->Prop}(I:Inv X pins σ H s)(hN:X.N.Nodup)(hi:X.N[i]? = some x)(hx:Loc X.env.scope x)(r:RelV v u)
  (h:∀s',Inv X pins (σ.set i (some v)) H s'->Q () s') (hf:X.fn x=true\/X.env.scope.names.lookup x=some .local:=by first | exact .inl rfl | exact .inr rfl | assumption):yi M A (storeName X.env x u) Q E s:=
 zd5 I hN hi hx r (λs' I' _=>h s' I') hf
theorem Inv.call'{s':ye}{ch:List yc}(I:Inv X pins σ H s)(ho:s'.os=s.os)(u:Un (frs X.stack) ch H H' s.heap s'.heap)(hok:HOk X.prog X.w H' s'.heap)(hg:AllBare s'.gens)
  (hch:∀b ∈ ch,(b ∈ X.ex\/X.s₀.heap.objs.size<=b)/\b ≠ X.env.locals/\(∀x c,X.env.cells.lookup x=some c->c ≠ b)/\∀p ∈ X.pn++pins,p.1 ≠ b):Inv X pins σ H' s':=by
 obtain⟨h',g',d',t',o'⟩:=s';have e:o'=s.os:=ho;subst e;exact I.call (g':=g') (t':=t') (d':=d') u hok hg hch
end
abbrev XK:=yb->Option yc->Hp->Prop
abbrev St:=List (Option V)
abbrev VK:=V->Hp->Prop
abbrev TE:=St->Hp->VK->Prop
abbrev TT:=St->Hp->(Bool->Hp->Prop)->Prop
abbrev TA:=St->Hp->(List V->Hp->Prop)->Prop
structure Ends where
 nx:St->Hp->Prop
 rt:VK
 bk:St->Hp->Prop:=λ_ _=>False
 ct:St->Hp->Prop:=λ_ _=>False
abbrev TS:=Ends->St->Hp->Prop
def EP(X:Cx)(pins:List (yc × Obj))(σ:St)(Q:VK)(u:yb)(s':ye):Prop:=∃v H',Inv X pins σ H' s'/\RelV v u/\Q v H'
def TP(X:Cx)(pins:List (yc × Obj))(σ:St)(Q:Bool->Hp->Prop)(b:Bool)(s':ye):Prop:=∃H',Inv X pins σ H' s'/\Q b H'
def AP(X:Cx)(pins:List (yc × Obj))(σ:St)(Q:List V->Hp->Prop)(us:List yb)(s':ye):Prop:=∃vs H',Inv X pins σ H' s'/\Vals vs us/\Q vs H'
def SP(X:Cx)(pins:List (yc × Obj))(D:Ends)(f:Flow)(s':ye):Prop:=
 match f with
 | .next=>∃σ' H',Inv X pins σ' H' s'/\D.nx σ' H'
 | .brk=>∃σ' H',Inv X pins σ' H' s'/\D.bk σ' H'
 | .cont=>∃σ' H',Inv X pins σ' H' s'/\D.ct σ' H'
 | .ret u=>∃v σ' H',Inv X pins σ' H' s'/\RelV v u/\D.rt v H'
def PE(X:Cx)(e:yj)(t:TE):Prop:=
 ∀(pins:List (yc × Obj)) (s:ye) (σ:St) (H:Hp) (Q:VK),Inv X pins σ H s->t σ H Q->yi (yk X.prog X.w) X.A (yz e X.env) (EP X pins σ Q) X.xe s
def PT(X:Cx)(e:yj)(t:TT):Prop:=
 ∀(pins:List (yc × Obj)) (s:ye) (σ:St) (H:Hp) (Q:Bool->Hp->Prop),Inv X pins σ H s->t σ H Q->yi (yk X.prog X.w) X.A (isTrue e X.env (yz e X.env)) (TP X pins σ Q) X.xe s
def PW(X:Cx)(e:yj)(t:TT):Prop:=
 ∀(whole:Sem yb) (pins:List (yc × Obj)) (s:ye) (σ:St) (H:Hp) (Q:Bool->Hp->Prop),Inv X pins σ H s->t σ H Q->yi (yk X.prog X.w) X.A (isTrue e X.env whole) (TP X pins σ Q) X.xe s
theorem PW.pt{X:Cx}{e:yj}{t:TT}(h:PW X e t):PT X e t:=h _
def PA(X:Cx)(es:List yj)(t:TA):Prop:=
 ∀(pos:Pos) (pins:List (yc × Obj)) (s:ye) (σ:St) (H:Hp) (Q:List V->Hp->Prop),Inv X pins σ H s->t σ H Q->yi (yk X.prog X.w) X.A (spliced (backTo pos (yp es X.env))) (AP X pins σ Q) X.xe s
def PS(X:Cx)(st:ym)(t:TS):Prop:=
 ∀(pins:List (yc × Obj)) (s:ye) (σ:St) (H:Hp) (D:Ends),Inv X pins σ H s->t D σ H->yi (yk X.prog X.w) X.A (exec st X.env) (SP X pins D) X.xe s
def PSs(X:Cx)(st:List ym)(t:TS):Prop:=
 ∀(pins:List (yc × Obj)) (s:ye) (σ:St) (H:Hp) (D:Ends),Inv X pins σ H s->t D σ H->yi (yk X.prog X.w) X.A (execs st X.env) (SP X pins D) X.xe s
theorem thn{α:Type}{t:Sem α}{Q Q':α->ye->Prop}{M:Model}{A:yB}{E:yb->ye->Prop}{s:ye}(h:yi M A t Q E s)(hQ:∀a s,Q a s->Q' a s):yi M A t Q' E s:=yO h hQ λ_ _ x=>x
section
variable {X:Cx}
def tVar(i:Nat):TE:=λσ H Q=>∃v,σ[i]? = some (some v)/\Q v H
def tC(v:V):TE:=λ_ H Q=>Q v H
theorem U3{i:Nat}{x:Str}{pos:Pos}(hN:X.N[i]? = some x)(hv:Vis X.env.scope x)(hd:(x == ("__debug__" : Str))=false:=by decide)(hcd:(x == ("__classdict__" : Str))=false:=by decide):PE X (.Name x pos) (tVar i):=by
 intro pins s σ H Q I h;obtain⟨v,e,h⟩:=h;obtain⟨m,hn,hl⟩:=I.loc;obtain⟨u,r,l⟩:=hl i x v hN e hv;have fin:EP X pins σ Q u s:=⟨v,H,I,r,h⟩;rcases l with ⟨hk,hm⟩ | ⟨hk,c,hc,hcell⟩
 ·exact wpAny_Name (wpAny_loadName_local I.ok.kind hk hn hm fin) hd
 ·rcases hk with hk | hk
  ·exact wpAny_Name (wpAny_loadName_cell I.ok.kind hk hc hcell fin) hd
  ·exact wpAny_Name (wpAny_loadName_free I.ok.kind hk hc hcell fin hcd) hd
theorem pe_int{i j pos}:PE X (.Constant (.int i) j pos) (tC (.int i)):=λ_ _ _ H _ I h=>wpAny_Constant_int ⟨.int i,H,I.tok _,⟨_,rfl⟩,h⟩
theorem pe_bl{b j pos}:PE X (.Constant (.bool b) j pos) (tC (.bl b)):=λ_ _ _ H _ I h=>Constant_bool ⟨.bl b,H,I,rfl,h⟩
theorem pe_non{j pos}:PE X (.Constant .none j pos) (tC .non):=λ_ _ _ H _ I h=>Constant_none ⟨.non,H,I,rfl,h⟩
theorem pe_str{x j pos}:PE X (.Constant (.str x) j pos) (tC (.str x)):=λ_ _ _ H _ I h=>Calls.Constant_str ⟨.str x,H,I.tok _,⟨_,rfl⟩,h⟩
def Gl(X:Cx)(x:Str):Prop:=X.env.kindOf x=some .globalImplicit
theorem zfI{E:yb->ye->Prop}{pins:List (yc × Obj)}{s:ye}{σ:St}{H:Hp}{x:Str}{u:yb}{pos:Pos}{Q:yb->ye->Prop}(I:Inv X pins σ H s)(hg:Gl X x)(hm:X.mg x=some u)(h:Q u s)
  (hd:(x == ("__debug__" : Str))=false:=by decide):yi (yk X.prog X.w) X.A (yz (.Name x pos) X.env) Q E s:=
 Calls.Name_function_global I.ok.kind hg (Calls.loadGlobal_global (by rw[I.ok.glob];exact I.mod.glob.keeps I.bk) hm h) hd
theorem zcn{E:yb->ye->Prop}{pins:List (yc × Obj)}{s:ye}{σ:St}{H:Hp}{x:Str}{u:yb}{pos:Pos}{Q:yb->ye->Prop}(I:Inv X pins σ H s)(hg:Gl X x)(hm:X.mg x=none)(hv:yK x=some u)(h:Q u s)
  (hn:x ≠ "__name__":=by decide) (hd:(x == ("__debug__" : Str))=false:=by decide):yi (yk X.prog X.w) X.A (yz (.Name x pos) X.env) Q E s:=by
 obtain⟨mb,h1,h2⟩:=I.mod.blt;exact Calls.Name_function_global I.ok.kind hg (Calls.loadGlobal_builtin (by rw[I.ok.glob];exact I.mod.glob.keeps I.bk) hm (by rw[I.ok.blt];exact h1.keeps I.bk) ((h2 x hn).trans hv) h) hd
theorem pe_glob{x:Str}{v:V}{u:yb}{pos:Pos}(hg:Gl X x)(hm:X.mg x=some u)(r:RelV v u)(hd:(x == ("__debug__" : Str))=false:=by decide):PE X (.Name x pos) (tC v):=
 λ_ _ _ H _ I h=>zfI I hg hm ⟨v,H,I,r,h⟩ hd
theorem pe_bltn{x:Str}{v:V}{u:yb}{pos:Pos}(hg:Gl X x)(hm:X.mg x=none)(hv:yK x=some u)(r:RelV v u)(hn:x ≠ "__name__":=by decide)(hd:(x == ("__debug__" : Str))=false:=by decide):PE X (.Name x pos) (tC v):=
 λ_ _ _ H _ I h=>zcn I hg hm hv ⟨v,H,I,r,h⟩ hn hd
variable {a b:yj}{ta tb:TE}{pos:Pos}
def PC(X:Cx)(op:CmpOp)(a b:yj)(t:TE):Prop:=
 ∀(pins:List (yc × Obj)) (s:ye) (σ:St) (H:Hp) (Q:VK),Inv X pins σ H s->t σ H Q ->
  yi (yk X.prog X.w) X.A (yz a X.env) (λv s₁=>yi (yk X.prog X.w) X.A (yz b X.env) (λu s₂=>yi (yk X.prog X.w) X.A (jd op v u) (EP X pins σ Q) X.xe s₂) X.xe s₁) X.xe s
theorem zaq(b:yj){op:CmpOp}(h:op ≠ .In)(h2:op ≠ .NotIn):jJ op b=false:=by
 have e1:(op == CmpOp.In)=false:=by cases op <;> first | rfl | exact absurd rfl h
 have e2:(op == CmpOp.NotIn)=false:=by cases op <;> first | rfl | exact absurd rfl h2
 cases b <;> simp[jJ,e1,e2]
def tIsN(ta:TE):TE:=λσ H Q=>ta σ H λx H1=>Q (.bl (decide (x=.non))) H1
def tNotN(ta:TE):TE:=λσ H Q=>ta σ H λx H1=>Q (.bl (!decide (x=.non))) H1
theorem RelV.none_iff{x:V}{v:yb}(r:RelV x v):(v == yb.none)=decide (x=.non):=by
 cases x with
 | non=>cases r;rfl
 | bl _=>cases r;rfl
 | int _=>obtain⟨t,rfl⟩:=r;rfl
 | str _=>obtain⟨t,rfl⟩:=r;rfl
 | byt _=>obtain⟨t,rfl⟩:=r;rfl
 | flt _=>obtain⟨t,rfl⟩:=r;rfl
 | ref _=>cases r;rfl
 | ty _=>cases r;rfl
theorem pc_isN{j pos'}(ha:PE X a ta):PC X .Is a (.Constant .none j pos') (tIsN ta):=by
 intro pins s σ H Q I h;refine thn (ha pins s σ H _ I h) λv s1 ⟨x,H1,I1,r1,q1⟩=>?_
 exact Constant_none (is_none_gen ⟨.bl _,H1,I1,by rw[r1.none_iff];rfl,q1⟩)
theorem ziT{j pos'}(ha:PE X a ta):PC X .IsNot a (.Constant .none j pos') (tNotN ta):=by
 intro pins s σ H Q I h;refine thn (ha pins s σ H _ I h) λv s1 ⟨x,H1,I1,r1,q1⟩=>?_
 exact Constant_none (isnot_none_gen ⟨.bl _,H1,I1,by rw[r1.none_iff];rfl,q1⟩)
def tB(t:TE):TT:=λσ H Q=>t σ H λx H1=>∃c,x=.bl c/\Q c H1
theorem pe_cmp{op:CmpOp}{t:TE}(h:PC X op a b t)(h1:jJ op b=false:=by first | exact zaq _ (by decide) (by decide) | rfl):PE X (.Compare a [op] [b] pos) t:=λpins s σ H Q I hw=>wpAny_Compare1 (h pins s σ H Q I hw) h1
theorem ziI{op:CmpOp}{t:TE}(h:PC X op a b t)(h1:jJ op b=false:=by first | exact zaq _ (by decide) (by decide) | rfl):PT X (.Compare a [op] [b] pos) (tB t):=by
 intro pins s σ H Q I hw;refine wpAny_isTrue_Compare1 (thn (h pins s σ H _ I hw) λv s1 h1=>thn h1 λu s2 h2=>thn h2 λc s3 ⟨x,H1,I1,r1,q1⟩=>?_) h1
 obtain⟨d,rfl,q⟩:=q1;cases r1;exact qa ⟨H1,I1,q⟩
variable {tA tB':TT}{rest:List yj}
def tAnd(t u:TT):TT:=λσ H Q=>t σ H λc H1=>if c=true then u σ H1 Q else Q false H1
def tOr(t u:TT):TT:=λσ H Q=>t σ H λc H1=>if c=true then Q true H1 else u σ H1 Q
def tNot(t:TT):TT:=λσ H Q=>t σ H λc H1=>Q (!c) H1
theorem pw_and1(ha:PT X a tA):PW X (.BoolOp .And [a] pos) tA:=by
 intro wh pins s σ H Q I h;refine isTrue_and (thn (ha pins s σ H Q I h) λc s1 e=>?_)
 cases c with
 | true=>exact isTrue_and_nil e
 | false=>exact e
theorem pw_or1(ha:PT X a tA):PW X (.BoolOp .Or [a] pos) tA:=by
 intro wh pins s σ H Q I h;refine isTrue_or (thn (ha pins s σ H Q I h) λc s1 e=>?_)
 cases c with
 | false=>exact isTrue_or_nil e
 | true=>exact e
theorem pw_and(ha:PT X a tA)(hb:PW X (.BoolOp .And (b::rest) pos) tB'):PW X (.BoolOp .And (a::b::rest) pos) (tAnd tA tB'):=by
 intro wh pins s σ H Q I h;refine isTrue_and (thn (ha pins s σ H _ I h) λc s1 ⟨H1,I1,q1⟩=>?_)
 cases c with
 | true=>exact hb wh pins s1 σ H1 Q I1 q1
 | false=>exact⟨H1,I1,q1⟩
theorem pw_or(ha:PT X a tA)(hb:PW X (.BoolOp .Or (b::rest) pos) tB'):PW X (.BoolOp .Or (a::b::rest) pos) (tOr tA tB'):=by
 intro wh pins s σ H Q I h;refine isTrue_or (thn (ha pins s σ H _ I h) λc s1 ⟨H1,I1,q1⟩=>?_)
 cases c with
 | true=>exact⟨H1,I1,q1⟩
 | false=>exact hb wh pins s1 σ H1 Q I1 q1
theorem pt_not(ha:PT X a tA):PT X (.UnaryOp .Not a pos) (tNot tA):=by
 intro pins s σ H Q I h;exact isTrue_not (ha pins s σ H (λc H1=>Q (!c) H1) I h)
def tAndV(ta tb:TE):TE:=λσ H Q=>ta σ H λx H1=>∃c,x=.bl c/\if c=true then tb σ H1 Q else Q (.bl false) H1
def tOrV(ta tb:TE):TE:=λσ H Q=>ta σ H λx H1=>∃c,x=.bl c/\if c=true then Q (.bl true) H1 else tb σ H1 Q
def tNotV(ta:TE):TE:=λσ H Q=>ta σ H λx H1=>∃c,x=.bl c/\Q (.bl (!c)) H1
theorem pe_one{op}{t:TE}(h:PE X a t):PE X (.BoolOp op [a] pos) t:=λpins s σ H Q I hw=>BoolOp_one (h pins s σ H Q I hw)
theorem pe_and(ha:PE X a ta)(hb:PE X (.BoolOp .And (b::rest) pos) tb):PE X (.BoolOp .And (a::b::rest) pos) (tAndV ta tb):=by
 intro pins s σ H Q I h;refine BoolOp_and (thn (ha pins s σ H _ I h) λv s1 ⟨x,H1,I1,r1,q1⟩=>?_)
 obtain⟨c,rfl,q1⟩:=q1;cases r1;refine qa ?_;cases c with
 | true=>exact hb pins s1 σ H1 Q I1 q1
 | false=>exact⟨.bl false,H1,I1,rfl,q1⟩
theorem pe_or(ha:PE X a ta)(hb:PE X (.BoolOp .Or (b::rest) pos) tb):PE X (.BoolOp .Or (a::b::rest) pos) (tOrV ta tb):=by
 intro pins s σ H Q I h;refine BoolOp_or (thn (ha pins s σ H _ I h) λv s1 ⟨x,H1,I1,r1,q1⟩=>?_)
 obtain⟨c,rfl,q1⟩:=q1;cases r1;refine qa ?_;cases c with
 | false=>exact hb pins s1 σ H1 Q I1 q1
 | true=>exact⟨.bl true,H1,I1,rfl,q1⟩
theorem pe_not(ha:PE X a ta):PE X (.UnaryOp .Not a pos) (tNotV ta):=by
 intro pins s σ H Q I h;refine UnaryOp_ (thn (ha pins s σ H _ I h) λv s1 ⟨x,H1,I1,r1,q1⟩=>?_)
 obtain⟨c,rfl,q1⟩:=q1;cases r1;exact not_of (qa ⟨.bl (!c),H1,I1,rfl,q1⟩)
def tIf(t:TT)(ta tb:TE):TE:=λσ H Q=>t σ H λc H1=>if c=true then ta σ H1 Q else tb σ H1 Q
theorem pe_ifExp{c:yj}(hc:PT X c tA)(ha:PE X a ta)(hb:PE X b tb):PE X (.IfExp c a b pos) (tIf tA ta tb):=by
 intro pins s σ H Q I h;refine wpAny_IfExp (thn (hc pins s σ H _ I h) λd s1 ⟨H1,I1,q1⟩=>?_)
 cases d with
 | true=>exact ha pins s1 σ H1 Q I1 q1
 | false=>exact hb pins s1 σ H1 Q I1 q1
end
def SqL(K:yh)(H:Hp)(a:yc)(xs:List V):Prop:=
 Rd H a (.lst xs) \/
  ∃(o:Obj) (its:Array yb) (n:Nat),K.lookup a=some o/\o.cls=.type "list" /\ o.dict=none/\o.data=.seq its n/\its.size<=y7/\Vals xs its.toList
def SqT(K:yh)(H:Hp)(a:yc)(xs:List V):Prop:=
 Rd H a (.tup xs) \/
  ∃(o:Obj) (its:Array yb) (n:Nat),K.lookup a=some o/\o.cls=.type "tuple" /\ o.data=.seq its n/\its.size<=y7/\Vals xs its.toList
def absV:yb->Option V
 | .none=>some .non
 | .bool b=>some (.bl b)
 | .int i _=>some (.int i)
 | .str x _=>some (.str x)
 | .bytes b _=>some (.byt b)
 | .float b _=>some (.flt b)
 | .ref a=>some (.ref a)
 | .type n=>some (.ty n)
 | _=>none
theorem RelV.abs{x:V}{u:yb}(r:RelV x u):absV u=some x:=by
 cases x with
 | non=>cases r;rfl
 | bl _=>cases r;rfl
 | int _=>obtain⟨t,rfl⟩:=r;rfl
 | str _=>obtain⟨t,rfl⟩:=r;rfl
 | byt _=>obtain⟨t,rfl⟩:=r;rfl
 | flt _=>obtain⟨t,rfl⟩:=r;rfl
 | ref _=>cases r;rfl
 | ty _=>cases r;rfl
theorem RelV.inj{x y:V}{u:yb}(r:RelV x u)(q:RelV y u):x=y:=ja.inj (r.abs.symm.trans q.abs)
theorem Vals.inj:∀{xs ys:List V}{us:List yb},Vals xs us->Vals ys us->xs=ys
 | _,_,_,.nil,.nil=>rfl
 | _,_,_,.cons r t,.cons r' t'=>by rw[r.inj r',Vals.inj t t']
section
variable {X:Cx}{pins:List (yc × Obj)}{σ:St}{H:Hp}{s:ye}{a:yc}{xs ys:List V}
theorem SqL.of{K:yh}(h:H a=some (.lst xs)):SqL K H a xs:=.inl (.inl h)
theorem Inv.list(I:Inv X pins σ H s)(h:SqL X.K H a xs):∃its:List yb,Vals xs its/\PlainL s.heap a its.toArray/\xs.length<=y7:=by
 rcases h with h | ⟨o,its,n,hk,hc,hd,hs,hz,r⟩
 ·obtain⟨z,its,n,r,e⟩:=h.ok I.hok;exact⟨its,r,⟨_,n,e,rfl,rfl,rfl⟩,z⟩
 ·refine⟨its.toList,r,⟨o,n,I.kIn a o hk,hc,hd,by simpa using hs⟩,?_⟩
  have e:=r.length;simp only[yab] at e;omega
theorem Inv.tuple(I:Inv X pins σ H s)(h:SqT X.K H a xs):∃its:List yb,Vals xs its/\IsTup s.heap a its.toArray/\xs.length<=y7:=by
 rcases h with h | ⟨o,its,n,hk,hc,hs,hz,r⟩
 ·obtain⟨z,its,r,p⟩:=h.ok I.hok;exact⟨its,r,p,z⟩
 ·refine⟨its.toList,r,⟨o,I.kIn a o hk,hc,n,by simpa using hs⟩,?_⟩
  have e:=r.length;simp only[yab] at e;omega
theorem Inv.list_inj(I:Inv X pins σ H s)(h:SqL X.K H a xs)(h':SqL X.K H a ys):xs=ys:=by
 obtain⟨its,r,⟨o,n,e,_,_,d⟩,_⟩:=I.list h;obtain⟨its',r',⟨o',n',e',_,_,d'⟩,_⟩:=I.list h';rw[e] at e';cases e';rw[d] at d'
 injection d' with d1 _
 have:its=its':=by simpa using congrArg Array.toList d1
 subst this;exact r.inj r'
theorem Inv.tuple_inj(I:Inv X pins σ H s)(h:SqT X.K H a xs)(h':SqT X.K H a ys):xs=ys:=by
 obtain⟨its,r,⟨o,e,_,n,d⟩,_⟩:=I.tuple h;obtain⟨its',r',⟨o',e',_,n',d'⟩,_⟩:=I.tuple h';rw[e] at e';cases e';rw[d] at d'
 injection d' with d1 _
 have:its=its':=by simpa using congrArg Array.toList d1
 subst this;exact r.inj r'
end
abbrev Cx.wish(X:Cx)(E:yb->ye->Prop):Cx:={ X with xe:=E }
abbrev Cx.nox(X:Cx):Cx:=X.wish λ_ _=>False
theorem Cx.Ok.wish{X:Cx}(ok:X.Ok)(E:yb->ye->Prop):(X.wish E).Ok:=
 ⟨ok.mod,ok.kind,ok.glob,ok.blt,ok.above,ok.inj,ok.has,ok.cab,ok.hd,ok.frames,ok.stk,ok.exf,ok.bs,ok.bsz,ok.noex,ok.exfs,ok.funs,ok.frf⟩
theorem Cx.Ok.unwish{X:Cx}{E:yb->ye->Prop}(ok:(X.wish E).Ok):X.Ok:=
 ⟨ok.mod,ok.kind,ok.glob,ok.blt,ok.above,ok.inj,ok.has,ok.cab,ok.hd,ok.frames,ok.stk,ok.exf,ok.bs,ok.bsz,ok.noex,ok.exfs,ok.funs,ok.frf⟩
section
variable {X:Cx}{pins:List (yc × Obj)}{σ:St}{H:Hp}{s:ye}{E:yb->ye->Prop}
theorem Inv.wish(I:Inv X pins σ H s)(E:yb->ye->Prop):Inv (X.wish E) pins σ H s:=⟨I.ok.wish E,I.os,I.bare,I.base,I.loc,I.cell,I.free,I.freeC,I.pin,I.hok,I.len⟩
theorem Inv.unwish(I:Inv (X.wish E) pins σ H s):Inv X pins σ H s:=⟨I.ok.unwish,I.os,I.bare,I.base,I.loc,I.cell,I.free,I.freeC,I.pin,I.hok,I.len⟩
theorem SP.unwish{D:Ends}{f:Flow}{s':ye}(h:SP (X.wish E) pins D f s'):SP X pins D f s':=by
 cases f with
 | next=>obtain⟨σ',H',I,q⟩:=h;exact⟨σ',H',I.unwish,q⟩
 | brk=>obtain⟨σ',H',I,q⟩:=h;exact⟨σ',H',I.unwish,q⟩
 | cont=>obtain⟨σ',H',I,q⟩:=h;exact⟨σ',H',I.unwish,q⟩
 | ret u=>obtain⟨v,σ',H',I,r,q⟩:=h;exact⟨v,σ',H',I.unwish,r,q⟩
theorem PSs.nox{st:List ym}{t:TS}(h:PSs X.nox st t):PSs X st t:=λpins s σ H D I hw=>
 yO (h pins s σ H D (I.wish _) hw) (λ_ _ q=>q.unwish) λ_ _ z=>False.elim z
end
section
variable {X:Cx}{st:ym}{rest:List ym}{t u:TS}{e:yj}{te:TE}{pos:Pos}
def tNext:TS:=λD σ H=>D.nx σ H
def tSeq(t u:TS):TS:=λD σ H=>t { D with nx:=u D } σ H
theorem pss_nil:PSs X [] tNext:=λ_ _ σ H _ I h=>wpAny_execs_nil ⟨σ,H,I,h⟩
theorem zde(h1:PS X st t)(h2:PSs X rest u):PSs X (st::rest) (tSeq t u):=by
 intro pins s σ H D I h;refine wpAny_execs_cons (thn (h1 pins s σ H { D with nx:=u D } I h) λf s1 q=>?_)
 cases f with
 | next=>
  obtain⟨σ',H',I',q⟩:=q;exact h2 pins s1 σ' H' D I' q
 | ret v=>exact q
 | brk=>exact q
 | cont=>exact q
theorem ziJ(h1:PS X st t):PSs X [st] t:=by
 intro pins s σ H D I h;refine wpAny_execs_cons (thn (h1 pins s σ H D I h) λf s1 q=>?_)
 cases f with
 | next=>exact wpAny_execs_nil q
 | ret v=>exact q
 | brk=>exact q
 | cont=>exact q
theorem Inv.quiet{pins:List (yc × Obj)}{σ:St}{H:Hp}{s:ye}(I:Inv X pins σ H s):interactive X.env=false:=by simp[interactive,I.ok.kind]
def tDrop(te:TE):TS:=λD σ H=>te σ H λ_ H1=>D.nx σ H1
theorem zfn(he:PE X e te)(hs:jv e none pos.line X.env=pure false:=by rfl):PS X (.Expr e pos) (tDrop te):=by
 intro pins s σ H D I h;exact wpAny_Expr_any (thn (he pins s σ H _ I h) λv s1 ⟨x,H1,I1,r1,q1⟩=>⟨σ,H1,I1,q1⟩) I.quiet hs
def tRet(te:TE):TS:=λD σ H=>te σ H D.rt
theorem ziL(he:PE X e te):PS X (.Return (some e) pos) (tRet te):=by
 intro pins s σ H D I h;exact wpAny_Return_some (thn (he pins s σ H _ I h) λv s1 ⟨x,H1,I1,r1,q1⟩=>⟨x,σ,H1,I1,r1,q1⟩)
def tIfS(c:TT)(t u:TS):TS:=λD σ H=>c σ H λb H1=>if b=true then t D σ H1 else u D σ H1
theorem ps_if{c:yj}{a b:List ym}{tc:TT}(hc:PT X c tc)(ha:PSs X a t)(hb:PSs X b u):PS X (.If c a b pos) (tIfS tc t u):=by
 intro pins s σ H D I h;refine wpAny_If (thn (hc pins s σ H _ I h) λd s1 ⟨H1,I1,q1⟩=>?_)
 cases d with
 | true=>exact ha pins s1 σ H1 D I1 q1
 | false=>exact hb pins s1 σ H1 D I1 q1
def tNever:TS:=λ_ _ _=>False
theorem ps_never:PS X st tNever:=λ_ _ _ _ _ _ h=>h.elim
end
abbrev TG:=V->St->Hp->(St->Hp->Prop)->Prop
abbrev TGs:=List V->St->Hp->(St->Hp->Prop)->Prop
def PG(X:Cx)(target:yj)(t:TG):Prop:=
 ∀(pins:List (yc × Obj)) (s:ye) (σ:St) (H:Hp) (v:V) (u:yb) (Q:St->Hp->Prop),Inv X pins σ H s->RelV v u->t v σ H Q ->
  yi (yk X.prog X.w) X.A (assign target X.env u) (λ_ s'=>∃σ' H',Inv X pins σ' H' s'/\Q σ' H') X.xe s
def PGs(X:Cx)(ts:List yj)(t:TGs):Prop:=
 ∀(pins:List (yc × Obj)) (s:ye) (σ:St) (H:Hp) (vs:List V) (us:List yb) (Q:St->Hp->Prop),Inv X pins σ H s->Vals vs us->t vs σ H Q ->
  yi (yk X.prog X.w) X.A (assignInOrder ((j2 ts X.env).map (·.2)) us) (λ_ s'=>∃σ' H',Inv X pins σ' H' s'/\Q σ' H') X.xe s
abbrev TSet:=V->V->V->Hp->(Hp->Prop)->Prop
def PSet(X:Cx)(t:TSet):Prop:=
 ∀(pins:List (yc × Obj)) (s:ye) (σ:St) (H:Hp) (o i v:V) (ov iv u:yb) (Q:Hp->Prop),Inv X pins σ H s->RelV o ov->RelV i iv->RelV v u->t o i v H Q ->
  yi (yk X.prog X.w) X.A (setItem ov iv u) (λ_ s'=>∃H',Inv X pins σ H' s'/\Q H') X.xe s
section
variable {X:Cx}{pos:Pos}
def gName(i:Nat):TG:=λv σ H Q=>Q (σ.set i (some v)) H
theorem zfp{i:Nat}{x:Str}(hN:X.N.Nodup)(hi:X.N[i]? = some x)(hx:Loc X.env.scope x)(hf:X.fn x=true\/X.env.scope.names.lookup x=some .local:=by first | exact .inl rfl | exact .inr rfl | assumption):PG X (.Name x pos) (gName i):=by
 intro pins s σ H v u Q I r h;exact wpAny_assign_Name (zf3 I hN hi hx r (λs' I'=>⟨_,H,I',h⟩) hf)
def gNil:TGs:=λvs σ H Q=>vs=[]/\Q σ H
def gCons(t:TG)(u:TGs):TGs:=λvs σ H Q=>∃v r,vs=v::r/\t v σ H λσ' H'=>u r σ' H' Q
theorem pgs_nil:PGs X [] gNil:=by
 intro pins s σ H vs us Q I r h;obtain⟨e,h⟩:=h;subst e;cases r;exact assignInOrder_nil ⟨σ,H,I,h⟩
theorem zgh{e:yj}{es:List yj}{t:TG}{u:TGs}(h1:PG X e t)(h2:PGs X es u)
  (hs:(j2 (e::es) X.env).map (·.2)=assign e X.env::(j2 es X.env).map (·.2):=by rfl):PGs X (e::es) (gCons t u):=by
 intro pins s σ H vs us Q I r h;obtain⟨v,vr,e1,h⟩:=h;subst e1;cases r with
 | cons r rr=>
  rw[hs];refine assignInOrder_cons (thn (h1 pins s σ H _ _ _ I r h) λ_ s1 ⟨σ1,H1,I1,q1⟩=>?_)
  exact h2 pins s1 σ1 H1 _ _ Q I1 rr q1
def gTup(K:yh)(n:Nat)(t:TGs):TG:=λv σ H Q=>∃a xs,v=.ref a/\SqT K H a xs/\xs.length=n/\t xs σ H Q
theorem pg_tup{es:List yj}{k:Nat}{t:TGs}{n:Nat}(hc:X.calm=true)(h:PGs X es t)
  (hn:(j2 es X.env).length=n:=by rfl) (hst:(j2 es X.env).findIdx? (·.1)=none:=by rfl):PG X (.Tuple es k pos) (gTup X.K n t):=by
 intro pins s σ H v u Q I r hw;obtain⟨a,xs,e1,hq,hl,hw⟩:=hw;subst e1;cases r;obtain⟨its,rv,ht,hz⟩:=I.tuple hq;refine assign_Tuple_tuple (I.ok.hd hc) ht (by simp[hn,<- hl,rv.length]) hst λh' hx=>?_
 have I1:Inv X pins σ H { s with heap:=h' }:=I.kept (t':=s.toks) λb o e=>hx b o (yW (yG e)) e
 exact h pins _ σ H xs _ Q I1 (by simpa using rv) hw
def gSub(to ti:TE)(t:TSet):TG:=λv σ H Q=>to σ H λo H1=>ti σ H1 λi H2=>t o i v H2 λH3=>Q σ H3
theorem pg_sub{o i:yj}{to ti:TE}{t:TSet}(ho:PE X o to)(hi:PE X i ti)(hs:PSet X t)
  (ha:∀v,assign (.Subscript o i pos) X.env v=(do
   let ov <- holding [v] (yz o X.env)
   let iv <- holding [v,ov] (yz i X.env)
   standAt pos
   holding [v,ov,iv] (setItem ov iv v)
   release [v,ov,iv] []):=by intro _;rfl):PG X (.Subscript o i pos) (gSub to ti t):=by
 intro pins s σ H v u Q I r h;rw[ha];refine yf (jT (thn (ho pins s σ H _ I h) λov s1 ⟨x,H1,I1,r1,q1⟩=>?_))
 refine yf (jT (thn (hi pins s1 σ H1 _ I1 q1) λiv s2 ⟨y,H2,I2,r2,q2⟩=>?_))
 refine yf (wpAny_standAt (yf (jT (thn (hs pins s2 σ H2 x y v ov iv u _ I2 r1 r2 r q2) λ_ s3 ⟨H3,I3,q3⟩=>?_))))
 exact wpAny_release ⟨σ,H3,I3,q3⟩
def tAsg(te:TE)(g:TG):TS:=λD σ H=>te σ H λx H1=>g x σ H1 D.nx
theorem ps_asg{tg e:yj}{te:TE}{g:TG}(he:PE X e te)(hg:PG X tg g)(hs:swapsWithSole [tg] e pos.line X.env=pure false:=by rfl)(hw:swappedStores [tg] e X.env=pure none:=by rfl)
  (h1:(j2 [tg] X.env).map (·.2)=[assign tg X.env]:=by rfl):PS X (.Assign [tg] e pos) (tAsg te g):=by
 intro pins s σ H D I h;refine wpAny_Assign_stores (thn (he pins s σ H _ I h) λv s1 ⟨x,H1,I1,r1,q1⟩=>?_) hs hw
 rw[h1];exact thn (hg pins s1 σ H1 x v _ I1 r1 q1) λ_ s2 q=>q
theorem ziK{i:Nat}{x:Str}{e:yj}{te:TE}{pos':Pos}(hN:X.N.Nodup)(hi:X.N[i]? = some x)(hx:Loc X.env.scope x)(he:PE X e te)(hs:jv e (some (.Name x pos')) pos.line X.env=pure false:=by rfl)(hf:X.fn x=true\/X.env.scope.names.lookup x=some .local:=by first | exact .inl rfl | exact .inr rfl | assumption) :
  PS X (.Assign [.Name x pos'] e pos) (tAsg te (gName i)):=by
 intro pins s σ H D I h;refine wpAny_Assign_Name (thn (he pins s σ H _ I h) λv s1 ⟨y,H1,I1,r1,q1⟩=>?_) hs
 exact zf3 I1 hN hi hx r1 (λs2 I2=>⟨_,H1,I2,q1⟩) hf
end
section
variable {X:Cx}{pos:Pos}
def tWhile(c:TT)(tb:TS):TS:=λD σ H=>∃W:Nat->St->Hp->Prop,(∃m,W m σ H)/\∀m σ H,W m σ H ->
 c σ H λb H1=>if b=true then ∃N:St->Hp->Prop,(∀σ' H',N σ' H'->∃m',m' < m/\W m' σ' H')/\tb { D with nx:=N,ct:=N,bk:=D.nx } σ H1 else D.nx σ H1
theorem ps_while{c:yj}{body:List ym}{tc:TT}{tb:TS}(hp:yS (yk X.prog X.w) X.A X.env X.xe)(hc:PT X c tc)(hb:PSs X body tb):PS X (.While c body [] pos) (tWhile tc tb):=by
 intro pins s σ H D I h;obtain⟨W,⟨m0,w0⟩,turn⟩:=h;refine wpAny_While (codeAny_whileLoop (λn s'=>∃σ' H',Inv X pins σ' H' s'/\W n σ' H') ?_ m0 ⟨σ,H,I,w0⟩)
 rintro n s1 ⟨σ1,H1,I1,w1⟩
 refine qo hp (thn (hc pins s1 σ1 H1 _ I1 (turn n σ1 H1 w1)) λb s2 ⟨H2,I2,q2⟩=>?_)
 cases b with
 | true=>
  obtain⟨N,hN,q2⟩:=q2;rw[if_pos rfl];refine qo hp (thn (hb pins s2 σ1 H2 _ I2 q2) λf s3 q3=>?_)
  cases f with
  | next=>
   obtain⟨σ3,H3,I3,n3⟩:=q3;obtain⟨m',hm,w3⟩:=hN σ3 H3 n3;exact⟨m',hm,σ3,H3,I3,w3⟩
  | cont=>
   obtain⟨σ3,H3,I3,n3⟩:=q3;obtain⟨m',hm,w3⟩:=hN σ3 H3 n3;exact⟨m',hm,σ3,H3,I3,w3⟩
  | brk=>exact q3
  | ret v=>exact q3
 | false=>
  rw[if_neg jz];exact wpAny_execs_nil ⟨σ1,H2,I2,q2⟩
end
structure It where
 go:Nat->Hp->Prop
 yld:Nat->Hp->V->Hp->Prop
 stop:Nat->Hp->Prop
def FpOk(X:Cx)(pins:List (yc × Obj))(H:Hp)(b:yc):Prop:=
 H b=none/\b ≠ X.env.locals/\b ∉ X.fs/\(b ∈ X.ex\/X.s₀.heap.objs.size<=b)/\(∀x c,X.env.cells.lookup x=some c->c ≠ b)/\∀p ∈ X.pn++pins,p.1 ≠ b
theorem Inv.fpOk{X:Cx}{pins:List (yc × Obj)}{σ:St}{H H':Hp}{s:ye}{b:yc}(I:Inv X pins σ H s)(hb:s.heap.objs.size<=b)(hn:H' b=none):FpOk X pins H' b:=by
 refine⟨hn,yal (yU I.lt hb),I.nofs hb,.inr (yE I.sz hb),λx c e z=>?_,λp hp z=>?_⟩
 ·obtain⟨v,q⟩:=I.cell x c e;exact absurd (yU q.lt (by rw[z];exact hb)) (jS _)
 ·exact absurd (yU (yG (I.pin p hp).1) (by rw[z];exact hb)) (jS _)
structure Turn(P:y6)(w:y3)(K:yh)(tg:yj)(J:It)(fp:List yc)(it:yc)(tn:Nat->yd->Prop):Prop where
 mem:it ∈ fp
 obj:∀i h,tn i h->∀b ∈ fp,∃o,h.get? b=some o/\∀v,o.data ≠ .cell v
 keep:∀i h h',tn i h->(∀b ∈ fp,∀o,h.get? b=some o->h'.get? b=some o)->tn i h'
 item:∀(X:Cx),X.prog=P->X.w=w->X.K=K->X.calm=true->∀(i:Nat) (pins:List (yc × Obj)) (s:ye) (σ:St) (H:Hp) (E:yb->ye->Prop),Inv X pins σ H s->(∀b ∈ fp,FpOk X pins H b)->tn i s.heap->J.go i H ->
  yi (yk P w) X.A (pyNext (.ref it)) (λr s1=>∃u,r=some u /\
   yi (yk P w) X.A (letOwnedTupleGo tg (.ref it) u) (λ_ s2=>∃x H',Inv X pins σ H' s2/\RelV x u/\J.yld i H x H'/\tn (i+1) s2.heap/\∀b ∈ fp,H' b=none) E s1) E s
 done:∀(X:Cx),X.prog=P->X.w=w->X.K=K->X.calm=true->∀(i:Nat) (pins:List (yc × Obj)) (s:ye) (σ:St) (H:Hp) (E:yb->ye->Prop),Inv X pins σ H s->(∀b ∈ fp,FpOk X pins H b)->tn i s.heap->J.stop i H ->
  yi (yk P w) X.A (pyNext (.ref it)) (λr s1=>r=none/\Inv X pins σ H s1) E s
 self:∀(A:yB) (i:Nat) (s:ye) (Q:yb->ye->Prop) (E:yb->ye->Prop),tn i s.heap->Q (.ref it) s->yi (yk P w) A (pyIter (.ref it)) Q E s
abbrev TI:=St->Hp->(It->Hp->Prop)->Prop
def PIE(X:Cx)(pins:List (yc × Obj))(σ:St)(tg:yj)(R:It->Hp->Prop)(itv:yb)(s2:ye):Prop:=
 ∃(it:yc) (fp:List yc) (tn:Nat->yd->Prop) (J:It) (H':Hp),itv=.ref it/\Inv X pins σ H' s2/\Turn X.prog X.w X.K tg J fp it tn/\tn 0 s2.heap/\(∀b ∈ fp,FpOk X pins H' b)/\R J H'
def PI(X:Cx)(tg iter:yj)(wi:TI):Prop:=
 ∀(pins:List (yc × Obj)) (s:ye) (σ:St) (H:Hp) (R:It->Hp->Prop),Inv X pins σ H s->wi σ H R ->
  yi (yk X.prog X.w) X.A (yz iter X.env) (λv s1=>yi (yk X.prog X.w) X.A (pyIter v) (PIE X pins σ tg R) X.xe s1) X.xe s
theorem go_of{M:Model}{A:yB}{E:yb->ye->Prop}{s:ye}{tg:yj}{it:yc}{u:yb}{o:Obj}{n:String}{vs:Array yb}{Q:Unit->ye->Prop}(ho:s.heap.get? it=some o)(hc:o.cls=.type n)(hd:o.data=.fields vs)
  (hn:["enumerate","zip","dict_itemiterator","dict_reverseitemiterator","odict_iterator","itertools.zip_longest","itertools.pairwise"].contains n=false) (hQ:Q () s):yi M A (letOwnedTupleGo tg (.ref it) u) Q E s:=by
 unfold letOwnedTupleGo;cases tg <;> first
  | exact yt hQ
  | (cases u <;> first
    | exact yt hQ
    | (refine yf (wpAny_load ho ?_)
       rw[hc,hd];show yi M A (if(["enumerate","zip","dict_itemiterator","dict_reverseitemiterator","odict_iterator","itertools.zip_longest","itertools.pairwise"].contains n && vs[0]? == some (rawInt _))=true then _ else _) Q E s
       rw[if_neg (by intro h;rw[hn,Bool.false_and] at h;cases h)]
       exact yt hQ))
def Itl(K:yh)(a:yc):It:=
 ⟨λi H=>∃xs x,SqL K H a xs/\xs[i]? = some x,λi H x H'=>H'=H/\∀xs,SqL K H a xs->xs[i]? = some x,λi H=>∃xs,SqL K H a xs/\xs.length<=i⟩
def Itt(K:yh)(a:yc):It:=
 ⟨λi H=>∃xs x,SqT K H a xs/\xs[i]? = some x,λi H x H'=>H'=H/\∀xs,SqT K H a xs->xs[i]? = some x,λi H=>∃xs,SqT K H a xs/\xs.length<=i⟩
def Itr(lo:Int)(n:Nat):It:=⟨λi _=>i < n,λi H x H'=>H'=H/\x=.int (lo+i),λi _=>n<=i⟩
theorem zh4{P:y6}{w:y3}{K:yh}{tg:yj}(a it:yc):Turn P w K tg (Itl K a) [it] it (λi h=>h.IsListIter it a i) where
 mem:=by simp
 obj:=λi h st b hb=>by
  have e:b=it:=by simpa using hb
  subst e;obtain⟨o,e,c,d⟩:=st;exact⟨o,e,λv z=>by rw[d] at z;cases z⟩
 keep:=λi h h' st k=>st.at λo e=>k it (by simp) o e
 item:=by
  intro X hP hw hK hc i pins s σ H E I hf st hg;subst hP hw hK;obtain⟨xs,x,hq,hx⟩:=hg;obtain⟨its,rv,p,hz⟩:=I.list hq;obtain⟨u,hu,ru⟩:=rv.get hx;obtain⟨f0,f1,f2,f3,f4,f5⟩:=hf it (by simp)
  refine wpAny_pyNext_list_item st p.isList (x:=u) (by simpa using hu) λh' st' sb=>?_
  have I1:Inv X pins σ H { s with heap:=h' }:=I.turned (t':=s.toks) (λb o hb e=>(sb.2 b hb).trans e) f0 f1 f3 f4 f5
  obtain⟨o,e,c,d⟩:=id st';exact⟨u,rfl,go_of (s:={ s with heap:=h' }) e c d (by decide) ⟨x,H,I1,ru,⟨rfl,λys hy=>by rw[I.list_inj hy hq];exact hx⟩,st',λb hb=>(hf b hb).1⟩⟩
 done:=by
  intro X hP hw hK hc i pins s σ H E I hf st hg;subst hP hw hK;obtain⟨xs,hq,hx⟩:=hg;obtain⟨its,rv,p,hz⟩:=I.list hq;obtain⟨f0,f1,f2,f3,f4,f5⟩:=hf it (by simp)
  have hl:=rv.length;exact wpAny_pyNext_list_end (I.ok.hd hc) st p.isList (by simp;omega) λh' eb=>⟨rfl,I.turned (t':=s.toks) (λb o hb e=>eb b o hb e) f0 f1 f3 f4 f5⟩
 self:=λ_ _ _ _ _ st h=>wpAny_pyIter_listiter st h
theorem zhb{P:y6}{w:y3}{K:yh}{tg:yj}(a it:yc):Turn P w K tg (Itt K a) [it] it (λi h=>h.IsTupleIter it a i) where
 mem:=by simp
 obj:=λi h st b hb=>by
  have e:b=it:=by simpa using hb
  subst e;obtain⟨o,e,c,d⟩:=st;exact⟨o,e,λv z=>by rw[d] at z;cases z⟩
 keep:=λi h h' st k=>st.at λo e=>k it (by simp) o e
 item:=by
  intro X hP hw hK hc i pins s σ H E I hf st hg;subst hP hw hK;obtain⟨xs,x,hq,hx⟩:=hg;obtain⟨its,rv,p,hz⟩:=I.tuple hq;obtain⟨u,hu,ru⟩:=rv.get hx;obtain⟨f0,f1,f2,f3,f4,f5⟩:=hf it (by simp)
  refine wpAny_pyNext_tuple_item st (show s.heap.IsTuple a its.toArray from p) (x:=u) (by simpa using hu) λh' st' sb=>?_
  have I1:Inv X pins σ H { s with heap:=h' }:=I.turned (t':=s.toks) (λb o hb e=>(sb.2 b hb).trans e) f0 f1 f3 f4 f5
  obtain⟨o,e,c,d⟩:=id st';exact⟨u,rfl,go_of (s:={ s with heap:=h' }) e c d (by decide) ⟨x,H,I1,ru,⟨rfl,λys hy=>by rw[I.tuple_inj hy hq];exact hx⟩,st',λb hb=>(hf b hb).1⟩⟩
 done:=by
  intro X hP hw hK hc i pins s σ H E I hf st hg;subst hP hw hK;obtain⟨xs,hq,hx⟩:=hg;obtain⟨its,rv,p,hz⟩:=I.tuple hq;obtain⟨f0,f1,f2,f3,f4,f5⟩:=hf it (by simp)
  have hl:=rv.length;exact wpAny_pyNext_tuple_end (I.ok.hd hc) st (show s.heap.IsTuple a its.toArray from p) (by simp;omega) λh' eb=>⟨rfl,I.turned (t':=s.toks) (λb o hb e=>eb b o hb e) f0 f1 f3 f4 f5⟩
 self:=λ_ _ _ _ _ st h=>wpAny_pyIter_tupleiter st h
theorem zhc{P:y6}{w:y3}{K:yh}{tg:yj}(it:yc)(lo:Int)(n:Nat):Turn P w K tg (Itr lo n) [it] it (λi h=>IsRangeIter h it (lo+(i:Nat) * 1) ((n:Int) - (i:Nat)) 1) where
 mem:=by simp
 obj:=λi h st b hb=>by
  have e:b=it:=by simpa using hb
  subst e;exact⟨_,st,λv z=>by
   have z':Data.fields _=Data.cell v:=z;cases z'⟩
 keep:=λi h h' st k=>k it (by simp) _ st
 item:=by
  intro X hP hw hK hc i pins s σ H E I hf st hg;subst hP hw hK;obtain⟨f0,f1,f2,f3,f4,f5⟩:=hf it (by simp)
  have W:=Walks.range (prog:=X.prog) (w:=X.w) (I.ok.hd hc) it lo 1 n;refine W.item i s _ _ hg st λv h' tk hv st' kk=>?_
  obtain⟨t,rfl⟩:=hv;have I1:Inv X pins σ H { s with heap:=h',toks:=tk }:=I.turned (λb o hb e=>kk b o (by simpa using hb) e) f0 f1 f3 f4 f5
  refine⟨_,rfl,go_of (s:={ s with heap:=h',toks:=tk }) (n:="range_iterator") st' rfl rfl (by decide) ⟨.int (lo+i),H,I1,⟨t,?_⟩,⟨rfl,rfl⟩,st',λb hb=>(hf b hb).1⟩⟩
  rw[qh]
 done:=by
  intro X hP hw hK hc i pins s σ H E I hf st hg;subst hP hw hK;obtain⟨f0,f1,f2,f3,f4,f5⟩:=hf it (by simp)
  exact wpAny_pyNext_range_end (I.ok.hd hc) st (by have:n<=i:=hg;omega) λh' eb=>⟨rfl,I.turned (t':=s.toks) (λb o hb e=>eb b o hb e) f0 f1 f3 f4 f5⟩
 self:=λ_ _ _ _ _ st h=>wpAny_pyIter_rangeiter st h
section
variable {X:Cx}{tg:yj}
theorem range_it{pins:List (yc × Obj)}{σ:St}{H:Hp}{s:ye}{R:It->Hp->Prop}{E:yb->ye->Prop}{lo hi:Int}{t u v:Tok}{tk:Nat}(I:Inv X pins σ H s)(h1:-(2 ^ 62)<=lo)(h2:lo < 2 ^ 62)(h3:-(2 ^ 62)<=hi)(h4:hi < 2 ^ 62)
  (q:R (Itr lo (hi - lo).toNat) H):yi (yk X.prog X.w) X.A (pyIter (.ref s.heap.objs.size)) (PIE X pins σ tg R) E { s with heap:=s.heap.push { cls:=.type "range",data:=.fields #[.int lo t,.int hi u,.int 1 v] },toks:=tk }:=by
 refine wpAny_pyIter_range (IsRange.new ..) (small_one h1 h2 h3 h4) ?_;have I1:Inv X pins σ H { s with heap:=s.heap.push { cls:=.type "range",data:=.fields #[.int lo t,.int hi u,.int 1 v] },toks:=tk }:=I.kept λb o e=>yA _ e
 refine⟨(s.heap.push { cls:=.type "range",data:=.fields #[.int lo t,.int hi u,.int 1 v] }).objs.size,[(s.heap.push { cls:=.type "range",data:=.fields #[.int lo t,.int hi u,.int 1 v] }).objs.size],_,_,H,rfl,
  I1.kept (t':=tk) λb o e=>yA _ e,zhc _ lo (hi - lo).toNat,?_,λb hb=>?_,q⟩
 ·have e1:lo+((0:Nat):Int) * 1=lo:=by simp
  have e2:(((hi - lo).toNat:Nat):Int) - ((0:Nat):Int)=y9.Range.rangeSize lo hi 1:=by rw[rangeSize_one];split <;> omega
  show IsRangeIter _ _ (lo+((0:Nat):Int) * 1) ((((hi - lo).toNat:Nat):Int) - ((0:Nat):Int)) 1;rw[e1,e2];exact yN _ rfl
 ·have e:b=(s.heap.push { cls:=.type "range",data:=.fields #[.int lo t,.int hi u,.int 1 v] }).objs.size:=by simpa using hb
  subst e;exact I1.fpOk (yq _) (I1.hok.fresh (yq _))
def iRng1(ta:TA):TI:=λσ H R=>ta σ H λvs H1=>∃j:Int,vs=[.int j]/\-(2 ^ 62)<=j/\j < 2 ^ 62/\R (Itr 0 j.toNat) H1
theorem ziQ{a:yj}{ta:TA}{p pos:Pos}(hg:Gl X "range")(hm:X.mg "range" = none)(ha:PA X [a] ta)(hs:yp [a] X.env=[(false,yz a X.env)]:=by rfl):PI X tg (.Call (.Name "range" p) [a] [] pos) (iRng1 ta):=by
 intro pins s σ H R I h;refine Call_ (zcn I hg hm boot_range (PyProof.Rows.callWith_type1 (thn (ha pos pins s σ H _ I h) λus s1 ⟨vs,H1,I1,r1,q1⟩=>?_) hs rfl))
 obtain⟨j,e,q1,q2,q⟩:=q1;subst e;cases r1 with
 | cons r rr=>
  cases rr;obtain⟨t,rfl⟩:=r;exact call_range_1 (range_it I1 (by omega) (by omega) q1 q2 (by simpa using q))
def tFor(wi:TI)(g:TG)(tb:TS):TS:=λD σ H=>wi σ H λJ H1=>∃W:Nat->Nat->St->Hp->Prop,(∃m,W 0 m σ H1)/\∀i m σ H,W i m σ H ->
 (J.stop i H/\D.nx σ H)\/(J.go i H/\∃N:St->Hp->Prop,(∀σ' H',N σ' H'->∃m',m' < m/\W (i+1) m' σ' H')/\∀x H',J.yld i H x H'->g x σ H' λσ2 H2=>tb { D with nx:=N,ct:=N,bk:=D.nx } σ2 H2)
def Wm(fp:List yc)(h:yd):List (yc × Obj):=fp.filterMap λb=>(h.get? b).map λo=>(b,o)
theorem US{fp:List yc}{h:yd}{b:yc}{o:Obj}(hb:b ∈ fp)(e:h.get? b=some o):(b,o) ∈ Wm fp h:=List.mem_filterMap.mpr ⟨b,hb,by rw[e];rfl⟩
theorem zi7{fp:List yc}{h:yd}{p:yc × Obj}(hp:p ∈ Wm fp h):p.1 ∈ fp/\h.get? p.1=some p.2:=by
 obtain⟨b,hb,e⟩:=List.mem_filterMap.mp hp;cases q:h.get? b with
 | none=>rw[q] at e;cases e
 | some o=>
  rw[q] at e;have e':(b,o)=p:=ja.inj e;subst e';exact⟨hb,q⟩
theorem Inv.pinned{pins:List (yc × Obj)}{σ:St}{H:Hp}{s:ye}{fp:List yc}(I:Inv X pins σ H s)(hf:∀b ∈ fp,FpOk X pins H b)(ho:∀b ∈ fp,∃o,s.heap.get? b=some o/\∀v,o.data ≠ .cell v):Inv X (pins++Wm fp s.heap) σ H s:=
 I.pins_of λp hp=>(ju.mp hp).elim (λz=>I.pin p (yT _ z)) λz=>by
  obtain⟨hb,e⟩:=zi7 z;obtain⟨f0,f1,f2,_⟩:=hf p.1 hb;obtain⟨o,e',d⟩:=ho p.1 hb;rw[e] at e';cases e';exact⟨e,f0,f1,f2,d⟩
theorem Inv.unpinned{pins pl:List (yc × Obj)}{σ:St}{H:Hp}{s:ye}(I:Inv X (pins++pl) σ H s):Inv X pins σ H s:=I.pins_of λp hp=>I.pin p (yT _ (qH _ hp))
theorem ps_for{iter:yj}{body:List ym}{wi:TI}{g:TG}{tb:TS}{pos:Pos}(hp:yS (yk X.prog X.w) X.A X.env X.xe)(hc:X.calm=true)(hi:PI X tg iter wi)(hg:PG X tg g)(hb:PSs X body tb)
  (hs:∀x,qk iter X.env x=pure x:=by intro _;rfl):PS X (.For tg iter body [] pos) (tFor wi g tb):=by
 intro pins s σ H D I h;refine wpAny_For (thn (hi pins s σ H _ I h) λv s1 h1=>thn h1 λitv s2 h2=>?_) hs
 obtain⟨it,fp,tn,J,H2,e,I2,T,st2,f2,W,⟨m0,w0⟩,turn⟩:=h2;subst e
 -- what stays true of the iterator's objects through the loop
 have stat:∀{H':Hp},(∀b ∈ fp,H' b=none)->∀b ∈ fp,FpOk X pins H' b:=λhn b hb=>⟨hn b hb,(f2 b hb).2⟩
 refine codeAny_forLoop_any (λn s'=>∃i σ' H',Inv X pins σ' H' s'/\tn i s'.heap/\(∀b ∈ fp,H' b=none)/\W i n σ' H') ?_ m0 ⟨0,σ,H2,I2,st2,λb hb=>(f2 b hb).1,w0⟩
 rintro n s3 ⟨i,σ3,H3,I3,st3,fr3,w3⟩
 rcases turn i n σ3 H3 w3 with ⟨stop,qn⟩ | ⟨go,N,hN,step⟩
 ·refine qo hp (thn (T.done X rfl rfl rfl hc i pins s3 σ3 H3 X.xe I3 (stat fr3) st3 stop) λr s4 ⟨hr,I4⟩=>?_)
  subst hr;exact wpAny_execs_nil ⟨σ3,H3,I4,qn⟩
 ·refine qo hp (thn (T.item X rfl rfl rfl hc i pins s3 σ3 H3 X.xe I3 (stat fr3) st3 go) λr s4 ⟨u,hr,h4⟩=>?_)
  subst hr;refine qo hp (thn h4 λ_ s5 ⟨x,H5,I5,r5,y5,st5,fr5⟩=>?_)
  have I5':=I5.pinned (stat fr5) (T.obj _ _ st5);refine qo hp (thn (hg _ s5 σ3 H5 x u _ I5' r5 (step x H5 y5)) λ_ s6 ⟨σ6,H6,I6,q6⟩=>?_)
  refine qo hp (thn (hb _ s6 σ6 H6 _ I6 q6) λf s7 q7=>?_)
  have again:∀{σ7:St}{H7:Hp},Inv X (pins++Wm fp s5.heap) σ7 H7 s7->N σ7 H7->∃m,m < n/\∃i σ' H',Inv X pins σ' H' s7/\tn i s7.heap/\(∀b ∈ fp,H' b=none)/\W i m σ' H':=λ{σ7 H7} I7 n7=>by
   obtain⟨m',hm,w7⟩:=hN σ7 H7 n7;refine⟨m',hm,i+1,σ7,H7,I7.unpinned,T.keep _ _ _ st5 λb hb o e=>(I7.pin (b,o) (yT _ (yT _ (US hb e)))).1,λb hb=>?_,w7⟩
   obtain⟨o,e,d⟩:=T.obj _ _ st5 b hb;exact(I7.pin (b,o) (yT _ (yT _ (US hb e)))).2.1
  cases f with
  | next=>obtain⟨σ7,H7,I7,n7⟩:=q7;exact again I7 n7
  | cont=>obtain⟨σ7,H7,I7,n7⟩:=q7;exact again I7 n7
  | brk=>obtain⟨σ7,H7,I7,q7⟩:=q7;exact⟨σ7,H7,I7.unpinned,q7⟩
  | ret v=>obtain⟨x7,σ7,H7,I7,r7,q7⟩:=q7;exact⟨x7,σ7,H7,I7.unpinned,r7,q7⟩
end
abbrev R2:=V->V->Hp->VK->Prop
def OpR(X:Cx)(f:yb->yb->Sem yb)(r:R2):Prop:=
 ∀(pins:List (yc × Obj)) (s:ye) (σ:St) (H:Hp) (x y:V) (v u:yb) (Q:VK),Inv X pins σ H s->RelV x v->RelV y u->r x y H Q ->
  yi (yk X.prog X.w) X.A (f v u) (EP X pins σ Q) X.xe s
def UnR(X:Cx)(f:yb->Sem yb)(r:V->Hp->VK->Prop):Prop:=
 ∀(pins:List (yc × Obj)) (s:ye) (σ:St) (H:Hp) (x:V) (v:yb) (Q:VK),Inv X pins σ H s->RelV x v->r x H Q ->
  yi (yk X.prog X.w) X.A (f v) (EP X pins σ Q) X.xe s
def zbJ(X:Cx)(f:yb)(r:List V->Hp->VK->Prop):Prop:=
 ∀(pins:List (yc × Obj)) (s:ye) (σ:St) (H:Hp) (xs:List V) (us:List yb) (Q:VK),Inv X pins σ H s->Vals xs us->r xs H Q ->
  yi (yk X.prog X.w) X.A (call f us) (EP X pins σ Q) X.xe s
def TruR(X:Cx)(r:V->Hp->(Bool->Hp->Prop)->Prop):Prop:=
 ∀(pins:List (yc × Obj)) (s:ye) (σ:St) (H:Hp) (x:V) (v:yb) (Q:Bool->Hp->Prop),Inv X pins σ H s->RelV x v->r x H Q ->
  yi (yk X.prog X.w) X.A (truthy v) (TP X pins σ Q) X.xe s
def tOp(r:R2)(ta tb:TE):TE:=λσ H Q=>ta σ H λx H1=>tb σ H1 λy H2=>r x y H2 Q
def tUn(r:V->Hp->VK->Prop)(ta:TE):TE:=λσ H Q=>ta σ H λx H1=>r x H1 Q
def rI(C:Int->Int->Prop)(g:Int->Int->V):R2:=λx y H Q=>∃i j,x=.int i/\y=.int j/\C i j/\Q (g i j) H
def rI0(g:Int->Int->V):R2:=λx y H Q=>∃i j,x=.int i/\y=.int j/\Q (g i j) H
def rU(g:Int->V):V->Hp->VK->Prop:=λx H Q=>∃i,x=.int i/\Q (g i) H
section
variable {X:Cx}{a b c:yj}{ta tb tc:TE}{pos:Pos}
theorem binT(ha:PE X a ta)(hb:PE X b tb){pins:List (yc × Obj)}{s:ye}{σ:St}{H:Hp}{R:V->V->Hp->Prop}(I:Inv X pins σ H s)
  (h:ta σ H λx H1=>tb σ H1 λy H2=>R x y H2) {Q:yb->ye->Prop}{f:yb->yb->Sem yb}
  (hf:∀v u s2 x y H2,Inv X pins σ H2 s2->RelV x v->RelV y u->R x y H2->yi (yk X.prog X.w) X.A (f v u) Q X.xe s2) :
  yi (yk X.prog X.w) X.A (yz a X.env) (λv s₁=>yi (yk X.prog X.w) X.A (yz b X.env) (λu s₂=>yi (yk X.prog X.w) X.A (f v u) Q X.xe s₂) X.xe s₁) X.xe s:=by
 refine thn (ha pins s σ H _ I h) λv s1 ⟨x,H1,I1,r1,q1⟩=>?_
 refine thn (hb pins s1 σ H1 _ I1 q1) λu s2 ⟨y,H2,I2,r2,q2⟩=>?_
 exact hf v u s2 x y H2 I2 r1 r2 q2
theorem pe_op{op:Operator}{r:R2}(ho:OpR X (je op) r)(ha:PE X a ta)(hb:PE X b tb):PE X (.BinOp a op b pos) (tOp r ta tb):=by
 intro pins s σ H Q I h;exact wpAny_BinOp (binT ha hb I h λv u s2 x y H2 I2 rx ry q=>ho pins s2 σ H2 x y v u Q I2 rx ry q)
theorem pe_un{op:UnaryOp}{r:V->Hp->VK->Prop}(ho:UnR X (unaryOp op) r)(ha:PE X a ta):PE X (.UnaryOp op a pos) (tUn r ta):=by
 intro pins s σ H Q I h;exact UnaryOp_ (thn (ha pins s σ H _ I h) λv s1 ⟨x,H1,I1,r1,q1⟩=>ho pins s1 σ H1 x v Q I1 r1 q1)
theorem opI{f:yb->yb->Sem yb}{C:Int->Int->Prop}{g:Int->Int->Int}
  (rule:∀(i j:Int) (t u:Tok) (s:ye) (Q:yb->ye->Prop) (E:yb->ye->Prop),C i j->Q (.int (g i j) s.toks) { s with toks:=s.toks+1 }->yi (yk X.prog X.w) X.A (f (.int i t) (.int j u)) Q E s) :
  OpR X f (rI C λi j=>.int (g i j)):=by
 intro pins s σ H x y v u Q I rx ry h;obtain⟨i,j,rfl,rfl,hc,q⟩:=h;obtain⟨t,rfl⟩:=rx;obtain⟨t',rfl⟩:=ry;exact rule i j t t' s _ _ hc ⟨.int (g i j),H,I.tok _,⟨_,rfl⟩,q⟩
theorem opI0{f:yb->yb->Sem yb}{g:Int->Int->Int}
  (rule:∀(i j:Int) (t u:Tok) (s:ye) (Q:yb->ye->Prop) (E:yb->ye->Prop),Q (.int (g i j) s.toks) { s with toks:=s.toks+1 }->yi (yk X.prog X.w) X.A (f (.int i t) (.int j u)) Q E s) :
  OpR X f (rI0 λi j=>.int (g i j)):=by
 intro pins s σ H x y v u Q I rx ry h;obtain⟨i,j,rfl,rfl,q⟩:=h;obtain⟨t,rfl⟩:=rx;obtain⟨t',rfl⟩:=ry;exact rule i j t t' s _ _ ⟨.int (g i j),H,I.tok _,⟨_,rfl⟩,q⟩
theorem opB0{f:yb->yb->Sem yb}{g:Int->Int->Bool}
  (rule:∀(i j:Int) (t u:Tok) (s:ye) (Q:yb->ye->Prop) (E:yb->ye->Prop),Q (.bool (g i j)) s->yi (yk X.prog X.w) X.A (f (.int i t) (.int j u)) Q E s) :
  OpR X f (rI0 λi j=>.bl (g i j)):=by
 intro pins s σ H x y v u Q I rx ry h;obtain⟨i,j,rfl,rfl,q⟩:=h;obtain⟨t,rfl⟩:=rx;obtain⟨t',rfl⟩:=ry;exact rule i j t t' s _ _ ⟨.bl (g i j),H,I,rfl,q⟩
def CPow(i j:Int):Prop:=0<=j/\j<=1000000/\i.natAbs < 2 ^ 64
theorem op_add:OpR X (je .Add) (rI0 λi j=>.int (i+j)):=opI0 λ_ _ _ _ _ _ _ q=>add_int q
theorem op_sub:OpR X (je .Sub) (rI0 λi j=>.int (i - j)):=opI0 λ_ _ _ _ _ _ _ q=>sub_int q
theorem op_modN:OpR X (je .Mod) (rI (λ_ j=>j ≠ 0) λi j=>.int (i.fmod j)):=opI λ_ _ _ _ _ _ _ hc q=>mod_int' hc q
theorem op_pow:OpR X (je .Pow) (rI CPow λi j=>.int (i ^ j.toNat)):=opI λ_ _ _ _ _ _ _ hc q=>pow_int_small hc.1 hc.2.1 hc.2.2 q
theorem unI{f:yb->Sem yb}{g:Int->Int}
  (rule:∀(i:Int) (t:Tok) (s:ye) (Q:yb->ye->Prop) (E:yb->ye->Prop),Q (.int (g i) s.toks) { s with toks:=s.toks+1 }->yi (yk X.prog X.w) X.A (f (.int i t)) Q E s) :
  UnR X f (rU λi=>.int (g i)):=by
 intro pins s σ H x v Q I rx h;obtain⟨i,rfl,q⟩:=h;obtain⟨t,rfl⟩:=rx;exact rule i t s _ _ ⟨.int (g i),H,I.tok _,⟨_,rfl⟩,q⟩
theorem un_neg:UnR X (unaryOp .USub) (rU λi=>.int (-i)):=unI λ_ _ _ _ _ q=>neg_int q
end
section
variable {X:Cx}{a b c:yj}{ta tb tc:TE}{pos:Pos}
theorem op_lt:OpR X (jd .Lt) (rI0 λi j=>.bl (decide (i < j))):=opB0 λ_ _ _ _ _ _ _ q=>lt_int q
theorem op_le:OpR X (jd .LtE) (rI0 λi j=>.bl (decide (i<=j))):=opB0 λ_ _ _ _ _ _ _ q=>le_int q
theorem op_gt:OpR X (jd .Gt) (rI0 λi j=>.bl (decide (j < i))):=opB0 λ_ _ _ _ _ _ _ q=>gt_int q
theorem op_ge:OpR X (jd .GtE) (rI0 λi j=>.bl (decide (j<=i))):=opB0 λ_ _ _ _ _ _ _ q=>ge_int q
theorem OpR.or{f:yb->yb->Sem yb}{r r':R2}(h:OpR X f r)(h':OpR X f r'):OpR X f (λx y H Q=>r x y H Q\/r' x y H Q):=by
 intro pins s σ H x y v u Q I rx ry q;rcases q with q | q
 ·exact h pins s σ H x y v u Q I rx ry q
 ·exact h' pins s σ H x y v u Q I rx ry q
theorem Zy(b:yj){op:CmpOp}(h:op ≠ .In:=by decide)(h2:op ≠ .NotIn:=by decide):jJ op b=false:=by
 have e1:(op == CmpOp.In)=false:=by cases op <;> first | rfl | exact absurd rfl h
 have e2:(op == CmpOp.NotIn)=false:=by cases op <;> first | rfl | exact absurd rfl h2
 cases b <;> simp[jJ,e1,e2]
theorem pe_cmpR{op:CmpOp}{r:R2}(ho:OpR X (jd op) r)(ha:PE X a ta)(hb:PE X b tb)(hm:jJ op b=false):PE X (.Compare a [op] [b] pos) (tOp r ta tb):=by
 intro pins s σ H Q I h;exact wpAny_Compare1 (binT ha hb I h λv u s2 x y H2 I2 rx ry q=>ho pins s2 σ H2 x y v u Q I2 rx ry q) hm
def tTest(t:TE):TT:=λσ H Q=>t σ H λx H'=>∃k,x=.bl k/\Q k H'
theorem pt_cmpR{op:CmpOp}{r:R2}(ho:OpR X (jd op) r)(ha:PE X a ta)(hb:PE X b tb)(hm:jJ op b=false):PT X (.Compare a [op] [b] pos) (tTest (tOp r ta tb)):=by
 intro pins s σ H Q I h;refine wpAny_isTrue_Compare1 (thn (ha pins s σ H _ I h) λv s1 ⟨x,H1,I1,r1,q1⟩=>thn (hb pins s1 σ H1 _ I1 q1) λu s2 ⟨y,H2,I2,r2,q2⟩=>
  thn (ho pins s2 σ H2 x y v u _ I2 r1 r2 q2) λc s3 ⟨z,H3,I3,r3,k,e,q3⟩=>?_) hm
 subst e;cases r3;exact qa ⟨H3,I3,q3⟩
def TruV(K:yh)(x:V)(H:Hp)(k:Bool):Prop:=
 match x with
 | .non=>k=false
 | .bl b=>k=b
 | .int i=>k=(i != 0)
 | .str y=>y.length<=y7/\k=((y.length:Int) != 0)
 | .byt y=>y.size<=y7/\k=((y.size:Int) != 0)
 | .ref p=>(∃xs,SqL K H p xs/\k = !xs.isEmpty)\/(∃xs,SqT K H p xs/\k = !xs.isEmpty)\/∃kvs,H p=some (.dK kvs)/\k = !kvs.isEmpty
 | _=>False
theorem zhC{κ:Type}{kvs:List (κ × V)}{vs:List (κ × yb)}(r:KV kvs vs):(!vs.isEmpty) = !kvs.isEmpty:=by
 cases r <;> rfl
theorem zcp{xs:List V}{its:List yb}(r:Vals xs its):(!its.toArray.isEmpty) = !xs.isEmpty:=by
 cases r <;> simp
theorem zey:(y7:Nat) < 2 ^ 63:=by rw[j9];decide
theorem tru_ok:TruR X (λx H Q=>∃k,TruV X.K x H k/\Q k H):=by
 intro pins s σ H x v Q I rx h;obtain⟨k,e,q⟩:=h;have hl:=zey;have hs:y7=16777216:=j9;cases x with
 | non=>
  cases rx;have e':k=false:=e;subst e';exact truthy_none ⟨H,I,q⟩
 | bl b=>
  cases rx;have e':k=b:=e;subst e';exact qa ⟨H,I,q⟩
 | int i=>
  obtain⟨t,rfl⟩:=rx;have e':k=(i != 0):=e;subst e';exact PySem.P.truthy_int ⟨H,I,q⟩
 | str y=>
  obtain⟨t,rfl⟩:=rx;obtain⟨hy,e'⟩:y.length<=y7/\k=((y.length:Int) != 0):=e;subst e';exact PySem.P.truthy_str (by omega) ⟨H,I.tok _,q⟩
 | byt y=>
  obtain⟨t,rfl⟩:=rx;obtain⟨hy,e'⟩:y.size<=y7/\k=((y.size:Int) != 0):=e;subst e';exact PySem.W.truthy_bytes (by omega) ⟨H,I.tok _,q⟩
 | ref p=>
  cases rx;have e':(∃xs,SqL X.K H p xs/\k = !xs.isEmpty)\/(∃xs,SqT X.K H p xs/\k = !xs.isEmpty)\/∃kvs,H p=some (.dK kvs)/\k = !kvs.isEmpty:=e;rcases e' with ⟨xs,hx,e'⟩ | ⟨xs,hx,e'⟩ | ⟨kvs,hx,e'⟩
  ·subst e';obtain⟨its,r,pl,hz⟩:=I.list hx;have hlen:=r.length;exact wpAny_truthy_list pl.isList (by simp only[yL];omega) ⟨H,I.tok _,by rw[zcp r];exact q⟩
  ·subst e';obtain⟨its,r,pl,hz⟩:=I.tuple hx;have hlen:=r.length;exact truthy_tuple pl (by simp only[yL];omega) ⟨H,I.tok _,by rw[zcp r];exact q⟩
  ·subst e';obtain⟨hz,hS,vs,r,m⟩:kvs.length<=y7/\(p == jK)=false/\∃vs,KV kvs vs/\s.heap.DictOf (Xi X.prog X.w) p vs:=I.hok p _ hx;have hlen:kvs.length=vs.length:=Paired.length r;exact wpAny_truthy_dict hS m (by omega) ⟨H,I.tok _,by rw[zhC r];exact q⟩
 | _=>exact(show False from e).elim
theorem pt_truth(ha:PE X a ta)(he:∀whole,isTrue a X.env whole=(do let v <- whole;standAt a.pos;holding [v] (truthy v))) :
  PT X a (λσ H Q=>ta σ H λx H'=>∃k,TruV X.K x H' k/\Q k H'):=by
 intro pins s σ H Q I h;exact isTrue_plain (thn (ha pins s σ H _ I h) λv s1 ⟨x,H1,I1,r1,q1⟩=>tru_ok pins s1 σ H1 x v Q I1 r1 q1) (he _)
theorem zd1{x:V}{us:List yb}(r:Vals [x] us):∃u,us=[u]/\RelV x u:=by
 cases r with
 | cons r1 r2=>cases r2;exact⟨_,rfl,r1⟩
theorem vals2{x y:V}{us:List yb}(r:Vals [x,y] us):∃u w',us=[u,w']/\RelV x u/\RelV y w':=by
 cases r with
 | cons r1 r2=>
  cases r2 with
  | cons r3 r4=>cases r4;exact⟨_,_,rfl,r1,r3⟩
theorem call_abs:zbJ X (.builtin "abs") (λxs H Q=>∃i,xs=[.int i]/\Q (.int (if i < 0 then -i else i)) H):=by
 intro pins s σ H xs us Q I r h;obtain⟨i,rfl,q⟩:=h;obtain⟨u,rfl,t,rfl⟩:=zd1 r;exact call_abs_int λu tk=>⟨.int (if i < 0 then -i else i),H,I.tok _,⟨_,rfl⟩,q⟩
theorem zkl(hc:X.calm=true):zbJ X (.builtin "max") (λxs H Q=>∃i j,xs=[.int i,.int j]/\Q (.int (if j > i then j else i)) H):=by
 intro pins s σ H xs us Q I r h;obtain⟨i,j,rfl,q⟩:=h;obtain⟨u,w',rfl,⟨t,rfl⟩,⟨t',rfl⟩⟩:=vals2 r;refine max_two_ints (I.ok.hd hc) λh' tk k=>⟨_,H,I.kept k,?_,q⟩
 by_cases hj:j > i
 ·rw[if_pos hj,if_pos hj];exact⟨_,rfl⟩
 ·rw[if_neg hj,if_neg hj];exact⟨_,rfl⟩
end
structure ObjM(h:yd)(x dx C:yc)(mA:Str->Option yb):Prop where
 obj:h.get? x=some (qe C dx)
 ns:h.Ns1 dx mA
 ne:dx ≠ x
theorem zje{h:yd}{dx:yc}{mA:Str->Option yb}(n:h.Ns1 dx mA):∃od,h.get? dx=some od/\∀name,ycc name od=some (mA name):=by
 obtain⟨o,es,ep,ho,hd,hk,_,hm⟩:=n;refine⟨o,ho,λname=>?_⟩
 have e:=hm name;unfold nsFind findBy at e;rw[<- Array.find?_toList] at e;unfold ycc;rw[hd]
 dsimp only
 split
 ·rename_i y q;rw[q] at e;exact congrArg some e
 ·rename_i q;rw[q] at e;have a:es.toList.any (·.refKey)=false:=by
   rw[List.any_eq_false];intro y hy;obtain⟨z,t,hkey⟩:=hk y (Array.mem_toList_iff.mp hy);simp[DictEntry.refKey,hkey]
  have a':¬es.toList.any (·.refKey)=true:=by rw[a];exact jz
  rw[if_neg a'];exact congrArg some e
theorem ObjM.look{h:yd}{x dx C:yc}{mA:Str->Option yb}(I:ObjM h x dx C mA):∃od,PySem.W.InstAt h x (qe C dx) C (some od)/\∀name,ycc name od=some (mA name):=
 let⟨od,ho,hl⟩:=zje I.ns
 ⟨od,⟨I.obj,rfl,rfl,ho⟩,hl⟩
section
variable {prog:y6}{w:y3}{A:yB}{E:yb->ye->Prop}{s:ye}{K:yh}{x dx C f:yc}{mA:Str->Option yb}{name:Str}{v:yb}
theorem get_map{expr:Bool}{Q:yb->ye->Prop}(X:K.In s.heap)(I:ObjM s.heap x dx C mA)(hg:ya3 K C name=true)(hh:ya0 K C=true)
  (ha:jB K (.ref C) name=some none) (hv:mA name=some v) (hv':PySem.W.handedIn v=true) (h:Q v { s with toks:=s.toks+1 }) :
  yi (yk prog w) A (getAttr (.ref x) name expr) Q E s:=by
 obtain⟨od,J,hl⟩:=I.look;exact PySem.W.get_value X J (PySem.W.plainGet_of hg).1 (PySem.W.findObj_own hh ha rfl (by rw[hl,hv])) hv' h
theorem set_map{ns:List Str}{Q:Unit->ye->Prop}(X:K.In s.heap)(I:ObjM s.heap x dx C mA)
  (hs:jB K (.ref C) "__setattr__" = some (some (.builtin "object.__setattr__"))) (hp:yby K C=true) (ht:yb6 K C name=some none) (hh:ya0 K C=true)
  (hw:PySem.Within mA ns) (hsz:ns.length<=y7)
  (h:∀h',ObjM h' x dx C (λy=>if y=name then some v else mA y)->qf dx s.heap h'->Q () { s with heap:=h',toks:=s.toks+2 }) :
  yi (yk prog w) A (setAttr (.ref x) name v) Q E s:=by
 obtain⟨od,J,hl⟩:=I.look;refine PySem.W.set_plain X J hs (PySem.W.osa_open (s:={ s with toks:=s.toks+1 }) (r:=none) X J hp ht λb=>?_)
 obtain⟨cd,hc,hd'⟩:=PySem.W.any_some hh;have hx:s.heap.get? x=some ⟨.ref C,some dx,.plain,#[]⟩:=I.obj;refine yf (yt (yf (yf (wpAny_loadPart hx (yf (PySem.W.Looks.here (s:={ s with toks:=s.toks+1 }) (PySem.W.looks_clsIn X hc) ?_))))))
 rw[hd'];refine yt (a:=some dx) (yf (yt (yf ?_)));refine wpAny_nsSet1 (s:={ s with toks:=s.toks+1 }) I.ns λh' hn2 hs2=>?_
 obtain⟨oD,esD,epD,hoD,hdD,hcD⟩:=hn2.count (PySem.Within.cons name v hw);refine yf (wpAny_lookBehind hoD (by rw[hdD];exact pastItsLine_dict (yE hcD (by rw[jk];omega))) ?_)
 exact yt (h _ ⟨(hs2.2 _ (Ne.symm I.ne)).trans I.obj,hn2,I.ne⟩ hs2)
theorem make_map{R:Result->ye->Prop}{vs:List yb}{kw:List (Str × yb)}(X:K.In s.heap)(hm:yb7 K C=true)
  (hi:jB K (.ref C) "__init__" = some (some (.ref f))) (hf:PySem.W.typeIn K (.ref f)=some (.type "function"))
  (h:codeAny (yk prog w) (A.under (.builtin "type.__call__" ⟨.ref C::vs,kw⟩)) (.call (.ref f) ⟨.ref (s.heap.objs.size+1)::vs,kw⟩) (PySem.W.InitBack (s.heap.objs.size+1) R)
   { s with heap:=(s.heap.push jV).push (qe C s.heap.objs.size) }) :
  codeAny (yk prog w) A (.call (.ref C) ⟨vs,kw⟩) R s:=by
 obtain⟨hh,g,d,t,os⟩:=s;exact PySem.W.make_core (PySem.W.makes_of X hm) (PySem.W.looks_findIn X hi) (λself=>PySem.W.bind_fn X self hf) (.inl rfl) h
end
def putF(f:Str)(v:V):List (Str × V)->List (Str × V)
 | []=>[(f,v)]
 | (g,x)::r=>if g=f then(g,v)::r else(g,x)::putF f v r
theorem zaT(f g:Str)(v:V):∀fs:List (Str × V),(putF f v fs).lookup g=if g=f then some v else fs.lookup g
 | []=>by
  show qi g [(f,v)]=_;by_cases h:g=f
  ·have hb:(g == f)=true:=beq_iff_eq.mpr h;simp only[qi,hb,if_pos h]
  ·have hb:(g == f)=false:=beq_eq_false_iff_ne.mpr h;simp only[qi,hb,if_neg h]
 | (k,x)::r=>by
  have ih:=zaT f g v r;rw[show putF f v ((k,x)::r)=(if k=f then(k,v)::r else(k,x)::putF f v r) from rfl]
  by_cases hk:k=f
  ·rw[if_pos hk];by_cases h:g=k
   ·have hb:(g == k)=true:=beq_iff_eq.mpr h;simp only[qi,hb,if_pos (h.trans hk)]
   ·have hb:(g == k)=false:=beq_eq_false_iff_ne.mpr h;simp only[qi,hb,if_neg (λe:g=f=>h (e.trans hk.symm))]
  ·rw[if_neg hk];by_cases h:g=k
   ·have hb:(g == k)=true:=beq_iff_eq.mpr h;simp only[qi,hb,if_neg (λe:g=f=>hk (h.symm.trans e))]
   ·have hb:(g == k)=false:=beq_eq_false_iff_ne.mpr h;simp only[qi,hb];exact ih
theorem zaX(f:Str)(v:V):∀fs:List (Str × V),f ∈ (putF f v fs).map (·.1)/\∀g,g ∈ fs.map (·.1)->g ∈ (putF f v fs).map (·.1)
 | []=>⟨by simp[putF],λg h=>by simp at h⟩
 | (k,x)::r=>by
  obtain⟨i1,i2⟩:=zaX f v r;rw[show putF f v ((k,x)::r)=(if k=f then(k,v)::r else(k,x)::putF f v r) from rfl]
  by_cases hk:k=f
  ·rw[if_pos hk];subst hk;exact⟨by simp,λg h=>by simpa using h⟩
  ·rw[if_neg hk];refine⟨?_,λg h=>?_⟩
   ·rw[yH];exact yR _ i1
   ·rw[yH] at h ⊢;rcases yI.mp h with e | e
    ·exact yI.mpr (.inl e)
    ·exact yR _ (i2 g e)
theorem zaV(f:Str)(v:V):∀fs:List (Str × V),(putF f v fs).length<=fs.length+1
 | []=>by simp[putF]
 | (k,x)::r=>by
  have ih:=zaV f v r;rw[show putF f v ((k,x)::r)=(if k=f then(k,v)::r else(k,x)::putF f v r) from rfl]
  by_cases hk:k=f
  ·rw[if_pos hk,jk,jk];omega
  ·rw[if_neg hk,jk,jk];omega
theorem RelO.some_of{v:V}{o:Option yb}(r:RelO (some v) o):∃u,o=some u/\RelV v u:=by
 cases o with
 | none=>exact(show False from r).elim
 | some u=>exact⟨u,rfl,r⟩
theorem zjF{v:V}{u:yb}(r:RelV v u):PySem.W.handedIn u=true:=by
 cases v with
 | non=>cases(show u=yb.none from r);rfl
 | bl b=>cases(show u=yb.bool b from r);rfl
 | int i=>obtain⟨t,e⟩:=(show ∃t,u=yb.int i t from r);cases e;rfl
 | str x=>obtain⟨t,e⟩:=(show ∃t,u=yb.str x t from r);cases e;rfl
 | byt b=>obtain⟨t,e⟩:=(show ∃t,u=yb.bytes b t from r);cases e;rfl
 | flt b=>obtain⟨t,e⟩:=(show ∃t,u=yb.float b t from r);cases e;rfl
 | ref a=>cases(show u=yb.ref a from r);rfl
 | ty n=>cases(show u=yb.type n from r);rfl
section
variable {P:y6}{w:y3}{H H':Hp}{h h':yd}{a C dx:yc}{fs fs':List (Str × V)}
theorem zjC(hok:HOk P w H h)(e:H a=some (.ins C dx fs)):∃mA,ObjM h a dx C mA/\(∀f,RelO (fs.lookup f) (mA f))/\PySem.Within mA (fs.map (·.1))/\fs.length<=1000/\H dx=some (.own a):=by
 obtain⟨d,z,ne,ob,mA,n,r,q⟩:=(show X3 P w H h a (.ins C dx fs) from hok a _ e);exact⟨mA,⟨ob,n,ne⟩,r,q,z,d⟩
end
structure Cls(K:yh)(C:yc):Prop where
 pg:ya3 K C Str.empty=true
 hd:ya0 K C=true
 po:yby K C=true
 sa:jB K (.ref C) "__setattr__" = some (some (.builtin "object.__setattr__"))
theorem Cls.get{K:yh}{C:yc}(c:Cls K C)(f:Str):ya3 K C f=true:=c.pg
def Vb(K:yh)(C:yc)(f:Str):Prop:=jB K (.ref C) f=some none
theorem Vb.taker{K:yh}{C:yc}{f:Str}(n:Vb K C f):yb6 K C f=some none:=by
 unfold yb6;rw[show jB K (.ref C) f=some none from n]
 rfl
section
variable {X:Cx}{pins:List (yc × Obj)}{σ:St}{H:Hp}{s:ye}{a C dx:yc}{fs:List (Str × V)}{f:Str}{v:V}{A:yB}{E:yb->ye->Prop}
theorem zhG{b:Bool}{Q:yb->ye->Prop}(I:Inv X pins σ H s)(e:H a=some (.ins C dx fs))(c:Cls X.K C)(n:Vb X.K C f)(l:fs.lookup f=some v)
  (h:∀u s',Inv X pins σ H s'->RelV v u->Q u s'):yi (yk X.prog X.w) A (getAttr (.ref a) f b) Q E s:=by
 obtain⟨mA,O,r,_,_,_⟩:=zjC I.hok e;obtain⟨u,hu,ru⟩:=RelO.some_of (v:=v) (o:=mA f) (by rw[<- l];exact r f)
 exact get_map I.kIn O (c.get f) c.hd n hu (zjF ru) (h u _ (I.tok _) ru)
theorem zhg{y:V}{u:yb}{Q:Unit->ye->Prop}(I:Inv X pins σ H s)(e:H a=some (.ins C dx fs))(c:Cls X.K C)(n:Vb X.K C f)(hl:fs.length < 1000)(ry:RelV y u)
  (h:∀s',Inv X pins σ (upd H a (.ins C dx (putF f y fs))) s'->Q () s'):yi (yk X.prog X.w) A (setAttr (.ref a) f u) Q E s:=by
 obtain⟨mA,O,r,wi,_,ho⟩:=zjC I.hok e;have hz:(fs.map (·.1)).length<=y7:=by rw[jm,j9];omega
 refine set_map I.kIn O c.sa c.po n.taker c.hd wi hz λh' O' sb=>h _ ?_
 have hd:∃o,h'.get? dx=some o:=let⟨o,_,_,e',_⟩:=O'.ns;⟨o,e'⟩
 refine I.write (x:=a) (e:=dx) (by rw[e];exact True.intro) (.inr ho) (λb q hb z=>(sb.2 b hb).trans z) hd ?_
 refine⟨by rw[Zr O.ne];exact ho,?_,O.ne,O'.obj,_,O'.ns,λg=>?_,λg hg=>?_⟩
 ·have:=zaV f y fs;omega
 ·show RelO ((putF f y fs).lookup g) (if g=f then some u else mA g)
  rw[zaT];by_cases q:g=f
  ·rw[if_pos q,if_pos q];exact ry
  ·rw[if_neg q,if_neg q];exact r g
 ·by_cases q:g=f
  ·rw[q];exact(zaX f y fs).1
  ·refine(zaX f y fs).2 g (wi g λz=>hg ?_)
   show(if g=f then some u else mA g)=none
   rw[if_neg q];exact z
theorem Inv.made(I:Inv X pins σ H s):Inv X pins σ (upd (upd H s.heap.objs.size (.own (s.heap.objs.size+1))) (s.heap.objs.size+1) (.ins C s.heap.objs.size []))
  { s with heap:=(s.heap.push jV).push (qe C s.heap.objs.size) }:=by
 have e1:(s.heap.push jV).get? s.heap.objs.size=some jV:=yN s.heap rfl;have e2:((s.heap.push jV).push (qe C s.heap.objs.size)).get? (s.heap.objs.size+1)=some (qe C s.heap.objs.size):=by
  have:=yN (s.heap.push jV) (o:=qe C s.heap.objs.size) rfl
  rwa [qy] at this
 have e3:(s.heap.push jV).Ns s.heap.objs.size (λ_=>none):=⟨jV,#[],_,e1,rfl,(λe he=>absurd he (by simp)),λ_=>rfl⟩
 have I1:=I.laid (a:=s.heap.objs.size) (o:=.own (s.heap.objs.size+1)) (h':=s.heap.push jV) (t':=s.toks) (λb u q=>yA _ q) (yq _) ⟨_,e1⟩
 refine I1.laid (a:=s.heap.objs.size+1) (o:=.ins C s.heap.objs.size []) (t':=s.toks) (λb u q=>yA _ q) (Nat.le_of_eq (qy _ _)) ?_
 have ne:s.heap.objs.size ≠ s.heap.objs.size+1:=yW (yae _);refine⟨by rw[Zr ne,Zt],jZ _,ne,e2,λ_=>none,(yd.Ns1.of_empty e3).at λo q=>yA _ q,λ_=>True.intro,λy hy=>absurd rfl hy⟩
theorem attr_of{prog:y6}{w:y3}{env:Env}{e:yj}{f:Str}{pos:Pos}{s:ye}{Q:yb->ye->Prop}(hb:attributeBase e f env (yz e env)=yz e env)
  (h:yi (yk prog w) A (yz e env) (λo s₁=>yi (yk prog w) A (getAttr o f true) Q E s₁) E s):yi (yk prog w) A (yz (.Attribute e f pos) env) Q E s:=
 Attribute_any_ h (by rw[arm_eval_Attribute,hb])
end
def tFld(K:yh)(ta:TE)(f:Str):TE:=λσ H Q=>ta σ H λx H1=>∃a C dx fs v,x=.ref a/\H1 a=some (.ins C dx fs)/\Cls K C/\Vb K C f/\fs.lookup f=some v/\Q v H1
def sFld(K:yh)(ta tv:TE)(f:Str):TS:=λD σ H=>tv σ H λy H1=>ta σ H1 λx H2=>∃a C dx fs,x=.ref a/\H2 a=some (.ins C dx fs)/\Cls K C/\Vb K C f/\fs.length < 1000 /\
 D.nx σ (upd H2 a (.ins C dx (putF f y fs)))
section
variable {X:Cx}{o e value:yj}{f:Str}{pos pos' tpos:Pos}{ta tv:TE}
theorem pe_fld(he:PE X e ta)(hb:attributeBase e f X.env (yz e X.env)=yz e X.env):PE X (.Attribute e f pos) (tFld X.K ta f):=by
 intro pins s σ H Q I h;refine attr_of hb (thn (he pins s σ H _ I h) λu s1 ⟨x,H1,I1,rx,a,C,dx,fs,v,ex,ea,c,n,l,q⟩=>?_)
 subst ex;obtain rfl:u=yb.ref a:=rx;exact zhG I1 ea c n l λu' s2 I2 ru=>⟨v,H1,I2,ru,q⟩
theorem ziM(ha:PE X o ta)(hv:PE X value tv)(hs:jv value (some (.Attribute o f pos')) pos.line X.env=pure false):PS X (.Assign [.Attribute o f pos'] value pos) (sFld X.K ta tv f):=by
 intro pins s σ H D I h;refine plainObj_wpAny_Assign_Attribute (thn (hv pins s σ H _ I h) λu s1 ⟨y,H1,I1,ry,q⟩=>thn (ha pins s1 σ H1 _ I1 q) λov s2 ⟨x,H2,I2,rx,a,C,dx,fs,ex,ea,c,n,l,q2⟩=>?_) hs
 subst ex;obtain rfl:ov=yb.ref a:=rx;exact zhg I2 ea c n l ry λs3 I3=>⟨σ,_,I3,q2⟩
end
section
variable {X:Cx}{pins:List (yc × Obj)}{σ:St}{H:Hp}{s:ye}{A:yB}{E:yb->ye->Prop}{Q:yb->ye->Prop}{c:yb}{b:Bool}
end
structure Room(k:Nat)(A:yB):Prop where
 hd:A.handled=none
 dp:A.depth+3 * k+5 < recursionLimit
 un:A.units+16 * k+200 < cLine
theorem Room.mono{j k:Nat}{A:yB}(r:Room k A)(h:j<=k):Room j A:=⟨r.hd,by have:=r.dp;omega,by have:=r.un;omega⟩
theorem Room.deeper{k:Nat}{A:yB}(r:Room (k+1) A)(env:Env):Room k (A.deeper env):=
 ⟨r.hd,by have:=r.dp;show A.depth+1+3 * k+5 < _;omega,by have:=r.un;show A.units+3+16 * k+200 < _;omega⟩
theorem Room.in1{k:Nat}{A:yB}(r:Room (k+1) A):Room k A.in1:=
 ⟨r.hd,by have:=r.dp;show A.depth+3 * k+5 < _;omega,by have:=r.un;show A.units+1+16 * k+200 < _;omega⟩
theorem zhx{A:yB}{C:yc}{us:List yb}{kw:List (Str × yb)}:(A.under (.builtin "type.__call__" ⟨.ref C::us,kw⟩)).depth=A.depth+1:=by
 first | rfl | simp[yB.under,Code.weight,Code.isCreation,Code.isGuard,Code.isCaller,Code.frames,Code.isFrame,guardIds]
theorem zhw{A:yB}{C:yc}{us:List yb}{kw:List (Str × yb)}:(A.under (.builtin "type.__call__" ⟨.ref C::us,kw⟩)).units=A.units+1:=by
 first | rfl | simp[yB.under,Code.cUnits,Code.frames,Code.isFrame]
theorem Room.make{k:Nat}{A:yB}(r:Room (k+1) A)(C:yc)(us:List yb)(kw:List (Str × yb)):Room k (A.under (.builtin "type.__call__" ⟨.ref C::us,kw⟩)):=
 ⟨r.hd,by have:=r.dp;rw[zhx];omega,by have:=r.un;rw[zhw];omega⟩
theorem Room.depth{k:Nat}{A:yB}(r:Room k A):A.depth < recursionLimit:=by have:=r.dp;omega
theorem Room.units{k:Nat}{A:yB}(r:Room k A):A.units+64 < cLine:=by have:=r.un;omega
def tNil:TA:=λ_ H Q=>Q [] H
def zh6(ta:TE)(tr:TA):TA:=λσ H Q=>ta σ H λx H1=>tr σ H1 λxs H2=>Q (x::xs) H2
section
variable {X:Cx}{e:yj}{es:List yj}{te:TE}{t:TA}{pos:Pos}
theorem X9:PA X [] tNil:=λ_ _ _ _ H Q I h=>Calls.spliced_nil ⟨[],H,I,.nil,h⟩
theorem Yn(ha:PE X e te)(hr:PA X es t)(hs:yp (e::es) X.env=(false,yz e X.env)::yp es X.env:=by rfl):PA X (e::es) (zh6 te t):=by
 intro pos pins s σ H Q I h;rw[hs];show yi _ _ (spliced ((false,yz e X.env)::backTo pos (yp es X.env))) _ _ s;refine Calls.spliced_cons (thn (ha pins s σ H _ I h) λu s1 ⟨x,H1,I1,r1,q1⟩=>?_)
 exact thn (hr pos pins s1 σ H1 _ I1 q1) λus s2 ⟨xs,H2,I2,r2,q2⟩=>⟨x::xs,H2,I2,.cons r1 r2,q2⟩
def tTup(t:TA):TE:=λσ H Q=>t σ H λxs H1=>xs.length<=y7/\∀p,H1 p=none->Q (.ref p) (upd H1 p (.tup xs))
def tLst(t:TA):TE:=λσ H Q=>t σ H λxs H1=>xs.length<=y7/\∀p,H1 p=none->Q (.ref p) (upd H1 p (.lst xs))
theorem pe_tup{x1}(h:PA X es t):PE X (.Tuple es x1 pos) (tTup t):=by
 intro pins s σ H Q I hq;refine wpAny_Tuple_spliced (thn (h pos pins s σ H _ I hq) λus s1 ⟨xs,H1,I1,r,z,q⟩=>⟨by rw[<- r.length];exact z,?_⟩)
 have hf:H1 s1.heap.objs.size=none:=I1.hok.fresh (yq _);refine⟨.ref s1.heap.objs.size,upd H1 s1.heap.objs.size (.tup xs),I1.laid (t':=s1.toks) (λb u e=>yA _ e) (yq _) ?_,rfl,q _ hf⟩
 exact⟨z,us,r,⟨_,yN _ rfl,rfl,_,rfl⟩⟩
theorem pe_lst(h:PA X es t):PE X (.List es pos) (tLst t):=by
 intro pins s σ H Q I hq;refine wpAny_List_spliced (thn (h pos pins s σ H _ I hq) λus s1 ⟨xs,H1,I1,r,z,q⟩=>⟨by rw[<- r.length];exact z,?_⟩)
 have hf:H1 s1.heap.objs.size=none:=I1.hok.fresh (yq _);refine⟨.ref s1.heap.objs.size,upd H1 s1.heap.objs.size (.lst xs),I1.laid (t':=s1.toks) (λb u e=>yA _ e) (yq _) ?_,rfl,q _ hf⟩
 exact⟨z,us,0,r,yN _ rfl⟩
end
abbrev Sp:=List V->Hp->VK->XK->Prop
abbrev CXT:=List Env->Hp->ye->XK->yb->ye->Prop
structure Env0(P:y6)(w:y3)(K:yh)(mg:Str->Option yb)(base:yd)(A:yB)(outer:List Env)(s:ye)(H:Hp):Prop where
 frames:A.frames=some outer
 mod:Mod K mg base
 bs:∀b o,base.get? b=some o->s.heap.get? b=some o/\H b=none
 bsz:base.objs.size<=s.heap.objs.size
 funs:s.heap.FunFrames base outer
 frf:∀b ∈ frs outer,H b=none
 hok:HOk P w H s.heap
 bare:AllBare s.gens
def CE(outer:List Env)(P:y6)(w:y3)(H:Hp)(s:ye)(Q:VK)(u:yb)(s':ye):Prop:=
 ∃v H',s'.os=s.os/\AllBare s'.gens/\Un (frs outer) [] H H' s.heap s'.heap/\HOk P w H' s'.heap/\RelV v u/\Q v H'
def CR(CX:CXT)(outer:List Env)(P:y6)(w:y3)(H:Hp)(s:ye)(Q:VK)(E:XK)(r:Result)(s':ye):Prop:=
 match r with
 | .ok (.ret u)=>CE outer P w H s Q u s'
 | .ok _=>False
 | .error e=>CX outer H s E e s'
structure FnOk(P:y6)(w:y3)(K:yh)(mg:Str->Option yb)(base:yd)(CX:CXT)(k:Nat)(f:yc)(fd:yQ)(ps:List Str)(sp:Sp):Prop where
 len:∀vs H Q E,sp vs H Q E->vs.length=ps.length
 run:∀(A:yB) (outer:List Env) (s:ye) (H:Hp) (args:Args) (us:List yb) (vs:List V) (Q:VK) (E:XK),Room k A->Env0 P w K mg base A outer s H->BindsTo s fd args (ps.zip us)->Vals vs us->sp vs H Q E ->
  codeAny (yk P w) A (.call (.ref f) args) (CR CX outer P w H s Q E) s
theorem FnOk.mono{P:y6}{w:y3}{K:yh}{mg:Str->Option yb}{base:yd}{CX:CXT}{j k:Nat}{f:yc}{fd:yQ}{ps:List Str}{sp:Sp}(F:FnOk P w K mg base CX j f fd ps sp)(h:j<=k) :
  FnOk P w K mg base CX k f fd ps sp:=⟨F.len,λA outer s H args us vs Q E hr=>F.run A outer s H args us vs Q E (hr.mono h)⟩
theorem FnOk.imp{P:y6}{w:y3}{K:yh}{mg:Str->Option yb}{base:yd}{CX:CXT}{k:Nat}{f:yc}{fd:yQ}{ps:List Str}{sp sp':Sp}(F:FnOk P w K mg base CX k f fd ps sp)
  (h:∀vs H Q E,sp' vs H Q E->sp vs H Q E):FnOk P w K mg base CX k f fd ps sp':=
 ⟨λvs H Q E q=>F.len vs H Q E (h _ _ _ _ q),λA outer s H args us vs Q E hr he hb hv hs=>F.run A outer s H args us vs Q E hr he hb hv (h _ _ _ _ hs)⟩
theorem Env0.make{P:y6}{w:y3}{K:yh}{mg:Str->Option yb}{base:yd}{A:yB}{outer:List Env}{s:ye}{H:Hp}(e:Env0 P w K mg base A outer s H)(C:yc)(us:List yb)(kw:List (Str × yb)) :
  Env0 P w K mg base (A.under (.builtin "type.__call__" ⟨.ref C::us,kw⟩)) outer s H:=⟨by first | exact e.frames | (simpa[yB.under,Code.envs,Code.isFrame,pushEnvs] using e.frames),e.mod,e.bs,e.bsz,e.funs,e.frf,e.hok,e.bare⟩
section
variable {X:Cx}{pins:List (yc × Obj)}{σ:St}{H:Hp}{s s':ye}
theorem Inv.env0(I:Inv X pins σ H s):Env0 X.prog X.w X.K X.mg X.base X.A X.stack s H:=
 ⟨I.ok.frames,I.ok.mod,I.bs,yE I.ok.bsz I.sz,I.stack,I.stkFree,I.hok,I.bare⟩
theorem Inv.after{Q:VK}{u:yb}(I:Inv X pins σ H s)(h:CE X.stack X.prog X.w H s Q u s'):EP X pins σ Q u s':=by
 obtain⟨v,H',os,bare,un,hok,r,q⟩:=h;obtain⟨hh,g,d,t,os'⟩:=s';obtain rfl:os'=s.os:=os;exact⟨v,H',I.call (h':=hh) (g':=g) (d':=d) (t':=t) (ch:=[]) un hok bare (λb z=>absurd z (by simp)),r,q⟩
end
def tCall(sp:Sp)(dvs:List V)(E:XK)(t:TA):TE:=λσ H Q=>t σ H λvs H1=>sp (vs++dvs) H1 Q E
def tMake(C:yc)(sp:Sp)(dvs:List V)(E:XK)(t:TA):TE:=λσ H Q=>t σ H λvs H1=>∀x dx,H1 x=none->H1 dx=none->dx ≠ x ->
 sp (.ref x::(vs++dvs)) (upd (upd H1 dx (.own x)) x (.ins C dx [])) (λv H2=>v=.non/\Q (.ref x) H2) E
def ZA(K:yh)(fd:yQ)(ps:List Str)(ds:List yb):Prop:=
 ∀(s:ye) (us:List yb),K.In s.heap->(us++ds).length=ps.length->BindsTo s fd ⟨us,[]⟩ (ps.zip (us++ds))
theorem ZA.all{K:yh}{fd:yQ}{ps:List Str}(h:∀us:List yb,us.length=ps.length->bindArgs fd ⟨us,[]⟩=pure (ps.zip us)):ZA K fd ps []:=λs us _ hl=>by
 rw[jO] at hl ⊢;exact .of_eq (h us hl)
def zbI(CX:CXT)(X:Cx)(E:XK):Prop:=∀(pins:List (yc × Obj)) (σ:St) (H:Hp) (s:ye) (e:yb) (s':ye),Inv X pins σ H s->CX X.stack H s E e s'->X.xe e s'
section
variable {X:Cx}{CX:CXT}{k:Nat}{f C:yc}{fd:yQ}{ps:List Str}{sp:Sp}{dvs:List V}{ds:List yb}{E:XK}{x m:Str}{p pos apos:Pos}{e o:yj}{es:List yj}{ta:TE}{t:TA}
theorem run_fn{pins:List (yc × Obj)}{σ:St}{H:Hp}{s:ye}{Q:VK}{us:List yb}{vs:List V}(F:FnOk X.prog X.w X.K X.mg X.base CX k f fd ps sp)(hr:Room k X.A)(hb:ZA X.K fd ps ds)(hd:Vals dvs ds)(hx:zbI CX X E)
  (I:Inv X pins σ H s) (r:Vals vs us) (h:sp (vs++dvs) H Q E):yi (yk X.prog X.w) X.A (call (.ref f) us) (EP X pins σ Q) X.xe s:=by
 have r2:Vals (vs++dvs) (us++ds):=r.append hd;have hl:(us++ds).length=ps.length:=by rw[<- r2.length];exact F.len _ _ _ _ h
 refine wpAny_call (codeAny_mono (F.run X.A X.stack s H ⟨us,[]⟩ (us++ds) (vs++dvs) Q E hr I.env0 (hb s us I.kIn hl) r2 h) λr s' hq=>?_)
 cases r with
 | error e=>exact hx pins σ H s e s' I hq
 | ok fl=>
  cases fl with
  | ret u=>exact I.after hq
  | next=>exact False.elim hq
  | brk=>exact False.elim hq
  | cont=>exact False.elim hq
theorem ziS(F:FnOk X.prog X.w X.K X.mg X.base CX k f fd ps sp)(hr:Room k X.A)(hg:Gl X x)(hm:X.mg x=some (.ref f))(hk:yr X.K (.ref f)=true)(hb:ZA X.K fd ps ds)(hd:Vals dvs ds)(hx:zbI CX X E)
  (ha:PA X (e::es) t) (hdb:(x == ("__debug__" : Str))=false:=by decide) (he:yp (e::es) X.env=(false,yz e X.env)::yp es X.env:=by rfl) (hpl:(backTo pos (yp es X.env)).any (·.1)=false:=by rfl) :
  PE X (.Call (.Name x p) (e::es) [] pos) (tCall sp dvs E t):=by
 intro pins s σ H Q I h;refine qY (zfI I hg hm ?_ hdb);refine PySem.W.callWith_K (h₀:=X.base) I.ok.mod.kin hk (thn (ha pos pins s σ H _ I h) λus s1 ⟨vs,H1,I1,r,q⟩=>⟨I1.kIn,?_⟩) he hpl
 exact run_fn F hr hb hd hx I1 r q
structure Mk(K:yh)(C f:yc):Prop where
 makes:yb7 K C=true
 init:jB K (.ref C) "__init__" = some (some (.ref f))
 fn:PySem.W.isFn K (.ref f)=true
 kp:yr K (.ref C)=true
theorem run_make{pins:List (yc × Obj)}{σ:St}{H:Hp}{s:ye}{Q:VK}{us:List yb}{vs:List V}(M:Mk X.K C f)(F:FnOk X.prog X.w X.K X.mg X.base CX k f fd ps sp)(hr:Room (k+1) X.A)(hb:ZA X.K fd ps ds)(hd:Vals dvs ds)
  (hx:zbI CX X E) (I:Inv X pins σ H s) (r:Vals vs us)
  (h:∀x dx,H x=none->H dx=none->dx ≠ x->sp (.ref x::(vs++dvs)) (upd (upd H dx (.own x)) x (.ins C dx [])) (λv H2=>v=.non/\Q (.ref x) H2) E) :
  yi (yk X.prog X.w) X.A (call (.ref C) us) (EP X pins σ Q) X.xe s:=by
 have hq:=h (s.heap.objs.size+1) s.heap.objs.size (I.hok.fresh (yao _)) (I.hok.fresh (yq _)) (yW (yae _));have I2:=Inv.made (C:=C) I;have r2:Vals (V.ref (s.heap.objs.size+1)::(vs++dvs)) (yb.ref (s.heap.objs.size+1)::(us++ds)):=.cons rfl (r.append hd);have hl:(yb.ref (s.heap.objs.size+1)::us++ds).length=ps.length:=by
  have e:=r2.length;rw[F.len _ _ _ _ hq] at e;exact e.symm
 refine wpAny_call (make_map (f:=f) I.kIn M.makes M.init (beq_iff_eq.mp M.fn) (codeAny_mono (F.run _ X.stack _ _ ⟨yb.ref (s.heap.objs.size+1)::us,[]⟩ (yb.ref (s.heap.objs.size+1)::(us++ds)) _ _ E (hr.make C us [])
  (I2.env0.make C us []) (hb _ (yb.ref (s.heap.objs.size+1)::us) I2.kIn hl) r2 hq) λr s' hq'=>?_))
 cases r with
 | error e=>exact hx pins σ _ _ e s' I2 hq'
 | ok fl=>
  cases fl with
  | ret u=>
   obtain⟨v,H',I3,rv,ev,q3⟩:=I2.after hq';subst ev;exact⟨rv,⟨V.ref (s.heap.objs.size+1),H',I3,rfl,q3⟩⟩
  | next=>exact False.elim hq'
  | brk=>exact False.elim hq'
  | cont=>exact False.elim hq'
theorem pe_make(M:Mk X.K C f)(F:FnOk X.prog X.w X.K X.mg X.base CX k f fd ps sp)(hr:Room (k+1) X.A)(hg:Gl X x)(hm:X.mg x=some (.ref C))(hb:ZA X.K fd ps ds)(hd:Vals dvs ds)(hx:zbI CX X E)
  (ha:PA X (e::es) t) (hdb:(x == ("__debug__" : Str))=false:=by decide) (he:yp (e::es) X.env=(false,yz e X.env)::yp es X.env:=by rfl) (hpl:(backTo pos (yp es X.env)).any (·.1)=false:=by rfl) :
  PE X (.Call (.Name x p) (e::es) [] pos) (tMake C sp dvs E t):=by
 intro pins s σ H Q I h;refine qY (zfI I hg hm ?_ hdb);refine PySem.W.callWith_K (h₀:=X.base) I.ok.mod.kin M.kp (thn (ha pos pins s σ H _ I h) λus s1 ⟨vs,H1,I1,r,q⟩=>⟨I1.kIn,?_⟩) he hpl
 exact run_make M F hr hb hd hx I1 r q
end
def PK(X:Cx)(kws:List Keyword)(t:TA):Prop:=
 ∀(pos:Pos) (pins:List (yc × Obj)) (s:ye) (σ:St) (H:Hp) (Q:List V->Hp->Prop),Inv X pins σ H s->t σ H Q->yi (yk X.prog X.w) X.A (evalAll ((backToKw pos (keywordEach kws X.env)).map (·.2))) (AP X pins σ Q) X.xe s
section
variable {X:Cx}{CX:CXT}{k:Nat}{f C:yc}{fd:yQ}{ps ks:List Str}{sp:Sp}{E:XK}{x m:Str}{p pos apos kpos:Pos}{e o:yj}{es:List yj}{kws:List Keyword}{te ta:TE}{t tk:TA}{nm:Option Str}
theorem pk_nil:PK X [] tNil:=λ_ _ _ _ H Q I h=>wpAny_evalAll_nil ⟨[],H,I,.nil,h⟩
theorem ziO(ha:PE X e te)(hr:PK X kws t):PK X (⟨nm,e,kpos⟩::kws) (zh6 te t):=by
 intro pos pins s σ H Q I h;show yi _ _ (evalAll ((do let v <- yz e X.env;standAt pos;pure v)::(backToKw pos (keywordEach kws X.env)).map (·.2))) _ _ s
 refine wpAny_evalAll_cons (yf (thn (ha pins s σ H _ I h) λu s1 ⟨x,H1,I1,r1,q1⟩=>yf (wpAny_standAt (yt ?_))))
 exact thn (hr pos pins s1 σ H1 _ I1 q1) λus s2 ⟨xs,H2,I2,r2,q2⟩=>⟨x::xs,H2,I2,.cons r1 r2,q2⟩
variable {g:List yb->List yb->List yb}{gV:List V->List V->List V}
end
structure FnScope(N P:List Str)(sc:yJ):Prop where
 kind:sc.kind=.function
 co:sc.isCoroutine=false
 gen:sc.isGenerator=false
 nd:N.Nodup
 pre:N.take P.length=P
 par:∀x ∈ P,sc.names.lookup x=some .local\/sc.names.lookup x=some .cell
 nofree:∀y ∈ sc.names,y.2 ≠ .free
theorem zeW{kindOf:Str->Option yZ}{x:Str}:∀{binds:List (Str × yb)}{m:Str->Option yb},(∀v,(x,v) ∉ binds)->bindL kindOf binds m x=m x
 | [],_,_=>rfl
 | (n,v)::r,m,h=>by
  unfold bindL;rw[zeW λw hw=>h w (yR _ hw)]
  split
  ·have:x ≠ n:=by rintro rfl;exact h v yP
   simp[this]
  ·rfl
theorem zeY{kindOf:Str->Option yZ}{x:Str}:∀{binds:List (Str × yb)}{m:Str->Option yb},(∀v,(x,v) ∉ binds)->bindC kindOf binds m x=m x
 | [],_,_=>rfl
 | (n,v)::r,m,h=>by
  unfold bindC;rw[zeY λw hw=>h w (yR _ hw)]
  split
  ·rfl
  ·have:x ≠ n:=by rintro rfl;exact h v yP
   simp[this]
theorem zeX{kindOf:Str->Option yZ}{x:Str}{v:yb}:∀{P:List Str}{vs:List yb}{i:Nat}{m:Str->Option yb},P.Nodup->P[i]? = some x->vs[i]? = some v->kindOf x=some .local ->
  bindL kindOf (P.zip vs) m x=some v
 | [],_,_,_,_,h,_,_=>by simp at h
 | _::_,[],_,_,_,_,h,_=>by simp at h
 | p::P,w::vs,0,m,nd,h1,h2,hk=>by
  simp at h1 h2;subst h1;subst h2;show bindL kindOf ((p,w)::P.zip vs) m p=_;unfold bindL;rw[zeW λv hv=>(yah.mp nd).1 (jW hv).1,if_pos hk]
  simp
 | p::P,w::vs,i+1,m,nd,h1,h2,hk=>by
  show bindL kindOf ((p,w)::P.zip vs) m x=_;unfold bindL;exact zeX (i:=i) (yah.mp nd).2 (by simpa using h1) (by simpa using h2) hk
theorem zeZ{kindOf:Str->Option yZ}{x:Str}{v:yb}:∀{P:List Str}{vs:List yb}{i:Nat}{m:Str->Option yb},P.Nodup->P[i]? = some x->vs[i]? = some v->kindOf x ≠ some .local ->
  bindC kindOf (P.zip vs) m x=some v
 | [],_,_,_,_,h,_,_=>by simp at h
 | _::_,[],_,_,_,_,h,_=>by simp at h
 | p::P,w::vs,0,m,nd,h1,h2,hk=>by
  simp at h1 h2;subst h1;subst h2;show bindC kindOf ((p,w)::P.zip vs) m p=_;unfold bindC;rw[zeY λv hv=>(yah.mp nd).1 (jW hv).1,if_neg hk]
  simp
 | p::P,w::vs,i+1,m,nd,h1,h2,hk=>by
  show bindC kindOf ((p,w)::P.zip vs) m x=_;unfold bindC;exact zeZ (i:=i) (yah.mp nd).2 (by simpa using h1) (by simpa using h2) hk
def start(N:List Str)(vs:List V):St:=vs.map some++y0 (N.length - vs.length) none
def cxOf(CX:CXT)(P:y6)(w:y3)(K:yh)(mg:Str->Option yb)(base:yd)(N:List Str)(qual:Str)(scope:yJ)(f:yc)(cd:yb)(A:yB)(outer:List Env)(s:ye)(H:Hp)(E:XK):Cx where
 prog:=P
 w:=w
 K:=K
 mg:=mg
 base:=base
 A:=A.deeper (envOfC qual scope s.heap.objs.size f cd)
 N:=N
 s₀:=s
 H₀:=H
 env:=envOfC qual scope s.heap.objs.size f cd
 outer:=outer
 stack:=envOfC qual scope s.heap.objs.size f cd::outer
 ex:=[]
 calm:=true
 fn:=λ_=>true
 pn:=[]
 xe:=λe s'=>yi (yk P w) (A.deeper (envOfC qual scope s.heap.objs.size f cd)) (leaving (envOfC qual scope s.heap.objs.size f cd) e) (λ_ s''=>CX outer H s E e s'') (λe' s''=>CX outer H s E e' s'') s'
theorem zg4{sc:yJ}{n:Nat}{x:Str}(h:sc.names.lookup x=some .cell):∃c,(cellsFrom n sc.names []).lookup x=some c:=by
 have q:=ycu sc.names n [] (.inl h);exact Option.isSome_iff_exists.mp q
theorem zjA{CX:CXT}{P:y6}{w:y3}{K:yh}{mg:Str->Option yb}{base:yd}{N ps:List Str}{qual:Str}{scope:yJ}{f:yc}{cd:yb}{A:yB}{outer:List Env}{s s1:ye}{H:Hp}{E:XK}{us:List yb}{vs:List V}
  (S:FnScope N ps scope) (hd:A.handled=none) (e0:Env0 P w K mg base A outer s H) (hl:vs.length=ps.length) (r:Vals vs us)
  (x:InCallC s s.heap.objs.size (bindL (envOfC qual scope s.heap.objs.size f cd).kindOf (ps.zip us) λ_=>none) (cellsFrom (s.heap.objs.size+1) scope.names []) (bindC (envOfC qual scope s.heap.objs.size f cd).kindOf (ps.zip us) λ_=>none) s1) :
  Inv (cxOf CX P w K mg base N qual scope f cd A outer s H E) [] (start N vs) H s1:=by
 have hpl:ps.length<=N.length:=by have:=congrArg List.length S.pre;rw[yaf] at this;omega
 obtain⟨h1,tk,rfl,hk⟩:=x.done;have noA:∀b:yc,b ∉ (cxOf CX P w K mg base N qual scope f cd A outer s H E).ex:=λb z=>absurd (show b ∈ ([]:List yc) from z) (by simp)
 refine⟨⟨e0.mod,S.kind,rfl,rfl,yq _,λy z c h1 h2=>?_,λy hy=>?_,λy c _ h=>?_,λ_=>hd,yB.frames_deeper e0.frames,.inr ⟨rfl,rfl⟩,λb z=>absurd z (noA b),e0.bs,e0.bsz,λb _ _=>noA b,λb z=>absurd z (noA b),e0.funs,e0.frf⟩,
  rfl,e0.bare,Un.kept hk,⟨_,x.toInCall.ns,λi y v h1 h2 h3=>?_⟩,λy c h=>⟨_,x.cell y c h⟩,e0.hok.fresh (yq _),λy c h=>?_,λp hp=>absurd (show p ∈ ([]:List (yc × Obj)) from hp) (by simp),e0.hok.kept hk,?_⟩
 ·exact name_of_addr x.apart (PySem.mem_of_lookup h1) (PySem.mem_of_lookup h2)
 ·have hy:scope.names.lookup y=some .cell\/scope.names.lookup y=some .free:=hy;rcases hy with hy | hy
  ·exact zg4 hy
  ·exact absurd rfl (S.nofree _ (PySem.mem_of_lookup hy))
 ·exact jD (x.above y c (PySem.mem_of_lookup h))
 ·have hi:i < vs.length:=by
   unfold start at h2;by_cases hi:i < vs.length
   ·exact hi
   ·rw[j6 (by simpa using hi)] at h2
    rw[ql] at h2;split at h2 <;> cases h2
  have ha:vs[i]? = some v:=by
   unfold start at h2;rw[jH (by simpa using hi),jc] at h2
   cases e:vs[i]? with
   | none=>rw[e] at h2;cases h2
   | some a=>rw[e] at h2;cases h2;rfl
  obtain⟨u,hu,rv⟩:=r.get ha;have hp:ps[i]? = some y:=by
   rw[<- S.pre,List.getElem?_take_of_lt (by omega)];exact h1
  have ndP:ps.Nodup:=by rw[<- S.pre];exact S.nd.sublist (List.take_sublist _ _)
  refine⟨u,rv,?_⟩;rcases S.par y (yav hp) with k | k
  ·exact .inl ⟨k,zeX ndP hp hu k⟩
  ·obtain⟨c,e⟩:=zg4 (n:=s.heap.objs.size+1) k;refine .inr ⟨.inl k,c,e,?_⟩;have q:=x.cell y c e;rw[zeZ ndP hp hu (by show scope.names.lookup y ≠ _;rw[k];decide)] at q
   exact q
 ·exact e0.hok.fresh (jD (x.above y c (PySem.mem_of_lookup h)))
 ·unfold start;show _=N.length;rw[qc,jm,List.length_replicate];omega
theorem fn_of{CX:CXT}{P:y6}{w:y3}{K:yh}{mg:Str->Option yb}{base:yd}{k:Nat}{f:yc}{name qual:Str}{params:Arguments}{body:List ym}{scope:yJ}{dV kV doc pm cdv ct oc:yb}{an od:Option yc}
  {osl:Array (Option yb)}{N ps:List Str}{sp:Sp}(lk:K.lookup f=some ⟨oc,od,.func (yu name qual params body scope dV kV doc pm an cdv ct),osl⟩) (hcd:yx K cdv qual=true) (S:FnScope N ps scope)
  (len:∀vs H Q E,sp vs H Q E->vs.length=ps.length)
  (hbody:∀(A:yB) (outer:List Env) (s:ye) (H:Hp) (vs:List V) (Q:VK) (E:XK),Room k (A.deeper (envOfC qual scope s.heap.objs.size f cdv))->sp vs H Q E ->
   ∃t,PSs (cxOf CX P w K mg base N qual scope f cdv A outer s H E) body t/\t { nx:=λ_ H'=>Q .non H',rt:=Q } (start N vs) H) :
  FnOk P w K mg base CX (k+1) f (yu name qual params body scope dV kV doc pm an cdv ct) ps sp:=by
 refine⟨len,λA outer s H args us vs Q E hr e0 hb r hsp=>?_⟩
 have hl:=len _ _ _ _ hsp;have KX:K.In s.heap:=e0.mod.kin.keeps λb o e=>(e0.bs b o e).1
 have lim:s.heap.NoLimit:=e0.mod.nolimit.keeps λb o e=>(e0.bs b o e).1
 have hkind:∀y ∈ ps.zip us,scope.names.lookup y.1=some .local\/(scope.names.lookup y.1=some .cell/\((cellsFrom (s.heap.objs.size+1) scope.names []).lookup y.1).isSome=true):=λ⟨n,v⟩ hy=>by
  rcases S.par n (jW hy).1 with q | q
  ·exact .inl q
  ·exact .inr ⟨q,ycu _ _ _ (.inl q)⟩
 refine codeAny_call_function hr.depth (KX _ _ lk) rfl S.co S.gen rfl (PySem.W.codeRec_of KX hcd) (hb _ _ _ _ ?_);refine wpAny_newFunctionEnv_cells S.kind hkind λenv he s1 x=>?_
 subst he;refine⟨lim.keeps x.toInCall.keep,codeAny_func ?_⟩;obtain⟨t,ht,hq⟩:=hbody A outer s H vs Q E (hr.deeper _) hsp;have I:Inv (cxOf CX P w K mg base N qual scope f cdv A outer s H E) [] (start N vs) H s1:=zjA S hr.hd e0 hl r x;refine yO (ht [] s1 (start N vs) H _ I hq) (λfl s' hs=>?_) λe s' hs=>hs
 have fin:∀{σ':St}{H':Hp}{v:V}{u:yb},Inv (cxOf CX P w K mg base N qual scope f cdv A outer s H E) [] σ' H' s'->RelV v u->Q v H'->CE outer P w H s Q u s':=
  λ{σ' H' v u} J rv q=>⟨v,H',J.os,J.bare,J.base,J.hok,rv,q⟩
 cases fl with
 | ret u=>
  obtain⟨v,σ',H',J,rv,q⟩:=hs;exact fin J rv q
 | next=>
  obtain⟨σ',H',J,q⟩:=hs;exact fin (v:=V.non) (u:=yb.none) J rfl q
 | brk=>
  obtain⟨_,_,_,q⟩:=hs;exact False.elim q
 | cont=>
  obtain⟨_,_,_,q⟩:=hs;exact False.elim q
section
variable {X:Cx}{x:Str}{p pos:Pos}{e:yj}{es:List yj}{t:TA}{id T:String}{r:List V->Hp->VK->Prop}
def tCB(r:List V->Hp->VK->Prop)(t:TA):TE:=λσ H Q=>t σ H λvs H1=>r vs H1 Q
theorem QL(hc:zbJ X (.builtin id) r)(hg:Gl X x)(hm:X.mg x=none)(hv:yK x=some (.builtin id))(ha:PA X (e::es) t)(hn:x ≠ "__name__":=by decide)(hdb:(x == ("__debug__" : Str))=false:=by decide)
  (he:yp (e::es) X.env=(false,yz e X.env)::yp es X.env:=by rfl) (hpl:(backTo pos (yp es X.env)).any (·.1)=false:=by rfl):PE X (.Call (.Name x p) (e::es) [] pos) (tCB r t):=by
 intro pins s σ H Q I h;refine qY (zcn I hg hm hv ?_ hn hdb);exact PyProof.Rows.callWith_builtin1 (thn (ha pos pins s σ H _ I h) λus s1 ⟨vs,H1,I1,r1,q1⟩=>hc pins s1 σ H1 vs us Q I1 r1 q1) he hpl
theorem Vw(hc:zbJ X (.type T) r)(hg:Gl X x)(hm:X.mg x=none)(hv:yK x=some (.type T))(ha:PA X (e::es) t)(hn:x ≠ "__name__":=by decide)(hdb:(x == ("__debug__" : Str))=false:=by decide)
  (he:yp (e::es) X.env=(false,yz e X.env)::yp es X.env:=by rfl) (hpl:(backTo pos (yp es X.env)).any (·.1)=false:=by rfl):PE X (.Call (.Name x p) (e::es) [] pos) (tCB r t):=by
 intro pins s σ H Q I h;refine qY (zcn I hg hm hv ?_ hn hdb);exact PyProof.Rows.callWith_type1 (thn (ha pos pins s σ H _ I h) λus s1 ⟨vs,H1,I1,r1,q1⟩=>hc pins s1 σ H1 vs us Q I1 r1 q1) he hpl
end
end L2
namespace HT
open PySem PyProof.Rows
def zhy:List Int->List Int->Bool
 | [],[]=>false
 | [],_::_=>true
 | _::_,[]=>false
 | x::xs,y::ys=>if x=y then zhy xs ys else decide (x < y)
theorem lexLt_cons(x y:Int)(xs ys:List Int):zhy (x::xs) (y::ys)=if x=y then zhy xs ys else decide (x < y):=rfl
theorem lexLt_nil_nil:zhy [] []=false:=rfl
theorem lexLt_nil_cons(y:Int)(ys:List Int):zhy [] (y::ys)=true:=rfl
theorem lexLt_cons_nil(x:Int)(xs:List Int):zhy (x::xs) []=false:=rfl
section
open PySem.SeqAt
open PySem.AutoSeq1 (wpAny_loadPart')
open PySem.MeetsSeq PySem.MeetsSeq2 PySem.MeetsSeq3
end
section
variable {prog:y6}{w:y3}{A:yB}{E:yb->ye->Prop}{s:ye}
theorem cat_tup{t b:yc}{vs ws:List yb}{Q:yb->ye->Prop}(ht:IsTup s.heap t vs.toArray)(hb:IsTup s.heap b ws.toArray)(hv:vs ≠ [])
  (h1:ws=[]->Q (.ref t) s) (h2:ws ≠ []->Q (.ref s.heap.objs.size) { s with heap:=s.heap.push { cls:=.type "tuple",data:=.seq (vs++ws).toArray } })
  (hsz:vs.length+ws.length<=y7):yi (yk prog w) A (je .Add (.ref t) (.ref b)) Q E s:=by
 obtain⟨⟨cls,dd,data,sl⟩,ho,hc,n,hd⟩:=id ht;obtain⟨⟨cls2,dd2,data2,sl2⟩,ho2,hc2,n2,hd2⟩:=id hb;simp only at hc hd hc2 hd2;subst hc hd hc2 hd2;have e:vs.toArray++ws.toArray=(vs++ws).toArray:=by simp
 by_cases hw:ws=[]
 ·exact concat_meets ⟨_,ho,rfl⟩ ⟨_,ho2,rfl⟩ noFill_tuple_add seq_tuple_add ybk ybj (ybi _ _)
   (tuple_addW1 t b vs.toArray ws.toArray n n2 dd dd2 sl sl2 (by simpa using hv) (by simp[hw])) ⟨ho,ho2,h1 hw⟩
 ·refine concat_meets ⟨_,ho,rfl⟩ ⟨_,ho2,rfl⟩ noFill_tuple_add seq_tuple_add ybk ybj (ybi _ _)
   (tuple_addW2 t b vs.toArray ws.toArray n n2 dd dd2 sl sl2 (by simpa using hv) (by simpa using hw) (by rw[yL,yL];exact hsz)) ⟨ho,ho2,?_⟩
  rw[e];exact h2 hw
def sIx(n d:Nat):Option Int->Nat
 | none=>d
 | some v=>if v < 0 then(v+(n:Int)).toNat else min v.toNat n
theorem sIx_none(n d:Nat):sIx n d none=d:=rfl
theorem sIx_le(n d:Nat)(hd:d<=n)(o:Option Int):sIx n d o<=n:=by
 cases o with
 | none=>exact hd
 | some v=>
  show(if v < 0 then(v+(n:Int)).toNat else min v.toNat n)<=n
  by_cases hv:v < 0
  ·rw[if_pos hv];omega
  ·rw[if_neg hv];exact Nat.min_le_right _ _
theorem zki(v:Int)(n d:Nat):(if v < 0 then max (v+(n:Int)) 0 else min v (n:Int))=((sIx n d (some v):Nat):Int):=by
 show(if v < 0 then max (v+(n:Int)) 0 else min v (n:Int))=(((if v < 0 then(v+(n:Int)).toNat else min v.toNat n):Nat):Int)
 by_cases hv:v < 0
 ·simp only[if_pos hv];omega
 ·simp only[if_neg hv];omega
theorem zhV(lo hi:Option Int)(n:Nat):y9.Slice.sliceAdjust lo hi 1 (n:Int)=(((sIx n 0 lo:Nat):Int),((sIx n n hi:Nat):Int)):=by
 have h1:¬((1:Int) < 0):=by omega
 unfold y9.Slice.sliceAdjust;simp only[h1,if_false];refine Prod.ext ?_ ?_
 ·cases lo with
  | none=>rfl
  | some v=>exact zki v n 0
 ·cases hi with
  | none=>rfl
  | some v=>exact zki v n n
theorem zhm(i j:Nat):y9.Slice.slicePlaces (i:Int) (j:Int) 1=j - i:=by
 unfold y9.Slice.slicePlaces;have h1:(1:Int) > 0:=by omega
 simp only[h1,if_true,Int.ediv_one];split <;> omega
theorem zb9{v:yb}{o:Option Int}{Q:Option Int->ye->Prop}(p:IsPart v o)(h:Q o s):yi (yk prog w) A (y9.Slice.slicePartIndex v) Q E s:=by
 cases p with
 | none=>exact slicePart_none h
 | int i t=>exact slicePart_int h
theorem zag{sl:yc}{vl vu:yb}{lo hi:Option Int}{n:Nat}{Q:Int × Int × Nat->ye->Prop}(hs:s.heap.IsSliceOf sl vl vu .none)(pl:IsPart vl lo)(pu:IsPart vu hi)
  (h:Q (((sIx n 0 lo:Nat):Int),1,sIx n n hi - sIx n 0 lo) s):yi (yk prog w) A (y9.Slice.sliceApplied (.ref sl) (pure (n:Int))) Q E s:=by
 obtain⟨os,hos,hcs,hds⟩:=id hs;unfold y9.Slice.sliceApplied y9.Slice.sliceFields;refine yf (yf (jq hos hds (x:=vl) rfl (yf (jq hos hds (x:=vu) rfl (yf (jq hos hds (x:=.none) rfl (yt ?_)))))));refine yf (slicePart_none ?_);show yi _ _ (if((1:Int) == 0)=true then _ else _) _ _ s
 rw[if_neg (by decide)]
 refine yf (zb9 pl (yf (zb9 pu (yf (yt ?_)))));show yi _ _ (match y9.Slice.sliceAdjust lo hi 1 (n:Int) with | (lo,hi)=>pure (lo,(1:Int),y9.Slice.slicePlaces lo hi 1)) _ _ s
 rw[zhV lo hi n];show yi _ _ (pure (((sIx n 0 lo:Nat):Int),(1:Int),y9.Slice.slicePlaces ((sIx n 0 lo:Nat):Int) ((sIx n n hi:Nat):Int) 1)) _ _ s;rw[zhm];exact yt h
theorem pick_gen(xs:Array yb)(i k:Nat):((yF k).filterMap λ(m:Nat)=>xs[((i:Int)+(m:Int) * 1).toNat]?).toArray=((xs.toList.drop i).take k).toArray:=by
 have e:(λ(m:Nat)=>xs[((i:Int)+(m:Int) * 1).toNat]?)=λm=>xs[i+m]?:=by
  funext m
  have:((i:Int)+(m:Int) * 1).toNat=i+m:=by omega
  rw[this]
 rw[e];have:=pick_run xs i k;rw[List.filterMap_map] at this;have e2:((λx=>xs[x]?) ∘ λx=>i+x)=λm=>xs[i+m]?:=rfl
 rw[e2] at this;rw[this]
theorem getItem_tuple_cut{t sl:yc}{items:Array yb}{vl vu:yb}{lo hi:Option Int}{Q:yb->ye->Prop}(ht:IsTup s.heap t items)(hs:s.heap.IsSliceOf sl vl vu .none)(pl:IsPart vl lo)(pu:IsPart vu hi)
  (hw:¬(sIx items.size 0 lo=0/\sIx items.size items.size hi=items.size))
  (h:Q (.ref s.heap.objs.size) { s with heap:=s.heap.push { cls:=.type "tuple",data:=.seq ((items.toList.drop (sIx items.size 0 lo)).take (sIx items.size items.size hi - sIx items.size 0 lo)).toArray } })
  (hsz:items.size<=y7):yi (yk prog w) A (getItem (.ref t) (.ref sl)) Q E s:=by
 have htake:sizeOk (.seq ((items.toList.drop (sIx items.size 0 lo)).take (sIx items.size items.size hi - sIx items.size 0 lo)).toArray):=by
  show((items.toList.drop (sIx items.size 0 lo)).take (sIx items.size items.size hi - sIx items.size 0 lo)).toArray.size<=y7;rw[yL,yaf,yb2,yab];omega
 have hj:sIx items.size items.size hi<=items.size:=sIx_le _ _ (yq _) hi;obtain⟨os,hos,hcs,hds⟩:=id hs;have hTs:s.TypeIs (.ref sl) "slice":=⟨os,hos,hcs⟩;unfold getItem
 try with_reducible refine jT ?_
 first | refine yf (yt ?_) | skip
 refine yf (wpAny_sequenceKey ht.typeIs (by decide) ?_)
 refine yf (qj (name:=Str.ofString "__getitem__") ht.typeIs PyProof.Rows.slot_tuple_getitem
  (qb PyProof.Rows.slot_tuple_getitem ht.typeIs entry_tuple_getitem ?_ (args_tuple_getitem _ _)))
 show yi _ _ (y9.Tuple.tupleItemsOf (.ref t) >>= _) _ _ s;refine yf (tupleItemsOf_ ht ?_);refine yf (wpAny_typeOf hTs ?_);rw[if_pos (by decide)]
 refine yf (zag hs pl pu ?_);have hno:¬((((sIx items.size 0 lo:Nat):Int) == 0 && (1:Int) == 1 && (sIx items.size items.size hi - sIx items.size 0 lo) == items.size)=true):=by
  intro q;rw[jl,jl] at q;have q1:((sIx items.size 0 lo:Nat):Int)=0:=eq_of_beq q.1.1;have q2:sIx items.size items.size hi - sIx items.size 0 lo=items.size:=eq_of_beq q.2;exact hw ⟨by omega,by omega⟩
 show yi _ _ (if(((sIx items.size 0 lo:Nat):Int) == 0 && (1:Int) == 1 && (sIx items.size items.size hi - sIx items.size 0 lo) == items.size)=true then _ else _) _ _ s
 rw[if_neg hno,pick_gen]
 first
  | exact yf (m:=y9.Tuple.tupleExact _) (jN (yt ⟨_,rfl,yt h⟩) htake)
  | exact yf (m:=y9.Tuple.tupleExact _) (jN (yf (yt (yt ⟨_,rfl,yt h⟩))) htake)
  | exact yf (yf (m:=y9.Tuple.tupleExact _) (jN (yt (yt ⟨_,rfl,yt h⟩)) htake))
  | exact yf (yf (m:=y9.Tuple.tupleExact _) (jN (yt ⟨_,rfl,yt h⟩) htake))
end
end HT
namespace L2
open PySem PySem.Spec PyProof.Rows
abbrev TO:=St->Hp->(Option Int->Hp->Prop)->Prop
def PO(X:Cx)(e:Option yj)(t:TO):Prop:=
 ∀(pins:List (yc × Obj)) (s:ye) (σ:St) (H:Hp) (Q:Option Int->Hp->Prop),Inv X pins σ H s->t σ H Q ->
  yi (yk X.prog X.w) X.A (evalPart e X.env) (λu s'=>∃o H',Inv X pins σ H' s'/\IsPart u o/\Q o H') X.xe s
def tNoPart:TO:=λ_ H Q=>Q none H
def tPart(t:TE):TO:=λσ H Q=>t σ H λx H1=>∃i,x=.int i/\Q (some i) H1
section
variable {X:Cx}{e:yj}{te:TE}{lo hi:Option yj}{tl th:TO}{pos p2:Pos}
theorem po_none:PO X none tNoPart:=by
 intro pins s σ H Q I h;rw[evalPart_none];exact yt ⟨none,H,I,.none,h⟩
theorem po_some(h:PE X e te):PO X (some e) (tPart te):=by
 intro pins s σ H Q I hw;rw[evalPart_some];refine thn (h pins s σ H _ I hw) λu s1 ⟨x,H1,I1,r1,q1⟩=>?_
 obtain⟨i,rfl,q⟩:=q1;obtain⟨t,rfl⟩:=r1;exact⟨some i,H1,I1,.int i t,q⟩
def SlR(X:Cx)(r:V->Option Int->Option Int->Hp->VK->Prop):Prop:=
 ∀(pins:List (yc × Obj)) (s:ye) (σ:St) (H:Hp) (x:V) (v vl vu:yb) (lo hi:Option Int) (sl:yc) (Q:VK),Inv X pins σ H s->RelV x v->s.heap.IsSliceOf sl vl vu .none->IsPart vl lo->IsPart vu hi->r x lo hi H Q ->
  ∃T id,typeLookup (.type T) "__getitem__" = pure (some (.builtin id))/\s.TypeIs v T/\yi (yk X.prog X.w) X.A (getItem v (.ref sl)) (EP X pins σ Q) X.xe s
def tSl(r:V->Option Int->Option Int->Hp->VK->Prop)(te:TE)(tl th:TO):TE:=λσ H Q=>te σ H λx H1=>tl σ H1 λl H2=>th σ H2 λu H3=>r x l u H3 Q
theorem zgi{r:V->Option Int->Option Int->Hp->VK->Prop}(hr:SlR X r)(he:PE X e te)(hl:PO X lo tl)(hu:PO X hi th):PE X (.Subscript e (.Slice lo hi none p2) pos) (tSl r te tl th):=by
 intro pins s σ H Q I h;refine Subscript_ (thn (he pins s σ H _ I h) λv s1 ⟨x,H1,I1,r1,q1⟩=>?_)
 refine wpAny_Slice (thn (hl pins s1 σ H1 _ I1 q1) λvl s2 ⟨l,H2,I2,pl,q2⟩=>thn (hu pins s2 σ H2 _ I2 q2) λvu s3 ⟨u,H3,I3,pu,q3⟩=>?_)
 rw[evalPart_none];refine yt ?_;have I4:Inv X pins σ H3 { s3 with heap:=s3.heap.push { cls:=.type "slice",data:=.fields #[vl,vu,.none] } }:=I3.kept (t':=s3.toks) λb ob q=>yA _ q
 obtain⟨T,id,hT,ht,hg⟩:=hr pins { s3 with heap:=s3.heap.push { cls:=.type "slice",data:=.fields #[vl,vu,.none] } } σ H3 x v vl vu l u s3.heap.objs.size Q I4 r1 (yd.IsSliceOf.new ..) pl pu q3
 show yi (yk X.prog X.w) X.A (subscriptTail e (.Slice lo hi none p2) v (.ref s3.heap.objs.size)) (EP X pins σ Q) X.xe { s3 with heap:=s3.heap.push { cls:=.type "slice",data:=.fields #[vl,vu,.none] } }
 exact tail_any (ops:=[.ref s3.heap.objs.size,v]) ht hT hg (by with_unfolding_all rfl)
def cutV(xs:List V)(lo hi:Option Int):List V:=(xs.drop (HT.sIx xs.length 0 lo)).take (HT.sIx xs.length xs.length hi - HT.sIx xs.length 0 lo)
theorem zbE(xs:List V)(lo hi:Option Int):(cutV xs lo hi).length<=xs.length:=by
 unfold cutV;rw[yaf,yb2];omega
def rSlT(K:yh):V->Option Int->Option Int->Hp->VK->Prop:=λx lo hi H Q=>∃a xs,x=.ref a/\SqT K H a xs /\
 ¬(HT.sIx xs.length 0 lo=0/\HT.sIx xs.length xs.length hi=xs.length)/\∀p,H p=none->Q (.ref p) (upd H p (.tup (cutV xs lo hi)))
theorem sl_tup:SlR X (rSlT X.K):=by
 intro pins s σ H x v vl vu lo hi sl Q I rx hs pl pu h;obtain⟨a,xs,rfl,hx,hw,q⟩:=h;cases rx;obtain⟨its,r,ht,hz⟩:=I.tuple hx;have hlen:its.toArray.size=xs.length:=by rw[yL];exact r.length.symm
 refine⟨"tuple",_,PyProof.Rows.slot_tuple_getitem.lookup,ht.typeIs,?_⟩;refine HT.getItem_tuple_cut ht hs pl pu (by rw[hlen];exact hw) ?_ (by rw[hlen];exact hz)
 rw[hlen];refine⟨.ref s.heap.objs.size,_,I.laid (t':=s.toks) (o:=.tup (cutV xs lo hi)) (λb ob q=>yA _ q) (yq _) ?_,rfl,q _ (I.hok.fresh (yq _))⟩
 exact⟨yE (zbE xs lo hi) hz,_,(r.drop (HT.sIx xs.length 0 lo)).take (HT.sIx xs.length xs.length hi - HT.sIx xs.length 0 lo),IsTup.new _ _⟩
def rCatT(K:yh):R2:=λx y H Q=>∃a b xs ys,x=.ref a/\y=.ref b/\SqT K H a xs/\SqT K H b ys/\xs ≠ []/\xs.length+ys.length<=y7 /\
 (ys=[]->Q (.ref a) H)/\(ys ≠ []->∀p,H p=none->Q (.ref p) (upd H p (.tup (xs++ys))))
theorem Vals.nil_iff{xs:List V}{us:List yb}(r:Vals xs us):us=[] ↔ xs=[]:=by
 cases r with
 | nil=>simp
 | cons _ _=>simp
theorem op_catT:OpR X (je .Add) (rCatT X.K):=by
 intro pins s σ H x y v u Q I rx ry h;obtain⟨a,b,xs,ys,rfl,rfl,ha,hb,hx,hz,q1,q2⟩:=h;cases rx;cases ry;obtain⟨its,r1,p1,_⟩:=I.tuple ha;obtain⟨its2,r2,p2,_⟩:=I.tuple hb;refine HT.cat_tup p1 p2 (λz=>hx (r1.nil_iff.mp z)) (λz=>⟨.ref a,H,I,rfl,q1 (r2.nil_iff.mp z)⟩) (λz=>?_) (by rw[<- r1.length,<- r2.length];exact hz)
 refine⟨.ref s.heap.objs.size,_,I.laid (t':=s.toks) (o:=.tup (xs++ys)) (λb ob q=>yA _ q) (yq _) ?_,rfl,q2 (λw=>z (r2.nil_iff.mpr w)) _ (I.hok.fresh (yq _))⟩
 exact⟨by rw[qc];exact hz,_,r1.append r2,IsTup.new _ _⟩
end
def ixN(n:Nat)(i:Int):Option Nat:=if 0<=i then(if i < n then some i.toNat else none) else if -(n:Int)<=i then some (i+n).toNat else none
def atI{α:Type}(xs:List α)(i:Int):Option α:=(ixN xs.length i).bind λj=>xs[j]?
theorem zjw{n:Nat}{i:Int}{j:Nat}(h:ixN n i=some j):seqIndex? i n=some j/\j < n/\-(n:Int)<=i/\i < n:=by
 unfold ixN at h;by_cases h0:0<=i
 ·rw[if_pos h0] at h;by_cases h1:i < n
  ·rw[if_pos h1] at h;have e:i.toNat=j:=ja.inj h;exact⟨by rw[seqIndex_of h0 h1,e],by omega,by omega,h1⟩
  ·rw[if_neg h1] at h;cases h
 ·rw[if_neg h0] at h;by_cases h1:-(n:Int)<=i
  ·rw[if_pos h1] at h;have e:(i+n).toNat=j:=ja.inj h;exact⟨by rw[seqIndex_neg (by omega) h1,e],by omega,h1,by omega⟩
  ·rw[if_neg h1] at h;cases h
theorem zkr{α:Type}{xs:List α}{i:Int}{v:α}(h:atI xs i=some v):∃j,seqIndex? i xs.length=some j/\xs[j]? = some v/\j < xs.length/\-(xs.length:Int)<=i/\i < xs.length:=by
 unfold atI at h;cases e:ixN xs.length i with
 | none=>rw[e] at h;cases h
 | some j=>
  rw[e] at h;obtain⟨h1,h2,h3,h4⟩:=zjw e;exact⟨j,h1,h,h2,h3,h4⟩
def zkt(b:yj):Prop:=∀o i,subscripted b false o i=operate [o,i] (getItem o i)
def IxR(X:Cx)(r:R2):Prop:=
 ∀(value slice:yj) (pins:List (yc × Obj)) (s:ye) (σ:St) (H:Hp) (x y:V) (v u:yb) (Q:VK),Inv X pins σ H s->RelV x v->RelV y u->r x y H Q ->
  subscripted slice false v u=operate [v,u] (getItem v u)->yi (yk X.prog X.w) X.A (subscriptTail value slice v u) (EP X pins σ Q) X.xe s
def MtR(X:Cx)(id:String)(r:V->List V->Hp->VK->Prop):Prop:=
 ∀(pins:List (yc × Obj)) (s:ye) (σ:St) (H:Hp) (x:V) (xs:List V) (v:yb) (us:List yb) (Q:VK),Inv X pins σ H s->RelV x v->Vals xs us->r x xs H Q ->
  yi (yk X.prog X.w) X.A (call (.builtin id) (v::us)) (EP X pins σ Q) X.xe s
section
variable {X:Cx}{a b:yj}{ta tb:TE}{pos:Pos}
theorem IxR.or{r r':R2}(h:IxR X r)(h':IxR X r'):IxR X (λx y H Q=>r x y H Q\/r' x y H Q):=by
 intro value slice pins s σ H x y v u Q I rx ry q hs;rcases q with q | q
 ·exact h value slice pins s σ H x y v u Q I rx ry q hs
 ·exact h' value slice pins s σ H x y v u Q I rx ry q hs
theorem pe_ix{r:R2}(hr:IxR X r)(ha:PE X a ta)(hb:PE X b tb)(hs:zkt b):PE X (.Subscript a b pos) (tOp r ta tb):=by
 intro pins s σ H Q I h;exact Subscript_ (binT ha hb I h λv u s2 x y H2 I2 rx ry q=>hr a b pins s2 σ H2 x y v u Q I2 rx ry q (hs _ _))
def rIxL(K:yh):R2:=λx y H Q=>∃p xs i v,x=.ref p/\y=.int i/\SqL K H p xs/\atI xs i=some v/\Q v H
def rIxT(K:yh):R2:=λx y H Q=>∃p xs i v,x=.ref p/\y=.int i/\SqT K H p xs/\atI xs i=some v/\Q v H
theorem ix_list:IxR X (rIxL X.K):=by
 intro value slice pins s σ H x y v u Q I rx ry h hs;obtain⟨p,xs,i,z,rfl,rfl,hq,he,q⟩:=h;cases rx;obtain⟨t,rfl⟩:=ry;obtain⟨its,r,pl,hz⟩:=I.list hq;obtain⟨j,h1,h2,h3,h4,h5⟩:=zkr he;obtain⟨w,ew,rw'⟩:=r.get h2;have hl:=r.length;have hn:=zey;have fin:EP X pins σ Q w s:=⟨z,H,I,rw',q⟩;by_cases h0:0<=i
 ·have hj:i.toNat=j:=by
   rw[seqIndex_of h0 h5] at h1;exact ja.inj h1
  exact item_listR pl.isList h0 (by omega) (by rw[hj];simpa using ew) fin hs
 ·have hj:(i+(its.toArray.size:Int)).toNat=j:=by
   rw[seqIndex_neg (by omega) h4] at h1
   rw[yL,<- hl];exact ja.inj h1
  exact subscriptTail_builtinR (x:=w) pl.isList.typeIs slot_list_getitem.lookup
   (wpAny_getItem_list_neg (Q:=λr s'=>r=w/\EP X pins σ Q r s') pl.isList (by omega) (by rw[yL] <;> omega) (by omega) (by rw[hj];simpa using ew) ⟨rfl,fin⟩) hs
theorem ix_tup:IxR X (rIxT X.K):=by
 intro value slice pins s σ H x y v u Q I rx ry h hs;obtain⟨p,xs,i,z,rfl,rfl,hq,he,q⟩:=h;cases rx;obtain⟨t,rfl⟩:=ry;obtain⟨its,r,pl,hz⟩:=I.tuple hq;obtain⟨j,h1,h2,h3,h4,h5⟩:=zkr he;obtain⟨w,ew,rw'⟩:=r.get h2;have hl:=r.length;have hn:=zey;have fin:EP X pins σ Q w s:=⟨z,H,I,rw',q⟩;exact subscriptTail_builtinR (x:=w) pl.typeIs slot_tuple_getitem.lookup
  (getItem_tuple (j:=j) (Q:=λr s'=>r=w/\EP X pins σ Q r s') pl (by omega) (by omega) (by rw[yL,<- hl];exact h1) (by simpa using ew) ⟨rfl,fin⟩) hs
theorem zhv(its:List yb)(n j:Nat)(u:yb):jE (·.setIfInBounds j u) { cls:=.type "list",data:=.seq its.toArray n }={ cls:=.type "list",data:=.seq (its.set j u).toArray n }:=by
 simp[jE]
theorem Inv.lst{pins:List (yc × Obj)}{σ:St}{H:Hp}{s:ye}{p:yc}{xs:List V}(I:Inv X pins σ H s)(h:H p=some (.lst xs)) :
  ∃(its:List yb) (n:Nat),Vals xs its/\s.heap.get? p=some { cls:=.type "list",data:=.seq its.toArray n }/\xs.length<=y7:=by
 obtain⟨z,its,n,r,e⟩:=I.hok p _ h;exact⟨its,n,r,e,z⟩
theorem Inv.lstUpd{pins:List (yc × Obj)}{σ:St}{H:Hp}{s:ye}{p:yc}{xs ys:List V}{its its':List yb}{n n':Nat}{f:Obj->Obj}(I:Inv X pins σ H s)(h:H p=some (.lst xs))
  (ho:s.heap.get? p=some { cls:=.type "list",data:=.seq its.toArray n }) (hf:f { cls:=.type "list",data:=.seq its.toArray n }={ cls:=.type "list",data:=.seq its'.toArray n' }) (r:Vals ys its') (hz:ys.length<=y7) (t:Nat) :
  Inv X pins σ (upd H p (.lst ys)) { s with heap:=s.heap.update p f,toks:=t }:=by
 have e:(s.heap.update p f).get? p=some { cls:=.type "list",data:=.seq its'.toArray n' }:=by
  rw[ybm f ho (by rw[hf] <;> rfl),hf]
 refine I.write (x:=p) (e:=p) (by rw[h];trivial) (.inl rfl) (λb u hb q=>(ycv _ _ (Ne.symm hb)).trans q) ⟨_,e⟩ ?_
 exact⟨hz,its',n',r,e⟩
def rSetL:V->V->V->Hp->(Hp->Prop)->Prop:=λo i v H Q=>∃p xs k j,o=.ref p/\i=.int k/\H p=some (.lst xs)/\ixN xs.length k=some j/\Q (upd H p (.lst (xs.set j v)))
theorem set_list:PSet X rSetL:=by
 intro pins s σ H o i v ov iv u Q I ro ri rv h;obtain⟨p,xs,k,j,rfl,rfl,hp,hj,q⟩:=h;cases ro;obtain⟨t,rfl⟩:=ri;obtain⟨its,n,r,ho,hz⟩:=I.lst hp;obtain⟨h1,h2,h3,h4⟩:=zjw hj;have hl:=r.length;have hn:=zey;have I':Inv X pins σ (upd H p (.lst (xs.set j v))) { s with heap:=s.heap.update p (jE (·.setIfInBounds j u)) }:=
  I.lstUpd hp ho (zhv its n j u) (r.set rv j) (by rw[jP];exact hz) s.toks
 by_cases h0:0<=k
 ·have hk:k.toNat=j:=by
   rw[seqIndex_of h0 h4] at h1;exact ja.inj h1
  exact PySem.W.ki_setAt ho h0 (by omega) (by rw[yL,<- hl];exact h4) (by rw[hk];exact⟨_,I',q⟩)
 ·have hk:(k+(its.toArray.size:Int)).toNat=j:=by
   rw[seqIndex_neg (by omega) h3] at h1
   rw[yL,<- hl];exact ja.inj h1
  exact PySem.W.ki_setBack ho (by omega) (by rw[yL,<- hl];exact h3) (by omega) (by rw[hk];exact⟨_,I',q⟩)
theorem zd7(lo hi:Option Int)(n:Nat):(sliceBounds lo hi none n).1=((HT.sIx n 0 lo:Nat):Int)/\(sliceBounds lo hi none n).2.1=((HT.sIx n n hi:Nat):Int)/\(sliceBounds lo hi none n).2.2=1:=by
 refine⟨?_,?_,rfl⟩
 ·cases lo with
  | none=>simp[sliceBounds,HT.sIx]
  | some i=>
   simp only[sliceBounds,HT.sIx,Option.getD_none,show(1:Int) > 0 by decide,if_true]
   by_cases h:i < 0
   ·simp only[h,if_true] <;> omega
   ·simp only[h,if_false] <;> omega
 ·cases hi with
  | none=>simp[sliceBounds,HT.sIx]
  | some i=>
   simp only[sliceBounds,HT.sIx,Option.getD_none,show(1:Int) > 0 by decide,if_true]
   by_cases h:i < 0
   ·simp only[h,if_true] <;> omega
   ·simp only[h,if_false] <;> omega
theorem zc0(its:List yb)(lo hi:Option Int):slicePick its.toArray lo hi none=((its.drop (HT.sIx its.length 0 lo)).take (HT.sIx its.length its.length hi - HT.sIx its.length 0 lo)).toArray:=by
 obtain⟨h1,h2,h3⟩:=zd7 lo hi its.toArray.size;unfold slicePick;rw[h1,h2,h3];simp only[sliceRange_one,pick_run,yL] <;> rfl
def rSlL(K:yh):V->Option Int->Option Int->Hp->VK->Prop:=λx lo hi H Q=>∃a xs,x=.ref a/\SqL K H a xs/\∀p,H p=none->Q (.ref p) (upd H p (.lst (cutV xs lo hi)))
theorem sl_list:SlR X (rSlL X.K):=by
 intro pins s σ H x v vl vu lo hi sl Q I rx hs pl pu h;obtain⟨a,xs,rfl,hx,q⟩:=h;cases rx;obtain⟨its,r,ht,hz⟩:=I.list hx;have hlen:=r.length;refine⟨"list",_,slot_list_getitem.lookup,ht.isList.typeIs,?_⟩;refine wpAny_getItem_list_slice ht.isList hs pl pu .none (by simp) ?_ (by rw[yL] <;> omega)
 rw[zc0,<- hlen];refine⟨.ref s.heap.objs.size,_,I.laid (t':=s.toks) (o:=.lst (cutV xs lo hi)) (λb ob q=>yA _ q) (yq _) ?_,rfl,q _ (I.hok.fresh (yq _))⟩
 exact⟨yE (zbE xs lo hi) hz,_,0,(r.drop (HT.sIx xs.length 0 lo)).take (HT.sIx xs.length xs.length hi - HT.sIx xs.length 0 lo),yN _ rfl⟩
theorem zeV:zbJ X (.builtin "len") (λxs H Q=>∃p ys,xs=[.ref p]/\(SqL X.K H p ys\/SqT X.K H p ys)/\Q (.int ys.length) H):=by
 intro pins s σ H xs us Q I r h;obtain⟨p,ys,rfl,hq,q⟩:=h;obtain⟨u,rfl,rx⟩:=zd1 r;cases rx;have hn:=zey;rcases hq with hq | hq
 ·obtain⟨its,r',pl,hz⟩:=I.list hq;have hlen:=r'.length;exact Calls.call_len_list pl.isList (by simp only[yL] <;> omega) ⟨.int ys.length,H,I.tok _,⟨s.toks+1,by rw[yL,hlen]⟩,q⟩
 ·obtain⟨its,r',pl,hz⟩:=I.tuple hq;have hlen:=r'.length;exact len_tuple pl (by simp only[yL] <;> omega) ⟨.int ys.length,H,I.tok _,⟨s.toks+1,by rw[yL,hlen]⟩,q⟩
theorem zeU:zbJ X (.type "list") (λxs H Q=>∃p ys,xs=[.ref p]/\(SqL X.K H p ys\/SqT X.K H p ys)/\∀l,H l=none->Q (.ref l) (upd H l (.lst ys))):=by
 intro pins s σ H xs us Q I r h;obtain⟨p,ys,rfl,hq,q⟩:=h;obtain⟨u,rfl,rx⟩:=zd1 r;cases rx;have fin:∀(its:List yb),Vals ys its->ys.length<=y7->∀(h':yd) (c':Nat),(∀b o',s.heap.get? b=some o'->h'.get? b=some o') ->
   h'.get? s.heap.objs.size=some { cls:=.type "list",dict:=none,data:=.seq its.toArray c',slots:=#[] }->EP X pins σ Q (.ref s.heap.objs.size) { s with heap:=h' }:=λits r' hz h' c' kp e=>
  ⟨.ref s.heap.objs.size,_,I.laid (t':=s.toks) kp (yq _) (show X3 X.prog X.w _ h' _ (.lst ys) from⟨hz,its,c',r',e⟩),rfl,q _ (I.hok.fresh (yq _))⟩
 rcases hq with hq | hq
 ·obtain⟨its,r',pl,hz⟩:=I.list hq;have hlen:=r'.length;obtain⟨o,ho,hc,n,hd⟩:=pl.isList;exact call_list_seq p (.inl rfl) ho hc hd (λh' c' kp e=>fin its r' hz h' c' kp e) (by simp only[yL] <;> omega)
 ·obtain⟨its,r',pl,hz⟩:=I.tuple hq;have hlen:=r'.length;obtain⟨o,ho,hc,n,hd⟩:=pl;exact call_list_seq p (.inr rfl) ho hc hd (λh' c' kp e=>fin its r' hz h' c' kp e) (by simp only[yL] <;> omega)
theorem zdV:zbJ X (.type "tuple") (λxs H Q=>∃p ys,xs=[.ref p]/\((SqL X.K H p ys/\∀l,H l=none->Q (.ref l) (upd H l (.tup ys)))\/(SqT X.K H p ys/\Q (.ref p) H))):=by
 intro pins s σ H xs us Q I r h;obtain⟨p,ys,rfl,h⟩:=h;obtain⟨u,rfl,rx⟩:=zd1 r;cases rx;rcases h with ⟨hq,q⟩ | ⟨hq,q⟩
 ·obtain⟨its,r',pl,hz⟩:=I.list hq;have hlen:=r'.length;refine call_tuple_list pl.isList (λh' kp=>?_) (by simp only[yL] <;> omega)
  have I1:Inv X pins σ H { s with heap:=h' }:=I.kept (t':=s.toks) kp
  have I2:Inv X pins σ (upd H h'.objs.size (.tup ys)) { s with heap:=h'.push { cls:=.type "tuple",data:=.seq its.toArray } }:=
   I1.laid (t':=s.toks) (λb o e=>yA _ e) (yq _) (show X3 X.prog X.w _ _ _ (.tup ys) from⟨hz,its,r',IsTup.new _ _⟩)
  exact⟨.ref h'.objs.size,_,I2,rfl,q _ (I1.hok.fresh (yq _))⟩
 ·obtain⟨its,r',pl,hz⟩:=I.tuple hq;exact call_tuple_same pl ⟨.ref p,H,I,rfl,q⟩
def tyV(K:yh)(T:String)(x:V)(H:Hp):Prop:=match x with
 | .str _=>T = "str"
 | .int _=>T = "int"
 | .ref p=>(T = "list" /\ ∃xs,SqL K H p xs)\/(T = "tuple" /\ ∃o,K.lookup p=some o/\o.cls=.type "tuple" /\ o.dict=none) \/
   (T = "dict" /\ ((∃kvs,H p=some (.dK kvs))\/∃kvs,H p=some (.dT kvs)))\/(T = "set" /\ ∃S n,H p=some (.set S n))
 | _=>False
theorem tyV_is{pins:List (yc × Obj)}{σ:St}{H:Hp}{s:ye}{T:String}{x:V}{v:yb}(I:Inv X pins σ H s)(r:RelV x v)(ty:tyV X.K T x H) :
  s.TypeIs v T/\∀a,v=.ref a->∃ob,s.heap.get? a=some ob/\ob.dict=none:=by
 cases x with
 | str z=>
  obtain⟨t,rfl⟩:=r;cases(show T = "str" from ty);exact⟨typeIs_str s z t,λ_ e=>nomatch e⟩
 | int i=>
  obtain⟨t,rfl⟩:=r;cases(show T = "int" from ty);exact⟨typeIs_int s i t,λ_ e=>nomatch e⟩
 | ref p=>
  cases r;rcases ty with ⟨rfl,xs,hq⟩ | ⟨rfl,o,hk,hc,hd⟩ | ⟨rfl,hk⟩ | ⟨rfl,S,n,hk⟩
  ·obtain⟨its,_,pl,_⟩:=I.list hq;refine⟨pl.isList.typeIs,λa e=>?_⟩
   cases e;obtain⟨o,n,e,c,hd,_⟩:=pl;exact⟨o,e,hd⟩
  ·refine⟨⟨o,I.kIn p o hk,hc⟩,λa e=>?_⟩
   cases e;exact⟨o,I.kIn _ o hk,hd⟩
  ·have z:∃o,s.heap.get? p=some o/\o.ExactDict:=by
    rcases hk with ⟨kvs,hk⟩ | ⟨kvs,hk⟩
    ·obtain⟨_,_,_,_,o,_,_,e,ex,_⟩:=I.hok p _ hk;exact⟨o,e,ex⟩
    ·obtain⟨_,_,_,_,o,_,_,e,ex,_⟩:=I.hok p _ hk;exact⟨o,e,ex⟩
   obtain⟨o,e,ex⟩:=z;refine⟨⟨o,e,ex.1⟩,λa e2=>?_⟩
   cases e2;exact⟨o,e,ex.2.1⟩
  ·obtain⟨o,_,_,_,e,ex,_⟩:=I.hok p _ hk;refine⟨⟨o,e,ex.1⟩,λa e2=>?_⟩
   cases e2;exact⟨o,e,ex.2.1⟩
 | _=>exact False.elim ty
def tBM(K:yh)(T:String)(r:V->List V->Hp->VK->Prop)(to:TE)(t:TA):TE:=λσ H Q=>to σ H λx H1=>tyV K T x H1/\t σ H1 λxs H2=>r x xs H2 Q
variable {o e:yj}{es:List yj}{to:TE}{t:TA}{name:Str}{apos cpos:Pos}{T id:String}{r:V->List V->Hp->VK->Prop}
theorem pe_bm(pa:PlainAttrs T)(slot:Slot T name id)(hty:typeOf (.builtin id)=pure (.type "method_descriptor"))(hm:MtR X id r)(ho:PE X o to)(ha:PA X (e::es) t)
  (hbase:attributeBase o name X.env (yz o X.env)=yz o X.env:=by rfl)
  (hfew:((backTo cpos (yp (e::es) X.env)).all (λx=>!x.1) && (backToKw cpos (keywordEach [] X.env)).all (λx=>x.1.isSome)
   && decide ((e::es).length+([]:List Keyword).length+(if([]:List Keyword).isEmpty then 0 else 1) < 30))=true:=by rfl)
  (hline:(apos.endLine == cpos.line)=true:=by rfl) (hs:yp (e::es) X.env=(false,yz e X.env)::yp es X.env:=by rfl) (hplain:(backTo cpos (yp es X.env)).any (·.1)=false:=by rfl) :
  PE X (.Call (.Attribute o name apos) (e::es) [] cpos) (tBM X.K T r to t):=by
 intro pins s σ H Q I h;refine wpAny_Call_method_late hbase hfew hline rfl (thn (ho pins s σ H _ I h) λv s1 ⟨x,H1,I1,r1,ty,q1⟩=>?_)
 obtain⟨h1,h2⟩:=tyV_is I1 r1 ty;refine⟨T,id,pa,slot,hty,h1,h2,?_⟩;have hA:=ha cpos pins s1 σ H1 _ I1 q1;rw[hs] at hA ⊢;refine Calls.callWith_builtin (by show(false || (backTo cpos (yp es X.env)).any (·.1))=false;rw[hplain] <;> rfl) (Calls.evalArgs_plain ?_)
 exact thn hA λus s2 ⟨vs,H2,I2,r2,q2⟩=>hm pins s2 σ H2 x vs v us Q I2 r1 r2 q2
end
def MtM(X:Cx)(id:String)(r:V->List V->Hp->VK->Prop):Prop:=
 ∀(pins:List (yc × Obj)) (s:ye) (σ:St) (H:Hp) (x:V) (xs:List V) (v:yb) (us:List yb) (Q:VK),Inv X pins σ H s->RelV x v->Vals xs us->r x xs H Q ->
  yi (yk X.prog X.w) X.A (call (.builtin id) (v::us)) (EP X pins σ Q) X.xe s
theorem Vals.one:∀{x:V}{us:List yb},Vals [x] us->∃u,us=[u]/\RelV x u
 | _,_,.cons r .nil=>⟨_,rfl,r⟩
theorem Vals.rep{xs:List V}{us:List yb}(h:Vals xs us):∀k:Nat,Vals (y0 k xs).flatten (y0 k us).flatten
 | 0=>.nil
 | k+1=>by
  rw[jU,jU,qr,qr];exact Vals.append h (Vals.rep h k)
theorem zeE(its:List yb):∀(k:Nat) (acc:List yb),
  List.foldl (λx1 x2=>x1++x2) acc.toArray (y0 k its.toArray)=(acc++(y0 k its).flatten).toArray
 | 0,acc=>by simp
 | k+1,acc=>by
  have e:acc.toArray++its.toArray=(acc++its).toArray:=by simp
  have e2:(acc++its)++(y0 k its).flatten=acc++(y0 (k+1) its).flatten:=by
   rw[jU,qr,ya1]
  rw[<- e2,<- zeE its k (acc++its),<- e,jU,List.foldl_cons]
section
variable {X:Cx}{pins:List (yc × Obj)}{σ:St}{H:Hp}{s:ye}{l b:yc}{xs ys zs:List V}
theorem Inv.lset{its its':List yb}{n:Nat}{f:Array yb->Array yb}{t':Nat}(I:Inv X pins σ H s)(hH:H l=some (.lst xs))
  (e:s.heap.get? l=some { cls:=.type "list",data:=.seq its.toArray n }) (hf:f its.toArray=its'.toArray) (hv:Vals ys its') (hz:ys.length<=y7) :
  Inv X pins σ (upd H l (.lst ys)) { s with heap:=s.heap.update l (jE f),toks:=t' }:=by
 have q:=PySem.IsL.update e f;rw[hf] at q;refine I.write (x:=l) (e:=l) (by rw[hH];exact trivial) (.inl rfl) (λb' u hb hu=>(ycv s.heap (jE f) (Ne.symm hb)).trans hu) ⟨_,q⟩ ?_
 exact⟨hz,its',_,hv,q⟩
theorem Inv.lnew{its:List yb}{t':Nat}(I:Inv X pins σ H s)(hv:Vals ys its)(hz:ys.length<=y7) :
  Inv X pins σ (upd H s.heap.objs.size (.lst ys)) { s with heap:=s.heap.push { cls:=.type "list",data:=.seq its.toArray },toks:=t' }:=
 I.laid (λ_ _ q=>yA _ q) (yq _) ⟨hz,its,0,hv,yN _ rfl⟩
theorem Inv.fresh(I:Inv X pins σ H s):H s.heap.objs.size=none:=I.hok.fresh (yq _)
theorem Inv.lstM(I:Inv X pins σ H s)(hH:H l=some (.lst xs)):xs.length<=y7/\∃(its:List yb) (n:Nat),Vals xs its/\xs.length=its.length/\s.heap.get? l=some { cls:=.type "list",data:=.seq its.toArray n }:=by
 obtain⟨z,its,n,r,e⟩:=I.hok l _ hH;exact⟨z,its,n,r,r.length,e⟩
theorem zgl{n:Nat}(h:n<=y7):y9.List.listTooLong n=false:=by
 unfold y9.List.listTooLong;exact decide_eq_false (by omega)
end
section
variable {X:Cx}
def rAppend:V->List V->Hp->VK->Prop:=λx vs H Q=>∃l xs y,x=.ref l/\vs=[y]/\H l=some (.lst xs)/\xs.length < y7/\Q .non (upd H l (.lst (xs++[y])))
theorem zew:MtM X "list.append" rAppend:=by
 intro pins s σ H x vs v us Q I rx rv h;obtain⟨l,xs,y,rfl,rfl,hH,hz,q⟩:=h;cases rx;obtain⟨u,rfl,ru⟩:=rv.one;obtain⟨z,its,n,r,hl,e⟩:=I.lstM hH;refine call_meets F.slot_list_append ⟨_,e,rfl⟩ F.entry_list_append (F.args_list_append_2 _ _) (PySem.list_append l its.toArray n u (by rw[yL];omega)) ⟨e,?_⟩
 refine⟨.non,_,I.lset (its':=its++[u]) hH e (by simp) (r.append (.cons ru .nil)) ?_,rfl,q⟩
 rw[qc,List.length_singleton];omega
def rExtend:V->List V->Hp->VK->Prop:=λx vs H Q=>∃l b xs zs,x=.ref l/\vs=[.ref b]/\H l=some (.lst xs)/\H b=some (.lst zs)/\xs.length+zs.length<=y7/\Q .non (upd H l (.lst (xs++zs)))
theorem zjb:MtM X "list.extend" rExtend:=by
 intro pins s σ H x vs v us Q I rx rv h;obtain⟨l,b,xs,zs,rfl,rfl,hH,hB,hz,q⟩:=h;cases rx;obtain⟨u,rfl,ru⟩:=rv.one;cases ru;obtain⟨z,its,n,r,hl,e⟩:=I.lstM hH;obtain⟨z2,its2,n2,r2,hl2,e2⟩:=I.lstM hB;have hsz:its.toArray.size+its2.toArray.size<=y7:=by rw[yL,yL];omega
 have hlong:¬(!its.toArray.isEmpty && y9.List.listTooLong (its.toArray.size+its2.toArray.size))=true:=by
  rw[zgl hsz,Bool.and_false];exact jz
 refine call_meets F.slot_list_extend ⟨_,e,rfl⟩ F.entry_list_extend (F.args_list_extend_2 _ _)
  (AutoSeq1.list_extend_list_list_0 l its.toArray n b its2.toArray n2 hlong (by rw[yL];omega) (by omega)) ⟨e,e2,?_⟩
 refine⟨.non,_,I.lset (its':=its++its2) hH e (by simp) (r.append r2) ?_,rfl,q⟩
 rw[qc];omega
def rRep:R2:=λx y H Q=>∃l k xs,x=.ref l/\y=.int k/\H l=some (.lst xs)/\-(2 ^ 63)<=k/\k < 2 ^ 63/\xs.length * k.toNat<=y7 /\
 ∀p,H p=none->Q (.ref p) (upd H p (.lst (y0 k.toNat xs).flatten))
theorem len_rep{α:Type}(xs:List α)(k:Nat):(y0 k xs).flatten.length=k * xs.length:=by
 induction k with
 | zero=>simp
 | succ k ih=>rw[jU,qr,qc,ih,Nat.succ_mul,qz]
theorem op_rep:OpR X (je .Mult) rRep:=by
 intro pins s σ H x y v u Q I rx ry h;obtain⟨l,k,xs,rfl,rfl,hH,h1,h2,hz,q⟩:=h;cases rx;obtain⟨t,rfl⟩:=ry;obtain⟨z,its,n,r,hl,e⟩:=I.lstM hH;have hlen:its.toArray.size * k.toNat<=y7:=by rw[yL,<- hl];exact hz
 have hcap:¬its.toArray.size * k.toNat > (2 ^ 63 - 1) / 8:=by
  have:(y7:Nat)<=(2 ^ 63 - 1) / 8:=by decide
  omega
 have hfit:¬(!y9.List.listFitsIndex k)=true:=by
  rw[fitsIndex_both h1 h2];exact jz
 have hlong:¬y9.List.listTooLong (its.toArray.size * k.toNat)=true:=by
  rw[zgl hlen];exact jz
 have hnew:List.foldl (λx1 x2=>x1++x2) #[] (y0 (if its.toArray.isEmpty=true then 0 else k.toNat) its.toArray)=(y0 k.toNat its).flatten.toArray:=by
  have f0:∀m:Nat,List.foldl (λx1 x2=>x1++x2) #[] (y0 m its.toArray)=(y0 m its).flatten.toArray:=λm=>by
   have:=zeE its m [];rw[qL] at this;exact this
  rw[f0];cases its with
  | nil=>simp
  | cons a r'=>rw[if_neg (by simp)]
 refine wpAny_binaryOp_repeat_ref (T:="list") (U:="int") (by decide) ⟨_,e,rfl⟩ (λs'=>typeIs_int s' k t) noFill_list_mul F.fills_int_mul F.slot_int_rmul repeat_list F.slot_int_index.lookup
  (call_meets F.slot_int_rmul (typeIs_int s k t) F.entry_int_rmul (F.args_int_rmul_2 _ _) (int___rmul___int_list k t l its.toArray n)
   ⟨e,rfl,⟨_,e,rfl⟩,call_meets F.slot_list_mul ⟨_,e,rfl⟩ F.entry_list_mul (F.args_list_mul_2 _ _) (AutoListH.list___mul___list_int_3 l its.toArray n k t hfit hcap hlong) ⟨e,?_⟩⟩)
 rw[hnew];exact⟨.ref _,_,I.lnew (t':=s.toks) (r.rep k.toNat) (by rw[len_rep,Nat.mul_comm];exact hz),rfl,q _ I.fresh⟩
end
section
variable {prog:y6}{w:y3}{A:yB}{E:yb->ye->Prop}{s:ye}
end
section
variable {X:Cx}
end
end L2
namespace Att
open PySem PySem.W PySem.Calls PyProof.Rows
theorem zaZ{P:Params}{h:yd}:∀(ns:List Int) (vs:List yb),WellAll P h vs (ns.map WData.int)->IntsAre vs ns:=by
 intro ns
 induction ns with
 | nil=>
  intro vs w;rw[qQ] at w;cases w;exact .nil
 | cons n ns ih=>
  intro vs w;rw[yH] at w;cases w with
  | cons a b=>
   cases a;exact .cons _ _ (ih _ b)
theorem ziq{l:OpenLaw}{n:Nat}(hn:l.most=some n){P:Params}{h:yd}{args:List WData}{vals:List yb}
  (hpre:l.row.toRowW.claim.pre args=true) (hwl:WellAll P h vals args) :
  ∃a vs ns,vals=[yb.ref a]/\args=[WData.list (ns.map WData.int)]/\h.get? a=some { cls:=.type "list",data:=.seq vs.toArray }/\IntsAre vs ns/\ns.length<=n:=by
 have hsh:WShape.hasAll [] args [.list .int]=true:=(pre_splitW hpre).1;have hc:l.pre.holds [] { args:=args }=true:=(pre_splitW hpre).2;obtain⟨d,r,rfl,h1,h2⟩:=hasAllW_cons hsh;obtain rfl:=hasAllW_nil h2;obtain⟨xs,rfl,h3⟩:=hasW_list h1;obtain⟨ns,rfl⟩:=items_int h3;have hlen:ns.length<=n:=by
  unfold OpenLaw.pre at hc;have h4:(WTm.not (.lt (.lit (.int (n:Int))) (.len (.arg 0)))).holds [] { args:=[.list (ns.map .int)] }=true:=by
   have h4:=(holds_andW hc).1;rw[hn] at h4;exact h4
  have h5:=condW_of h4 (w_not (w_lt w_lit (w_len_list (w_arg rfl))));rw[jm] at h5;refine Nat.le_of_not_lt λq=>?_
  have q':(n:Int) < ((ns.length:Nat):Int):=by omega
  first
   | (rw[decide_eq_true q'] at h5;exact absurd h5 (by decide))
   | (simp at h5;omega)
 cases hwl with
 | cons w1 w2=>
  cases w2;cases w1 with
  | list ho hall=>exact⟨_,_,ns,rfl,rfl,ho,zaZ ns _ hall,hlen⟩
theorem ziN(l:OpenLaw)(args:List WData):l.row.toRowW.claim.post args (.bool true) args=true:=
 postW_of (r:=l.row.toRowW) (X:=(true == true))
  (show WShape.has [] (.bool true) .bool=true by first | rfl | decide | simp[WShape.has,WShape.arms,WShape.armsAll])
  (show(WTm.eq .res (.lit (.bool true))).value [] { args:=args,res:=some (.bool true),after:=args }=some (.bool (true == true)) from w_eq_bool (w_res rfl) w_lit) rfl
theorem attach_call{l:OpenLaw}{n:Nat}{q:y6}{loose:List Str}{XP:(Str->Option yb)->yd->Prop}{YP:y3->yd->Prop}{d:DefRec}
  (hn:l.most=some n) (hdf:d.params.defaults=[])
  (call:∀(w:y3) (s₀ s₁:ye) (mg mb:Str->Option yb) (fa:yc) (o:Obj) (pm cd doc:yb) (a:yc) (vs:List yb) (ns:List Int),
   Ground q loose [] XP w s₀ mg mb s₁.heap->YP w s₁.heap ->
   s₁.heap.get? fa=some o->o.data=.func (docDef d.name d.params d.body d.scope pm cd doc)->s₁.heap.CodeRec cd d.name->mg d.name=some (.ref fa) ->
   s₁.heap.get? a=some { cls:=.type "list",data:=.seq vs.toArray }->IntsAre vs ns->ns.length<=n->s₁.gens=#[] ->
   codeAny (yk l.prog w) callerA (.call (.ref fa) ⟨[.ref a],[]⟩) (λr s'=>r=.ok (.ret (.bool true))/\OldK s₁.heap s'.heap/\s'.os=s₁.os/\AllBare s'.gens) s₁) :
  WalkO q loose XP YP l.row.toRowW d [] (λf vs=>PySem.call f vs):=by
 intro w s₀ s₁ mg mb G Y fa o pm cd doc dV kV ho hd hcd hD hmg hg args vals as hpre hlay hrd hwl hlo;obtain rfl:dV=.none:=Dflts.none hD hdf;obtain rfl:kV=.none:=Dflts.noKw hD;obtain⟨a,vs,ns,rfl,rfl,hobj,hints,hlen⟩:=ziq hn hpre hwl;refine enter_call (codeAny_mono (call w s₀ s₁ mg mb fa o pm cd doc a vs ns G Y ho (fd_plain hd) hcd hmg hobj hints hlen hg) λr s' hq=>?_)
 obtain⟨rfl,h2,h3,h4⟩:=hq;exact⟨.inl ⟨.bool true,.bool true,[],rfl,λ_=>rfl,.bool true,ziN l _,λ_=>⟨List.Pairwise.nil,λ_ hm=>(nomatch hm)⟩⟩,h2,h3,h4⟩
section
variable {prog:y6}{w:y3}{A:yB}{E:yb->ye->Prop}{s:ye}{K:Frag}
end
end Att
namespace L2
open PySem PySem.Spec PyProof.Rows
theorem zd0:∀{vs:List yb}{ns:List Int},IntsAre vs ns->Vals (ns.map V.int) vs
 | _,_,.nil=>.nil
 | _,_,.cons n t h=>.cons ⟨t,rfl⟩ (zd0 h)
def Zm(s:ym):Arguments:=match s with
 | .FunctionDef _ a _ _ _ _ _ _ _ _=>a
 | _=>{ posonlyargs:=[],args:=[],vararg:=none,kwonlyargs:=[],kw_defaults:=[],kwarg:=none,defaults:=[] }
def Zl(s:ym):List ym:=match s with
 | .FunctionDef _ _ b _ _ _ _ _ _ _=>b
 | _=>[]
def Zd(s:ym):yJ:=match s with
 | .FunctionDef _ _ _ _ _ _ sc _ _ _=>sc
 | _=>{ kind:=.function,names:=[],isGenerator:=false,isCoroutine:=false }
abbrev CX0:CXT:=λ_ _ _ _ _ _=>False
abbrev E0:XK:=λ_ _ _=>False
theorem pass0{X:Cx}:zbI CX0 X E0:=λ_ _ _ _ _ _ _ h=>h.elim
structure Fun(K:yh)(x qual:Str)(st:ym)(f:yc)(fd:yQ):Prop where
 ex:∃(oc:yb) (od:Option yc) (kV doc pm:yb) (an:Option yc) (cdv ct:yb) (osl:Array (Option yb)),
  fd=yu x qual (Zm st) (Zl st) (Zd st) .none kV doc pm an cdv ct/\K.lookup f=some ⟨oc,od,.func fd,osl⟩/\yx K cdv qual=true
 kp:yr K (.ref f)=true
section
variable {P:y6}{w:y3}{K:yh}{mg:Str->Option yb}{base:yd}
theorem Fun.ok{x qual:Str}{st:ym}{f:yc}{fd:yQ}{N ps:List Str}{k:Nat}{sp:Sp}(F:Fun K x qual st f fd)(S:FnScope N ps (Zd st))(len:∀vs H Q E,sp vs H Q E->vs.length=ps.length)
  (hbody:∀(cdv:yb) (A:yB) (outer:List Env) (s:ye) (H:Hp) (vs:List V) (Q:VK) (E:XK),Room k (A.deeper (envOfC qual (Zd st) s.heap.objs.size f cdv))->sp vs H Q E ->
   ∃t,PSs (cxOf CX0 P w K mg base N qual (Zd st) f cdv A outer s H E).nox (Zl st) t/\t { nx:=λ_ H'=>Q .non H',rt:=Q } (start N vs) H):FnOk P w K mg base CX0 (k+1) f fd ps sp:=by
 obtain⟨oc,od,kV,doc,pm,an,cdv,ct,osl,rfl,lk,hcd⟩:=F.ex;refine fn_of lk hcd S len λA outer s H vs Q E hr hsp=>?_
 obtain⟨t,h,q⟩:=hbody cdv A outer s H vs Q E hr hsp;exact⟨t,h.nox,q⟩
theorem Fun.binds{x qual:Str}{st:ym}{f:yc}{fd:yQ}{ps:List Str}(F:Fun K x qual st f fd)
  (h:∀(kV doc pm:yb) (an:Option yc) (cdv ct:yb) (us:List yb),us.length=ps.length->bindArgs (yu x qual (Zm st) (Zl st) (Zd st) .none kV doc pm an cdv ct) ⟨us,[]⟩=pure (ps.zip us)):ZA K fd ps []:=by
 obtain⟨oc,od,kV,doc,pm,an,cdv,ct,osl,rfl,lk,hcd⟩:=F.ex;exact .all (h kV doc pm an cdv ct)
theorem Zs{x qual:Str}{st:ym}{f:yc}{oc:yb}{od an:Option yc}{osl:Array (Option yb)}{kV doc pm cdv ct:yb}(l:K.lookup f=some ⟨oc,od,.func (yu x qual (Zm st) (Zl st) (Zd st) .none kV doc pm an cdv ct),osl⟩)
  (c:yx K cdv qual=true) (k:yr K (.ref f)=true):Fun K x qual st f (yu x qual (Zm st) (Zl st) (Zd st) .none kV doc pm an cdv ct):=⟨⟨oc,od,kV,doc,pm,an,cdv,ct,osl,rfl,l,c⟩,k⟩
end
section
variable {X:Cx}
theorem pv(i:Nat){x:Str}{pos:Pos}(hN:X.N[i]? = some x:=by rfl)(hv:Vis X.env.scope x:=by first | exact yg rfl | exact yC (yg rfl) | exact yC (yC rfl))(hd:(x == ("__debug__" : Str))=false:=by decide)
  (hcd:(x == ("__classdict__" : Str))=false:=by decide):PE X (.Name x pos) (tVar i):=U3 hN hv hd hcd
end
theorem iteF{A B:Prop}(h:B):if false=true then A else B:=by
 rw[if_neg jz];exact h
theorem iteT{A B:Prop}(h:A):if true=true then A else B:=by
 rw[if_pos rfl];exact h
end L2
namespace Fx
open PySem
inductive Sl where
 | emp | val (t:ya) | own (xs:List ya) | dct (es:List (ya × ya))
inductive Res (α:Type) where
 | ok (a:α) | exc (c:Str) | stuck
def Res.bind{α β:Type}(r:Res α)(f:α->Res β):Res β:=
 match r with
 | .ok a=>f a
 | .exc c=>.exc c
 | .stuck=>.stuck
@[simp] theorem Res.bind_ok {α β : Type} (a : α) (f : α -> Res β) : Res.bind (.ok a) f = f a := rfl
@[simp] theorem Res.bind_exc {α β : Type} (c : Str) (f : α -> Res β) : Res.bind (.exc c) f = .exc c := rfl
@[simp] theorem Res.bind_stuck {α β : Type} (f : α -> Res β) : Res.bind .stuck f = .stuck := rfl
abbrev DE:=List Sl->Res ya
abbrev DT:=List Sl->Res Bool
abbrev DA:=List Sl->Res (List ya)
inductive Out where
 | nx (G:List Sl) | rt (t:ya) | bk (G:List Sl) | ct (G:List Sl)
abbrev DS:=List Sl->Res Out
abbrev DF:=List ya->Res ya
@[simp] def frz1 (G : List Sl) (i : Nat) : List Sl :=
 match G[i]? with
 | some (.own xs)=>G.set i (.val (.list xs))
 | _=>G
@[simp] def frz (is : List Nat) (G : List Sl) : List Sl := is.foldl frz1 G
@[simp] def frzA : List Sl -> List Sl
 | []=>[]
 | .own xs::r=>.val (.list xs)::frzA r
 | .emp::r=>.emp::frzA r
 | .val t::r=>.val t::frzA r
 | .dct _::r=>.emp::frzA r
@[simp] def frzS : Sl -> Sl
 | .own xs=>.val (.list xs)
 | .emp=>.emp
 | .val t=>.val t
 | .dct _=>.emp
@[simp] theorem frzA_cons (s : Sl) (G : List Sl) : frzA (s :: G) = frzS s :: frzA G := by cases s <;> simp
mutual
def XS:ya->Bool
 | .none | .bool _ | .int _ | .str _=>true
 | .tuple xs=>VI xs
 | .list _=>false
 | .dict _=>false
def VI:List ya->Bool
 | []=>true
 | x::xs=>XS x && VI xs
end
@[simp] theorem scalT_tuple (xs : List ya) : XS (.tuple xs) = VI xs := by simp [XS]
@[simp] theorem scalT_dict (xs : List (ya × ya)) : XS (.dict xs) = false := by simp [XS]
@[simp] theorem scalT_list (xs : List ya) : XS (.list xs) = false := by simp [XS]
@[simp] theorem zeb (x : ya) (xs : List ya) : VI (x :: xs) = (XS x && VI xs) := by simp [VI]
@[simp] def dC (t : ya) : DE := λ_ => .ok t
@[simp] def dVar (i : Nat) : DE := λG => match G[i]? with
 | some (.val t)=>.ok t
 | _=>.stuck
@[simp] def d1 (f : ya -> Res ya) (a : DE) : DE := λG => (a G).bind f
@[simp] def d2 (f : ya -> ya -> Res ya) (a b : DE) : DE := λG => (a G).bind λx => (b G).bind λy => f x y
@[simp] def dNil : DA := λ_ => .ok []
@[simp] def Zc (a : DE) (r : DA) : DA := λG => (a G).bind λx => (r G).bind λxs => .ok (x :: xs)
@[simp] def zhz (xs : List ya) : Bool := decide (xs.length <= 16777216)
@[simp] def dTup (a : DA) : DE := λG => (a G).bind λxs => if zhz xs then .ok (.tuple xs) else .stuck
@[simp] def dLst (a : DA) : DE := λG => (a G).bind λxs => if zhz xs then .ok (.list xs) else .stuck
@[simp] def Zi (f : DF) (a : DA) : DE := λG => (a G).bind f
@[simp] def dIfE (c : DT) (a b : DE) : DE := λG => (c G).bind λk => if k then a G else b G
@[simp] def zfU (a b : DE) : DE := λG => (a G).bind λx => match x with
 | .bool k=>if k then b G else .ok (.bool false)
 | _=>.stuck
@[simp] def dOrV (a b : DE) : DE := λG => (a G).bind λx => match x with
 | .bool k=>if k then .ok (.bool true) else b G
 | _=>.stuck
@[simp] def zkc (a : DE) : DE := λG => (a G).bind λx => match x with
 | .bool k=>.ok (.bool (!k))
 | _=>.stuck
def Yv(i j:Int):Bool:=decide (i.natAbs.log2+j.natAbs.log2+2<=134217728) || decide (i.natAbs < 18446744073709551616) || decide (j.natAbs < 18446744073709551616)
def zbd(j:Int):Bool:=decide (j ≠ 0) && decide (j.natAbs.log2 < 9000)
@[simp] def fAdd : ya -> ya -> Res ya
 | .int i,.int j=>.ok (.int (i+j))
 | .list xs,.list ys=>if xs.length+ys.length<=16777216 then .ok (.list (xs++ys)) else .stuck
 | _,_=>.stuck
@[simp] def fSub : ya -> ya -> Res ya
 | .int i,.int j=>.ok (.int (i - j))
 | _,_=>.stuck
@[simp] def fMul : ya -> ya -> Res ya
 | .int i,.int j=>if Yv i j then .ok (.int (i * j)) else .stuck
 | _,_=>.stuck
@[simp] def fDiv : ya -> ya -> Res ya
 | .int i,.int j=>if zbd j then .ok (.int (i.fdiv j)) else .stuck
 | _,_=>.stuck
@[simp] def fMod : ya -> ya -> Res ya
 | .int i,.int j=>if j=0 then .stuck else .ok (.int (i.fmod j))
 | _,_=>.stuck
@[simp] def fPow : ya -> ya -> Res ya
 | .int i,.int j=>if 0<=j/\j<=1000000/\i.natAbs < 2 ^ 64 then .ok (.int (i ^ j.toNat)) else .stuck
 | _,_=>.stuck
@[simp] def fNeg : ya -> Res ya
 | .int i=>.ok (.int (-i))
 | _=>.stuck
@[simp] def fLt : ya -> ya -> Res ya
 | .int i,.int j=>.ok (.bool (decide (i < j)))
 | _,_=>.stuck
@[simp] def fLe : ya -> ya -> Res ya
 | .int i,.int j=>.ok (.bool (decide (i<=j)))
 | _,_=>.stuck
@[simp] def fGt : ya -> ya -> Res ya
 | .int i,.int j=>.ok (.bool (decide (j < i)))
 | _,_=>.stuck
@[simp] def fGe : ya -> ya -> Res ya
 | .int i,.int j=>.ok (.bool (decide (j<=i)))
 | _,_=>.stuck
def YT(d:ya):Bool:=d.canLay0 && decide (d.depth<=64)
def fEq:ya->ya->Res ya
 | .int i,.int j=>.ok (.bool (decide (i=j)))
 | x,y=>if YT x && YT y then .ok (.bool (x.eqv y)) else .stuck
def fNe:ya->ya->Res ya
 | .int i,.int j=>.ok (.bool (!decide (i=j)))
 | x,y=>if YT x && YT y then .ok (.bool (!x.eqv y)) else .stuck
@[simp] def fIsN : ya -> Res ya
 | .none=>.ok (.bool true)
 | _=>.ok (.bool false)
@[simp] def JA : ya -> Res ya
 | .none=>.ok (.bool false)
 | _=>.ok (.bool true)
@[simp] def fLen : ya -> Res ya
 | .list xs=>.ok (.int xs.length)
 | .tuple xs=>.ok (.int xs.length)
 | _=>.stuck
@[simp] def fAbs : ya -> Res ya
 | .int i=>.ok (.int (if i < 0 then -i else i))
 | _=>.stuck
def ixP(n:Nat)(i:Int):Option Nat:=if 0<=i then(if i < n then some i.toNat else none) else if -(n:Int)<=i then some (i+n).toNat else none
def atP(xs:List ya)(i:Int):Option ya:=(ixP xs.length i).bind λj=>xs[j]?
@[simp] def ofO {α : Type} : Option α -> Res α
 | some a=>.ok a
 | none=>.stuck
@[simp] def fIx : ya -> ya -> Res ya
 | .list xs,.int i=>ofO (atP xs i)
 | .tuple xs,.int i=>ofO (atP xs i)
 | _,_=>.stuck
@[simp] def isInt : ya -> Bool
 | .int _=>true
 | .bool _=>true
 | _=>false
@[simp] def zjz : ya -> Bool
 | .bool _=>true
 | _=>false
@[simp] def Qp : ya -> Bool
 | .tuple _=>true
 | _=>false
@[simp] def isList : ya -> Bool
 | .list _=>true
 | _=>false
@[simp] def fIs (p : ya -> Bool) : ya -> Res ya
 | .dict _=>.stuck
 | .none=>.ok (.bool (p .none))
 | .bool b=>.ok (.bool (p (.bool b)))
 | .int b=>.ok (.bool (p (.int b)))
 | .str b=>.ok (.bool (p (.str b)))
 | .list b=>.ok (.bool (p (.list b)))
 | .tuple b=>.ok (.bool (p (.tuple b)))
@[simp] def fList : ya -> Res (List ya)
 | .list xs=>.ok xs
 | .tuple xs=>.ok xs
 | _=>.stuck
@[simp] def U6 : ya -> Res ya
 | .list xs=>.ok (.tuple xs)
 | .tuple xs=>.ok (.tuple xs)
 | _=>.stuck
@[simp] def truth : ya -> Res Bool
 | .none=>.ok false
 | .bool b=>.ok b
 | .int i=>.ok (i != 0)
 | .list xs=>.ok (!xs.isEmpty)
 | .tuple xs=>.ok (!xs.isEmpty)
 | _=>.stuck
@[simp] def tV (a : DE) : DT := λG => (a G).bind truth
@[simp] def tAnd (a b : DT) : DT := λG => (a G).bind λk => if k then b G else .ok false
@[simp] def tOr (a b : DT) : DT := λG => (a G).bind λk => if k then .ok true else b G
@[simp] def tNot (a : DT) : DT := λG => (a G).bind λk => .ok (!k)
@[simp] def dSeq (a b : DS) : DS := λG => (a G).bind λo => match o with
 | .nx G'=>b G'
 | .rt t=>.ok (.rt t)
 | .bk G'=>.ok (.bk G')
 | .ct G'=>.ok (.ct G')
@[simp] def ZD : DS := λG => .ok (.nx G)
@[simp] def dNev : DS := λ_ => .stuck
def dSet(i:Nat)(is:List Nat)(e:DE):DS:=λG=>(e (frz is G)).bind λt=>.ok (.nx ((if XS t then G else frz is G).set i (.val t)))
@[simp] theorem Q9 (i : Nat) (e : DE) (G : List Sl) : dSet i [] e G = (e G).bind λt => .ok (.nx (G.set i (.val t))) := by
 unfold dSet;show(e G).bind _=_
 congr 1
 funext t
 show Res.ok (Out.nx ((if XS t=true then G else G).set i (.val t)))=_
 rw[ite_self]
@[simp] theorem dSet_cons (i j : Nat) (is : List Nat) (e : DE) (G : List Sl) : dSet i (j :: is) e G = (e (frz (j :: is) G)).bind λt => .ok (.nx ((if XS t then G else frz (j :: is) G).set i (.val t))) := rfl
@[simp] def zal (i : Nat) (is : List Nat) (e : DA) : DS := λG => (e (frz is G)).bind λxs => if i < G.length then .ok (.nx ((frz is G).set i (.own xs))) else .stuck
@[simp] def dRet (e : DE) : DS := λG => (e (frzA G)).bind λt => .ok (.rt t)
@[simp] def dIf (c : DT) (a b : DS) : DS := λG => (c (frzA G)).bind λk => if k then a G else b G
@[simp] def zfT (e : DE) : DS := λG => (e (frzA G)).bind λ_ => .ok (.nx G)
@[simp] def ze3 (i : Nat) (G' : List Sl) (t : ya) : Res Out :=
 match G'[i]? with
 | some (.own xs)=>if xs.length < 16777216 then .ok (.nx (G'.set i (.own (xs++[t])))) else .stuck
 | _=>.stuck
@[simp] def zb2 (G : List Sl) (i : Nat) : Bool := match G[i]? with
 | some (.own _)=>true
 | _=>false
def dApp(i:Nat)(is:List Nat)(e:DE):DS:=λG=>if zb2 G i then(e (frz is G)).bind λt=>ze3 i (if XS t then G else frz is G) t else .stuck
@[simp] theorem dApp_nil (i : Nat) (e : DE) (G : List Sl) : dApp i [] e G = if zb2 G i then (e G).bind λt => ze3 i G t else .stuck := by
 unfold dApp
 congr 1
 show(e G).bind _=_
 congr 1
 funext t
 show ze3 i (if XS t=true then G else G) t=_
 rw[ite_self]
@[simp] theorem dApp_cons (i j : Nat) (is : List Nat) (e : DE) (G : List Sl) : dApp i (j :: is) e G = if zb2 G i then (e (frz (j :: is) G)).bind λt => ze3 i (if XS t then G else frz (j :: is) G) t else .stuck := rfl
def forL(st:ya->List Sl->Res (List Sl))(b:DS):List ya->List Sl->Res Out
 | [],G=>.ok (.nx G)
 | t::ts,G=>(st t G).bind λG1=>(b G1).bind λo=>match o with
  | .nx G'=>forL st b ts G'
  | .ct G'=>forL st b ts G'
  | .bk G'=>.ok (.nx G')
  | .rt t=>.ok (.rt t)
@[simp] def dFor (st : ya -> List Sl -> Res (List Sl)) (is : List Nat) (it : DA) (b : DS) : DS := λG => (it (frz is G)).bind λts => forL st b ts (frz is G)
@[simp] def Zu (i : Nat) : ya -> List Sl -> Res (List Sl) := λt G => .ok (G.set i (.val t))
def Yb(c:DT)(b:DS):Nat->List Sl->Res Out
 | 0,_=>.stuck
 | n+1,G=>(c (frzA G)).bind λk=>if k then(b G).bind λo=>match o with
   | .nx G'=>Yb c b n G'
   | .ct G'=>Yb c b n G'
   | .bk G'=>.ok (.nx G')
   | .rt t=>.ok (.rt t)
  else .ok (.nx G)
@[simp] def Qf (fuel : List Sl -> Nat) (c : DT) (b : DS) : DS := λG => Yb c b (fuel G) G
@[simp] def noX {α : Type} : Res α -> Res α
 | .ok a=>.ok a
 | _=>.stuck
def runF(n np:Nat)(b:DS):DF:=λts=>if ts.length=np then(b (ts.map .val++y0 (n - np) .emp)).bind λo=>match o with
  | .rt t=>.ok t
  | .nx _=>.ok .none
  | _=>.stuck
 else .stuck
theorem zev{α:Type}(r:Res α):(∃a,noX r=.ok a)\/noX r=.stuck:=by
 cases r
 ·exact .inl ⟨_,rfl⟩
 ·exact .inr rfl
 ·exact .inr rfl
theorem noX_ok{α:Type}{r:Res α}{a:α}(h:noX r=.ok a):r=.ok a:=by
 cases r <;> simp at h
 rw[h]
def runQ(n np:Nat)(b:DS):DF:=λts=>noX (runF n np b ts)
theorem zda(n np:Nat)(b:DS)(ts:List ya)(c:Str):runQ n np b ts ≠ .exc c:=by
 unfold runQ;cases runF n np b ts <;> simp
def rngT(lo:Int)(n:Nat):List ya:=(yF n).map λ(k:Nat)=>.int (lo+(k:Int))
def Vv(j:Int):Bool:=decide (j.natAbs<=1000000000000)
theorem Yk{n:Nat}(h:n<=1000000000):Vv (n:Int)=true:=by
 unfold Vv;exact decide_eq_true (by omega)
theorem UQ{j:Int}(h:Vv j=true):-(2 ^ 62)<=j/\j < 2 ^ 62:=by
 have h':j.natAbs<=1000000000000:=of_decide_eq_true h;omega
@[simp] def iRng (a : DE) : DA := λG => (a G).bind λx => match x with
 | .int j=>if Vv j=true then .ok (rngT 0 j.toNat) else .stuck
 | _=>.stuck
@[simp] def iRng2 (a b : DE) : DA := λG => (a G).bind λx => (b G).bind λy => match x, y with
 | .int i,.int j=>if Vv i=true/\Vv j=true then .ok (rngT i (j - i).toNat) else .stuck
 | _,_=>.stuck
theorem fLt_b:∀x y,(∃k,fLt x y=.ok (.bool k))\/fLt x y=.stuck:=by intro x y;cases x <;> cases y <;> simp
theorem fGt_b:∀x y,(∃k,fGt x y=.ok (.bool k))\/fGt x y=.stuck:=by intro x y;cases x <;> cases y <;> simp
theorem fGe_b:∀x y,(∃k,fGe x y=.ok (.bool k))\/fGe x y=.stuck:=by intro x y;cases x <;> cases y <;> simp
theorem fEq_b:∀x y,(∃k,fEq x y=.ok (.bool k))\/fEq x y=.stuck:=by
 intro x y;unfold fEq;split
 ·exact .inl ⟨_,rfl⟩
 ·split
  ·exact .inl ⟨_,rfl⟩
  ·exact .inr rfl
theorem fNe_b:∀x y,(∃k,fNe x y=.ok (.bool k))\/fNe x y=.stuck:=by
 intro x y;unfold fNe;split
 ·exact .inl ⟨_,rfl⟩
 ·split
  ·exact .inl ⟨_,rfl⟩
  ·exact .inr rfl
@[simp] def iSeq (a : DE) : DA := λG => (a G).bind λx => match x with
 | .list xs=>.ok xs
 | .tuple xs=>.ok xs
 | _=>.stuck
def zipT:List ya->List ya->List ya
 | x::xs,y::ys=>.tuple [x,y]::zipT xs ys
 | _,_=>[]
@[simp] def iZip (a b : DA) : DA := λG => (a G).bind λxs => (b G).bind λys => .ok (zipT xs ys)
@[simp] def V6 (i j : Nat) : ya -> List Sl -> Res (List Sl)
 | .tuple [x,y],G=>.ok ((G.set i (.val x)).set j (.val y))
 | _,_=>.stuck
@[simp] def capS (cap : List Nat) (G : List Sl) : List Sl := cap.map λi => match (G[i]? : Option Sl) with
 | some (.val t)=>.val t
 | _=>.emp
def YF(st:ya->List Sl->Res (List Sl))(c:DT)(e:DE)(C:List Sl):List ya->Res (List ya)
 | []=>.ok []
 | t::ts=>(noX (st t C)).bind λG1=>(c G1).bind λk=>if k then(e G1).bind λy=>(YF st c e C ts).bind λys=>.ok (y::ys) else YF st c e C ts
@[simp] def YS (nv : Nat) (cap : List Nat) (st : ya -> List Sl -> Res (List Sl)) (it : DA) (c : DT) (e : DE) : DA := λG => (it G).bind λts => if ts.length <= 16777216 then YF st c e (y0 nv .emp ++ capS cap G) ts else .stuck
@[simp] def tT : DT := λ_ => .ok true
def sIxT(n d:Nat):Option Int->Nat
 | none=>d
 | some i=>if i < 0 then(i+n).toNat else min i.toNat n
def cutT(xs:List ya)(lo hi:Option Int):List ya:=(xs.drop (sIxT xs.length 0 lo)).take (sIxT xs.length xs.length hi - sIxT xs.length 0 lo)
abbrev DP:=List Sl->Res (Option Int)
@[simp] def pNo : DP := λ_ => .ok none
@[simp] def pAt (a : DE) : DP := λG => (a G).bind λx => match x with
 | .int i=>.ok (some i)
 | _=>.stuck
@[simp] def oCut (a : DE) (lo hi : DP) : DA := λG => (a G).bind λx => (lo G).bind λl => (hi G).bind λh => match x with
 | .list xs=>.ok (cutT xs l h)
 | _=>.stuck
@[simp] def dL (a : DA) : DE := λG => (a G).bind λxs => .ok (.list xs)
@[simp] def oLst (a : DA) : DA := λG => (a G).bind λxs => if zhz xs then .ok xs else .stuck
@[simp] def zdp (a : DE) : DA := λG => (a G).bind fList
def allT:List ya->Res Bool
 | []=>.ok true
 | .bool k::r=>(allT r).bind λm=>.ok (k && m)
 | _=>.stuck
theorem zks:∀{xs:List ya}{k:Bool},allT xs=.ok k->∃bs:List Bool,xs=bs.map .bool/\k=bs.all id
 | [],k,h=>by simp[allT] at h;exact⟨[],rfl,by simp[<- h]⟩
 | x::r,k,h=>by
  cases x with
  | bool b=>
   simp only[allT] at h;cases e:allT r with
   | ok m=>
    rw[e] at h;simp at h;obtain⟨bs,h1,h2⟩:=zks e;exact⟨b::bs,by simp[h1],by simp[<- h,h2]⟩
   | exc c=>rw[e] at h;cases h
   | stuck=>rw[e] at h;cases h
  | none=>simp[allT] at h
  | int _=>simp[allT] at h
  | str _=>simp[allT] at h
  | list _=>simp[allT] at h
  | tuple _=>simp[allT] at h
  | dict _=>simp[allT] at h
theorem zg8:∀(xs:List ya) (c:Str),allT xs ≠ .exc c
 | [],c=>by simp[allT]
 | x::r,c=>by
  cases x with
  | bool b=>
   simp only[allT];cases e:allT r with
   | ok m=>simp
   | exc c'=>exact absurd e (zg8 r c')
   | stuck=>simp
  | none=>simp[allT]
  | int _=>simp[allT]
  | str _=>simp[allT]
  | list _=>simp[allT]
  | tuple _=>simp[allT]
  | dict _=>simp[allT]
@[simp] def fAll : ya -> Res ya
 | .list xs=>(allT xs).bind λk=>.ok (.bool k)
 | _=>.stuck
@[simp] def zd9 (i : Nat) (G' : List Sl) (t kt : ya) : Res Out :=
 match G'[i]?,kt with
 | some (.own xs),.int j=>match ixP xs.length j with
  | some m=>.ok (.nx (G'.set i (.own (xs.set m t))))
  | none=>.stuck
 | _,_=>.stuck
def UF(i:Nat)(is:List Nat)(k e:DE):DS:=λG=>(e (frz is G)).bind λt=>if zb2 (if XS t then G else frz is G) i then(k (frz is G)).bind λkt=>zd9 i (if XS t then G else frz is G) t kt else .stuck
@[simp] theorem dSetIt_nil (i : Nat) (k e : DE) (G : List Sl) : UF i [] k e G = (e G).bind λt => if zb2 G i then (k G).bind λkt => zd9 i G t kt else .stuck := by
 unfold UF;show(e G).bind _=_
 congr 1
 funext t
 show(if zb2 (if XS t=true then G else G) i=true then(k G).bind λkt=>zd9 i (if XS t=true then G else G) t kt else .stuck)=_
 rw[ite_self]
@[simp] theorem dSetIt_cons (i j : Nat) (is : List Nat) (k e : DE) (G : List Sl) : UF i (j :: is) k e G = (e (frz (j :: is) G)).bind λt => if zb2 (if XS t then G else frz (j :: is) G) i then (k (frz (j :: is) G)).bind λkt => zd9 i (if XS t then G else frz (j :: is) G) t kt else .stuck := rfl
theorem ziw{i:Nat}:∀t G c,Zu i t G ≠ .exc c:=by intro t G c;simp
theorem ziv{i j:Nat}:∀t G c,V6 i j t G ≠ .exc c:=by
 intro t G c;unfold V6;split <;> simp
def ze4(nv:Nat)(st:ya->List Sl->Res (List Sl)):Prop:=∀t G G1,st t G=.ok G1->G1.length=G.length/\∀i,nv<=i->G1[i]? = G[i]?
theorem ZP{nv i:Nat}(h:i < nv):ze4 nv (Zu i):=by
 intro t G G1 e;simp at e;subst e;refine⟨by simp,λj hj=>?_⟩
 rw[jg (by omega)]
theorem zaY{nv i j:Nat}(h:i < nv)(h2:j < nv):ze4 nv (V6 i j):=by
 intro t G G1 e;unfold V6 at e;split at e
 ·cases e;refine⟨by simp,λk hk=>?_⟩
  rw[jg (by omega),jg (by omega)]
 ·cases e
theorem zfH{x m:Nat}(h:x < 2 ^ m):x.log2<=m:=by
 by_cases hx:x=0
 ·subst hx;simp
 ·exact jD ((Nat.log2_lt hx).mpr h)
theorem ZQ{i j:Int}{m n:Nat}(hi:i.natAbs < 2 ^ m)(hj:j.natAbs < 2 ^ n)(h:m+n+2<=134217728):Yv i j=true:=by
 have h1:=zfH hi;have h2:=zfH hj;simp only[Yv,qx,decide_eq_true_eq];omega
theorem mulOk_r{i j:Int}(hj:j.natAbs < 18446744073709551616):Yv i j=true:=by
 simp only[Yv,qx,decide_eq_true_eq];exact .inr hj
theorem Jv{i j:Int}(hi:i.natAbs < 18446744073709551616):Yv i j=true:=by
 simp only[Yv,qx,decide_eq_true_eq];exact .inl (.inr hi)
theorem zat{j:Int}{m:Nat}(h0:j ≠ 0)(hj:j.natAbs < 2 ^ m)(h:m < 9000):zbd j=true:=by
 have h2:=zfH hj;simp only[zbd,jl,decide_eq_true_eq];exact⟨h0,by omega⟩
theorem Zv{i j:Int}{m n:Nat}(hi:i.natAbs < 2 ^ m)(hj:j.natAbs < 2 ^ n):(i * j).natAbs < 2 ^ (m+n):=by
 rw[jw,Nat.pow_add];exact Nat.mul_lt_mul'' hi hj
theorem zds{i j:Int}{m:Nat}(hi:i.natAbs < 2 ^ m)(hj:j.natAbs < 2 ^ m):(i+j).natAbs < 2 ^ (m+1):=by
 have:=Int.natAbs_add_le i j;rw[ybb];omega
theorem zdr{i j:Int}{m:Nat}(hi:i.natAbs < 2 ^ m)(hj:j.natAbs < 2 ^ m):(i - j).natAbs < 2 ^ (m+1):=by
 have:=Int.natAbs_sub_le i j;rw[ybb];omega
theorem QK{m n:Nat}(h:m<=n):2 ^ m<=2 ^ n:=Nat.pow_le_pow_right (by decide) h
def fr(q:Rat):ya:=.tuple [.int q.num,.int (q.den:Int)]
structure Sz(n:Nat)(q:Rat):Prop where
 num:q.num.natAbs < 2 ^ n
 den:q.den < 2 ^ n
theorem Sz.mono{m n:Nat}{q:Rat}(h:Sz m q)(l:m<=n):Sz n q:=⟨yU h.num (QK l),yU h.den (QK l)⟩
theorem Sz.denI{n:Nat}{q:Rat}(h:Sz n q):((q.den:Int)).natAbs < 2 ^ n:=by rw[j1];exact h.den
theorem Z8(q:Rat):(q.den:Int) ≠ 0:=by have:=q.den_nz;omega
theorem Yy{u l:Int}{n:Nat}(hl:l ≠ 0)(h1:u.natAbs < 2 ^ n)(h2:l.natAbs < 2 ^ n):Sz n (y4 u l):=by
 constructor
 ·rw[ya8];refine jh ?_ h1;have e:(l.sign * u / (l.gcd u:Int)).natAbs<=(l.sign * u).natAbs:=Int.natAbs_ediv_le_natAbs _ _;refine yE e ?_;rw[jw,Int.natAbs_sign_of_ne_zero hl,yap];exact yq _
 ·rw[ya9,if_neg hl];exact jh (ya5 _ _) h2
theorem zhK{u l:Int}(hl:l ≠ 0){q:Rat}(e:q=y4 u l):q.num * l=u * q.den:=by
 have h:y4 q.num q.den=y4 u l:=by rw[ji];exact e
 exact(Rat.divInt_eq_divInt_iff (Z8 q) hl).mp h
theorem za3(q:Rat):yM q.num q.den=1:=q.reduced
def uGcd:List Sl->Nat:=λG=>match(G[1]?:Option Sl) with
 | some (.val (.int b))=>b.natAbs+1
 | _=>0
def gcdC:DT:=tV (d2 fNe (dVar 1) (dC (.int 0)))
def gcdB:DS:=dSeq (dSet 2 [] (d2 fMod (dVar 0) (dVar 1))) (dSeq (dSet 0 [] (dVar 1)) (dSet 1 [] (dVar 2)))
theorem gcd_step{a b:Int}(ha:0<=a)(hb:0<=b):yM b (a % b)=yM a b:=by
 obtain⟨m,rfl⟩:=yco ha;obtain⟨n,rfl⟩:=yco hb;rw[<- Int.natCast_emod,ycp,ycp,Nat.gcd_comm n,<- Nat.gcd_rec,Nat.gcd_comm]
theorem zgC:∀(n:Nat) (a b:Int) (s:Sl),0<=a->0<=b->b.natAbs < n ->
  ∃s',Yb gcdC gcdB n [.val (.int a),.val (.int b),s]=.ok (.nx [.val (.int (yM a b)),.val (.int 0),s'])
 | 0,a,b,s,ha,hb,h=>by omega
 | n+1,a,b,s,ha,hb,h=>by
  unfold Yb;by_cases hz:b=0
  ·subst hz;refine⟨s,?_⟩;simp[gcdC,fNe,Int.natAbs_of_nonneg ha]
  ·have hf:jF a b=a % b:=yat a hb;have h1:0<=a % b:=ya6 a hz;have h2:a % b < b:=yax a (by omega)
   obtain⟨s',e⟩:=zgC n b (a % b) (.val (.int (a % b))) hb h1 (by omega)
   refine⟨s',?_⟩;rw[gcd_step ha hb] at e;simpa[gcdC,gcdB,fNe,hz,hf] using e
def dGcd:DS:=dSeq (dSet 0 [] (d1 fAbs (dVar 0))) (dSeq (dSet 1 [] (d1 fAbs (dVar 1))) (dSeq (Qf uGcd gcdC gcdB) (dRet (dVar 0))))
theorem abs_if(a:Int):(if a < 0 then -a else a)=(a.natAbs:Int):=by split <;> omega
theorem gcd_ok(a b:Int):runF 3 2 dGcd [.int a,.int b]=.ok (.int (yM a b)):=by
 obtain⟨s',e⟩:=zgC (b.natAbs+1) a.natAbs b.natAbs .emp (ybt _) (ybt _) (by simp)
 have g:yM (a.natAbs:Int) (b.natAbs:Int)=yM a b:=by simp[yM]
 rw[g] at e;simp[runF,dGcd,abs_if,uGcd,e]
theorem VP{st:ya->List Sl->Res (List Sl)}{b:DS}(Inv:Nat->List Sl->Prop):∀(ts:List ya) (k:Nat) (G:List Sl),Inv k G ->
  (∀i t G,ts[i]? = some t->Inv (k+i) G->∃G1,st t G=.ok G1/\∃G2,(b G1=.ok (.nx G2)\/b G1=.ok (.ct G2))/\Inv (k+i+1) G2) ->
  ∃G',forL st b ts G=.ok (.nx G')/\Inv (k+ts.length) G'
 | [],k,G,h0,_=>⟨G,rfl,h0⟩
 | t::ts,k,G,h0,hs=>by
  obtain⟨G1,e1,G2,e2,h2⟩:=hs 0 t G rfl h0;obtain⟨G',e3,h3⟩:=VP Inv ts (k+1) G2 h2 λi t' G' ht hi=>by
   have:=hs (i+1) t' G' (by simpa using ht) (by rw[<- yce,Nat.add_right_comm];exact hi)
   simpa[yce,qz,Nat.add_left_comm] using this
  refine⟨G',?_,by simpa[yce,qz,Nat.add_left_comm] using h3⟩
  rw[forL,e1,Res.bind_ok];rcases e2 with e2 | e2 <;> rw[e2,Res.bind_ok] <;> exact e3
theorem Wq(lo:Int)(n:Nat):(rngT lo n).length=n:=by simp[rngT]
theorem ziA{lo:Int}{n i:Nat}{t:ya}(h:(rngT lo n)[i]? = some t):i < n/\t=.int (lo+(i:Int)):=by
 unfold rngT at h;rw[jc] at h;by_cases hi:i < n
 ·rw[j7 (by simpa using hi)] at h
  simp at h;exact⟨hi,h.symm⟩
 ·rw[List.getElem?_eq_none (by simpa using hi)] at h
  cases h
theorem zdA{st:ya->List Sl->Res (List Sl)}{b:DS}{n:Nat}{G:List Sl}(Inv:Nat->List Sl->Prop)(h0:Inv 0 G)
  (hs:∀i G,i < n->Inv i G->∃G1,st (.int (i:Int)) G=.ok G1/\∃G2,(b G1=.ok (.nx G2)\/b G1=.ok (.ct G2))/\Inv (i+1) G2) :
  ∃G',forL st b (rngT 0 n) G=.ok (.nx G')/\Inv n G':=by
 obtain⟨G',e,h⟩:=VP Inv (rngT 0 n) 0 G h0 λi t G ht hi=>by
  obtain⟨hl,rfl⟩:=ziA ht;simpa using hs i G hl (by simpa using hi)
 refine⟨G',e,?_⟩;rw[Wq] at h;simpa using h
theorem Z6{α:Type}{st:ya->List Sl->Res (List Sl)}{e:DE}{C:List Sl}(inj f:α->ya):∀(xs:List α),(∀x ∈ xs,∃G1,st (inj x) C=.ok G1/\e G1=.ok (f x))->YF st tT e C (xs.map inj)=.ok (xs.map f)
 | [],_=>rfl
 | t::ts,h=>by
  obtain⟨G1,e1,e2⟩:=h t yP;have ih:=Z6 inj f ts λt' ht=>h t' (yR _ ht)
  rw[yH];unfold YF;simp[e1,e2,ih]
theorem zcO{α:Type}{st:ya->List Sl->Res (List Sl)}{c:DT}{e:DE}{C:List Sl}(inj f:α->ya)(p:α->Bool):∀(xs:List α),(∀x ∈ xs,∃G1,st (inj x) C=.ok G1/\c G1=.ok (p x)/\(p x=true->e G1=.ok (f x))) ->
  YF st c e C (xs.map inj)=.ok ((xs.filter p).map f)
 | [],_=>rfl
 | t::ts,h=>by
  obtain⟨G1,e1,e2,e3⟩:=h t yP;have ih:=zcO inj f p ts λt' ht=>h t' (yR _ ht)
  rw[yH];unfold YF;cases hp:p t with
  | false=>simp[e1,e2,ih,hp]
  | true=>simp[e1,e2,e3 hp,ih,hp]
theorem UP(n:Nat):rngT 0 n=(yF n).map λ(k:Nat)=>ya.int (k:Int):=by simp[rngT]
theorem Sz.ofInt{n:Nat}{i:Int}(h:i.natAbs < 2 ^ n)(h1:0 < n):Sz n (i:Rat):=⟨by simpa using h,by
 have:2 ^ 1<=2 ^ n:=QK h1;simp;omega⟩
theorem Sz.zero:Sz 1 0:=⟨by decide,by decide⟩
theorem zhW(a b:Rat):a+b=y4 (a.num * b.den+b.num * a.den) (a.den * b.den):=by
 have:=ybn a.num b.num (Z8 a) (Z8 b);rw[ji,ji] at this;exact this
theorem zhe(a b:Rat):a - b=y4 (a.num * b.den - b.num * a.den) (a.den * b.den):=by
 have:=Rat.divInt_sub_divInt a.num b.num (Z8 a) (Z8 b);rw[ji,ji] at this;exact this
theorem Ju(a b:Rat):a * b=y4 (a.num * b.num) (a.den * b.den):=by
 have:=yau a.num b.num (d₁:=a.den) (d₂:=b.den);rw[ji,ji] at this;exact this
theorem Sz.add{m n:Nat}{a b:Rat}(ha:Sz m a)(hb:Sz n b):Sz (m+n+1) (a+b):=by
 rw[zhW];have h1:=Zv ha.num hb.denI;have h2:=Zv hb.num ha.denI;rw[qz n m] at h2;exact Yy (jA (Z8 a) (Z8 b)) (zds h1 h2) (yU (Zv ha.denI hb.denI) (QK (yao _)))
theorem Sz.sub{m n:Nat}{a b:Rat}(ha:Sz m a)(hb:Sz n b):Sz (m+n+1) (a - b):=by
 rw[zhe];have h1:=Zv ha.num hb.denI;have h2:=Zv hb.num ha.denI;rw[qz n m] at h2;exact Yy (jA (Z8 a) (Z8 b)) (zdr h1 h2) (yU (Zv ha.denI hb.denI) (QK (yao _)))
theorem Sz.mul{m n:Nat}{a b:Rat}(ha:Sz m a)(hb:Sz n b):Sz (m+n) (a * b):=by
 rw[Ju];exact Yy (jA (Z8 a) (Z8 b)) (Zv ha.num hb.num) (Zv ha.denI hb.denI)
theorem JE{α:Type}{f:α->ya}:∀(xs:List α),(∀x ∈ xs,(f x).canLay0=true)->ya.canLayAll0 (xs.map f)=true
 | [],_=>by simp[ya.canLayAll0]
 | x::xs,h=>by simp[ya.canLayAll0,h x yP,JE xs λy hy=>h y (yR _ hy)]
theorem zbg{α:Type}{f:α->ya}{n:Nat}:∀(xs:List α),(∀x ∈ xs,(f x).depth<=n)->ya.depthAll (xs.map f)<=n
 | [],_=>by simp[ya.depthAll]
 | x::xs,h=>by
  have h1:=h x yP;have h2:=zbg (f:=f) (n:=n) xs λy hy=>h y (yR _ hy)
  simp only[yH,ya.depthAll];omega
def Shp(n:Nat)(t:ya):Prop:=t.canLay0=true/\t.depth<=n
theorem Shp.ok{n:Nat}{t:ya}(h:Shp n t)(hn:n<=64):YT t=true:=by
 simp[YT,h.1];exact yE h.2 hn
theorem zij(i:Int):Shp 0 (.int i):=⟨by simp[ya.canLay0],by simp[ya.depth]⟩
theorem shp_list{α:Type}{f:α->ya}{n:Nat}{xs:List α}(h:∀x ∈ xs,Shp n (f x)):Shp (n+1) (.list (xs.map f)):=by
 refine⟨by simp[ya.canLay0,JE xs λx hx=>(h x hx).1],?_⟩
 have:=zbg (f:=f) (n:=n) xs λx hx=>(h x hx).2
 simp[ya.depth];omega
theorem zii{α:Type}{f:α->ya}{n:Nat}{xs:List α}(h:∀x ∈ xs,Shp n (f x)):Shp (n+1) (.tuple (xs.map f)):=by
 refine⟨by simp[ya.canLay0,JE xs λx hx=>(h x hx).1],?_⟩
 have:=zbg (f:=f) (n:=n) xs λx hx=>(h x hx).2
 simp[ya.depth];omega
theorem shp_pair{n:Nat}{a b:ya}(ha:Shp n a)(hb:Shp n b):Shp (n+1) (.tuple [a,b]):=by
 have:=zii (f:=id) (n:=n) (xs:=[a,b]) (by intro x hx;simp at hx;rcases hx with rfl | rfl <;> assumption)
 simpa using this
theorem shp_fr(q:Rat):Shp 1 (fr q):=shp_pair (zij _) (zij _)
mutual
theorem zgI:∀(t:ya),t.canLay0=true->t.eqv t=true
 | .none,_=>by simp[ya.eqv]
 | .bool b,_=>by simp[ya.eqv]
 | .int i,_=>by simp[ya.eqv]
 | .str x,_=>by simp[ya.eqv]
 | .list xs,h=>by simp only[ya.eqv];exact Qt xs (by simpa[ya.canLay0] using h)
 | .tuple xs,h=>by simp only[ya.eqv];exact Qt xs (by simpa[ya.canLay0] using h)
 | .dict _,h=>by simp[ya.canLay0] at h
theorem Qt:∀(ts:List ya),ya.canLayAll0 ts=true->ya.eqvAll ts ts=true
 | [],_=>by simp[ya.eqvAll]
 | t::ts,h=>by
  simp only[ya.canLayAll0,jl] at h;simp[ya.eqvAll,zgI t h.1,Qt ts h.2]
end
theorem fNe_refl{n:Nat}{t:ya}(h:Shp n t)(hn:n<=64):fNe t t=.ok (.bool false):=by
 unfold fNe;split
 ·simp
 ·simp[h.ok hn,zgI t h.1]
end Fx
namespace Lw
open PySem Fx
abbrev QB:List Sl->Nat:=uGcd
abbrev zaE:List Sl->Nat:=uGcd
def zcI:DS:=
  (dRet (zfU (d1 (fIs isInt) (dVar 0)) (zkc (d1 (fIs zjz) (dVar 0)))))
def ZY:DF:=runQ 1 1 zcI
def Q4:DS:=
  (dRet (dVar 0))
def Q5:DS:=
  dSeq (Qf QB (tV (d2 fNe (dVar 1) (dC (.int 0))))
  (dSeq (dSet 2 [] (d2 fMod (dVar 0) (dVar 1)))
  (dSeq (dSet 0 [] (dVar 1))
  (dSet 1 [] (dVar 2)))))
  Q4
def Q6:DS:=
  dSeq (dSet 1 [] (d1 fAbs (dVar 1)))
  Q5
def zak:DS:=
  dSeq (dSet 0 [] (d1 fAbs (dVar 0)))
  Q6
def ZR:DF:=runQ 3 2 zak
def Uy:DS:=
  (dRet (zfU (d2 fGe (d2 fIx (dVar 0) (dC (.int 1))) (dC (.int 1))) (d2 fEq (Zi ZR (Zc (d2 fIx (dVar 0) (dC (.int 0))) (Zc (d2 fIx (dVar 0) (dC (.int 1))) dNil))) (dC (.int 1)))))
def Uz:DS:=
  dSeq (dIf (tOr (tNot (tV (Zi ZY (Zc (d2 fIx (dVar 0) (dC (.int 0))) dNil)))) (tNot (tV (Zi ZY (Zc (d2 fIx (dVar 0) (dC (.int 1))) dNil)))))
  (dRet (dC (.bool false)))
  ZD)
  Uy
def Q1:DS:=
  dSeq (dIf (tOr (tNot (tV (d1 (fIs Qp) (dVar 0)))) (tV (d2 fNe (d1 fLen (dVar 0)) (dC (.int 2)))))
  (dRet (dC (.bool false)))
  ZD)
  Uz
def Xe:DF:=runQ 1 1 Q1
def zaw:DS:=
  (dRet (dTup (Zc (d2 fDiv (dVar 0) (dVar 2)) (Zc (d2 fDiv (dVar 1) (dVar 2)) dNil))))
def zax:DS:=
  dSeq (dIf (tV (d2 fLt (dVar 1) (dC (.int 0))))
  (dSet 2 [] (d1 fNeg (dVar 2)))
  ZD)
  zaw
def zay:DS:=
  dSeq (dSet 2 [] (Zi ZR (Zc (dVar 0) (Zc (dVar 1) dNil))))
  zax
def zgX:DS:=
  dSeq (dIf (tV (d2 fEq (dVar 1) (dC (.int 0))))
  dNev
  ZD)
  zay
def Yr:DF:=runQ 3 2 zgX
def d_plus:DS:=
  (dRet (Zi Yr (Zc (d2 fAdd (d2 fMul (d2 fIx (dVar 0) (dC (.int 0))) (d2 fIx (dVar 1) (dC (.int 1)))) (d2 fMul (d2 fIx (dVar 1) (dC (.int 0))) (d2 fIx (dVar 0) (dC (.int 1))))) (Zc (d2 fMul (d2 fIx (dVar 0) (dC (.int 1))) (d2 fIx (dVar 1) (dC (.int 1)))) dNil))))
def Ug:DF:=runQ 2 2 d_plus
def d_less:DS:=
  (dRet (Zi Yr (Zc (d2 fSub (d2 fMul (d2 fIx (dVar 0) (dC (.int 0))) (d2 fIx (dVar 1) (dC (.int 1)))) (d2 fMul (d2 fIx (dVar 1) (dC (.int 0))) (d2 fIx (dVar 0) (dC (.int 1))))) (Zc (d2 fMul (d2 fIx (dVar 0) (dC (.int 1))) (d2 fIx (dVar 1) (dC (.int 1)))) dNil))))
def za6:DF:=runQ 2 2 d_less
def zjT:DS:=
  (dRet (Zi Yr (Zc (d2 fMul (d2 fIx (dVar 0) (dC (.int 0))) (d2 fIx (dVar 1) (dC (.int 0)))) (Zc (d2 fMul (d2 fIx (dVar 0) (dC (.int 1))) (d2 fIx (dVar 1) (dC (.int 1)))) dNil))))
def Jy:DF:=runQ 2 2 zjT
def d_over:DS:=
  (dRet (Zi Yr (Zc (d2 fMul (d2 fIx (dVar 0) (dC (.int 0))) (d2 fIx (dVar 1) (dC (.int 1)))) (Zc (d2 fMul (d2 fIx (dVar 0) (dC (.int 1))) (d2 fIx (dVar 1) (dC (.int 0)))) dNil))))
def zeG:DF:=runQ 2 2 d_over
def zka:DS:=
  (dRet (d2 fLt (d2 fMul (d2 fIx (dVar 0) (dC (.int 0))) (d2 fIx (dVar 1) (dC (.int 1)))) (d2 fMul (d2 fIx (dVar 1) (dC (.int 0))) (d2 fIx (dVar 0) (dC (.int 1))))))
def WS:DF:=runQ 2 2 zka
def zbt:DS:=
  (dRet (zfU (Zi ZY (Zc (dVar 0) dNil)) (d2 fLe (d1 fAbs (dVar 0)) (dC (.int 999999999999)))))
def Xp:DF:=runQ 1 1 zbt
def JO:DS:=
  (dRet (dTup (Zc (d1 U6 (dVar 2)) (Zc (dVar 3) dNil))))
def JP:DS:=
  dSeq (dIf (tNot (tV (Zi Xp (Zc (dVar 3) dNil))))
  dNev
  ZD)
  JO
def JQ:DS:=
  dSeq (dIf (tNot (tV (d1 fAll (dL (YS 1 [] (Zu 0) (iSeq (dVar 2)) tT (Zi Xp (Zc (dVar 0) dNil)))))))
  dNev
  ZD)
  JP
def JR:DS:=
  dSeq (dIf (tOr (tNot (tV (d1 (fIs isList) (dVar 2)))) (tV (d2 fNe (d1 fLen (dVar 2)) (dVar 0))))
  dNev
  ZD)
  JQ
def JS:DS:=
  dSeq (dSet 3 [] (d2 fIx (dVar 1) (dC (.int 1))))
  JR
def JT:DS:=
  dSeq (dSet 2 [] (d2 fIx (dVar 1) (dC (.int 0))))
  JS
def zcA:DS:=
  dSeq (dIf (tOr (tNot (tV (d1 (fIs Qp) (dVar 1)))) (tV (d2 fNe (d1 fLen (dVar 1)) (dC (.int 2)))))
  dNev
  ZD)
  JT
def WJ:DF:=runQ 4 2 zcA
def zby:DS:=
  (dRet (dTup (Zc (dVar 0) (Zc (d1 U6 (dL (YS 1 [0] (Zu 0) (iSeq (dVar 1)) tT (Zi WJ (Zc (dVar 1) (Zc (dVar 0) dNil)))))) dNil))))
def zbz:DS:=
  dSeq (dIf (tOr (tNot (tV (d1 (fIs isList) (dVar 1)))) (tV (d2 fGt (d1 fLen (dVar 1)) (dC (.int 10)))))
  dNev
  ZD)
  zby
def zeN:DS:=
  dSeq (dIf (tOr (tNot (tV (Zi ZY (Zc (dVar 0) dNil)))) (tOr (tV (d2 fLt (dVar 0) (dC (.int 1)))) (tV (d2 fGt (dVar 0) (dC (.int 4))))))
  dNev
  ZD)
  zbz
def Ui:DF:=runQ 2 2 zeN
def UE:DS:=
  (dIf (tNot (tV (d1 fAll (dL (YS 1 [] (Zu 0) (iSeq (dVar 1)) tT (Zi Xe (Zc (dVar 0) dNil)))))))
  dNev
  ZD)
def Q7:DS:=
  dSeq (dIf (tOr (tNot (tV (d1 (fIs isList) (dVar 1)))) (tV (d2 fNe (d1 fLen (dVar 1)) (dVar 0))))
  dNev
  ZD)
  UE
def XM:DF:=runQ 2 2 Q7
def zcu:DS:=
  (dRet (dVar 2))
def zcv:DS:=
  dSeq (dFor (V6 3 4) [] (iZip (iSeq (dVar 0)) (iSeq (dVar 1)))
  (dSet 2 [] (Zi Ug (Zc (dVar 2) (Zc (Zi Yr (Zc (d2 fMul (dVar 3) (d2 fIx (dVar 4) (dC (.int 0)))) (Zc (d2 fIx (dVar 4) (dC (.int 1))) dNil))) dNil)))))
  zcu
def zgN:DS:=
  dSeq (dSet 2 [] (dTup (Zc (dC (.int 0)) (Zc (dC (.int 1)) dNil))))
  zcv
def X6:DF:=runQ 5 2 zgN
def WY:DS:=
  (dRet (d2 fAdd (d2 fMul (d2 fIx (dVar 0) (d2 fMod (dVar 1) (d1 fLen (dVar 0)))) (dC (.int 31))) (dVar 1)))
def XR:DS:=
  dSeq (dIf (tV (d2 fEq (dVar 0) (dLst dNil)))
  (dRet (dC (.int 0)))
  ZD)
  WY
def Wu:DS:=
  dSeq (dIf (tV (d2 fLt (dVar 1) (d1 fLen (dVar 0))))
  (dRet (d2 fIx (dVar 0) (dVar 1)))
  ZD)
  XR
def Zp:DF:=runQ 2 2 Wu
def Vg:DS:=
  (dRet (dVar 2))
def Vi:DS:=
  dSeq (dIf (tV (d2 fGt (dVar 2) (dVar 1)))
  (dRet (d2 fSub (d2 fSub (dVar 2) (d2 fMul (dC (.int 2)) (dVar 1))) (dC (.int 1))))
  ZD)
  Vg
def Uu:DS:=
  dSeq (dSet 2 [] (d2 fMod (dVar 0) (d2 fAdd (d2 fMul (dC (.int 2)) (dVar 1)) (dC (.int 1)))))
  Vi
def ZM:DF:=runQ 3 2 Uu
def JW:DS:=
  (dRet (dTup (Zc (dVar 1) (Zc (dVar 4) dNil))))
def JX:DS:=
  dSeq (dFor (Zu 5) [] (iRng (dVar 2))
  (dSeq (dSet 6 [] (d2 fAdd (dC (.int 8)) (d2 fMul (dVar 5) (d2 fAdd (dVar 1) (dC (.int 1))))))
  (dSeq (dSet 7 [] (dL (YS 1 [0,6,3] (Zu 0) (iRng (dVar 1)) tT (Zi ZM (Zc (Zi Zp (Zc (dVar 1) (Zc (d2 fAdd (dVar 2) (dVar 0)) dNil))) (Zc (dVar 3) dNil))))))
  (dSeq (dSet 8 [] (Zi ZM (Zc (Zi Zp (Zc (dVar 0) (Zc (d2 fAdd (dVar 6) (dVar 1)) dNil))) (Zc (dVar 3) dNil))))
  (dSeq (dIf (tV (d2 fEq (d2 fMod (Zi Zp (Zc (dVar 0) (Zc (dC (.int 4)) dNil))) (dC (.int 2))) (dC (.int 1))))
  (dSet 8 [] (d1 fAbs (dVar 8)))
  ZD)
  (dApp 4 [] (dTup (Zc (dVar 7) (Zc (dVar 8) dNil)))))))))
  JW
def Ux:DS:=
  dSeq (zal 4 [] (oLst dNil))
  JX
def Va:DS:=
  dSeq (dIf (tV (d2 fGt (dVar 3) (dC (.int 9))))
  (dSeq (dSet 1 [] (d2 fAdd (dC (.int 1)) (d2 fMod (dVar 1) (dC (.int 2)))))
  (dSet 2 [] (d2 fMod (dVar 2) (dC (.int 4)))))
  ZD)
  Ux
def Wh:DS:=
  dSeq (dIf (tV (d2 fEq (d2 fMod (Zi Zp (Zc (dVar 0) (Zc (dC (.int 3)) dNil))) (dC (.int 6))) (dC (.int 5))))
  (dSeq (dSet 1 [] (dC (.int 4)))
  (dSeq (dSet 2 [] (dC (.int 10)))
  (dSet 3 [] (dC (.int 2)))))
  ZD)
  Va
def JY:DS:=
  dSeq (dSet 3 [] (d2 fIx (dLst (Zc (dC (.int 3)) (Zc (dC (.int 3)) (Zc (dC (.int 9)) (Zc (d2 fSub (d2 fPow (dC (.int 10)) (dC (.int 12))) (dC (.int 1))) dNil))))) (d2 fMod (Zi Zp (Zc (dVar 0) (Zc (dC (.int 2)) dNil))) (dC (.int 4)))))
  Wh
def JZ:DS:=
  dSeq (dSet 2 [] (d2 fMod (Zi Zp (Zc (dVar 0) (Zc (dC (.int 1)) dNil))) (dC (.int 6))))
  JY
def zcD:DS:=
  dSeq (dSet 1 [] (d2 fAdd (dC (.int 1)) (d2 fMod (Zi Zp (Zc (dVar 0) (Zc (dC (.int 0)) dNil))) (dC (.int 3)))))
  JZ
def WK:DF:=runQ 9 1 zcD
def zaa:DS:=
  (dRet (dL (YS 1 [] (Zu 0) (iSeq (dVar 0)) tT (dTup (Zc (dL (zdp (d2 fIx (dVar 0) (dC (.int 0))))) (Zc (d2 fIx (dVar 0) (dC (.int 1))) dNil))))))
def Xy:DF:=runQ 1 1 zaa
def zbq:DS:=
  (dRet (dVar 0))
def zbr:DS:=
  dSeq (Qf zaE (tV (d2 fNe (dVar 1) (dC (.int 0))))
  (dSeq (dSet 2 [] (d2 fMod (dVar 0) (dVar 1)))
  (dSeq (dSet 0 [] (dVar 1))
  (dSet 1 [] (dVar 2)))))
  zbq
def zbs:DS:=
  dSeq (dSet 1 [] (d1 fAbs (dVar 1)))
  zbr
def zdO:DS:=
  dSeq (dSet 0 [] (d1 fAbs (dVar 0)))
  zbs
def Xd:DF:=runQ 3 2 zdO
def JU:DS:=
  (dRet (dTup (Zc (d2 fDiv (dVar 0) (dVar 2)) (Zc (d2 fDiv (dVar 1) (dVar 2)) dNil))))
def JV:DS:=
  dSeq (dIf (tV (d2 fLt (dVar 1) (dC (.int 0))))
  (dSet 2 [] (d1 fNeg (dVar 2)))
  ZD)
  JU
def zcC:DS:=
  dSeq (dSet 2 [] (Zi Xd (Zc (dVar 0) (Zc (dVar 1) dNil))))
  JV
def Yw:DF:=runQ 3 2 zcC
def QY:DS:=
  (dRet (dVar 2))
def QZ:DS:=
  dSeq (dFor (Zu 3) [] (iRng (dVar 1))
  (dSeq (dSet 4 [] (d2 fAdd (dC (.int 1)) (d2 fMod (Zi Zp (Zc (dVar 0) (Zc (d2 fAdd (dC (.int 47)) (dVar 3)) dNil))) (dC (.int 5)))))
  (dApp 2 [] (Zi Yw (Zc (Zi ZM (Zc (Zi Zp (Zc (dVar 0) (Zc (d2 fAdd (dC (.int 43)) (dVar 3)) dNil))) (Zc (dC (.int 12)) dNil))) (Zc (dVar 4) dNil))))))
  QY
def zbp:DS:=
  dSeq (zal 2 [] (oLst dNil))
  QZ
def WR:DF:=runQ 5 2 zbp
def zeL:DS:=
  (dRet (Zi Yw (Zc (d2 fAdd (d2 fMul (d2 fMul (d2 fIx (dVar 0) (dC (.int 0))) (d2 fIx (dVar 1) (dC (.int 1)))) (d2 fIx (dVar 2) (dC (.int 1)))) (d2 fMul (d2 fMul (d2 fIx (dVar 2) (dC (.int 0))) (d2 fIx (dVar 1) (dC (.int 0)))) (d2 fIx (dVar 0) (dC (.int 1))))) (Zc (d2 fMul (d2 fMul (d2 fIx (dVar 0) (dC (.int 1))) (d2 fIx (dVar 1) (dC (.int 1)))) (d2 fIx (dVar 2) (dC (.int 1)))) dNil))))
def XL:DF:=runQ 3 3 zeL
def QW:DS:=
  (dRet (dVar 2))
def QX:DS:=
  dSeq (dFor (Zu 3) [] (iRng (d1 fLen (dVar 1)))
  (dSet 2 [] (Zi XL (Zc (dVar 2) (Zc (d2 fIx (dVar 1) (dVar 3)) (Zc (dTup (Zc (d2 fIx (dVar 0) (dVar 3)) (Zc (dC (.int 1)) dNil))) dNil))))))
  QW
def zbo:DS:=
  dSeq (dSet 2 [] (dTup (Zc (dC (.int 0)) (Zc (dC (.int 1)) dNil))))
  QX
def Yp:DF:=runQ 4 2 zbo
def zfS:DS:=
  (dRet (d2 fLt (d2 fMul (d2 fIx (dVar 0) (dC (.int 0))) (d2 fIx (dVar 1) (dC (.int 1)))) (d2 fMul (d2 fIx (dVar 1) (dC (.int 0))) (d2 fIx (dVar 0) (dC (.int 1))))))
def ZW:DF:=runQ 2 2 zfS
def Qx:DS:=
  (dRet (zfU (d1 (fIs isInt) (dVar 0)) (zkc (d1 (fIs zjz) (dVar 0)))))
def Yg:DF:=runQ 1 1 Qx
def WU:DS:=
  (dRet (d2 fEq (Zi Xd (Zc (d2 fIx (dVar 0) (dC (.int 0))) (Zc (d2 fIx (dVar 0) (dC (.int 1))) dNil))) (dC (.int 1))))
def WV:DS:=
  dSeq (dIf (tOr (tNot (tV (Zi Yg (Zc (d2 fIx (dVar 0) (dC (.int 0))) dNil)))) (tOr (tNot (tV (Zi Yg (Zc (d2 fIx (dVar 0) (dC (.int 1))) dNil)))) (tV (d2 fLt (d2 fIx (dVar 0) (dC (.int 1))) (dC (.int 1))))))
  (dRet (dC (.bool false)))
  ZD)
  WU
def VA:DS:=
  dSeq (dIf (tOr (tNot (tV (d1 (fIs Qp) (dVar 0)))) (tV (d2 fNe (d1 fLen (dVar 0)) (dC (.int 2)))))
  (dRet (dC (.bool false)))
  ZD)
  WV
def Ye:DF:=runQ 1 1 VA
theorem zkj(a b:Int):ZR [.int a,.int b]=.ok (.int (yM a b)):=by show noX (runF 3 2 dGcd [.int a,.int b])=_;rw[gcd_ok];rfl
theorem ld_ok(a b:Int):Xd [.int a,.int b]=.ok (.int (yM a b)):=by show noX (runF 3 2 dGcd [.int a,.int b])=_;rw[gcd_ok];rfl
theorem zdD{u:Int}{g:Nat}:u.fdiv (g:Int)=u / (g:Int):=Int.fdiv_eq_ediv_of_nonneg _ (ybt _)
theorem Ve{u l:Int}{n:Nat}(hl:l ≠ 0)(h2:l.natAbs < 2 ^ n)(hn:n < 9000):Yr [.int u,.int l]=.ok (fr (y4 u l)):=by
 have hg:0 < yM u l:=Nat.pos_of_ne_zero (by simp[hl])
 have hgl:yM u l<=l.natAbs:=Nat.le_of_dvd (by omega) (Int.gcd_dvd_natAbs_right u l)
 have d1:zbd (yM u l:Int)=true:=zat (m:=n) (by omega) (by rw[j1];omega) hn
 have d2:zbd (-(yM u l:Int))=true:=zat (m:=n) (by omega) (by rw[qO,j1];omega) hn
 have hd1:(yM u l:Int) ∣ u:=Int.gcd_dvd_left ..;have hd2:(yM u l:Int) ∣ l:=ybz ..;by_cases c:l < 0
 ·have e1:u.fdiv (-(yM u l:Int))=(y4 u l).num:=by
   rw[ya8,Int.sign_eq_neg_one_of_neg c,ybc l u,Int.neg_one_mul];obtain⟨k,hk⟩:=hd1;generalize hG:(yM u l:Int)=G at *
   have hG0:0 < G:=by omega
   rw[hk,ycq ⟨-k,by rw[Int.neg_mul_neg]⟩]
   rw[Int.ediv_neg,<- Int.mul_neg,qZ _ (by omega),qZ _ (by omega)]
  have e2:l.fdiv (-(yM u l:Int))=((y4 u l).den:Int):=by
   rw[ya9,if_neg hl,ybc l u];obtain⟨k,hk⟩:=hd2;have hna:((l.natAbs / yM u l:Nat):Int)=-l / (yM u l:Int):=by
    rw[Int.natCast_ediv];have:(l.natAbs:Int)=-l:=by omega
    rw[this]
   rw[hna];generalize hG:(yM u l:Int)=G at *
   have hG0:0 < G:=by omega
   rw[hk,ycq ⟨-k,by rw[Int.neg_mul_neg]⟩]
   rw[Int.ediv_neg,<- Int.mul_neg,qZ _ (by omega),qZ _ (by omega)]
  simp[Yr,runQ,runF,zgX,zay,zax,zaw,fEq,zkj,hl,c,d2,e1,e2,fr]
 ·have e1:u.fdiv (yM u l:Int)=(y4 u l).num:=by
   rw[ya8,Int.sign_eq_one_of_pos (by omega),ybc l u,yaq,zdD]
  have e2:l.fdiv (yM u l:Int)=((y4 u l).den:Int):=by
   rw[ya9,if_neg hl,ybc l u,zdD,Int.natCast_ediv];have:(l.natAbs:Int)=l:=by omega
   rw[this]
  simp[Yr,runQ,runF,zgX,zay,zax,zaw,fEq,zkj,hl,c,d1,e1,e2,fr]
theorem at0(x y:ya):atP [x,y] 0=some x:=rfl
theorem at1(x y:ya):atP [x,y] 1=some y:=rfl
section
variable {a b:Rat}{m n:Nat}
theorem zfo(ha:Sz m a)(hb:Sz n b)(h:m+n < 8999):Ug [fr a,fr b]=.ok (fr (a+b)):=by
 have o1:Yv a.num b.den=true:=ZQ ha.num hb.denI (by omega)
 have o2:Yv b.num a.den=true:=ZQ hb.num ha.denI (by omega)
 have o3:Yv a.den b.den=true:=ZQ ha.denI hb.denI (by omega)
 have z:(a.den:Int) * b.den ≠ 0:=jA (Z8 a) (Z8 b);have e:=Ve (u:=a.num * b.den+b.num * a.den) (n:=m+n) z (Zv ha.denI hb.denI) (by omega)
 have q:a+b=y4 (a.num * b.den+b.num * a.den) (a.den * b.den):=by
  have:=ybn a.num b.num (Z8 a) (Z8 b);rw[ji,ji] at this;exact this
 rw[q];simp[Ug,runQ,runF,d_plus,at0,at1,o1,o2,o3,e,fr]
theorem zjf(ha:Sz m a)(hb:Sz n b)(h:m+n < 8999):za6 [fr a,fr b]=.ok (fr (a - b)):=by
 have o1:Yv a.num b.den=true:=ZQ ha.num hb.denI (by omega)
 have o2:Yv b.num a.den=true:=ZQ hb.num ha.denI (by omega)
 have o3:Yv a.den b.den=true:=ZQ ha.denI hb.denI (by omega)
 have z:(a.den:Int) * b.den ≠ 0:=jA (Z8 a) (Z8 b);have e:=Ve (u:=a.num * b.den - b.num * a.den) (n:=m+n) z (Zv ha.denI hb.denI) (by omega)
 have q:a - b=y4 (a.num * b.den - b.num * a.den) (a.den * b.den):=by
  have:=Rat.divInt_sub_divInt a.num b.num (Z8 a) (Z8 b);rw[ji,ji] at this;exact this
 rw[q];simp[za6,runQ,runF,d_less,at0,at1,o1,o2,o3,e,fr]
theorem times_ok(ha:Sz m a)(hb:Sz n b)(h:m+n < 8999):Jy [fr a,fr b]=.ok (fr (a * b)):=by
 have o1:Yv a.num b.num=true:=ZQ ha.num hb.num (by omega)
 have o3:Yv a.den b.den=true:=ZQ ha.denI hb.denI (by omega)
 have z:(a.den:Int) * b.den ≠ 0:=jA (Z8 a) (Z8 b);have e:=Ve (u:=a.num * b.num) (n:=m+n) z (Zv ha.denI hb.denI) (by omega)
 have q:a * b=y4 (a.num * b.num) (a.den * b.den):=by
  have:=yau a.num b.num (d₁:=a.den) (d₂:=b.den);rw[ji,ji] at this;exact this
 rw[q];simp[Jy,runQ,runF,zjT,at0,at1,o1,o3,e,fr]
theorem zaM(ha:Sz m a)(hb:Sz n b)(h:m+n < 8999)(hz:b ≠ 0):zeG [fr a,fr b]=.ok (fr (a / b)):=by
 have o1:Yv a.num b.den=true:=ZQ ha.num hb.denI (by omega)
 have o3:Yv a.den b.num=true:=ZQ ha.denI hb.num (by omega)
 have hz':b.num ≠ 0:=λz=>hz (Rat.num_eq_zero.mp z)
 have z:(a.den:Int) * b.num ≠ 0:=jA (Z8 a) hz';have e:=Ve (u:=a.num * b.den) (n:=m+n) z (Zv ha.denI hb.num) (by omega)
 have q:a / b=y4 (a.num * b.den) (a.den * b.num):=by
  have:=yau a.num b.den (d₁:=a.den) (d₂:=b.num);rw[ji,<- Rat.inv_def] at this;rw[qB];exact this
 rw[q];simp[zeG,runQ,runF,d_over,at0,at1,o1,o3,e,fr]
theorem zaC(ha:Sz m a)(hb:Sz n b)(h:m+n < 8999):WS [fr a,fr b]=.ok (.bool (decide (a < b))):=by
 have o1:Yv a.num b.den=true:=ZQ ha.num hb.denI (by omega)
 have o2:Yv b.num a.den=true:=ZQ hb.num ha.denI (by omega)
 simp[WS,runQ,runF,zka,at0,at1,o1,o2,fr,Rat.lt_iff]
end
theorem isfr_ok(q:Rat):Ye [fr q]=.ok (.bool true):=by
 have w:∀i:Int,Yg [.int i]=.ok (.bool true):=λi=>by simp[Yg,runQ,runF,Qx]
 have hd:¬((q.den:Int) < 1):=by have:=q.den_nz;omega
 simp[Ye,runQ,runF,VA,WV,WU,fr,at0,at1,w,ld_ok,hd,fNe,fEq,za3]
theorem at_lt{ns:List Int}{k:Int}(h0:0<=k)(h:k < ns.length):∃c:Int,atP (ns.map .int) k=some (.int c):=by
 have hk:k.toNat < ns.length:=by omega
 refine⟨ns[k.toNat],?_⟩;simp[atP,ixP,h0,h,hk]
theorem zaI:∀ns:List Int,YT (.list (ns.map .int))=true:=by
 intro ns;have h1:∀ns:List Int,ya.canLayAll0 (ns.map .int)=true:=by
  intro ns
  induction ns with
  | nil=>simp[ya.canLayAll0]
  | cons n ns ih=>simp[ya.canLayAll0,ya.canLay0,ih]
 have h2:∀ns:List Int,ya.depthAll (ns.map .int)=0:=by
  intro ns
  induction ns with
  | nil=>simp[ya.depthAll]
  | cons n ns ih=>simp[ya.depthAll,ya.depth,ih]
 simp[YT,ya.canLay0,ya.depth,h1,h2]
theorem eqv_nil(ns:List Int):ya.eqv (.list (ns.map .int)) (.list [])=ns.isEmpty:=by
 cases ns <;> simp[ya.eqv,ya.eqvAll]
theorem zca:YT (.list [])=true:=zaI []
theorem Vm(ns:List Int)(k:Int)(h0:0<=k):∃c:Int,Zp [.list (ns.map .int),.int k]=.ok (.int c):=by
 by_cases h:k < ns.length
 ·obtain⟨c,e⟩:=at_lt h0 h;exact⟨c,by simp[Zp,runQ,runF,Wu,XR,WY,h,e]⟩
 ·by_cases hz:ns=[]
  ·subst hz;exact⟨0,by
    have z:=zca;have hk:¬k < 0:=by omega
    simp[Zp,runQ,runF,Wu,XR,fEq,z,hk,ya.eqv,ya.eqvAll]⟩
  ·have hl:(0:Int) < ns.length:=by
    have:ns.length ≠ 0:=by simpa using hz
    omega
   have hf:jF k ns.length=k % ns.length:=yat _ (by omega)
   obtain⟨c,e⟩:=at_lt (ns:=ns) (k:=k % ns.length) (ya6 _ (by omega)) (yax _ hl)
   have hE:ns.isEmpty=false:=by simpa using hz
   have o:Yv c 31=true:=mulOk_r (by decide)
   refine⟨c * 31+k,?_⟩;simp[Zp,runQ,runF,Wu,XR,WY,h,fEq,zaI,zca,eqv_nil,hE,hz,hf,e,o]
theorem zaS(c w:Int)(hw:0<=w)(hs:w.natAbs < 2 ^ 67):∃r:Int,ZM [.int c,.int w]=.ok (.int r)/\-w<=r/\r<=w:=by
 have o:Yv 2 w=true:=Jv (by decide)
 have hm:2 * w+1 ≠ 0:=by omega
 have hf:jF c (2 * w+1)=c % (2 * w+1):=yat _ (by omega)
 have h1:0<=c % (2 * w+1):=ya6 _ hm;have h2:c % (2 * w+1) < 2 * w+1:=yax _ (by omega)
 by_cases h:w < c % (2 * w+1)
 ·refine⟨c % (2 * w+1) - 2 * w - 1,?_,by omega,by omega⟩
  simp[ZM,runQ,runF,Uu,Vi,Vg,o,hm,hf,h]
 ·refine⟨c % (2 * w+1),?_,by omega,by omega⟩
  simp[ZM,runQ,runF,Uu,Vi,Vg,o,hm,hf,h]
theorem zdw{u l:Int}{n:Nat}(hl:l ≠ 0)(h2:l.natAbs < 2 ^ n)(hn:n < 9000):Yw [.int u,.int l]=.ok (fr (y4 u l)):=by
 have e:=Ve (u:=u) hl h2 hn;rw[<- e];by_cases c:l < 0 <;> simp[Yw,Yr,runQ,runF,zcC,JV,JU,zgX,zay,zax,zaw,fEq,hl,c,zkj,ld_ok]
@[simp] def noD : ya -> Bool
 | .dict _=>false
 | _=>true
theorem zcS(t:ya)(h:noD t=true):ZY [t]=.ok (.bool (match t with | .int _=>true | _=>false)):=by
 cases t <;> simp[ZY,runQ,runF,zcI] at h ⊢
theorem V8(i:Int):ZY [.int i]=.ok (.bool true):=zcS (.int i) rfl
theorem zjd(t:ya)(h:noD t=true):Yg [t]=.ok (.bool (match t with | .int _=>true | _=>false)):=by
 cases t <;> simp[Yg,runQ,runF,Qx] at h ⊢
theorem zjy(q:Rat):Xe [fr q]=.ok (.bool true):=by
 have hd:(1:Int)<=(q.den:Int):=by have:=q.den_nz;omega
 simp[Xe,runQ,runF,Q1,Uz,Uy,fr,at0,at1,V8,zkj,hd,fNe,fEq,za3]
theorem Uf(w:Int):(ya.tuple [.int w,.int 1])=fr (w:Rat):=by simp[fr]
theorem Jw:(ya.tuple [.int 0,.int 1])=fr 0:=by simp[fr]
theorem Ud{a b:Rat}{m n:Nat}(ha:Sz m a)(hb:Sz n b)(h:m+n < 8999):ZW [fr a,fr b]=.ok (.bool (decide (a < b))):=zaC ha hb h
theorem add_ok{a b c:Rat}{m n k:Nat}(ha:Sz m a)(hb:Sz n b)(hc:Sz k c)(h:m+n+k < 8999):XL [fr a,fr b,fr c]=.ok (fr (a+c * b)):=by
 have o1:Yv a.num b.den=true:=ZQ ha.num hb.denI (by omega)
 have o2:Yv (a.num * b.den) c.den=true:=ZQ (Zv ha.num hb.denI) hc.denI (by omega)
 have o3:Yv c.num b.num=true:=ZQ hc.num hb.num (by omega)
 have o4:Yv (c.num * b.num) a.den=true:=ZQ (Zv hc.num hb.num) ha.denI (by omega)
 have o5:Yv a.den b.den=true:=ZQ ha.denI hb.denI (by omega)
 have o6:Yv (a.den * b.den) c.den=true:=ZQ (Zv ha.denI hb.denI) hc.denI (by omega)
 have z:(a.den:Int) * b.den * c.den ≠ 0:=jA (jA (Z8 a) (Z8 b)) (Z8 c);have e:=zdw (u:=a.num * b.den * c.den+c.num * b.num * a.den) (n:=m+n+k) z (Zv (Zv ha.denI hb.denI) hc.denI) (by omega)
 have q:a+c * b=y4 (a.num * b.den * c.den+c.num * b.num * a.den) (a.den * b.den * c.den):=by
  have e1:c * b=y4 (c.num * b.num) (c.den * b.den):=Ju c b;have e2:a=y4 a.num a.den:=(ji a).symm;have e3:=ybn a.num (c.num * b.num) (Z8 a) (jA (Z8 c) (Z8 b));rw[e1]
  conv=>lhs;rw[e2]
  rw[e3]
  congr 1
  ·rw[yba a.num,jY (b.den:Int)]
  ·rw[yba,jY (b.den:Int)]
 rw[q];simp[XL,runQ,runF,zeL,at0,at1,atP,ixP,o1,o2,o3,o4,o5,o6,e,fr]
def dot:List Int->List Rat->Rat
 | w::ws,p::ps=>(w:Rat) * p+dot ws ps
 | _,_=>0
theorem zas:∀(ws:List Int) (ps:List Rat) (i:Nat) (w:Int) (p:Rat),ws[i]? = some w->ps[i]? = some p->dot (ws.take (i+1)) (ps.take (i+1))=dot (ws.take i) (ps.take i)+(w:Rat) * p
 | w::ws,p::ps,0,w',p',h1,h2=>by
  simp at h1 h2;subst h1;subst h2;simp[dot,Rat.add_comm]
 | w::ws,p::ps,i+1,w',p',h1,h2=>by
  simp at h1 h2;have ih:=zas ws ps i w' p' h1 h2;simp only[List.take_succ_cons,dot];rw[ih,Rat.add_assoc]
 | [],_,i,w',p',h1,h2=>by simp at h1
 | _::_,[],i,w',p',h1,h2=>by simp at h2
structure WP(m n:Nat)(ws:List Int)(ps:List Rat):Prop where
 w:∀x ∈ ws,x.natAbs < 2 ^ m
 p:∀x ∈ ps,Sz n x
 m1:0 < m
 len:ws.length=ps.length
def wSz(m n i:Nat):Nat:=1+i * (m+n+1)
theorem WP.sz{m n:Nat}{ws:List Int}{ps:List Rat}(h:WP m n ws ps):∀i,i<=ps.length->Sz (wSz m n i) (dot (ws.take i) (ps.take i))
 | 0,_=>by simpa[dot,wSz] using Sz.zero
 | i+1,hi=>by
  have hw:i < ws.length:=by rw[h.len];exact hi
  have hp:i < ps.length:=hi;rw[zas ws ps i ws[i] ps[i] (by simp[hw]) (by simp[hp])]
  have s1:=h.sz i (Nat.le_of_succ_le hi);have s2:=(Sz.ofInt (h.w _ (jr hw)) h.m1).mul (h.p _ (jr hp));have:=s1.add s2;refine this.mono ?_;simp only[wSz,Nat.succ_mul];omega
theorem zbG{α:Type}{f:α->ya}{xs:List α}{i:Nat}(h:i < xs.length):atP (xs.map f) (i:Int)=some (f xs[i]):=by
 simp[atP,ixP,h]
theorem wSz_le{m n i j:Nat}(h:i<=j):wSz m n i<=wSz m n j:=by
 unfold wSz;have:=ybp (m+n+1) h;omega
def zhB(t:ya)(xs:List ya):Prop:=t=.list xs\/t=.tuple xs
def ze0:DS:=dSet 2 [] (Zi XL (Zc (dVar 2) (Zc (d2 fIx (dVar 1) (dVar 3)) (Zc (dTup (Zc (d2 fIx (dVar 0) (dVar 3)) (Zc (dC (.int 1)) dNil))) dNil))))
theorem zg9{m n:Nat}{ws:List Int}{ps:List Rat}{t:ya}(ht:zhB t (ws.map .int))(h:WP m n ws ps)(hb:wSz m n ps.length+m+n < 8000)(i:Nat)(hi:i < ps.length) :
  ze0 [.val t,.val (.list (ps.map fr)),.val (fr (dot (ws.take i) (ps.take i))),.val (.int i)]=.ok (.nx [.val t,.val (.list (ps.map fr)),.val (fr (dot (ws.take (i+1)) (ps.take (i+1)))),.val (.int i)]):=by
 have hw:i < ws.length:=by rw[h.len];exact hi
 have s1:=h.sz i (jD hi);have s2:=h.p _ (jr hi);have s3:=Sz.ofInt (h.w _ (jr hw)) h.m1;have l1:=wSz_le (m:=m) (n:=n) (jD hi);have a:=add_ok s1 s2 s3 (by omega)
 have i1:atP (ps.map fr) (i:Int)=some (fr ps[i]):=zbG hi;have i2:atP (ws.map .int) (i:Int)=some (.int ws[i]):=zbG hw;rw[zas ws ps i ws[i] ps[i] (by simp[hw]) (by simp[hi])]
 rcases ht with rfl | rfl <;> simp[ze0,i1,i2,Uf,a]
theorem zha{m n:Nat}{ws:List Int}{ps:List Rat}{t:ya}(ht:zhB t (ws.map .int))(h:WP m n ws ps)(hb:wSz m n ps.length+m+n < 8000) :
  ∃s,forL (Zu 3) ze0 (rngT 0 ps.length) [.val t,.val (.list (ps.map fr)),.val (fr 0),.emp]=.ok (.nx [.val t,.val (.list (ps.map fr)),.val (fr (dot ws ps)),s]):=by
 obtain⟨G',e,hG⟩:=zdA (st:=Zu 3) (b:=ze0) (n:=ps.length) (G:=[.val t,.val (.list (ps.map fr)),.val (fr 0),.emp]) (λi G=>∃s,G=[.val t,.val (.list (ps.map fr)),.val (fr (dot (ws.take i) (ps.take i))),s]) ⟨.emp,by simp[dot]⟩ λi G hi ⟨s,hG⟩=>by
   subst hG;exact⟨_,rfl,_,.inl (zg9 ht h hb i hi),⟨_,rfl⟩⟩
 obtain⟨s,rfl⟩:=hG;have e1:dot (ws.take ps.length) (ps.take ps.length)=dot ws ps:=by rw[jp,<- h.len,jp]
 rw[e1] at e;exact⟨s,e⟩
theorem zcT{m n:Nat}{ws:List Int}{ps:List Rat}{t:ya}(ht:zhB t (ws.map .int))(h:WP m n ws ps)(hb:wSz m n ps.length+m+n < 8000)(hl:ps.length < 1000):Yp [t,.list (ps.map fr)]=.ok (fr (dot ws ps)):=by
 obtain⟨s,e⟩:=zha ht h hb;have hl2:=Yk (n:=ps.length) (by omega)
 simp only[ze0] at e;simp[Yp,runQ,runF,zbo,QX,QW,Jw,hl2,e]
theorem Wn{α β:Type}{f:α->ya}{g:β->ya}:∀(xs:List α) (ys:List β),zipT (xs.map f) (ys.map g)=(xs.zip ys).map λp=>.tuple [f p.1,g p.2]
 | [],ys=>by simp[zipT]
 | x::xs,[]=>by simp[zipT]
 | x::xs,y::ys=>by simp[zipT,Wn xs ys]
theorem QA{m n:Nat}{ws:List Int}{ps:List Rat}{t:ya}(ht:zhB t (ws.map .int))(h:WP m n ws ps)(hb:wSz m n ps.length+m+n < 8000):X6 [t,.list (ps.map fr)]=.ok (fr (dot ws ps)):=by
 obtain⟨G',e,hG⟩:=VP (st:=V6 3 4) (b:=dSet 2 [] (Zi Ug (Zc (dVar 2) (Zc (Zi Yr (Zc (d2 fMul (dVar 3) (d2 fIx (dVar 4) (dC (.int 0)))) (Zc (d2 fIx (dVar 4) (dC (.int 1))) dNil))) dNil))))
  (λi G=>∃s s',G=[.val t,.val (.list (ps.map fr)),.val (fr (dot (ws.take i) (ps.take i))),s,s']) (zipT (ws.map .int) (ps.map fr)) 0 [.val t,.val (.list (ps.map fr)),.val (fr 0),.emp,.emp] ⟨.emp,.emp,by simp[dot]⟩ λi x G hx ⟨s,s',hG⟩=>by
   rw[qR] at *
   subst hG;rw[Wn,jc] at hx;cases hz:(ws.zip ps)[i]? with
   | none=>rw[hz] at hx;cases hx
   | some p=>
    rw[hz] at hx;simp at hx;subst hx;obtain⟨w1,p1⟩:=p;obtain⟨h1,h2⟩:=ycm.mp hz;have hi:i < ps.length:=(jb.mp h2).1;have s1:=h.sz i (jD hi);have s2:=h.p _ (yav h2);have s3:=h.w _ (yav h1);have l1:=wSz_le (m:=m) (n:=n) (jD hi);have o1:Yv w1 p1.num=true:=ZQ s3 s2.num (by omega)
    have e1:=Ve (u:=w1 * p1.num) (l:=p1.den) (n:=n) (Z8 p1) s2.denI (by omega)
    have q1:y4 (w1 * p1.num) p1.den=(w1:Rat) * p1:=by
     rw[Ju];simp
    rw[q1] at e1;have e2:=zfo s1 ((Sz.ofInt s3 h.m1).mul s2) (by omega)
    refine⟨_,rfl,[.val t,.val (.list (ps.map fr)),.val (fr (dot (ws.take (i+1)) (ps.take (i+1)))),.val (.int w1),.val (fr p1)],.inl ?_,⟨_,_,rfl⟩⟩;rw[zas ws ps i w1 p1 h1 h2];have f1:fr p1=.tuple [.int p1.num,.int p1.den]:=rfl;simp[f1,at0,at1,o1,e1,e2]
 obtain⟨s,s',rfl⟩:=hG;have el:(zipT (ws.map ya.int) (ps.map fr)).length=ps.length:=by rw[Wn];simp[h.len]
 have e1:dot (ws.take ps.length) (ps.take ps.length)=dot ws ps:=by rw[jp,<- h.len,jp]
 rw[qR,el,e1] at e;rcases ht with rfl | rfl <;> simp[X6,runQ,runF,zgN,zcv,zcu,Jw,e]
abbrev Lim:=List Int × Int
def limL(l:Lim):ya:=.tuple [.list (l.1.map .int),.int l.2]
def limT(l:Lim):ya:=.tuple [.tuple (l.1.map .int),.int l.2]
structure DeskOk(k w:Nat)(ls:List Lim):Prop where
 k1:1<=k
 k4:k<=4
 len:ls.length<=10
 ws:∀l ∈ ls,l.1.length=k/\(∀x ∈ l.1,x.natAbs<=w)/\l.2.natAbs<=w
 small:(k=4/\ls.length=10/\w=2)\/(k<=3/\ls.length<=5/\w<=9)\/(k<=2/\ls.length<=3/\w=999999999999)
theorem JL{c:Int}{n:Nat}(h:0 < n):∃r:Nat,jF c (n:Int)=(r:Int)/\r < n:=by
 rw[yat _ (by omega)]
 have h1:=ya6 c (b:=(n:Int)) (by omega)
 have h2:=yax c (b:=(n:Int)) (by omega)
 exact⟨(c % n).toNat,by omega,by omega⟩
def zhT:DS:=(dSeq (dSet 6 [] (d2 fAdd (dC (.int 8)) (d2 fMul (dVar 5) (d2 fAdd (dVar 1) (dC (.int 1))))))
  (dSeq (dSet 7 [] (dL (YS 1 [0,6,3] (Zu 0) (iRng (dVar 1)) tT (Zi ZM (Zc (Zi Zp (Zc (dVar 1) (Zc (d2 fAdd (dVar 2) (dVar 0)) dNil))) (Zc (dVar 3) dNil))))))
  (dSeq (dSet 8 [] (Zi ZM (Zc (Zi Zp (Zc (dVar 0) (Zc (d2 fAdd (dVar 6) (dVar 1)) dNil))) (Zc (dVar 3) dNil))))
  (dSeq (dIf (tV (d2 fEq (d2 fMod (Zi Zp (Zc (dVar 0) (Zc (dC (.int 4)) dNil))) (dC (.int 2))) (dC (.int 1))))
  (dSet 8 [] (d1 fAbs (dVar 8)))
  ZD)
  (dApp 4 [] (dTup (Zc (dVar 7) (Zc (dVar 8) dNil))))))))
theorem zeS(ns:List Int)(at_ w:Nat)(hw:w<=999999999999):∀(ks:List Nat),∃rs:List Int,YF (Zu 0) tT (Zi ZM (Zc (Zi Zp (Zc (dVar 1) (Zc (d2 fAdd (dVar 2) (dVar 0)) dNil))) (Zc (dVar 3) dNil)))
  [.emp,.val (.list (ns.map .int)),.val (.int at_),.val (.int w)] (ks.map λ(k:Nat)=>ya.int (k:Int))=.ok (rs.map .int)/\rs.length=ks.length/\∀x ∈ rs,x.natAbs<=w
 | []=>⟨[],rfl,rfl,by simp⟩
 | k::ks=>by
  obtain⟨rs,e,hl,hb⟩:=zeS ns at_ w hw ks;obtain⟨c,e1⟩:=Vm ns ((at_:Int)+(k:Int)) (by omega)
  obtain⟨r,e2,h1,h2⟩:=zaS c w (by omega) (by omega)
  refine⟨r::rs,?_,by simp[hl],?_⟩
  ·rw[yH];unfold YF;simp[e1,e2,e]
  ·intro x hx;rcases yI.mp hx with rfl | hx
   ·omega
   ·exact hb x hx
theorem zjQ(ns:List Int)(k many w i:Nat)(hk:1<=k/\k<=4)(hi:i < 100)(hw:w<=999999999999)(xs:List ya)(hx:xs.length < 100)(s6 s7 s8:Sl):∃(l:Lim) (s6' s7' s8':Sl),(l.1.length=k/\(∀x ∈ l.1,x.natAbs<=w)/\l.2.natAbs<=w) /\
  zhT [.val (.list (ns.map .int)),.val (.int k),.val (.int many),.val (.int w),.own xs,.val (.int i),s6,s7,s8]=.ok (.nx [.val (.list (ns.map .int)),.val (.int k),.val (.int many),.val (.int w),.own (xs++[limL l]),.val (.int i),s6',s7',s8']):=by
 obtain⟨a,e1'⟩:∃a:Nat,(8:Int)+(i:Int) * ((k:Int)+1)=(a:Int):=⟨8+i * (k+1),by simp⟩
 obtain⟨rs,e1,hl,hb⟩:=zeS ns a w hw (yF k);have hk2:=Yk (n:=k) (by omega)
 obtain⟨c,e2⟩:=Vm ns ((a:Int)+(k:Int)) (by omega)
 obtain⟨r,e3,h1,h2⟩:=zaS c w (by omega) (by omega)
 obtain⟨c4,e4⟩:=Vm ns 4 (by omega)
 have m1:Yv (i:Int) ((k:Int)+1)=true:=Jv (by omega)
 have hxl:xs.length < 16777216:=by omega
 have hk3:k<=16777216:=by omega
 rw[<- UP] at e1;have e1k:(if(rngT 0 k).length<=16777216 then YF (Zu 0) tT (Zi ZM (Zc (Zi Zp (Zc (dVar 1) (Zc (d2 fAdd (dVar 2) (dVar 0)) dNil))) (Zc (dVar 3) dNil)))
  [.emp,.val (.list (ns.map .int)),.val (.int a),.val (.int w)] (rngT 0 k) else .stuck)=.ok (rs.map .int):=by rw[Wq,if_pos hk3,e1]
 have step:∀G,zhT [.val (.list (ns.map .int)),.val (.int k),.val (.int many),.val (.int w),.own xs,.val (.int i),s6,s7,s8]=.ok (.nx G) ↔
   (dSeq (dIf (tV (d2 fEq (d2 fMod (Zi Zp (Zc (dVar 0) (Zc (dC (.int 4)) dNil))) (dC (.int 2))) (dC (.int 1)))) (dSet 8 [] (d1 fAbs (dVar 8))) ZD) (dApp 4 [] (dTup (Zc (dVar 7) (Zc (dVar 8) dNil)))))
    [.val (.list (ns.map .int)),.val (.int k),.val (.int many),.val (.int w),.own xs,.val (.int i),.val (.int a),.val (.list (rs.map .int)),.val (.int r)]=.ok (.nx G):=λG=>by
  unfold zhT;simp only[dSeq,Q9,d2,dC,dVar,Res.bind_ok,dL,YS,iRng,capS,yH,qQ,Zi,Zc,dNil];simp[m1,e1',hk2,e1k,e2,e3]
 by_cases h4:jF c4 2=1
 ·refine⟨(rs,(r.natAbs:Int)),.val (.int a),.val (.list (rs.map .int)),.val (.int (r.natAbs:Int)),⟨by simpa using hl,hb,by simp;omega⟩,(step _).mpr ?_⟩
  have ha:(if r < 0 then -r else r)=(r.natAbs:Int):=abs_if r
  simp[e4,fEq,h4,ha,hxl,limL]
 ·refine⟨(rs,r),.val (.int a),.val (.list (rs.map .int)),.val (.int r),⟨by simpa using hl,hb,by omega⟩,(step _).mpr ?_⟩
  simp[e4,fEq,h4,hxl,limL]
theorem QP(ns:List Int)(k many w:Nat)(hk:1<=k/\k<=4)(hm:many<=10)(hw:w<=999999999999):∃(ls:List Lim) (G':List Sl),ls.length=many/\(∀l ∈ ls,l.1.length=k/\(∀x ∈ l.1,x.natAbs<=w)/\l.2.natAbs<=w) /\
  (∃s5 s6 s7 s8,G'=[.val (.list (ns.map .int)),.val (.int k),.val (.int many),.val (.int w),.own (ls.map limL),s5,s6,s7,s8]) /\
  forL (Zu 5) zhT (rngT 0 many) [.val (.list (ns.map .int)),.val (.int k),.val (.int many),.val (.int w),.own [],.emp,.emp,.emp,.emp]=.ok (.nx G'):=by
 obtain⟨G',e,ls,s5,s6,s7,s8,hl,hb,rfl⟩:=zdA (st:=Zu 5) (b:=zhT) (n:=many) (G:=[.val (.list (ns.map .int)),.val (.int k),.val (.int many),.val (.int w),.own [],.emp,.emp,.emp,.emp])
  (λi G=>∃(ls:List Lim) (s5 s6 s7 s8:Sl),ls.length=i/\(∀l ∈ ls,l.1.length=k/\(∀x ∈ l.1,x.natAbs<=w)/\l.2.natAbs<=w)/\G=[.val (.list (ns.map .int)),.val (.int k),.val (.int many),.val (.int w),.own (ls.map limL),s5,s6,s7,s8])
  ⟨[],.emp,.emp,.emp,.emp,rfl,by simp,rfl⟩ λi G hi ⟨ls,s5,s6,s7,s8,hl,hb,hG⟩=>by
   subst hG;obtain⟨l,s6',s7',s8',hlk,e⟩:=zjQ ns k many w i hk (by omega) hw (ls.map limL) (by rw[jm];omega) s6 s7 s8
   refine⟨_,rfl,_,.inl e,ls++[l],.val (.int i),s6',s7',s8',by simp[hl],?_,by simp⟩
   intro l' hl';rcases ju.mp hl' with h | h
   ·exact hb l' h
   ·simp at h;subst h;exact hlk
 exact⟨ls,_,hl,hb,⟨s5,s6,s7,s8,rfl⟩,e⟩
theorem at4{a b c d:ya}{r:Nat}(h:r < 4):atP [a,b,c,d] (r:Int)=some (if r=0 then a else if r=1 then b else if r=2 then c else d):=by
 match r,h with
 | 0,_=>rfl
 | 1,_=>rfl
 | 2,_=>rfl
 | 3,_=>rfl
theorem big12':(10:Int) ^ 12=1000000000000:=by decide
theorem zbf(ns:List Int)(k many w:Nat)(hk:1<=k/\k<=4)(hm:many<=10)(hw:w<=999999999999)(hs:(k=4/\many=10/\w=2)\/(k<=3/\many<=5/\w<=9)\/(k<=2/\many<=3/\w=999999999999)) :
  ∃(ls:List Lim),DeskOk k w ls/\Ux [.val (.list (ns.map .int)),.val (.int k),.val (.int many),.val (.int w),.emp,.emp,.emp,.emp,.emp]=.ok (.rt (.tuple [.int k,.list (ls.map limL)])):=by
 obtain⟨ls,G',hl,hb,⟨s5,s6,s7,s8,rfl⟩,e⟩:=QP ns k many w hk hm hw;have h2:=Yk (n:=many) (by omega)
 refine⟨ls,⟨hk.1,hk.2,by omega,hb,by rw[hl];exact hs⟩,?_⟩
 simp only[zhT] at e;simp[Ux,JX,JW,h2,e]
theorem desk_ok(ns:List Int):∃(k w:Nat) (ls:List Lim),DeskOk k w ls/\WK [.list (ns.map .int)]=.ok (.tuple [.int k,.list (ls.map limL)]):=by
 obtain⟨c0,e0⟩:=Vm ns 0 (by omega)
 obtain⟨c1,e1⟩:=Vm ns 1 (by omega)
 obtain⟨c2,e2⟩:=Vm ns 2 (by omega)
 obtain⟨c3,e3⟩:=Vm ns 3 (by omega)
 obtain⟨r0,m0,h0⟩:∃r:Nat,jF c0 3=(r:Int)/\r < 3:=JL (n:=3) (by decide)
 obtain⟨r1,m1,h1⟩:∃r:Nat,jF c1 6=(r:Int)/\r < 6:=JL (n:=6) (by decide)
 obtain⟨r2,m2,h2⟩:∃r:Nat,jF c2 4=(r:Int)/\r < 4:=JL (n:=4) (by decide)
 obtain⟨r3,m3,h3⟩:∃r:Nat,jF c3 6=(r:Int)/\r < 6:=JL (n:=6) (by decide)
 have a4:=at4 (a:=.int 3) (b:=.int 3) (c:=.int 9) (d:=.int 999999999999) h2;obtain⟨w,aw,hw⟩:∃w:Nat,atP [.int 3,.int 3,.int 9,.int 999999999999] (r2:Int)=some (.int w)/\(w<=9\/w=999999999999):=by
  rw[a4];by_cases q0:r2=0
  ·exact⟨3,by simp[q0],.inl (by decide)⟩
  ·by_cases q1:r2=1
   ·exact⟨3,by simp[q1],.inl (by decide)⟩
   ·by_cases q2:r2=2
    ·exact⟨9,by simp[q2],.inl (by decide)⟩
    ·exact⟨999999999999,by simp[q0,q1,q2],.inr rfl⟩
 -- the three ways
 have top:∀(G:List Sl) (t:ya),Wh [.val (.list (ns.map .int)),.val (.int (1+(r0:Int))),.val (.int r1),.val (.int w),.emp,.emp,.emp,.emp,.emp]=.ok (.rt t)->WK [.list (ns.map .int)]=.ok t:=λ_ t h=>by
  simp[WK,runQ,runF,zcD,JZ,JY,e0,e1,e2,m0,m1,m2,big12',aw,h]
 by_cases h35:r3=5
 ·obtain⟨ls,ok,e⟩:=zbf ns 4 10 2 (by decide) (by decide) (by decide) (.inl (by decide))
  refine⟨_,_,ls,ok,top [] _ ?_⟩;simp[Wh,Va,e3,m3,h35,fEq];exact e
 ·have h35':¬((r3:Int)=5):=by omega
  rcases hw with hw | hw
  ·obtain⟨ls,ok,e⟩:=zbf ns (1+r0) r1 w (by omega) (by omega) (by omega) (.inr (.inl (by omega)))
   refine⟨_,_,ls,ok,top [] _ ?_⟩;have hw9:¬(9 < (w:Int)):=by omega
   simp[Wh,Va,e3,m3,h35',fEq,hw9];exact e
  ·obtain⟨rk,mk,hk⟩:∃r:Nat,jF (1+(r0:Int)) 2=(r:Int)/\r < 2:=JL (n:=2) (by decide)
   obtain⟨rm,mm,hm⟩:∃r:Nat,jF (r1:Int) 4=(r:Int)/\r < 4:=JL (n:=4) (by decide)
   obtain⟨ls,ok,e⟩:=zbf ns (1+rk) rm w (by omega) (by omega) (by omega) (.inr (.inr (by omega)))
   refine⟨_,_,ls,ok,top [] _ ?_⟩;have hw9:9 < (w:Int):=by omega
   simp[Wh,Va,e3,m3,h35',fEq,hw9,mk,mm];exact e
theorem zkg(ls:List Lim)(h:ls.length<=1000):Xy [.list (ls.map limL)]=.ok (.list (ls.map limL)):=by
 have e:=Z6 (st:=Zu 0) (e:=(dTup (Zc (dL (zdp (d2 fIx (dVar 0) (dC (.int 0))))) (Zc (d2 fIx (dVar 0) (dC (.int 1))) dNil)))) (C:=[.emp]) limL limL ls λl _=>⟨[.val (limL l)],rfl,by simp[limL,at0,at1]⟩
 have hl:ls.length<=16777216:=by omega
 simp[Xy,runQ,runF,zaa,hl,e]
theorem zgw{i:Int}(h:i.natAbs<=999999999999):Xp [.int i]=.ok (.bool true):=by
 have:(if i < 0 then -i else i)<=999999999999:=by split <;> omega
 simp[Xp,runQ,runF,zbt,V8,this]
theorem Jc{α:Type}:∀(xs:List α),allT (xs.map λ_=>ya.bool true)=.ok true
 | []=>rfl
 | _::xs=>by simp[allT,Jc xs]
structure LimOk(k w:Nat)(l:Lim):Prop where
 len:l.1.length=k
 ws:∀x ∈ l.1,x.natAbs<=w
 bd:l.2.natAbs<=w
theorem limit_ok{k w:Nat}{l:Lim}(h:LimOk k w l)(hw:w<=999999999999)(hk:k<=1000):WJ [.int k,limL l]=.ok (limT l):=by
 have e:=Z6 (st:=Zu 0) (e:=(Zi Xp (Zc (dVar 0) dNil))) (C:=[.emp]) ya.int (λ_=>ya.bool true) l.1 λx hx=>⟨[.val (.int x)],rfl,by simp[zgw (yE (h.ws x hx) hw)]⟩
 have hl:l.1.length<=16777216:=by rw[h.len];omega
 have hb:=zgw (yE h.bd hw);have a:=Jc l.1;obtain rfl:=h.len;simp[WJ,runQ,runF,zcA,JT,JS,JR,JQ,JP,JO,limL,limT,at0,at1,fNe,hl,e,hb,a]
theorem DeskOk.wb{k w:Nat}{ls:List Lim}(h:DeskOk k w ls):w<=999999999999:=by rcases h.small with h | h | h <;> omega
theorem zhM{k w:Nat}{ls:List Lim}(h:∀l ∈ ls,LimOk k w l)(hw:w<=999999999999)(hk:1<=k/\k<=4)(hl:ls.length<=10):Ui [.int k,.list (ls.map limL)]=.ok (.tuple [.int k,.tuple (ls.map limT)]):=by
 have e:=Z6 (st:=Zu 0) (e:=(Zi WJ (Zc (dVar 1) (Zc (dVar 0) dNil)))) (C:=[.emp,.val (.int k)]) limL limT ls λl hm=>⟨[.val (limL l),.val (.int k)],rfl,by simp[limit_ok (h l hm) hw (by omega)]⟩
 have h1:¬((k:Int) < 1):=by omega
 have h2:¬(4 < (k:Int)):=by omega
 have h3:¬(10 < (ls.length:Int)):=by omega
 have h4:ls.length<=16777216:=by omega
 simp[Ui,runQ,runF,zeN,zbz,zby,V8,h1,h2,h3,h4,e]
theorem check_ok{k:Nat}{ps:List Rat}(h:ps.length=k)(hk:k<=1000):XM [.int k,.list (ps.map fr)]=.ok .none:=by
 have e:=Z6 (st:=Zu 0) (e:=(Zi Xe (Zc (dVar 0) dNil))) (C:=[.emp]) fr (λ_=>ya.bool true) ps λx hx=>⟨[.val (fr x)],rfl,by simp[zjy]⟩
 have hl:ps.length<=16777216:=by omega
 have a:=Jc ps;subst h;simp[XM,runQ,runF,Q7,UE,fNe,hl,e,a]
theorem zhl(ns:List Int)(k i:Nat)(xs:List ya)(hx:xs.length < 100)(s4:Sl):∃(q:Rat) (s4':Sl),Sz 4 q /\
  (dSeq (dSet 4 [] (d2 fAdd (dC (.int 1)) (d2 fMod (Zi Zp (Zc (dVar 0) (Zc (d2 fAdd (dC (.int 47)) (dVar 3)) dNil))) (dC (.int 5)))))
  (dApp 2 [] (Zi Yw (Zc (Zi ZM (Zc (Zi Zp (Zc (dVar 0) (Zc (d2 fAdd (dC (.int 43)) (dVar 3)) dNil))) (Zc (dC (.int 12)) dNil))) (Zc (dVar 4) dNil)))))
  [.val (.list (ns.map .int)),.val (.int k),.own xs,.val (.int i),s4]=.ok (.nx [.val (.list (ns.map .int)),.val (.int k),.own (xs++[fr q]),.val (.int i),s4']):=by
 obtain⟨c,e1⟩:=Vm ns (47+(i:Int)) (by omega)
 obtain⟨c',e2⟩:=Vm ns (43+(i:Int)) (by omega)
 obtain⟨r,e3,h1,h2⟩:=zaS c' 12 (by omega) (by omega)
 obtain⟨m,e4,h4⟩:∃r:Nat,jF c 5=(r:Int)/\r < 5:=JL (n:=5) (by decide)
 have z:(1:Int)+(m:Int) ≠ 0:=by omega
 have hm:((1:Int)+(m:Int)).natAbs < 2 ^ 4:=by omega
 have e5:=zdw (u:=r) z hm (by decide)
 have hxl:xs.length < 16777216:=by omega
 exact⟨y4 r (1+(m:Int)),.val (.int (1+(m:Int))),Yy z (by omega) hm,by simp[e1,e2,e3,e4,e5,hxl]⟩
theorem point_ok(ns:List Int)(k:Nat)(hk:k<=4):∃ps:List Rat,ps.length=k/\(∀q ∈ ps,Sz 4 q)/\WR [.list (ns.map .int),.int k]=.ok (.list (ps.map fr)):=by
 obtain⟨G',e,ps,s3,s4,hl,hb,rfl⟩:=zdA (st:=Zu 3) (b:=(dSeq (dSet 4 [] (d2 fAdd (dC (.int 1)) (d2 fMod (Zi Zp (Zc (dVar 0) (Zc (d2 fAdd (dC (.int 47)) (dVar 3)) dNil))) (dC (.int 5)))))
   (dApp 2 [] (Zi Yw (Zc (Zi ZM (Zc (Zi Zp (Zc (dVar 0) (Zc (d2 fAdd (dC (.int 43)) (dVar 3)) dNil))) (Zc (dC (.int 12)) dNil))) (Zc (dVar 4) dNil))))))
  (n:=k) (G:=[.val (.list (ns.map .int)),.val (.int k),.own [],.emp,.emp])
  (λi G=>∃(ps:List Rat) (s3 s4:Sl),ps.length=i/\(∀q ∈ ps,Sz 4 q)/\G=[.val (.list (ns.map .int)),.val (.int k),.own (ps.map fr),s3,s4]) ⟨[],.emp,.emp,rfl,by simp,rfl⟩ λi G hi ⟨ps,s3,s4,hl,hb,hG⟩=>by
   subst hG;obtain⟨q,s4',hq,e⟩:=zhl ns k i (ps.map fr) (by rw[jm];omega) s4
   refine⟨_,rfl,_,.inl e,ps++[q],.val (.int i),s4',by simp[hl],?_,by simp⟩
   intro x hx;rcases ju.mp hx with h | h
   ·exact hb x h
   ·simp at h;subst h;exact hq
 have h2:=Yk (n:=k) (by omega)
 exact⟨ps,hl,hb,by simp[WR,runQ,runF,zbp,QZ,QY,h2,e]⟩
theorem pow40:(999999999999:Nat) < 2 ^ 40:=by decide
section
variable {k w:Nat}{ls:List Lim}{ps:List Rat}
end
end Lw
namespace Fx
open PySem PySem.Spec PyProof.Rows L2
def LD(o:HO):Prop:=(∃vs,o=.lst vs)\/∃kvs,o=.dT kvs
def CO(c:yc)(q:Str):HO:=.ext λh=>∃oc vs t,h.get? c=some oc/\oc.data=.fields vs/\vs[1]? = some (.str q t)
def W7:List Str:=["raising_column"]
def lamQ(x:Str):Str:=x ++ ".<locals>." ++ "<lambda>"
def VE(K:yh)(H:Hp):Prop:=∀x c T,x ∈ W7->j3 K x=some (c,T) ->
 ∃ps,H T=some (.tbl ps)/\TriplesOk ps.toList/\∀pos cv,codeAmong pos ps.toList=some cv->∃c',cv=.ref c'/\H c'=some (CO c' (lamQ x))
def Nt(o:HO):Prop:=∀ps,o ≠ .tbl ps
theorem not_nt{o:HO}(h:¬Nt o):∃ps,o=.tbl ps:=jx λz=>h λps e=>z ⟨ps,e⟩
theorem JK{xs:List V}:Nt (.lst xs):=λ_ z=>by cases z
theorem nt_tup{xs:List V}:Nt (.tup xs):=λ_ z=>by cases z
theorem nt_ins{C dx:yc}{fs:List (Str × V)}:Nt (.ins C dx fs):=λ_ z=>by cases z
theorem zck{o:Obj}{u:HO}:Nt (.frz o u):=λ_ z=>by cases z
theorem zi9{φ:yd->Prop}:Nt (.ext φ):=λ_ z=>by cases z
theorem nt_dT{kvs:List (List Key × V)}:Nt (.dT kvs):=λ_ z=>by cases z
theorem LD.nt{o:HO}(h:LD o):Nt o:=by rcases h with ⟨_,rfl⟩ | ⟨_,rfl⟩ <;> exact λ_ z=>by cases z
structure Same(H H':Hp):Prop where
 kp:∀b o,H b=some o->Nt o->H' b=some o
 free:∀{b},H' b=none->H b=none
 tab:∀K,VE K H->VE K H'
 tbk:∀b ps,H b=some (.tbl ps)->∃qs,H' b=some (.tbl qs)
theorem Same.refl(H:Hp):Same H H:=⟨λ_ _ h _=>h,λh=>h,λ_ h=>h,λ_ ps h=>⟨ps,h⟩⟩
theorem Same.trans{H H1 H2:Hp}(a:Same H H1)(b:Same H1 H2):Same H H2:=⟨λc o h n=>b.kp c o (a.kp c o h n) n,λh=>a.free (b.free h),λK h=>b.tab K (a.tab K h),λc ps h=>let⟨qs,h1⟩:=a.tbk c ps h;b.tbk c qs h1⟩
theorem VE.mono{K:yh}{H H':Hp}(h:VE K H)(e:∀b o,H b=some o->¬LD o->H' b=some o):VE K H':=λx c T hx ht=>by
 obtain⟨ps,h1,h2,h3⟩:=h x c T hx ht;refine⟨ps,e _ _ h1 (λz=>by rcases z with ⟨_,z⟩ | ⟨_,z⟩ <;> cases z),h2,λpos cv hc=>?_⟩
 obtain⟨c',e1,e2⟩:=h3 pos cv hc;exact⟨c',e1,e _ _ e2 (λz=>by rcases z with ⟨_,z⟩ | ⟨_,z⟩ <;> cases z)⟩
theorem Same.of{H H':Hp}(e:∀b o,H b=some o->H' b=some o):Same H H' where
 kp:=λb o h _=>e b o h
 free:=λ{b} h=>by
  cases q:H b with
  | none=>rfl
  | some o=>rw[e b o q] at h;cases h
 tab:=λK h=>VE.mono h λb o q _=>e b o q
 tbk:=λb ps h=>⟨ps,e b _ h⟩
structure Pv where
 own:Nat->Option yc
 fb:yc->Prop
def Off(P:Pv)(a:yc):Prop:=(∀i,P.own i ≠ some a)/\¬P.fb a
def Tr(H:Hp)(P:Pv)(H':Hp)(P':Pv):Prop:=∀a o,H a=some o->Nt o->Off P a->H' a=some o/\Off P' a
theorem Tr.refl(H:Hp)(P:Pv):Tr H P H P:=λ_ _ h _ o=>⟨h,o⟩
theorem Tr.same{H H':Hp}{P:Pv}(e:Same H H'):Tr H P H' P:=λa o h n q=>⟨e.kp a o h n,q⟩
structure Go(H:Hp)(P:Pv)(H':Hp)(P':Pv):Prop where
 mv:∀a o,H a=some o->Nt o->(∀i,P.own i ≠ some a)->H' a=some o/\∀i,P'.own i ≠ some a
 fbe:P'.fb=P.fb
 free:∀{b},H' b=none->H b=none
 tab:∀K,VE K H->VE K H'
 tbk:∀b ps,H b=some (.tbl ps)->∃qs,H' b=some (.tbl qs)
theorem Go.refl(H:Hp)(P:Pv):Go H P H P:=⟨λ_ _ h _ o=>⟨h,o⟩,rfl,λh=>h,λ_ h=>h,λ_ ps h=>⟨ps,h⟩⟩
theorem Go.trans{H H1 H2:Hp}{P P1 P2:Pv}(a:Go H P H1 P1)(b:Go H1 P1 H2 P2):Go H P H2 P2:=⟨λc o h n q=>
 let⟨h1,q1⟩:=a.mv c o h n q
 b.mv c o h1 n q1,b.fbe.trans a.fbe,λh=>a.free (b.free h),λK h=>b.tab K (a.tab K h),λc ps h=>let⟨qs,h1⟩:=a.tbk c ps h;b.tbk c qs h1⟩
theorem Go.same{H H':Hp}{P:Pv}(e:Same H H'):Go H P H' P:=⟨λa o h n q=>⟨e.kp a o h n,q⟩,rfl,λh=>e.free h,e.tab,e.tbk⟩
theorem Go.tr{H H':Hp}{P P':Pv}(g:Go H P H' P'):Tr H P H' P':=λa o h n q=>⟨(g.mv a o h n q.1).1,(g.mv a o h n q.1).2,by rw[g.fbe];exact q.2⟩
theorem Go.all{H H':Hp}{P P':Pv}(g:Go H P H' P')(ho:∀i,P.own i=none):Same H H':=⟨λb o e n=>(g.mv b o e n λi=>by rw[ho i];exact λz=>by cases z).1,λh=>g.free h,g.tab,g.tbk⟩
def ModL(K:yh)(a:yc)(xs:List V):Prop:=
 ∃(o:Obj) (its:Array yb) (n:Nat),K.lookup a=some o/\o.cls=.type "list" /\ o.dict=none/\o.data=.seq its n/\its.size<=y7/\Vals xs its.toList
def SL(K:yh)(H:Hp)(P:Pv)(a:yc)(xs:List V):Prop:=(Rd H a (.lst xs)/\Off P a)\/ModL K a xs
def ST(K:yh)(H:Hp)(P:Pv)(a:yc)(xs:List V):Prop:=H a=some (.tup xs)/\Off P a
theorem SL.sq{K:yh}{H:Hp}{P:Pv}{a:yc}{xs:List V}(h:SL K H P a xs):SqL K H a xs:=by
 rcases h with ⟨h,_⟩ | h
 ·exact .inl h
 ·exact .inr h
theorem ST.sq{K:yh}{H:Hp}{P:Pv}{a:yc}{xs:List V}(h:ST K H P a xs):SqT K H a xs:=.inl (.inl h.1)
theorem Rd.go{H H':Hp}{P P':Pv}{a:yc}{u:HO}(g:Tr H P H' P')(n:Nt u)(h:Rd H a u)(o:Off P a):Rd H' a u/\Off P' a:=by
 rcases h with h | ⟨ob,h⟩
 ·exact⟨.inl (g _ _ h n o).1,(g _ _ h n o).2⟩
 ·exact⟨.inr ⟨ob,(g _ _ h zck o).1⟩,(g _ _ h zck o).2⟩
theorem SL.go{K:yh}{H H':Hp}{P P':Pv}{a:yc}{xs:List V}(g:Tr H P H' P')(h:SL K H P a xs):SL K H' P' a xs:=by
 rcases h with ⟨h,o⟩ | h
 ·exact .inl (Fx.Rd.go g JK h o)
 ·exact .inr h
theorem ST.go{K:yh}{H H':Hp}{P P':Pv}{a:yc}{xs:List V}(g:Tr H P H' P')(h:ST K H P a xs):ST K H' P' a xs:=g _ _ h.1 nt_tup h.2
def XO(K:yh)(a:yc):HO:=.ext λh=>∃ob C,h.get? a=some ob/\ob.cls=.ref C/\PySem.W.subIn K (.ref C) (.type "ValueError")=some true
mutual
def Rl(K:yh)(H:Hp)(P:Pv):ya->V->Prop
 | .none,v=>v=.non
 | .bool b,v=>v=.bl b
 | .int i,v=>v=.int i
 | .str x,v=>v=.str x
 | .list xs,v=>∃a vs,v=.ref a/\SL K H P a vs/\Rls K H P xs vs
 | .tuple xs,v=>∃a vs,v=.ref a/\ST K H P a vs/\Rls K H P xs vs
 | .dict xs,v=>(xs=[]/\∃a,v=.ref a/\H a=some (XO K a)/\Off P a)\/(xs ≠ []/\∃a C dx fs,v=.ref a/\H a=some (.ins C dx fs)/\Off P a/\Cls K C/\Rlp K H P C xs fs) \/
   ∃a ob kvs,v=.ref a/\H a=some (.frz ob (.dT kvs))/\Off P a/\Rld K H P xs kvs
def Rls(K:yh)(H:Hp)(P:Pv):List ya->List V->Prop
 | [],vs=>vs=[]
 | x::xs,vs=>∃v r,vs=v::r/\Rl K H P x v/\Rls K H P xs r
def Rlp(K:yh)(H:Hp)(P:Pv)(C:yc):List (ya × ya)->List (Str × V)->Prop
 | [],fs=>fs=[]
 | (k,t)::xs,fs=>∃n v r,fs=(n,v)::r/\k=.str n/\Vb K C n/\Rl K H P t v/\Rlp K H P C xs r
def Rld(K:yh)(H:Hp)(P:Pv):List (ya × ya)->List (List Key × V)->Prop
 | [],_=>False
 | (k,t)::xs,kvs=>k=.none/\t=.none/\Rlk K H P xs kvs
def Rlk(K:yh)(H:Hp)(P:Pv):List (ya × ya)->List (List Key × V)->Prop
 | [],kvs=>kvs=[]
 | (k,t)::xs,kvs=>∃ns v r,kvs=(qW Sum.inl ns,v)::r/\k=.tuple (qW .int ns)/\Rl K H P t v/\Rlk K H P xs r
end
mutual
theorem Rl.go{K:yh}{H H':Hp}{P P':Pv}(g:Tr H P H' P'):∀(t:ya) (v:V),Rl K H P t v->Rl K H' P' t v
 | .none,v,h=>by simpa only[Rl] using h
 | .bool b,v,h=>by simpa only[Rl] using h
 | .int i,v,h=>by simpa only[Rl] using h
 | .str x,v,h=>by simpa only[Rl] using h
 | .list xs,v,h=>by
  simp only[Rl] at h ⊢;obtain⟨a,vs,e,s,r⟩:=h;exact⟨a,vs,e,s.go g,Rls.go g xs vs r⟩
 | .tuple xs,v,h=>by
  simp only[Rl] at h ⊢;obtain⟨a,vs,e,s,r⟩:=h;exact⟨a,vs,e,s.go g,Rls.go g xs vs r⟩
 | .dict xs,v,h=>by
  simp only[Rl] at h ⊢;rcases h with ⟨e,a,e2,s,o⟩ | ⟨e,a,C,dx,fs,e2,s,o,c,r⟩ | ⟨a,ob,kvs,e2,s,o,r⟩
  ·exact .inl ⟨e,a,e2,g a _ s zi9 o⟩
  ·exact .inr (.inl ⟨e,a,C,dx,fs,e2,(g a _ s nt_ins o).1,(g a _ s nt_ins o).2,c,Rlp.go g xs fs r⟩)
  ·exact .inr (.inr ⟨a,ob,kvs,e2,(g a _ s zck o).1,(g a _ s zck o).2,Rld.go g xs kvs r⟩)
theorem Rls.go{K:yh}{H H':Hp}{P P':Pv}(g:Tr H P H' P'):∀(ts:List ya) (vs:List V),Rls K H P ts vs->Rls K H' P' ts vs
 | [],vs,h=>by simpa only[Rls] using h
 | x::xs,vs,h=>by
  simp only[Rls] at h ⊢;obtain⟨v,r,e,q,t⟩:=h;exact⟨v,r,e,Rl.go g x v q,Rls.go g xs r t⟩
theorem Rlp.go{K:yh}{H H':Hp}{P P':Pv}{C:yc}(g:Tr H P H' P'):∀(ts:List (ya × ya)) (fs:List (Str × V)),Rlp K H P C ts fs->Rlp K H' P' C ts fs
 | [],vs,h=>by simpa only[Rlp] using h
 | (k,t)::xs,vs,h=>by
  simp only[Rlp] at h ⊢;obtain⟨n,v,r,e,e2,na,q,z⟩:=h;exact⟨n,v,r,e,e2,na,Rl.go g t v q,Rlp.go g xs r z⟩
theorem Rld.go{K:yh}{H H':Hp}{P P':Pv}(g:Tr H P H' P'):∀(ts:List (ya × ya)) (kvs:List (List Key × V)),Rld K H P ts kvs->Rld K H' P' ts kvs
 | [],kvs,h=>by simp only[Rld] at h
 | (k,t)::xs,kvs,h=>by
  simp only[Rld] at h ⊢;exact⟨h.1,h.2.1,Rlk.go g xs kvs h.2.2⟩
theorem Rlk.go{K:yh}{H H':Hp}{P P':Pv}(g:Tr H P H' P'):∀(ts:List (ya × ya)) (kvs:List (List Key × V)),Rlk K H P ts kvs->Rlk K H' P' ts kvs
 | [],kvs,h=>by simpa only[Rlk] using h
 | (k,t)::xs,kvs,h=>by
  simp only[Rlk] at h ⊢;obtain⟨ns,v,r,e,e2,q,z⟩:=h;exact⟨ns,v,r,e,e2,Rl.go g t v q,Rlk.go g xs r z⟩
end
section
variable {K:yh}{H H':Hp}{P P':Pv}
theorem XC{v:V}:Rl K H P .none v ↔ v=.non:=by simp only[Rl]
theorem YQ{b:Bool}{v:V}:Rl K H P (.bool b) v ↔ v=.bl b:=by simp only[Rl]
theorem ZU{i:Int}{v:V}:Rl K H P (.int i) v ↔ v=.int i:=by simp only[Rl]
theorem QJ{x:Str}{v:V}:Rl K H P (.str x) v ↔ v=.str x:=by simp only[Rl]
theorem Z7{xs:List ya}{v:V}:Rl K H P (.list xs) v ↔ ∃a vs,v=.ref a/\SL K H P a vs/\Rls K H P xs vs:=by simp only[Rl]
theorem ZN{xs:List ya}{v:V}:Rl K H P (.tuple xs) v ↔ ∃a vs,v=.ref a/\ST K H P a vs/\Rls K H P xs vs:=by simp only[Rl]
theorem Jq{xs:List (ya × ya)}{v:V}:Rl K H P (.dict xs) v ↔ (xs=[]/\∃a,v=.ref a/\H a=some (XO K a)/\Off P a)\/(xs ≠ []/\∃a C dx fs,v=.ref a/\H a=some (.ins C dx fs)/\Off P a/\Cls K C/\Rlp K H P C xs fs)\/∃a ob kvs,v=.ref a/\H a=some (.frz ob (.dT kvs))/\Off P a/\Rld K H P xs kvs:=by simp only[Rl]
theorem zdb{k t:ya}{xs:List (ya × ya)}{kvs:List (List Key × V)}:Rld K H P ((k,t)::xs) kvs ↔ k=.none/\t=.none/\Rlk K H P xs kvs:=by simp only[Rld]
theorem Qn{kvs:List (List Key × V)}:Rlk K H P [] kvs ↔ kvs=[]:=by simp only[Rlk]
theorem Wr{k t:ya}{xs:List (ya × ya)}{kvs:List (List Key × V)}:Rlk K H P ((k,t)::xs) kvs ↔ ∃ns v r,kvs=(qW Sum.inl ns,v)::r/\k=.tuple (qW .int ns)/\Rl K H P t v/\Rlk K H P xs r:=by simp only[Rlk]
theorem rl_obj{n:Str}{t:ya}{xs:List (ya × ya)}{v:V}:Rl K H P (.dict ((.str n,t)::xs)) v ↔ ∃a C dx fs,v=.ref a/\H a=some (.ins C dx fs)/\Off P a/\Cls K C/\Rlp K H P C ((.str n,t)::xs) fs:=by
 rw[Jq];refine⟨λh=>?_,λh=>.inr (.inl ⟨by simp,h⟩)⟩
 rcases h with ⟨z,_⟩ | ⟨_,h⟩ | ⟨a,ob,kvs,_,_,_,r⟩
 ·cases z
 ·exact h
 ·cases(zdb.mp r).1
abbrev dictV(es:List (ya × ya)):ya:=.dict ((.none,.none)::es)
theorem zdc{es:List (ya × ya)}{v:V}:Rl K H P (dictV es) v ↔ ∃a ob kvs,v=.ref a/\H a=some (.frz ob (.dT kvs))/\Off P a/\Rlk K H P es kvs:=by
 rw[Jq];refine⟨λh=>?_,λ⟨a,ob,kvs,h1,h2,h3,h4⟩=>.inr (.inr ⟨a,ob,kvs,h1,h2,h3,zdb.mpr ⟨rfl,rfl,h4⟩⟩)⟩
 rcases h with ⟨z,_⟩ | ⟨_,a,C,dx,fs,_,_,_,_,r⟩ | ⟨a,ob,kvs,h1,h2,h3,r⟩
 ·cases z
 ·simp only[Rlp] at r;obtain⟨n,v,r,_,z,_⟩:=r;cases z
 ·exact⟨a,ob,kvs,h1,h2,h3,(zdb.mp r).2.2⟩
theorem ziC{C:yc}{fs:List (Str × V)}:Rlp K H P C [] fs ↔ fs=[]:=by simp only[Rlp]
theorem zgb{C:yc}{k t:ya}{xs:List (ya × ya)}{fs:List (Str × V)}:Rlp K H P C ((k,t)::xs) fs ↔ ∃n v r,fs=(n,v)::r/\k=.str n/\Vb K C n/\Rl K H P t v/\Rlp K H P C xs r:=by simp only[Rlp]
theorem Z2{vs:List V}:Rls K H P [] vs ↔ vs=[]:=by simp only[Rls]
theorem ZG{x:ya}{xs:List ya}{vs:List V}:Rls K H P (x::xs) vs ↔ ∃v r,vs=v::r/\Rl K H P x v/\Rls K H P xs r:=by simp only[Rls]
theorem Rls.length:∀{ts:List ya}{vs:List V},Rls K H P ts vs->ts.length=vs.length
 | [],vs,h=>by rw[Z2.mp h];rfl
 | t::ts,vs,h=>by
  obtain⟨v,r,rfl,_,q⟩:=ZG.mp h;simp only[jk,Rls.length q]
theorem Rls.get:∀{ts:List ya}{vs:List V}{i:Nat}{v:V},Rls K H P ts vs->vs[i]? = some v->∃t,ts[i]? = some t/\Rl K H P t v
 | [],vs,i,v,h,e=>by rw[Z2.mp h] at e;simp at e
 | t::ts,vs,0,v,h,e=>by
  obtain⟨v',r,rfl,q,_⟩:=ZG.mp h;simp at e;subst e;exact⟨t,rfl,q⟩
 | t::ts,vs,i+1,v,h,e=>by
  obtain⟨v',r,rfl,_,q⟩:=ZG.mp h;exact Rls.get (i:=i) q (by simpa using e)
theorem Rls.getT:∀{ts:List ya}{vs:List V}{i:Nat}{t:ya},Rls K H P ts vs->ts[i]? = some t->∃v,vs[i]? = some v/\Rl K H P t v
 | [],vs,i,v,h,e=>by simp at e
 | t::ts,vs,0,t',h,e=>by
  obtain⟨v',r,rfl,q,_⟩:=ZG.mp h;simp at e;subst e;exact⟨v',rfl,q⟩
 | t::ts,vs,i+1,t',h,e=>by
  obtain⟨v',r,rfl,_,q⟩:=ZG.mp h;exact Rls.getT (i:=i) q (by simpa using e)
theorem Rls.append:∀{ts us:List ya}{vs ws:List V},Rls K H P ts vs->Rls K H P us ws->Rls K H P (ts++us) (vs++ws)
 | [],us,vs,ws,h,q=>by rw[Z2.mp h];exact q
 | t::ts,us,vs,ws,h,q=>by
  obtain⟨v,r,rfl,a,b⟩:=ZG.mp h;exact ZG.mpr ⟨v,r++ws,rfl,a,Rls.append b q⟩
theorem Rls.set:∀{ts:List ya}{vs:List V}{t:ya}{v:V}(i:Nat),Rls K H P ts vs->Rl K H P t v->Rls K H P (ts.set i t) (vs.set i v)
 | [],vs,t,v,i,h,q=>by rw[Z2.mp h];exact Z2.mpr rfl
 | t'::ts,vs,t,v,0,h,q=>by
  obtain⟨v',r,rfl,a,b⟩:=ZG.mp h;exact ZG.mpr ⟨v,r,rfl,q,b⟩
 | t'::ts,vs,t,v,i+1,h,q=>by
  obtain⟨v',r,rfl,a,b⟩:=ZG.mp h;exact ZG.mpr ⟨v',r.set i v,rfl,a,Rls.set i b q⟩
theorem Rls.drop:∀{ts:List ya}{vs:List V}(n:Nat),Rls K H P ts vs->Rls K H P (ts.drop n) (vs.drop n)
 | ts,vs,0,h=>h
 | [],vs,n+1,h=>by rw[Z2.mp h];exact Z2.mpr rfl
 | t::ts,vs,n+1,h=>by
  obtain⟨v',r,rfl,a,b⟩:=ZG.mp h;exact Rls.drop n b
theorem Rls.take:∀{ts:List ya}{vs:List V}(n:Nat),Rls K H P ts vs->Rls K H P (ts.take n) (vs.take n)
 | ts,vs,0,h=>Z2.mpr rfl
 | [],vs,n+1,h=>by rw[Z2.mp h];exact Z2.mpr rfl
 | t::ts,vs,n+1,h=>by
  obtain⟨v',r,rfl,a,b⟩:=ZG.mp h;exact ZG.mpr ⟨v',r.take n,rfl,a,Rls.take n b⟩
theorem zga(ns:List Int):Rls K H P (ns.map .int) (ns.map V.int):=by
 induction ns with
 | nil=>exact Z2.mpr rfl
 | cons n ns ih=>exact ZG.mpr ⟨.int n,_,rfl,ZU.mpr rfl,ih⟩
end
def SlOk(K:yh)(H:Hp)(P:Pv)(i:Nat)(x:Option V):Sl->Prop
 | .emp=>True
 | .val t=>∃v,x=some v/\Rl K H P t v
 | .own xs=>∃p vs,x=some (.ref p)/\P.own i=some p/\H p=some (.lst vs)/\Rls K H P xs vs
 | .dct es=>∃p kvs,x=some (.ref p)/\P.own i=some p/\H p=some (.dT kvs)/\Rlk K H P es kvs
def Sl.mine:Sl->Prop
 | .own _ | .dct _=>True
 | _=>False
structure Hol(K:yh)(H:Hp)(P:Pv)(σ:L2.St)(G:List Sl):Prop where
 sl:∀i s,G[i]? = some s->SlOk K H P i (σ.getD i none) s
 inj:∀i j a,P.own i=some a->P.own j=some a->i=j
 only:∀i a,P.own i=some a->∃s,G[i]? = some s/\s.mine
 fbd:∀a,P.fb a->∃o,H a=some o/\LD o
 nfb:∀i a,P.own i=some a->¬P.fb a
 len:σ.length=G.length
 tab:VE K H
theorem getD_some{σ:L2.St}{i:Nat}{v:V}(h:σ.getD i none=some v):σ[i]? = some (some v):=by
 rw[y8] at h;cases e:σ[i]? with
 | none=>rw[e] at h;cases h
 | some x=>rw[e] at h;simp at h;rw[h]
section
variable {K:yh}{H H':Hp}{P P':Pv}{σ:L2.St}{G:List Sl}
theorem Hol.dom(h:Hol K H P σ G){i:Nat}{a:yc}(e:P.own i=some a):∃o,H a=some o/\LD o:=by
 obtain⟨s,q,m⟩:=h.only i a e;have z:=h.sl i _ q;cases s with
 | emp=>exact m.elim
 | val t=>exact m.elim
 | own xs=>
  obtain⟨p,vs,_,e',q',_⟩:=z;rw[e] at e';cases e';exact⟨_,q',.inl ⟨vs,rfl⟩⟩
 | dct es=>
  obtain⟨p,vs,_,e',q',_⟩:=z;rw[e] at e';cases e';exact⟨_,q',.inr ⟨vs,rfl⟩⟩
theorem Hol.nofb(h:Hol K H P σ G){p:yc}(e:H p=none):¬P.fb p:=λz=>by obtain⟨o,q,_⟩:=h.fbd p z;rw[e] at q;cases q
theorem Hol.off_new(h:Hol K H P σ G){p:yc}(e:H p=none):Off P p:=by
 refine⟨λi z=>?_,h.nofb e⟩
 obtain⟨vs,q,_⟩:=h.dom z;rw[e] at q;cases q
theorem Hol.ld(h:Hol K H P σ G){a:yc}(z:¬Off P a):∃o,H a=some o/\LD o:=by
 by_cases q:∃i,P.own i=some a
 ·obtain⟨i,q⟩:=q;exact h.dom q
 ·by_cases w:P.fb a
  ·exact h.fbd a w
  ·exact(z ⟨λi e=>q ⟨i,e⟩,w⟩).elim
theorem Hol.tup_off(h:Hol K H P σ G){a:yc}{xs:List V}(e:H a=some (.tup xs)):Off P a:=jx λz=>by
 obtain⟨o,q,m⟩:=h.ld z;rw[e] at q;cases q;rcases m with ⟨_,m⟩ | ⟨_,m⟩ <;> cases m
theorem Hol.same(h:Hol K H P σ G)(e:Same H H'):Hol K H' P σ G where
 sl:=λi s q=>by
  have z:=h.sl i s q;cases s with
  | emp=>trivial
  | val t=>obtain⟨v,e1,r⟩:=z;exact⟨v,e1,Rl.go (.same e) t v r⟩
  | own xs=>obtain⟨p,vs,e1,e2,e3,r⟩:=z;exact⟨p,vs,e1,e2,e.kp _ _ e3 JK,Rls.go (.same e) xs vs r⟩
  | dct es=>obtain⟨p,vs,e1,e2,e3,r⟩:=z;exact⟨p,vs,e1,e2,e.kp _ _ e3 nt_dT,Rlk.go (.same e) es vs r⟩
 inj:=h.inj
 only:=h.only
 fbd:=λa z=>let⟨o,q,m⟩:=h.fbd a z;⟨o,e.kp _ _ q m.nt,m⟩
 nfb:=h.nfb
 len:=h.len
 tab:=e.tab K h.tab
def Pv.del(P:Pv)(i:Nat):Pv:=⟨λj=>if j=i then none else P.own j,P.fb⟩
def Pv.put(P:Pv)(i:Nat)(p:yc):Pv:=⟨λj=>if j=i then some p else P.own j,P.fb⟩
theorem Tr.del{i:Nat}:Tr H P H (P.del i):=λa o h _ q=>⟨h,λj z=>by
 have z':(if j=i then none else P.own j)=some a:=z
 split at z'
 ·cases z'
 ·exact q.1 j z',q.2⟩
theorem Go.del{i:Nat}:Go H P H (P.del i):=⟨λa o h _ q=>⟨h,λj z=>by
 have z':(if j=i then none else P.own j)=some a:=z
 split at z'
 ·cases z'
 ·exact q j z'⟩,rfl,λh=>h,λ_ h=>h,λ_ ps h=>⟨ps,h⟩⟩
theorem Go.put{i:Nat}{p:yc}(hp:H p=none):Go H P H (P.put i p):=⟨λa o h _ q=>⟨h,λj z=>by
 have z':(if j=i then some p else P.own j)=some a:=z
 split at z'
 ·cases z';rw[hp] at h;cases h
 ·exact q j z'⟩,rfl,λh=>h,λ_ h=>h,λ_ ps h=>⟨ps,h⟩⟩
theorem VN{σ:L2.St}{i:Nat}{x:Option V}(h:i < σ.length):(σ.set i x).getD i none=x:=by
 rw[y8,jy h];rfl
theorem Qq{σ:L2.St}{i j:Nat}{x:Option V}(h:j ≠ i):(σ.set i x).getD j none=σ.getD j none:=by
 rw[y8,y8,jg (Ne.symm h)]
theorem Hol.setVal(h:Hol K H P σ G)(i:Nat){t:ya}{v:V}(r:Rl K H P t v):Hol K H (P.del i) (σ.set i (some v)) (G.set i (.val t)) where
 sl:=λj s q=>by
  by_cases e:j=i
  ·subst e;have hl:j < G.length:=by
    have:=(jb.mp q).1;simpa using this
   rw[jy hl] at q;cases q;refine⟨v,?_,Rl.go .del t v r⟩;exact VN (by rw[h.len];exact hl)
  ·rw[jg (Ne.symm e)] at q;have z:=h.sl j s q;rw[Qq e];cases s with
   | emp=>trivial
   | val t'=>obtain⟨v',e1,r'⟩:=z;exact⟨v',e1,Rl.go .del t' v' r'⟩
   | own xs=>obtain⟨p,vs,e1,e2,e3,r'⟩:=z;exact⟨p,vs,e1,(by show(if j=i then none else P.own j)=_;rw[if_neg e];exact e2),e3,Rls.go .del xs vs r'⟩
   | dct es=>obtain⟨p,vs,e1,e2,e3,r'⟩:=z;exact⟨p,vs,e1,(by show(if j=i then none else P.own j)=_;rw[if_neg e];exact e2),e3,Rlk.go .del es vs r'⟩
 inj:=λa b c h1 h2=>by
  have h1':(if a=i then none else P.own a)=some c:=h1
  have h2':(if b=i then none else P.own b)=some c:=h2
  split at h1'
  ·cases h1'
  ·split at h2'
   ·cases h2'
   ·exact h.inj a b c h1' h2'
 only:=λj a z=>by
  have z':(if j=i then none else P.own j)=some a:=z
  split at z'
  ·cases z'
  ·rename_i ne;obtain⟨xs,q,m⟩:=h.only j a z';exact⟨xs,by rw[jg (Ne.symm ne)];exact q,m⟩
 fbd:=h.fbd
 nfb:=λj a z=>by
  have z':(if j=i then none else P.own j)=some a:=z
  split at z'
  ·cases z'
  ·exact h.nfb j a z'
 len:=by rw[jP,jP];exact h.len
 tab:=h.tab
theorem Zz{p:yc}{o:HO}(h:H p=none):Same H (upd H p o):=.of λb u q=>by rw[Zr (ZH q h)];exact q
theorem Hol.upOwn(h:Hol K H P σ G){i:Nat}{ys xs:List ya}{vs:List V}{p:yc}(hi:G[i]? = some (.own ys))(hp:P.own i=some p)(r:Rls K H P xs vs):Hol K (upd H p (.lst vs)) P σ (G.set i (.own xs))/\Go H P (upd H p (.lst vs)) P:=by
 have hpl:=h.dom hp;have g0:Go H P (upd H p (.lst vs)) P:=⟨λa o e _ q=>⟨by rw[Zr (λz=>q i (by rw[z];exact hp))];exact e,q⟩,rfl,λ{b} w=>by
  by_cases z:b=p
  ·rw[z,Zt] at w;cases w
  ·rw[Zr z] at w;exact w,λK t=>VE.mono t λb o e nl=>by
  rw[Zr (λz=>by obtain⟨us,w,m⟩:=hpl;rw[z,w] at e;cases e;exact nl m)];exact e,λb ps e=>⟨ps,by rw[Zr (λz=>by obtain⟨us,w,m⟩:=hpl;rw[z,w] at e;cases e;rcases m with ⟨_,m⟩ | ⟨_,m⟩ <;> cases m)];exact e⟩⟩
 have gg:=g0.tr;have hl:i < G.length:=(jb.mp hi).1;refine⟨⟨λj s q=>?_,h.inj,λj a z=>?_,λa z=>?_,h.nfb,by rw[jP];exact h.len,g0.tab K h.tab⟩,g0⟩
 ·by_cases e:j=i
  ·subst e;rw[jy hl] at q;cases q;obtain⟨p',vs',e1,e2,_,_⟩:=h.sl j _ hi;rw[hp] at e2;cases e2;exact⟨p,vs,e1,hp,Zt,Rls.go gg xs vs r⟩
  ·rw[jg (Ne.symm e)] at q;have z:=h.sl j s q;cases s with
   | emp=>trivial
   | val t'=>obtain⟨v',e1,r'⟩:=z;exact⟨v',e1,Rl.go gg t' v' r'⟩
   | own xs'=>
    obtain⟨p',vs',e1,e2,e3,r'⟩:=z;refine⟨p',vs',e1,e2,?_,Rls.go gg xs' vs' r'⟩;rw[Zr (λz=>e (h.inj j i p' e2 (by rw[z];exact hp)))]
    exact e3
   | dct xs'=>
    obtain⟨p',vs',e1,e2,e3,r'⟩:=z;refine⟨p',vs',e1,e2,?_,Rlk.go gg xs' vs' r'⟩;rw[Zr (λz=>e (h.inj j i p' e2 (by rw[z];exact hp)))]
    exact e3
 ·by_cases e:j=i
  ·subst e;exact⟨_,jy hl,trivial⟩
  ·obtain⟨xs',q,m⟩:=h.only j a z;exact⟨xs',by rw[jg (Ne.symm e)];exact q,m⟩
 ·rw[Zr (λe=>h.nfb i p hp (by rw[<- e];exact z))]
  exact h.fbd a z
end
section
variable {K:yh}{H H':Hp}{P P':Pv}{σ:L2.St}{G:List Sl}
theorem Hol.frz1(h:Hol K H P σ G)(i:Nat):∃P',Hol K H P' σ (Fx.frz1 G i)/\Go H P H P':=by
 unfold Fx.frz1;split
 ·rename_i xs q;obtain⟨p,vs,e1,e2,e3,r⟩:=h.sl i _ q;have off:Off (P.del i) p:=⟨λj z=>by
   have z':(if j=i then none else P.own j)=some p:=z
   split at z'
   ·cases z'
   ·rename_i ne;exact ne (h.inj j i p z' e2),h.nfb i p e2⟩
  have r0:Rl K H (P.del i) (.list xs) (.ref p):=Z7.mpr ⟨p,vs,rfl,.inl ⟨.inl e3,off⟩,Rls.go .del xs vs r⟩;refine⟨P.del i,⟨λj s z=>?_,?_,?_,h.fbd,?_,by rw[jP];exact h.len,h.tab⟩,.del⟩
  ·by_cases e:j=i
   ·subst e;rw[jy (jb.mp q).1] at z;cases z;exact⟨.ref p,e1,r0⟩
   ·rw[jg (Ne.symm e)] at z;have z:=h.sl j s z;cases s with
    | emp=>trivial
    | val t'=>obtain⟨v',e1,r'⟩:=z;exact⟨v',e1,Rl.go .del t' v' r'⟩
    | own xs=>obtain⟨p,vs,e1,e2,e3,r'⟩:=z;exact⟨p,vs,e1,(by show(if j=i then none else P.own j)=_;rw[if_neg e];exact e2),e3,Rls.go .del xs vs r'⟩
    | dct es=>obtain⟨p,vs,e1,e2,e3,r'⟩:=z;exact⟨p,vs,e1,(by show(if j=i then none else P.own j)=_;rw[if_neg e];exact e2),e3,Rlk.go .del es vs r'⟩
  ·intro a b c h1 h2;have h1':(if a=i then none else P.own a)=some c:=h1
   have h2':(if b=i then none else P.own b)=some c:=h2
   split at h1'
   ·cases h1'
   ·split at h2'
    ·cases h2'
    ·exact h.inj a b c h1' h2'
  ·intro j a z;have z':(if j=i then none else P.own j)=some a:=z
   split at z'
   ·cases z'
   ·rename_i ne;obtain⟨xs,q,m⟩:=h.only j a z';exact⟨xs,by rw[jg (Ne.symm ne)];exact q,m⟩
  ·intro j a z;have z':(if j=i then none else P.own j)=some a:=z
   split at z'
   ·cases z'
   ·exact h.nfb j a z'
 ·exact⟨P,h,.refl _ _⟩
theorem Hol.frz(is:List Nat):∀{P:Pv}{G:List Sl},Hol K H P σ G->∃P',Hol K H P' σ (Fx.frz is G)/\Go H P H P':=by
 induction is with
 | nil=>exact λ{P G} h=>⟨P,h,.refl _ _⟩
 | cons i is ih=>
  intro P G h;obtain⟨P1,h1,g1⟩:=h.frz1 i;obtain⟨P2,h2,g2⟩:=ih h1;exact⟨P2,h2,g1.trans g2⟩
theorem VO:∀(G:List Sl) (i:Nat),(frzA G)[i]? = (G[i]?).map λs=>match s with | .own xs=>.val (.list xs) | .dct _=>.emp | s=>s
 | [],i=>by simp[frzA]
 | .own xs::r,0=>by simp[frzA]
 | .emp::r,0=>by simp[frzA]
 | .val t::r,0=>by simp[frzA]
 | .dct t::r,0=>by simp[frzA]
 | .own xs::r,i+1=>by simp[frzA,VO r i]
 | .emp::r,i+1=>by simp[frzA,VO r i]
 | .val t::r,i+1=>by simp[frzA,VO r i]
 | .dct t::r,i+1=>by simp[frzA,VO r i]
theorem WQ:∀(G:List Sl),(frzA G).length=G.length
 | []=>rfl
 | .own xs::r=>by simp[frzA,WQ r]
 | .emp::r=>by simp[frzA,WQ r]
 | .val t::r=>by simp[frzA,WQ r]
 | .dct t::r=>by simp[frzA,WQ r]
def Pv.bare(P:Pv):Pv:=⟨λ_=>none,P.fb⟩
theorem Hol.frzA(h:Hol K H P σ G):Hol K H P.bare σ (Fx.frzA G)/\Go H P H P.bare:=by
 have g0:Go H P H P.bare:=⟨λa o e _ q=>⟨e,λ_ z=>(by cases z)⟩,rfl,λh=>h,λ_ h=>h,λ_ ps h=>⟨ps,h⟩⟩
 have gg:=g0.tr;refine⟨⟨λj s z=>?_,λ_ _ _ z=>(by cases z),λ_ _ z=>(by cases z),h.fbd,λ_ _ z=>(by cases z),by rw[WQ];exact h.len,h.tab⟩,g0⟩
 rw[VO] at z;cases q:G[j]? with
 | none=>rw[q] at z;cases z
 | some s'=>
  rw[q] at z;have w:=h.sl j s' q;cases s' with
  | emp=>cases z;trivial
  | val t=>cases z;obtain⟨v,e,r⟩:=w;exact⟨v,e,Rl.go gg t v r⟩
  | dct t=>cases z;trivial
  | own xs=>
   cases z;obtain⟨p,vs,e1,e2,e3,r⟩:=w;exact⟨.ref p,e1,Z7.mpr ⟨p,vs,rfl,.inl ⟨.inl e3,λ_ z=>(by cases z),h.nfb j p e2⟩,Rls.go gg xs vs r⟩⟩
end
def Xg(K:yh)(W:Str->Hp->Prop)(H:Hp)(P:Pv)(r:Res ya)(Q:VK):Prop:=
 match r with
 | .ok t=>∀v H',Same H H'->Rl K H' P t v->Q v H'
 | .exc c=>∀H',Same H H'->W c H'
 | .stuck=>False
def tF(K:yh)(W:Str->Hp->Prop)(d:DE):TE:=λσ H Q=>∃G P,Hol K H P σ G/\Xg K W H P (d G) Q
def zhX(K:yh)(W:Str->Hp->Prop)(H:Hp)(P:Pv)(r:Res (List ya))(Q:List V->Hp->Prop):Prop:=
 match r with
 | .ok ts=>∀vs H',Same H H'->Rls K H' P ts vs->Q vs H'
 | .exc c=>∀H',Same H H'->W c H'
 | .stuck=>False
def tFA(K:yh)(W:Str->Hp->Prop)(d:DA):TA:=λσ H Q=>∃G P,Hol K H P σ G/\zhX K W H P (d G) Q
def zbH(W:Str->Hp->Prop)(H:Hp)(r:Res Bool)(Q:Bool->Hp->Prop):Prop:=
 match r with
 | .ok b=>∀H',Same H H'->Q b H'
 | .exc c=>∀H',Same H H'->W c H'
 | .stuck=>False
def tFT(K:yh)(W:Str->Hp->Prop)(d:DT):TT:=λσ H Q=>∃G P,Hol K H P σ G/\zbH W H (d G) Q
def Pv.fbd(P:Pv)(p:yc):Pv:=⟨P.own,λa=>P.fb a\/a=p⟩
def NewL(K:yh)(H:Hp)(P:Pv)(H':Hp)(P':Pv)(t:ya)(v:V):Prop:=
 ∃p us xs,v=.ref p/\t=.list xs/\H' p=some (.lst us)/\Rls K H' (P'.fbd p) xs us/\∀o,H p=some o->Nt o->∃i,P.own i=some p
theorem NewL.back{K:yh}{H H1 H':Hp}{P P1 P':Pv}{t:ya}{v:V}(g:Go H P H1 P1)(n:NewL K H1 P1 H' P' t v):NewL K H P H' P' t v:=by
 obtain⟨p,us,xs,e1,e2,e3,r,q⟩:=n;refine⟨p,us,xs,e1,e2,e3,r,λo e nt=>jx λz=>?_⟩
 have:=g.mv p o e nt λi w=>z ⟨i,w⟩
 obtain⟨i,w⟩:=q o this.1 nt;exact this.2 i w
def W0(K:yh)(W:Str->Hp->Prop)(fl:Bool)(H:Hp)(P:Pv)(r:Res Out)(D:Ends):Prop:=
 match r with
 | .ok (.nx G')=>∀σ' H' P',Go H P H' P'->Hol K H' P' σ' G'->D.nx σ' H'
 | .ok (.bk G')=>∀σ' H' P',Go H P H' P'->Hol K H' P' σ' G'->D.bk σ' H'
 | .ok (.ct G')=>∀σ' H' P',Go H P H' P'->Hol K H' P' σ' G'->D.ct σ' H'
 | .ok (.rt t)=>∀v H' P',Go H P H' P'->Rl K H' P' t v->(fl=true->NewL K H P H' P' t v)->D.rt v H'
 | .exc c=>∀H' P',Go H P H' P'->W c H'
 | .stuck=>False
def tFS(K:yh)(W:Str->Hp->Prop)(fl:Bool)(d:DS):TS:=λD σ H=>∃G P,Hol K H P σ G/\W0 K W fl H P (d G) D
def EV(X:Cx)(W:Str->Hp->Prop)(e:yj)(d:DE):Prop:=PE X e (tF X.K W d)
def AV(X:Cx)(W:Str->Hp->Prop)(es:List yj)(d:DA):Prop:=PA X es (tFA X.K W d)
def TV(X:Cx)(W:Str->Hp->Prop)(e:yj)(d:DT):Prop:=PT X e (tFT X.K W d)
def TW(X:Cx)(W:Str->Hp->Prop)(e:yj)(d:DT):Prop:=PW X e (tFT X.K W d)
def SV(X:Cx)(W:Str->Hp->Prop)(fl:Bool)(st:ym)(d:DS):Prop:=PS X st (tFS X.K W fl d)
def SVs(X:Cx)(W:Str->Hp->Prop)(fl:Bool)(st:List ym)(d:DS):Prop:=PSs X st (tFS X.K W fl d)
theorem ZF{X:Cx}{e:yj}{t t':TE}(h:PE X e t)(w:∀σ H Q,t' σ H Q->t σ H Q):PE X e t':=λpins s σ H Q I q=>h pins s σ H Q I (w σ H Q q)
theorem ziV{X:Cx}{e:List yj}{t t':TA}(h:PA X e t)(w:∀σ H Q,t' σ H Q->t σ H Q):PA X e t':=λpos pins s σ H Q I q=>h pos pins s σ H Q I (w σ H Q q)
theorem zdd{X:Cx}{e:yj}{t t':TT}(h:PT X e t)(w:∀σ H Q,t' σ H Q->t σ H Q):PT X e t':=λpins s σ H Q I q=>h pins s σ H Q I (w σ H Q q)
theorem ziF{X:Cx}{e:yj}{t t':TT}(h:PW X e t)(w:∀σ H Q,t' σ H Q->t σ H Q):PW X e t':=λwh pins s σ H Q I q=>h wh pins s σ H Q I (w σ H Q q)
theorem Xh{X:Cx}{e:ym}{t t':TS}(h:PS X e t)(w:∀D σ H,t' D σ H->t D σ H):PS X e t':=λpins s σ H D I q=>h pins s σ H D I (w D σ H q)
theorem zgg{X:Cx}{e:List ym}{t t':TS}(h:PSs X e t)(w:∀D σ H,t' D σ H->t D σ H):PSs X e t':=λpins s σ H D I q=>h pins s σ H D I (w D σ H q)
theorem ZE{K:yh}{W:Str->Hp->Prop}{σ:L2.St}{G:List Sl}{H:Hp}{P:Pv}{a:DE}(h:Hol K H P σ G){Q:VK}
  (hx:∀c,a G=.exc c->∀H',Same H H'->W c H') (hs:a G ≠ .stuck)
  (q:∀t v H',a G=.ok t->Same H H'->Hol K H' P σ G->Rl K H' P t v->Q v H'):tF K W a σ H Q:=by
 refine⟨G,P,h,?_⟩;unfold Xg;cases e:a G with
 | ok t=>exact λv H' s r=>q t v H' e s (h.same s) r
 | exc c=>exact hx c e
 | stuck=>exact hs e
theorem VG{K:yh}{W:Str->Hp->Prop}{σ:L2.St}{G:List Sl}{H:Hp}{P:Pv}{a:DT}(h:Hol K H P σ G){Q:Bool->Hp->Prop}
  (hx:∀c,a G=.exc c->∀H',Same H H'->W c H') (hs:a G ≠ .stuck)
  (q:∀t H',a G=.ok t->Same H H'->Hol K H' P σ G->Q t H'):tFT K W a σ H Q:=by
 refine⟨G,P,h,?_⟩;unfold zbH;cases e:a G with
 | ok t=>exact λH' s=>q t H' e s (h.same s)
 | exc c=>exact hx c e
 | stuck=>exact hs e
theorem VH{K:yh}{W:Str->Hp->Prop}{σ:L2.St}{G:List Sl}{H:Hp}{P:Pv}{a:DA}(h:Hol K H P σ G){Q:List V->Hp->Prop}
  (hx:∀c,a G=.exc c->∀H',Same H H'->W c H') (hs:a G ≠ .stuck)
  (q:∀t v H',a G=.ok t->Same H H'->Hol K H' P σ G->Rls K H' P t v->Q v H'):tFA K W a σ H Q:=by
 refine⟨G,P,h,?_⟩;unfold zhX;cases e:a G with
 | ok t=>exact λv H' s r=>q t v H' e s (h.same s) r
 | exc c=>exact hx c e
 | stuck=>exact hs e
section
variable {X:Cx}{W:Str->Hp->Prop}{a b c e:yj}{es:List yj}{da db:DE}{pos:Pos}
theorem Za(i:Nat){x:Str}{pos:Pos}(hN:X.N[i]? = some x:=by rfl)(hv:Vis X.env.scope x:=by first | exact yg rfl | exact yC (yg rfl) | exact yC (yC rfl))(hd:(x == ("__debug__" : Str))=false:=by decide)
  (hcd:(x == ("__classdict__" : Str))=false:=by decide):EV X W (.Name x pos) (dVar i):=
 ZF (U3 hN hv hd hcd) λσ H Q ⟨G,P,h,q⟩=>by
  unfold dVar at q;cases e:G[i]? with
  | none=>rw[e] at q;exact q.elim
  | some s=>
   rw[e] at q;cases s with
   | emp=>exact q.elim
   | own xs=>exact q.elim
   | dct xs=>exact q.elim
   | val t=>
    obtain⟨v,e1,r⟩:=h.sl i _ e;exact⟨v,getD_some e1,q v H (Same.refl H) r⟩
theorem Ze{i j pos}:EV X W (.Constant (.int i) j pos) (dC (.int i)):=ZF pe_int λσ H Q ⟨G,P,h,q⟩=>q _ H (Same.refl H) (ZU.mpr rfl)
theorem VR{b j pos}:EV X W (.Constant (.bool b) j pos) (dC (.bool b)):=ZF pe_bl λσ H Q ⟨G,P,h,q⟩=>q _ H (Same.refl H) (YQ.mpr rfl)
theorem zba{j pos}:EV X W (.Constant .none j pos) (dC .none):=ZF pe_non λσ H Q ⟨G,P,h,q⟩=>q _ H (Same.refl H) (XC.mpr rfl)
theorem Vz{x j pos}:EV X W (.Constant (.str x) j pos) (dC (.str x)):=ZF pe_str λσ H Q ⟨G,P,h,q⟩=>q _ H (Same.refl H) (QJ.mpr rfl)
theorem zdG{x:Str}{i:Int}{t:Tok}{pos:Pos}(hg:Gl X x)(hm:X.mg x=some (.int i t))(hd:(x == ("__debug__" : Str))=false:=by decide):EV X W (.Name x pos) (dC (.int i)):=
 ZF (pe_glob (v:=.int i) hg hm ⟨t,rfl⟩ hd) λσ H Q ⟨G,P,h,q⟩=>q _ H (Same.refl H) (ZU.mpr rfl)
def Fop(X:Cx)(W:Str->Hp->Prop)(r:R2)(f:ya->ya->Res ya):Prop:=
 ∀(H:Hp) (P:Pv) (σ:L2.St) (G:List Sl) (x y:V) (tx ty:ya) (Q:VK),Hol X.K H P σ G->Rl X.K H P tx x->Rl X.K H P ty y->Xg X.K W H P (f tx ty) Q->r x y H Q
theorem VV{a:Res ya}{f:ya->Res ya}{K:yh}{H:Hp}{P:Pv}{Q:VK}(q:Xg K W H P (a.bind f) Q) :
  (∀c,a=.exc c->∀H',Same H H'->W c H')/\a ≠ .stuck/\∀t,a=.ok t->Xg K W H P (f t) Q:=by
 cases a with
 | ok t=>exact⟨λc e=>(by cases e),(by intro e;cases e),λt' e=>by cases e;exact q⟩
 | exc c=>exact⟨λc' e=>by cases e;exact q,(by intro e;cases e),λt e=>by cases e⟩
 | stuck=>exact q.elim
theorem Xg.up{K:yh}{H H':Hp}{P:Pv}{r:Res ya}{Q:VK}(q:Xg K W H P r Q)(s:Same H H'):Xg K W H' P r Q:=by
 cases r with
 | ok t=>exact λv H2 s2 r2=>q v H2 (s.trans s2) r2
 | exc c=>exact λH2 s2=>q H2 (s.trans s2)
 | stuck=>exact q
theorem zf1{r:R2}{f:ya->ya->Res ya}(hf:Fop X W r f){σ:L2.St}{H:Hp}{Q:VK}(h:tF X.K W (d2 f da db) σ H Q):tOp r (tF X.K W da) (tF X.K W db) σ H Q:=by
 obtain⟨G,P,h,q⟩:=h;unfold d2 at q;obtain⟨q1,q2,q3⟩:=VV q;refine ZE h q1 q2 λtx x H1 ex s1 h1 rx=>?_
 obtain⟨q4,q5,q6⟩:=VV (q3 tx ex);refine ZE h1 (λc e H' s=>q4 c e H' (s1.trans s)) q5 λty y H2 ey s2 h2 ry=>?_
 exact hf H2 P σ G x y tx ty Q h2 (Rl.go (.same s2) tx x rx) ry ((q6 ty ey).up (s1.trans s2))
theorem Zw{op:Operator}{r:R2}{f:ya->ya->Res ya}(ho:OpR X (je op) r/\Fop X W r f)(ha:EV X W a da)(hb:EV X W b db):EV X W (.BinOp a op b pos) (d2 f da db):=
 ZF (pe_op ho.1 ha hb) λσ H Q h=>zf1 ho.2 h
theorem VY{op:CmpOp}{r:R2}{f:ya->ya->Res ya}(ho:OpR X (jd op) r/\Fop X W r f)(ha:EV X W a da)(hb:EV X W b db)(hm:jJ op b=false):EV X W (.Compare a [op] [b] pos) (d2 f da db):=
 ZF (pe_cmpR ho.1 ha hb hm) λσ H Q h=>zf1 ho.2 h
theorem zgD{C:Int->Int->Prop}{g:Int->Int->V}{f:ya->ya->Res ya}
  (h:∀(H:Hp) (P:Pv) (tx ty:ya) (Q:VK),Xg X.K W H P (f tx ty) Q->∃i j,tx=.int i/\ty=.int j/\C i j/\Q (g i j) H):Fop X W (rI C g) f:=λH P σ G x y tx ty Q hh rx ry q=>by
 obtain⟨i,j,rfl,rfl,c,q'⟩:=h H P tx ty Q q;exact⟨i,j,ZU.mp rx,ZU.mp ry,c,q'⟩
theorem za4{g:Int->Int->V}{f:ya->ya->Res ya}
  (h:∀(H:Hp) (P:Pv) (tx ty:ya) (Q:VK),Xg X.K W H P (f tx ty) Q->∃i j,tx=.int i/\ty=.int j/\Q (g i j) H):Fop X W (rI0 g) f:=λH P σ G x y tx ty Q hh rx ry q=>by
 obtain⟨i,j,rfl,rfl,q'⟩:=h H P tx ty Q q;exact⟨i,j,ZU.mp rx,ZU.mp ry,q'⟩
theorem XE{K:yh}{H:Hp}{P:Pv}{Q:VK}{i:Int}(q:Xg K W H P (.ok (.int i)) Q):Q (.int i) H:=q _ H (Same.refl H) (ZU.mpr rfl)
theorem ZB{K:yh}{H:Hp}{P:Pv}{Q:VK}{i:Bool}(q:Xg K W H P (.ok (.bool i)) Q):Q (.bl i) H:=q _ H (Same.refl H) (YQ.mpr rfl)
theorem SL.off{K:yh}{H:Hp}{P:Pv}{a:yc}{xs:List V}(h:H a=some (.lst xs))(o:Off P a):SL K H P a xs:=.inl ⟨.inl h,o⟩
def rCatS(K:yh):R2:=λx y H Q=>∃l b xs zs,x=.ref l/\y=.ref b/\SqL K H l xs/\SqL K H b zs/\xs.length+zs.length<=y7/\∀p,H p=none->Q (.ref p) (upd H p (.lst (xs++zs)))
theorem op_catS:OpR X (je .Add) (rCatS X.K):=by
 intro pins s σ H x y v u Q I rx ry h;obtain⟨l,b,xs,zs,rfl,rfl,hH,hB,hz,q⟩:=h;cases rx;cases ry;obtain⟨its,r,⟨o,n,e,hc,hd,hs⟩,z⟩:=I.list hH;obtain⟨its2,r2,⟨o2,n2,e2,hc2,hd2,hs2⟩,z2⟩:=I.list hB;obtain⟨c1,c2,c3,c4⟩:=o;obtain⟨k1,k2,k3,k4⟩:=o2;simp only at hc hd hs hc2 hd2 hs2;subst hc hd hs hc2 hd2 hs2;have l1:=r.length;have l2:=r2.length;refine concat_meets ⟨_,e,rfl⟩ ⟨_,e2,rfl⟩ noFill_list_add seq_list_add PySem.F.slot_list_add PySem.F.entry_list_add (PySem.F.args_list_add_2 _ _) (list_addW l b its.toArray its2.toArray n n2 none none c4 k4 (by simp;omega)) ⟨e,e2,?_⟩
 have ea:its.toArray++its2.toArray=(its++its2).toArray:=by simp
 rw[ea];exact⟨.ref _,_,I.lnew (t':=s.toks) (r.append r2) (by rw[qc];omega),rfl,q _ I.fresh⟩
theorem ZO:OpR X (je .Add) (λx y H Q=>rI0 (λi j=>.int (i+j)) x y H Q\/rCatS X.K x y H Q)/\Fop X W (λx y H Q=>rI0 (λi j=>.int (i+j)) x y H Q\/rCatS X.K x y H Q) fAdd:=
 ⟨op_add.or op_catS,λH P σ G x y tx ty Q h rx ry q=>by
  cases tx <;> cases ty <;> try exact q.elim
  ·exact .inl ⟨_,_,ZU.mp rx,ZU.mp ry,XE q⟩
  ·rename_i xs ys;refine .inr ?_;obtain⟨l,us,rfl,s1,r1⟩:=Z7.mp rx;obtain⟨m,ws,rfl,s2,r2⟩:=Z7.mp ry;simp only[fAdd] at q;split at q
   ·rename_i hz;have e1:=r1.length;have e2:=r2.length;refine⟨l,m,us,ws,rfl,rfl,s1.sq,s2.sq,by rw[j9];omega,λp hp=>q _ _ (Zz hp) (Z7.mpr ⟨p,us++ws,rfl,.off Zt (h.off_new hp),?_⟩)⟩
    exact(Rls.go (.same (Zz hp)) xs us r1).append (Rls.go (.same (Zz hp)) ys ws r2)
   ·exact q.elim⟩
theorem X1:OpR X (je .Sub) (rI0 λi j=>.int (i - j))/\Fop X W (rI0 λi j=>.int (i - j)) fSub:=
 ⟨op_sub,za4 λH P tx ty Q q=>by
  cases tx <;> cases ty <;> try exact q.elim
  exact⟨_,_,rfl,rfl,XE q⟩⟩
theorem mulOk_ok{i j:Int}(h:Yv i j=true):IntMulOk i j:=by
 have bits:∀k:Int,y9.Int.intBits k<=k.natAbs.log2+1:=λk=>by
  unfold y9.Int.intBits;split <;> omega
 simp only[Yv,qx,decide_eq_true_eq] at h;rcases h with (h | h) | h
 ·have h1:=bits i;have h2:=bits j;unfold IntMulOk;intro z;simp only[jl,decide_eq_true_eq,y9.Int.intTooBig] at z;have:=z.2;simp only[bitsLine] at this;omega
 ·exact .of_left (intBits_le_64 (by omega) (by omega))
 ·exact .of_right (intBits_le_64 (by omega) (by omega))
theorem ZJ:OpR X (je .Mult) (rI (λi j=>Yv i j=true) λi j=>.int (i * j))/\Fop X W (rI (λi j=>Yv i j=true) λi j=>.int (i * j)) fMul:=
 ⟨opI λ_ _ _ _ _ _ _ hc q=>mul_int q (mulOk_ok hc),zgD λH P tx ty Q q=>by
  cases tx <;> cases ty <;> try exact q.elim
  simp only[fMul] at q;split at q
  ·rename_i hc;exact⟨_,_,rfl,rfl,hc,XE q⟩
  ·exact q.elim⟩
theorem zgL{i j:Int}(h:zbd j=true):j ≠ 0/\y9.divisionGoesByPylong i j=false:=by
 simp only[zbd,jl,decide_eq_true_eq] at h;refine⟨h.1,?_⟩;unfold y9.divisionGoesByPylong;have e:(j == 0)=false:=by simpa using h.1
 simp only[e];have:¬(j.natAbs.log2 / 30+1 > 300):=by omega
 simp[this]
theorem Jr:OpR X (je .FloorDiv) (rI (λ_ j=>zbd j=true) λi j=>.int (i.fdiv j))/\Fop X W (rI (λ_ j=>zbd j=true) λi j=>.int (i.fdiv j)) fDiv:=
 ⟨opI λ_ _ _ _ _ _ _ hc q=>floordiv_int (zgL (i:=0) hc).1 q (.inl (zgL hc).2),zgD λH P tx ty Q q=>by
  cases tx <;> cases ty <;> try exact q.elim
  simp only[fDiv] at q;split at q
  ·rename_i hc;exact⟨_,_,rfl,rfl,hc,XE q⟩
  ·exact q.elim⟩
theorem X2:OpR X (je .Mod) (rI (λ_ j=>j ≠ 0) λi j=>.int (i.fmod j))/\Fop X W (rI (λ_ j=>j ≠ 0) λi j=>.int (i.fmod j)) fMod:=
 ⟨op_modN,zgD λH P tx ty Q q=>by
  cases tx <;> cases ty <;> try exact q.elim
  simp only[fMod] at q;split at q
  ·exact q.elim
  ·rename_i hc;exact⟨_,_,rfl,rfl,hc,XE q⟩⟩
theorem op_powF:OpR X (je .Pow) (rI CPow λi j=>.int (i ^ j.toNat))/\Fop X W (rI CPow λi j=>.int (i ^ j.toNat)) fPow:=
 ⟨op_pow,zgD λH P tx ty Q q=>by
  cases tx <;> cases ty <;> try exact q.elim
  simp only[fPow] at q;split at q
  ·rename_i hc;exact⟨_,_,rfl,rfl,hc,XE q⟩
  ·exact q.elim⟩
theorem Wb:OpR X (jd .Lt) (rI0 λi j=>.bl (decide (i < j)))/\Fop X W (rI0 λi j=>.bl (decide (i < j))) fLt:=
 ⟨op_lt,za4 λH P tx ty Q q=>by
  cases tx <;> cases ty <;> try exact q.elim
  exact⟨_,_,rfl,rfl,ZB q⟩⟩
theorem op_leF:OpR X (jd .LtE) (rI0 λi j=>.bl (decide (i<=j)))/\Fop X W (rI0 λi j=>.bl (decide (i<=j))) fLe:=
 ⟨op_le,za4 λH P tx ty Q q=>by
  cases tx <;> cases ty <;> try exact q.elim
  exact⟨_,_,rfl,rfl,ZB q⟩⟩
theorem QM:OpR X (jd .Gt) (rI0 λi j=>.bl (decide (j < i)))/\Fop X W (rI0 λi j=>.bl (decide (j < i))) fGt:=
 ⟨op_gt,za4 λH P tx ty Q q=>by
  cases tx <;> cases ty <;> try exact q.elim
  exact⟨_,_,rfl,rfl,ZB q⟩⟩
theorem ziY:OpR X (jd .GtE) (rI0 λi j=>.bl (decide (j<=i)))/\Fop X W (rI0 λi j=>.bl (decide (j<=i))) fGe:=
 ⟨op_ge,za4 λH P tx ty Q q=>by
  cases tx <;> cases ty <;> try exact q.elim
  exact⟨_,_,rfl,rfl,ZB q⟩⟩
mutual
theorem Rl.reads{pins:List (yc × Obj)}{σ:L2.St}{H:Hp}{s:ye}{P:Pv}(I:Inv X pins σ H s):∀(t:ya) (v:V) (u:yb),t.canLay0=true->Rl X.K H P t v->RelV v u->∃as,Reads s.heap u t as
 | .none,v,u,_,h,r=>by rw[XC.mp h] at r;cases r;exact⟨_,.none⟩
 | .bool b,v,u,hl,h,r=>by rw[YQ.mp h] at r;cases r;exact⟨_,.bool b⟩
 | .int i,v,u,hl,h,r=>by rw[ZU.mp h] at r;obtain⟨t,rfl⟩:=r;exact⟨_,.int i t⟩
 | .str x,v,u,hl,h,r=>by rw[QJ.mp h] at r;obtain⟨t,rfl⟩:=r;exact⟨_,.str x t⟩
 | .list xs,v,u,hl,h,r=>by
  obtain⟨a,vs,rfl,sl,rs⟩:=Z7.mp h;cases r;obtain⟨its,rv,⟨o,n,e,hc,hd,hs⟩,z⟩:=I.list sl.sq;obtain⟨as,ra⟩:=Rls.reads I xs vs its (by simpa[ya.canLay0] using hl) rs rv
  exact⟨_,.list e hc hs (by simpa using ra)⟩
 | .tuple xs,v,u,hl,h,r=>by
  obtain⟨a,vs,rfl,sl,rs⟩:=ZN.mp h;cases r;obtain⟨its,rv,⟨o,e,hc,n,hs⟩,z⟩:=I.tuple sl.sq;obtain⟨as,ra⟩:=Rls.reads I xs vs its (by simpa[ya.canLay0] using hl) rs rv
  exact⟨_,.tuple e hc hs (by simpa using ra)⟩
 | .dict _,v,u,hl,h,r=>by simp[ya.canLay0] at hl
theorem Rls.reads{pins:List (yc × Obj)}{σ:L2.St}{H:Hp}{s:ye}{P:Pv}(I:Inv X pins σ H s):∀(ts:List ya) (vs:List V) (us:List yb),ya.canLayAll0 ts=true->Rls X.K H P ts vs->Vals vs us->∃as,ReadsAll s.heap us ts as
 | [],vs,us,_,h,r=>by rw[Z2.mp h] at r;cases r;exact⟨_,.nil⟩
 | t::ts,vs,us,hl,h,r=>by
  simp only[ya.canLayAll0,jl] at hl;obtain⟨v,vs',rfl,h1,h2⟩:=ZG.mp h;cases r with
  | cons r1 r2=>
   obtain⟨as,ra⟩:=Rl.reads I t v _ hl.1 h1 r1;obtain⟨bs,rb⟩:=Rls.reads I ts vs' _ hl.2 h2 r2;exact⟨_,.cons ra rb⟩
end
theorem UG{t:ya}(h:YT t=true):t.canLay0=true:=by
 unfold YT at h;rw[jl] at h;exact h.1
def rEqD(K:yh)(k:Bool->Bool):R2:=λx y H Q=>∃P tx ty,Rl K H P tx x/\Rl K H P ty y/\YT tx=true/\YT ty=true/\Q (.bl (k (tx.eqv ty))) H
theorem op_eqD(hu:X.A.units+64 < cLine):OpR X (jd .Eq) (rEqD X.K λk=>k):=by
 intro pins s σ H x y v u Q I rx ry h;obtain⟨P,tx,ty,hx,hy,sx,sy,q⟩:=h;obtain⟨as,ra⟩:=Rl.reads I tx x v (UG sx) hx rx;obtain⟨bs,rb⟩:=Rl.reads I ty y u (UG sy) hy ry;exact SeqAt.compareEq_shaped ra rb sx sy hu ⟨.bl _,H,I,rfl,q⟩
theorem op_neD(hu:X.A.units+64 < cLine):OpR X (jd .NotEq) (rEqD X.K λk=>!k):=by
 intro pins s σ H x y v u Q I rx ry h;obtain⟨P,tx,ty,hx,hy,sx,sy,q⟩:=h;obtain⟨as,ra⟩:=Rl.reads I tx x v (UG sx) hx rx;obtain⟨bs,rb⟩:=Rl.reads I ty y u (UG sy) hy ry;exact SeqAt.compareNe_shaped ra rb sx sy hu ⟨.bl _,H,I,rfl,q⟩
def rEqI(k:Bool->Bool):R2:=rI0 λi j=>.bl (k (decide (i=j)))
theorem op_eqI:OpR X (jd .Eq) (rEqI λk=>k):=opB0 λi j _ _ _ _ _ q=>eq_int (by rw[Bool.beq_eq_decide_eq];exact q)
theorem op_neI:OpR X (jd .NotEq) (rEqI λk=>!k):=opB0 λi j _ _ _ _ _ q=>ne_int (by rw[bne,Bool.beq_eq_decide_eq];exact q)
theorem W6(hu:X.A.units+64 < cLine):OpR X (jd .Eq) (λx y H Q=>rEqI (λk=>k) x y H Q\/rEqD X.K (λk=>k) x y H Q)/\Fop X W (λx y H Q=>rEqI (λk=>k) x y H Q\/rEqD X.K (λk=>k) x y H Q) fEq:=
 ⟨op_eqI.or (op_eqD hu),λH P σ G x y tx ty Q h rx ry q=>by
  unfold fEq at q;split at q
  ·exact .inl ⟨_,_,ZU.mp rx,ZU.mp ry,ZB q⟩
  ·split at q
   ·rename_i hc;rw[jl] at hc;exact .inr ⟨P,tx,ty,rx,ry,hc.1,hc.2,ZB q⟩
   ·exact q.elim⟩
theorem Wa(hu:X.A.units+64 < cLine):OpR X (jd .NotEq) (λx y H Q=>rEqI (λk=>!k) x y H Q\/rEqD X.K (λk=>!k) x y H Q)/\Fop X W (λx y H Q=>rEqI (λk=>!k) x y H Q\/rEqD X.K (λk=>!k) x y H Q) fNe:=
 ⟨op_neI.or (op_neD hu),λH P σ G x y tx ty Q h rx ry q=>by
  unfold fNe at q;split at q
  ·exact .inl ⟨_,_,ZU.mp rx,ZU.mp ry,ZB q⟩
  ·split at q
   ·rename_i hc;rw[jl] at hc;exact .inr ⟨P,tx,ty,rx,ry,hc.1,hc.2,ZB q⟩
   ·exact q.elim⟩
theorem tUn_of{r:V->Hp->VK->Prop}{f:ya->Res ya}(hf:∀(H:Hp) (P:Pv) (x:V) (tx:ya) (Q:VK),Rl X.K H P tx x->Xg X.K W H P (f tx) Q->r x H Q){σ:L2.St}{H:Hp}{Q:VK}(h:tF X.K W (d1 f da) σ H Q) :
  tUn r (tF X.K W da) σ H Q:=by
 obtain⟨G,P,h,q⟩:=h;unfold d1 at q;obtain⟨q1,q2,q3⟩:=VV q;exact ZE h q1 q2 λtx x H1 ex s1 h1 rx=>hf H1 P x tx Q rx ((q3 tx ex).up s1)
theorem W9(ha:EV X W a da):EV X W (.UnaryOp .USub a pos) (d1 fNeg da):=
 ZF (pe_un un_neg ha) λσ H Q h=>tUn_of (r:=rU λi=>.int (-i)) (λH P x tx Q rx q=>by
  cases tx <;> try exact q.elim
  exact⟨_,ZU.mp rx,XE q⟩) h
theorem bindA{a:Res ya}{f:ya->Res (List ya)}{K:yh}{H:Hp}{P:Pv}{Q:List V->Hp->Prop}(q:zhX K W H P (a.bind f) Q) :
  (∀c,a=.exc c->∀H',Same H H'->W c H')/\a ≠ .stuck/\∀t,a=.ok t->zhX K W H P (f t) Q:=by
 cases a with
 | ok t=>exact⟨λc e=>(by cases e),(by intro e;cases e),λt' e=>by cases e;exact q⟩
 | exc c=>exact⟨λc' e=>by cases e;exact q,(by intro e;cases e),λt e=>by cases e⟩
 | stuck=>exact q.elim
theorem bindAA{a:Res (List ya)}{f:List ya->Res (List ya)}{K:yh}{H:Hp}{P:Pv}{Q:List V->Hp->Prop}(q:zhX K W H P (a.bind f) Q) :
  (∀c,a=.exc c->∀H',Same H H'->W c H')/\a ≠ .stuck/\∀t,a=.ok t->zhX K W H P (f t) Q:=by
 cases a with
 | ok t=>exact⟨λc e=>(by cases e),(by intro e;cases e),λt' e=>by cases e;exact q⟩
 | exc c=>exact⟨λc' e=>by cases e;exact q,(by intro e;cases e),λt e=>by cases e⟩
 | stuck=>exact q.elim
theorem zg7{a:Res (List ya)}{f:List ya->Res ya}{K:yh}{H:Hp}{P:Pv}{Q:VK}(q:Xg K W H P (a.bind f) Q) :
  (∀c,a=.exc c->∀H',Same H H'->W c H')/\a ≠ .stuck/\∀t,a=.ok t->Xg K W H P (f t) Q:=by
 cases a with
 | ok t=>exact⟨λc e=>(by cases e),(by intro e;cases e),λt' e=>by cases e;exact q⟩
 | exc c=>exact⟨λc' e=>by cases e;exact q,(by intro e;cases e),λt e=>by cases e⟩
 | stuck=>exact q.elim
theorem bindTE{a:Res Bool}{f:Bool->Res ya}{K:yh}{H:Hp}{P:Pv}{Q:VK}(q:Xg K W H P (a.bind f) Q) :
  (∀c,a=.exc c->∀H',Same H H'->W c H')/\a ≠ .stuck/\∀t,a=.ok t->Xg K W H P (f t) Q:=by
 cases a with
 | ok t=>exact⟨λc e=>(by cases e),(by intro e;cases e),λt' e=>by cases e;exact q⟩
 | exc c=>exact⟨λc' e=>by cases e;exact q,(by intro e;cases e),λt e=>by cases e⟩
 | stuck=>exact q.elim
theorem bindT{a:Res Bool}{f:Bool->Res Bool}{H:Hp}{Q:Bool->Hp->Prop}(q:zbH W H (a.bind f) Q) :
  (∀c,a=.exc c->∀H',Same H H'->W c H')/\a ≠ .stuck/\∀t,a=.ok t->zbH W H (f t) Q:=by
 cases a with
 | ok t=>exact⟨λc e=>(by cases e),(by intro e;cases e),λt' e=>by cases e;exact q⟩
 | exc c=>exact⟨λc' e=>by cases e;exact q,(by intro e;cases e),λt e=>by cases e⟩
 | stuck=>exact q.elim
theorem bindET{a:Res ya}{f:ya->Res Bool}{H:Hp}{Q:Bool->Hp->Prop}(q:zbH W H (a.bind f) Q) :
  (∀c,a=.exc c->∀H',Same H H'->W c H')/\a ≠ .stuck/\∀t,a=.ok t->zbH W H (f t) Q:=by
 cases a with
 | ok t=>exact⟨λc e=>(by cases e),(by intro e;cases e),λt' e=>by cases e;exact q⟩
 | exc c=>exact⟨λc' e=>by cases e;exact q,(by intro e;cases e),λt e=>by cases e⟩
 | stuck=>exact q.elim
theorem zbH.up{H H':Hp}{r:Res Bool}{Q:Bool->Hp->Prop}(q:zbH W H r Q)(s:Same H H'):zbH W H' r Q:=by
 cases r with
 | ok t=>exact λH2 s2=>q H2 (s.trans s2)
 | exc c=>exact λH2 s2=>q H2 (s.trans s2)
 | stuck=>exact q
theorem Zg:AV X W [] dNil:=ziV X9 λσ H Q ⟨G,P,h,q⟩=>q [] H (Same.refl H) (Z2.mpr rfl)
theorem Zb{dr:DA}(ha:EV X W e da)(hr:AV X W es dr)(hs:yp (e::es) X.env=(false,yz e X.env)::yp es X.env:=by rfl):AV X W (e::es) (Zc da dr):=
 ziV (Yn ha hr hs) λσ H Q ⟨G,P,h,q⟩=>by
  unfold Zc at q;obtain⟨q1,q2,q3⟩:=bindA q;refine ZE h q1 q2 λtx x H1 ex s1 h1 rx=>?_
  obtain⟨q4,q5,q6⟩:=bindAA (q3 tx ex);refine VH h1 (λc e H' s=>q4 c e H' (s1.trans s)) q5 λts vs H2 es' s2 h2 rs=>?_
  exact(q6 ts es') (x::vs) H2 (s1.trans s2) (ZG.mpr ⟨x,vs,rfl,Rl.go (.same s2) tx x rx,rs⟩)
theorem zdx{xs:List ya}{vs:List V}{K:yh}{H:Hp}{P:Pv}(h:zhz xs=true)(r:Rls K H P xs vs):vs.length<=y7:=by
 have:=r.length;have h':xs.length<=16777216:=of_decide_eq_true h;rw[j9];omega
theorem ST.off{K:yh}{H:Hp}{P:Pv}{a:yc}{xs:List V}(h:H a=some (.tup xs))(o:Off P a):ST K H P a xs:=⟨h,o⟩
theorem ZV{da:DA}{x1}(h:AV X W es da):EV X W (.Tuple es x1 pos) (dTup da):=
 ZF (pe_tup h) λσ H Q ⟨G,P,h,q⟩=>by
  unfold dTup at q;obtain⟨q1,q2,q3⟩:=zg7 q;refine VH h q1 q2 λts vs H1 es' s1 h1 rs=>?_
  have q4:=q3 ts es';split at q4
  ·rename_i hl;exact⟨zdx hl rs,λp hp=>q4 _ _ (s1.trans (Zz hp)) (ZN.mpr ⟨p,vs,rfl,.off Zt (h1.off_new hp),Rls.go (.same (Zz hp)) ts vs rs⟩)⟩
  ·exact q4.elim
theorem JM{da:DA}(h:AV X W es da):EV X W (.List es pos) (dLst da):=
 ZF (pe_lst h) λσ H Q ⟨G,P,h,q⟩=>by
  unfold dLst at q;obtain⟨q1,q2,q3⟩:=zg7 q;refine VH h q1 q2 λts vs H1 es' s1 h1 rs=>?_
  have q4:=q3 ts es';split at q4
  ·rename_i hl;exact⟨zdx hl rs,λp hp=>q4 _ _ (s1.trans (Zz hp)) (Z7.mpr ⟨p,vs,rfl,.off Zt (h1.off_new hp),Rls.go (.same (Zz hp)) ts vs rs⟩)⟩
  ·exact q4.elim
theorem ixP_eq(n:Nat)(i:Int):ixP n i=ixN n i:=rfl
theorem atP_rl{K:yh}{H:Hp}{P:Pv}{ts:List ya}{vs:List V}{i:Int}{t:ya}(r:Rls K H P ts vs)(h:atP ts i=some t):∃v,atI vs i=some v/\Rl K H P t v:=by
 unfold atP at h;unfold atI;rw[<- r.length,<- ixP_eq];cases e:ixP ts.length i with
 | none=>rw[e] at h;cases h
 | some j=>
  rw[e] at h;exact r.getT (i:=j) h
theorem Zk(ha:EV X W a da)(hb:EV X W b db)(hs:zkt b):EV X W (.Subscript a b pos) (d2 fIx da db):=
 ZF (pe_ix (ix_list.or ix_tup) ha hb hs) λσ H Q h=>zf1 (r:=λx y H Q=>rIxL X.K x y H Q\/rIxT X.K x y H Q) (λH P σ G x y tx ty Q h rx ry q=>by
  cases tx <;> cases ty <;> try exact q.elim
  ·rename_i xs i;obtain⟨l,us,rfl,s1,r1⟩:=Z7.mp rx;simp only[fIx] at q;cases e:atP xs i with
   | none=>rw[e] at q;exact q.elim
   | some t=>
    rw[e] at q;obtain⟨v,e1,r⟩:=atP_rl r1 e;exact .inl ⟨l,us,i,v,rfl,ZU.mp ry,s1.sq,e1,q v H (Same.refl H) r⟩
  ·rename_i xs i;obtain⟨l,us,rfl,s1,r1⟩:=ZN.mp rx;simp only[fIx] at q;cases e:atP xs i with
   | none=>rw[e] at q;exact q.elim
   | some t=>
    rw[e] at q;obtain⟨v,e1,r⟩:=atP_rl r1 e;exact .inr ⟨l,us,i,v,rfl,ZU.mp ry,s1.sq,e1,q v H (Same.refl H) r⟩) h
theorem zf2{r:List V->Hp->VK->Prop}{f:ya->Res ya}(hf:∀(H:Hp) (P:Pv) (σ:L2.St) (G:List Sl) (x:V) (tx:ya) (Q:VK),Hol X.K H P σ G->Rl X.K H P tx x->Xg X.K W H P (f tx) Q->r [x] H Q){σ:L2.St}{H:Hp}{Q:VK}(h:tF X.K W (d1 f da) σ H Q) :
  tCB r (zh6 (tF X.K W da) tNil) σ H Q:=by
 obtain⟨G,P,h,q⟩:=h;unfold d1 at q;obtain⟨q1,q2,q3⟩:=VV q;exact ZE h q1 q2 λtx x H1 ex s1 h1 rx=>hf H1 P σ G x tx Q h1 rx ((q3 tx ex).up s1)
theorem Yx{p:Pos}(hg:Gl X "len")(hm:X.mg "len" = none)(ha:EV X W a da)(hs:yp [a] X.env=(false,yz a X.env)::yp [] X.env:=by rfl):EV X W (.Call (.Name "len" p) [a] [] pos) (d1 fLen da):=
 ZF (QL zeV hg hm PySem.boot_len (Yn ha X9 hs) (he:=hs)) λσ H Q h=>zf2 (λH P σ G x tx Q h rx q=>by
  cases tx <;> try exact q.elim
  ·obtain⟨l,us,rfl,s1,r1⟩:=Z7.mp rx;have e:=r1.length;refine⟨l,us,rfl,.inl s1.sq,?_⟩;rw[<- e];exact XE q
  ·obtain⟨l,us,rfl,s1,r1⟩:=ZN.mp rx;have e:=r1.length;refine⟨l,us,rfl,.inr s1.sq,?_⟩;rw[<- e];exact XE q) h
theorem JN{p:Pos}(hg:Gl X "abs")(hm:X.mg "abs" = none)(ha:EV X W a da)(hs:yp [a] X.env=(false,yz a X.env)::yp [] X.env:=by rfl):EV X W (.Call (.Name "abs" p) [a] [] pos) (d1 fAbs da):=
 ZF (QL call_abs hg hm (show yK "abs" = some (.builtin "abs") by decide +kernel) (Yn ha X9 hs) (he:=hs)) λσ H Q h=>zf2 (λH P σ G x tx Q h rx q=>by
  cases tx <;> try exact q.elim
  exact⟨_,by rw[ZU.mp rx],XE q⟩) h
def tyN:ya->String
 | .none=>"NoneType"
 | .bool _=>"bool"
 | .int _=>"int"
 | .str _=>"str"
 | .list _=>"list"
 | .tuple _=>"tuple"
 | .dict _=>"dict"
def Kit(T:String)(p:ya->Bool):Prop:=∀(K:yh) (t:ya),PySem.W.kitOne K (.type (tyN t)) (.type T)=some (p t)
theorem zjp:Kit "int" isInt:=λK t=>by cases t <;> rfl
theorem zgq:Kit "bool" zjz:=λK t=>by cases t <;> rfl
theorem Ue:Kit "tuple" Qp:=λK t=>by cases t <;> rfl
theorem QO:Kit "list" isList:=λK t=>by cases t <;> rfl
theorem call_isi{T:String}{p:ya->Bool}(hk:Kit T p):zbJ X (.builtin "isinstance") (λxs H Q=>∃x t P,xs=[x,.ty T]/\(∀ys,t ≠ .dict ys)/\Rl X.K H P t x/\Q (.bl (p t)) H):=by
 intro pins s σ H xs us Q I r h;obtain⟨x,t,P,rfl,nd,rx,q⟩:=h;obtain⟨u,w',rfl,ru,rw'⟩:=vals2 r;cases rw';have e:=hk X.K t;have fin:∀tk,EP X pins σ Q (.bool (p t)) { s with toks:=tk }:=λtk=>⟨.bl (p t),H,I.tok tk,rfl,q⟩
 cases t with
 | none=>rw[XC.mp rx] at ru;cases ru;exact qM PySem.W.kitx_none I.kIn True.intro e (λz=>nomatch z) fin
 | bool b=>rw[YQ.mp rx] at ru;cases ru;exact qM PySem.W.kitx_bool I.kIn True.intro e (λz=>nomatch z) fin
 | int i=>rw[ZU.mp rx] at ru;obtain⟨t,rfl⟩:=ru;exact qM PySem.W.kitx_int I.kIn True.intro e (λz=>nomatch z) fin
 | str y=>rw[QJ.mp rx] at ru;obtain⟨t,rfl⟩:=ru;exact qM PySem.W.kitx_str I.kIn True.intro e (λz=>nomatch z) fin
 | list ys=>
  obtain⟨l,vs,rfl,s1,r1⟩:=Z7.mp rx;cases ru;obtain⟨its,rv,⟨o,n,e1,hc,hd,hs⟩,z⟩:=I.list s1.sq;exact qM PySem.W.kitx_list I.kIn ⟨o,e1,hc⟩ e (λz=>nomatch z) fin
 | tuple ys=>
  obtain⟨l,vs,rfl,s1,r1⟩:=ZN.mp rx;cases ru;obtain⟨its,rv,⟨o,e1,hc,n,hs⟩,z⟩:=I.tuple s1.sq;exact qM PySem.W.kitx_tuple I.kIn ⟨o,e1,hc⟩ e (λz=>nomatch z) fin
 | dict ys=>exact absurd rfl (nd ys)
theorem Yl{T:String}{x:Str}{f:ya->Bool}{p p2:Pos}(hk:Kit T f)(hv:yK x=some (.type T))(hg:Gl X "isinstance")(hm:X.mg "isinstance" = none)(hg2:Gl X x)(hm2:X.mg x=none)(ha:EV X W a da)
  (hs:yp [a,.Name x p2] X.env=(false,yz a X.env)::yp [.Name x p2] X.env:=by rfl) (hs2:yp [.Name x p2] X.env=(false,yz (.Name x p2) X.env)::yp [] X.env:=by rfl)
  (hpl:(backTo pos (yp [.Name x p2] X.env)).any (·.1)=false:=by rfl) (hn:x ≠ "__name__":=by decide) (hdb:(x == ("__debug__" : Str))=false:=by decide) :
  EV X W (.Call (.Name "isinstance" p) [a,.Name x p2] [] pos) (d1 (fIs f) da):=
 ZF (QL (call_isi hk) hg hm (show yK "isinstance" = some (.builtin "isinstance") by decide +kernel) (Yn ha (Yn (pe_bltn (v:=.ty T) hg2 hm2 hv rfl hn hdb) X9 hs2) hs) (he:=hs) (hpl:=hpl)) λσ H Q ⟨G,P,h,q⟩=>by
  unfold d1 at q;obtain⟨q1,q2,q3⟩:=VV q;refine ZE h q1 q2 λtx x H1 ex s1 h1 rx=>?_
  have q4:=Xg.up (q3 tx ex) s1;refine⟨x,tx,P,rfl,λys z=>(by subst z;exact q4.elim),rx,?_⟩
  cases tx <;> first | exact ZB q4 | exact q4.elim
theorem za9{op}(h:EV X W a da):EV X W (.BoolOp op [a] pos) da:=pe_one h
theorem zeH{rest:List yj}(ha:EV X W a da)(hb:EV X W (.BoolOp .And (b::rest) pos) db):EV X W (.BoolOp .And (a::b::rest) pos) (zfU da db):=
 ZF (pe_and ha hb) λσ H Q ⟨G,P,h,q⟩=>by
  unfold zfU at q;obtain⟨q1,q2,q3⟩:=VV q;refine ZE h q1 q2 λtx x H1 ex s1 h1 rx=>?_
  have q4:=q3 tx ex;cases tx <;> try exact q4.elim
  rename_i k;refine⟨k,YQ.mp rx,?_⟩;cases k with
  | true=>exact iteT ⟨G,P,h1,Xg.up q4 s1⟩
  | false=>exact iteF (ZB (Xg.up q4 s1))
theorem ev_or{rest:List yj}(ha:EV X W a da)(hb:EV X W (.BoolOp .Or (b::rest) pos) db):EV X W (.BoolOp .Or (a::b::rest) pos) (dOrV da db):=
 ZF (pe_or ha hb) λσ H Q ⟨G,P,h,q⟩=>by
  unfold dOrV at q;obtain⟨q1,q2,q3⟩:=VV q;refine ZE h q1 q2 λtx x H1 ex s1 h1 rx=>?_
  have q4:=q3 tx ex;cases tx <;> try exact q4.elim
  rename_i k;refine⟨k,YQ.mp rx,?_⟩;cases k with
  | true=>exact iteT (ZB (Xg.up q4 s1))
  | false=>exact iteF ⟨G,P,h1,Xg.up q4 s1⟩
theorem zjK(ha:EV X W a da):EV X W (.UnaryOp .Not a pos) (zkc da):=
 ZF (pe_not ha) λσ H Q ⟨G,P,h,q⟩=>by
  unfold zkc at q;obtain⟨q1,q2,q3⟩:=VV q;refine ZE h q1 q2 λtx x H1 ex s1 h1 rx=>?_
  have q4:=q3 tx ex;cases tx <;> try exact q4.elim
  exact⟨_,YQ.mp rx,ZB (Xg.up q4 s1)⟩
theorem zdF{dc:DT}(hc:TV X W c dc)(ha:EV X W a da)(hb:EV X W b db):EV X W (.IfExp c a b pos) (dIfE dc da db):=
 ZF (pe_ifExp hc ha hb) λσ H Q ⟨G,P,h,q⟩=>by
  unfold dIfE at q;obtain⟨q1,q2,q3⟩:=bindTE q;refine VG h q1 q2 λk H1 ek s1 h1=>?_
  have q4:=q3 k ek;cases k with
  | true=>exact iteT ⟨G,P,h1,Xg.up q4 s1⟩
  | false=>exact iteF ⟨G,P,h1,Xg.up q4 s1⟩
theorem ev_isN{j pos'}(ha:EV X W a da):EV X W (.Compare a [.Is] [.Constant .none j pos'] pos) (d1 fIsN da):=
 ZF (pe_cmp (pc_isN ha)) λσ H Q ⟨G,P,h,q⟩=>by
  unfold d1 at q;obtain⟨q1,q2,q3⟩:=VV q;refine ZE h q1 q2 λtx x H1 ex s1 h1 rx=>?_
  have q4:=Xg.up (q3 tx ex) s1;cases tx with
  | none=>rw[XC.mp rx];exact ZB q4
  | bool b=>rw[YQ.mp rx];exact ZB q4
  | int b=>rw[ZU.mp rx];exact ZB q4
  | str b=>rw[QJ.mp rx];exact ZB q4
  | list b=>obtain⟨l,us,rfl,_⟩:=Z7.mp rx;exact ZB q4
  | tuple b=>obtain⟨l,us,rfl,_⟩:=ZN.mp rx;exact ZB q4
  | dict b=>rcases Jq.mp rx with ⟨_,l,rfl,_⟩ | ⟨_,l,_,_,_,rfl,_⟩ | ⟨l,_,_,rfl,_⟩ <;> exact ZB q4
theorem truth_ok{H:Hp}{P:Pv}{x:V}{tx:ya}{k:Bool}(r:Rl X.K H P tx x)(e:truth tx=.ok k):TruV X.K x H k:=by
 cases tx with
 | none=>rw[XC.mp r];cases e;rfl
 | bool b=>rw[YQ.mp r];cases e;rfl
 | int i=>rw[ZU.mp r];cases e;rfl
 | str x=>cases e
 | list xs=>
  obtain⟨l,us,rfl,s1,r1⟩:=Z7.mp r;cases e;refine .inl ⟨us,s1.sq,?_⟩;have:=r1.length;cases xs <;> cases us <;> first | rfl | simp at this
 | tuple xs=>
  obtain⟨l,us,rfl,s1,r1⟩:=ZN.mp r;cases e;refine .inr (.inl ⟨us,s1.sq,?_⟩);have:=r1.length;cases xs <;> cases us <;> first | rfl | simp at this
 | dict _=>cases e
theorem Z1(ha:EV X W a da)(he:∀whole,isTrue a X.env whole=(do let v <- whole;standAt a.pos;holding [v] (truthy v))):TV X W a (tV da):=
 zdd (pt_truth ha he) λσ H Q ⟨G,P,h,q⟩=>by
  unfold Fx.tV at q;obtain⟨q1,q2,q3⟩:=bindET q;refine ZE h q1 q2 λtx x H1 ex s1 h1 rx=>?_
  have q4:=q3 tx ex;cases e:truth tx with
  | stuck=>rw[e] at q4;exact q4.elim
  | exc c=>cases tx <;> cases e
  | ok k=>rw[e] at q4;exact⟨k,truth_ok rx e,q4 H1 s1⟩
theorem ZK{op:CmpOp}{r:R2}{f:ya->ya->Res ya}(ho:OpR X (jd op) r/\Fop X W r f)(ha:EV X W a da)(hb:EV X W b db)(hm:jJ op b=false)
  (hf:∀x y,(∃k,f x y=.ok (.bool k))\/f x y=.stuck:=by first | exact fLt_b | exact fLe_b | exact fGt_b | exact fGe_b | exact fEq_b | exact fNe_b):TV X W (.Compare a [op] [b] pos) (tV (d2 f da db)):=
 zdd (pt_cmpR ho.1 ha hb hm) λσ H Q ⟨G,P,h,q⟩=>by
  refine zf1 ho.2 ⟨G,P,h,?_⟩;unfold Fx.tV at q;cases e:d2 f da db G with
  | stuck=>rw[e] at q;exact q
  | exc c=>rw[e] at q;exact q
  | ok t=>
   rw[e] at q;have hb:∃k,t=.bool k:=by
    unfold d2 at e;cases e1:da G with
    | stuck=>rw[e1] at e;cases e
    | exc c=>rw[e1] at e;cases e
    | ok tx=>
     rw[e1,Res.bind_ok] at e;cases e2:db G with
     | stuck=>rw[e2] at e;cases e
     | exc c=>rw[e2] at e;cases e
     | ok ty=>
      rw[e2,Res.bind_ok] at e;rcases hf tx ty with ⟨k,e3⟩ | e3
      ·rw[e3] at e;cases e;exact⟨k,rfl⟩
      ·rw[e3] at e;cases e
   obtain⟨k,rfl⟩:=hb;exact λv H' s r=>⟨k,YQ.mp r,q H' s⟩
theorem zcW{dt:DT}(ha:TV X W a dt):TW X W (.BoolOp .And [a] pos) dt:=pw_and1 ha
theorem XA{dt:DT}(ha:TV X W a dt):TW X W (.BoolOp .Or [a] pos) dt:=pw_or1 ha
theorem zf0{dt du:DT}{rest:List yj}(ha:TV X W a dt)(hb:TW X W (.BoolOp .And (b::rest) pos) du):TW X W (.BoolOp .And (a::b::rest) pos) (tAnd dt du):=
 ziF (pw_and ha hb) λσ H Q ⟨G,P,h,q⟩=>by
  unfold Fx.tAnd at q;obtain⟨q1,q2,q3⟩:=bindT q;refine VG h q1 q2 λk H1 ek s1 h1=>?_
  have q4:=q3 k ek;cases k with
  | true=>exact iteT ⟨G,P,h1,zbH.up q4 s1⟩
  | false=>exact iteF (q4 H1 s1)
theorem Wo{dt du:DT}{rest:List yj}(ha:TV X W a dt)(hb:TW X W (.BoolOp .Or (b::rest) pos) du):TW X W (.BoolOp .Or (a::b::rest) pos) (tOr dt du):=
 ziF (pw_or ha hb) λσ H Q ⟨G,P,h,q⟩=>by
  unfold Fx.tOr at q;obtain⟨q1,q2,q3⟩:=bindT q;refine VG h q1 q2 λk H1 ek s1 h1=>?_
  have q4:=q3 k ek;cases k with
  | true=>exact iteT (q4 H1 s1)
  | false=>exact iteF ⟨G,P,h1,zbH.up q4 s1⟩
theorem tv_w{dt:DT}(h:TW X W a dt):TV X W a dt:=PW.pt h
theorem YD{dt:DT}(ha:TV X W a dt):TV X W (.UnaryOp .Not a pos) (tNot dt):=
 zdd (pt_not ha) λσ H Q ⟨G,P,h,q⟩=>by
  unfold Fx.tNot at q;obtain⟨q1,q2,q3⟩:=bindT q;exact VG h q1 q2 λk H1 ek s1 h1=>(q3 k ek) H1 s1
end
section
variable {X:Cx}{W:Str->Hp->Prop}{fl:Bool}{a b c e:yj}{es:List yj}{da db:DE}{pos:Pos}
theorem W0.up{K:yh}{H H':Hp}{P P':Pv}{r:Res Out}{D:Ends}(q:W0 K W fl H P r D)(g:Go H P H' P'):W0 K W fl H' P' r D:=by
 cases r with
 | ok o=>
  cases o with
  | nx G=>exact λσ2 H2 P2 g2 h2=>q σ2 H2 P2 (g.trans g2) h2
  | bk G=>exact λσ2 H2 P2 g2 h2=>q σ2 H2 P2 (g.trans g2) h2
  | ct G=>exact λσ2 H2 P2 g2 h2=>q σ2 H2 P2 (g.trans g2) h2
  | rt t=>exact λv H2 P2 g2 h2 n2=>q v H2 P2 (g.trans g2) h2 λz=>(n2 z).back g
 | exc c=>exact λH2 P2 g2=>q H2 P2 (g.trans g2)
 | stuck=>exact q
theorem zaf{a:Res ya}{f:ya->Res Out}{K:yh}{H:Hp}{P:Pv}{D:Ends}(q:W0 K W fl H P (a.bind f) D) :
  (∀c,a=.exc c->∀H' P',Go H P H' P'->W c H')/\a ≠ .stuck/\∀t,a=.ok t->W0 K W fl H P (f t) D:=by
 cases a with
 | ok t=>exact⟨λc e=>(by cases e),(by intro e;cases e),λt' e=>by cases e;exact q⟩
 | exc c=>exact⟨λc' e=>by cases e;exact q,(by intro e;cases e),λt e=>by cases e⟩
 | stuck=>exact q.elim
theorem zkm{a:Res Bool}{f:Bool->Res Out}{K:yh}{H:Hp}{P:Pv}{D:Ends}(q:W0 K W fl H P (a.bind f) D) :
  (∀c,a=.exc c->∀H' P',Go H P H' P'->W c H')/\a ≠ .stuck/\∀t,a=.ok t->W0 K W fl H P (f t) D:=by
 cases a with
 | ok t=>exact⟨λc e=>(by cases e),(by intro e;cases e),λt' e=>by cases e;exact q⟩
 | exc c=>exact⟨λc' e=>by cases e;exact q,(by intro e;cases e),λt e=>by cases e⟩
 | stuck=>exact q.elim
theorem bindAS{a:Res (List ya)}{f:List ya->Res Out}{K:yh}{H:Hp}{P:Pv}{D:Ends}(q:W0 K W fl H P (a.bind f) D) :
  (∀c,a=.exc c->∀H' P',Go H P H' P'->W c H')/\a ≠ .stuck/\∀t,a=.ok t->W0 K W fl H P (f t) D:=by
 cases a with
 | ok t=>exact⟨λc e=>(by cases e),(by intro e;cases e),λt' e=>by cases e;exact q⟩
 | exc c=>exact⟨λc' e=>by cases e;exact q,(by intro e;cases e),λt e=>by cases e⟩
 | stuck=>exact q.elim
theorem ZC:SVs X W fl [] ZD:=zgg pss_nil λD σ H ⟨G,P,h,q⟩=>q σ H P (.refl H P) h
theorem Zj{st:ym}{d:DS}(h:SV X W fl st d):SVs X W fl [st] d:=ziJ h
theorem Zf{st:ym}{rest:List ym}{d1 d2:DS}(h1:SV X W fl st d1)(h2:SVs X W fl rest d2):SVs X W fl (st::rest) (dSeq d1 d2):=
 zgg (zde h1 h2) λD σ H ⟨G,P,h,q⟩=>by
  refine⟨G,P,h,?_⟩;unfold dSeq at q;cases e:d1 G with
  | stuck=>rw[e] at q;exact q.elim
  | exc c=>rw[e] at q;exact q
  | ok o=>
   rw[e,Res.bind_ok] at q;cases o with
   | nx G1=>exact λσ' H' P' g h'=>⟨G1,P',h',W0.up q g⟩
   | rt t=>exact q
   | bk G1=>exact q
   | ct G1=>exact q
theorem YW{st:ym}:SV X W fl st dNev:=Xh ps_never λD σ H ⟨G,P,h,q⟩=>q
theorem Zo(he:EV X W e da):SV X W false (.Return (some e) pos) (dRet da):=
 Xh (ziL he) λD σ H ⟨G,P,h,q⟩=>by
  unfold dRet at q;obtain⟨h',g⟩:=h.frzA;obtain⟨q1,q2,q3⟩:=zaf q;exact ZE h' (λc e H' s=>q1 c e H' P.bare (g.trans (.same s))) q2 λt v H1 et s1 h1 r=>(q3 t et) v H1 P.bare (g.trans (.same s1)) r λz=>by cases z
theorem Z0{x y:List ym}{dc:DT}{dx dy:DS}(hc:TV X W c dc)(hx:SVs X W fl x dx)(hy:SVs X W fl y dy):SV X W fl (.If c x y pos) (dIf dc dx dy):=
 Xh (ps_if hc hx hy) λD σ H ⟨G,P,h,q⟩=>by
  unfold dIf at q;obtain⟨h',g⟩:=h.frzA;obtain⟨q1,q2,q3⟩:=zkm q;refine VG h' (λc e H' s=>q1 c e H' P.bare (g.trans (.same s))) q2 λk H1 ek s1 _=>?_
  have q4:=q3 k ek;cases k with
  | true=>exact iteT ⟨G,P,h.same s1,W0.up q4 (.same s1)⟩
  | false=>exact iteF ⟨G,P,h.same s1,W0.up q4 (.same s1)⟩
theorem zaH(he:EV X W e da)(hs:jv e none pos.line X.env=pure false:=by rfl):SV X W fl (.Expr e pos) (zfT da):=
 Xh (zfn he hs) λD σ H ⟨G,P,h,q⟩=>by
  unfold zfT at q;obtain⟨h',g⟩:=h.frzA;obtain⟨q1,q2,q3⟩:=zaf q;exact ZE h' (λc e H' s=>q1 c e H' P.bare (g.trans (.same s))) q2 λt v H1 et s1 h1 r=>(q3 t et) σ H1 P (.same s1) (h.same s1)
mutual
theorem ziE{K:yh}{H:Hp}{P P':Pv}(hd:∀i a,P'.own i=some a->∃o,H a=some o/\LD o)(hf:P'.fb=P.fb):∀(t:ya) (v:V),XS t=true->Rl K H P t v->Rl K H P' t v
 | .none,v,_,r=>XC.mpr (XC.mp r)
 | .bool b,v,_,r=>YQ.mpr (YQ.mp r)
 | .int i,v,_,r=>ZU.mpr (ZU.mp r)
 | .str x,v,_,r=>QJ.mpr (QJ.mp r)
 | .list _,v,h,r=>by simp at h
 | .dict _,v,h,r=>by simp at h
 | .tuple xs,v,h,r=>by
  obtain⟨a,vs,e,s,rs⟩:=ZN.mp r;refine ZN.mpr ⟨a,vs,e,?_,zf9 hd hf xs vs (by simpa using h) rs⟩
  refine⟨s.1,λi z=>?_,by rw[hf];exact s.2.2⟩
  obtain⟨ws,q,m⟩:=hd i a z;rw[s.1] at q;cases q;rcases m with ⟨_,m⟩ | ⟨_,m⟩ <;> cases m
theorem zf9{K:yh}{H:Hp}{P P':Pv}(hd:∀i a,P'.own i=some a->∃o,H a=some o/\LD o)(hf:P'.fb=P.fb):∀(ts:List ya) (vs:List V),VI ts=true->Rls K H P ts vs->Rls K H P' ts vs
 | [],vs,_,r=>Z2.mpr (Z2.mp r)
 | t::ts,vs,h,r=>by
  obtain⟨v,r',e,a,b⟩:=ZG.mp r;simp only[zeb,jl] at h;exact ZG.mpr ⟨v,r',e,ziE hd hf t v h.1 a,zf9 hd hf ts r' h.2 b⟩
end
theorem after{K:yh}{H H1:Hp}{P P1:Pv}{σ:L2.St}{G:List Sl}{is:List Nat}{t:ya}{v:V}(h:Hol K H P σ G)(h1:Hol K H P1 σ (frz is G))(g:Go H P H P1)(s:Same H H1)(r:Rl K H1 P1 t v) :
  ∃P2,Hol K H1 P2 σ (if XS t then G else frz is G)/\Rl K H1 P2 t v/\Go H P H1 P2:=by
 cases e:XS t with
 | true=>exact⟨P,by rw[if_pos rfl];exact h.same s,ziE (λi a z=>(h.same s).dom z) g.2.symm t v e r,.same s⟩
 | false=>exact⟨P1,by rw[if_neg jz];exact h1.same s,r,g.trans (.same s)⟩
theorem Zq{i:Nat}{x:Str}{is:List Nat}{pos':Pos}(hN:X.N.Nodup)(hi:X.N[i]? = some x)(hx:Loc X.env.scope x)(he:EV X W e da)(hs:jv e (some (.Name x pos')) pos.line X.env=pure false:=by rfl)
  (hf:X.fn x=true\/X.env.scope.names.lookup x=some .local:=by first | exact .inl rfl | exact .inr rfl | assumption):SV X W fl (.Assign [.Name x pos'] e pos) (dSet i is da):=
 Xh (ziK hN hi hx he hs hf) λD σ H ⟨G,P,h,q⟩=>by
  unfold dSet at q;obtain⟨P1,h1,g⟩:=h.frz is;obtain⟨q1,q2,q3⟩:=zaf q;refine ZE h1 (λc e H' s=>q1 c e H' P1 (g.trans (.same s))) q2 λt v H1 et s1 h2 r=>?_
  obtain⟨P2,h3,r3,g3⟩:=after h h1 g s1 r;exact(q3 t et) _ H1 (P2.del i) (g3.trans .del) (h3.setVal i r3)
theorem QC{body:List ym}{fuel:List Sl->Nat}{dc:DT}{d:DS}(hp:yS (yk X.prog X.w) X.A X.env X.xe)(hc:TV X W c dc)(hb:SVs X W fl body d):SV X W fl (.While c body [] pos) (Qf fuel dc d):=
 Xh (ps_while hp hc hb) λD σ H ⟨G,P,h,q⟩=>by
  refine⟨λm σ' H'=>∃G' P',Go H P H' P'/\Hol X.K H' P' σ' G'/\W0 X.K W fl H P (Yb dc d m G') D,⟨fuel G,G,P,.refl H P,h,q⟩,?_⟩
  rintro m σ' H' ⟨G',P',g',h',q'⟩
  cases m with
  | zero=>exact q'.elim
  | succ m=>
   unfold Yb at q';obtain⟨h2,g2⟩:=h'.frzA;obtain⟨q1,q2,q3⟩:=zkm q';refine VG h2 (λc e H1 s=>q1 c e H1 P'.bare (g'.trans (g2.trans (.same s)))) q2 λk H1 ek s1 _=>?_
   have q4:=q3 k ek;cases k with
   | false=>exact iteF (q4 σ' H1 P' (g'.trans (.same s1)) (h'.same s1))
   | true=>
    refine iteT ⟨λσ2 H2=>∃m',m' < m+1/\∃G' P',Go H P H2 P'/\Hol X.K H2 P' σ2 G'/\W0 X.K W fl H P (Yb dc d m' G') D,λσ2 H2 z=>z,?_⟩
    refine⟨G',P',h'.same s1,?_⟩;have q5:W0 X.K W fl H P ((d G').bind λo=>match o with
     | .nx G'=>Yb dc d m G'
     | .ct G'=>Yb dc d m G'
     | .bk G'=>.ok (.nx G')
     | .rt t=>.ok (.rt t)) D:=q4
    cases e:d G' with
    | stuck=>rw[e] at q5;exact q5.elim
    | exc c=>rw[e] at q5;exact W0.up (r:=.exc c) q5 (g'.trans (.same s1))
    | ok o=>
     rw[e,Res.bind_ok] at q5;cases o with
     | nx G1=>exact λσ2 H2 P2 g3 h3=>⟨m,yae m,G1,P2,g'.trans ((Go.same s1).trans g3),h3,q5⟩
     | ct G1=>exact λσ2 H2 P2 g3 h3=>⟨m,yae m,G1,P2,g'.trans ((Go.same s1).trans g3),h3,q5⟩
     | bk G1=>exact λσ2 H2 P2 g3 h3=>q5 σ2 H2 P2 (g'.trans ((Go.same s1).trans g3)) h3
     | rt t=>exact λv H2 P2 g3 h3 n3=>q5 v H2 P2 (g'.trans ((Go.same s1).trans g3)) h3 λz=>((n3 z).back (.same s1)).back g'
end
theorem zjj{a:DE}:∀G ts,Zc a dNil G=.ok ts->ts.length=1:=λG ts h=>by
 unfold Zc dNil at h;cases e:a G <;> rw[e] at h <;> first | (cases h;done) | (cases h;rfl)
theorem zjg{a:DE}{r:DA}{n:Nat}(hr:∀G ts,r G=.ok ts->ts.length=n):∀G ts,Zc a r G=.ok ts->ts.length=n+1:=λG ts h=>by
 unfold Zc at h;cases e:a G with
 | stuck=>rw[e] at h;cases h
 | exc c=>rw[e] at h;cases h
 | ok x=>
  rw[e,Res.bind_ok] at h;cases e2:r G with
  | stuck=>rw[e2] at h;cases h
  | exc c=>rw[e2] at h;cases h
  | ok xs=>rw[e2] at h;cases h;simp[hr G xs e2]
theorem zji{a b:DE}:∀G ts,Zc a (Zc b dNil) G=.ok ts->ts.length=2:=zjg zjj
theorem zjh{a b c:DE}:∀G ts,Zc a (Zc b (Zc c dNil)) G=.ok ts->ts.length=3:=zjg zji
theorem len_c4{a b c d:DE}:∀G ts,Zc a (Zc b (Zc c (Zc d dNil))) G=.ok ts->ts.length=4:=zjg zjh
def spX(E:XK)(H:Hp)(c:Str):Option (Str->yb)->Prop
 | none=>False
 | some cl=>∀dx H',Same H H'->E (cl c) dx H'
def spF(K:yh)(cl:Option (Str->yb))(np:Nat)(f:DF):Sp:=λvs H Q E=>vs.length=np/\∃ts P,Rls K H P ts vs/\(∀i,P.own i=none)/\((∀a,P.fb a->∃o,H a=some o/\LD o)/\VE K H) /\
 match f ts with
 | .ok t=>∀v H',Same H H'->Rl K H' P t v->Q v H'
 | .exc c=>spX E H c cl
 | .stuck=>False
def EX(cl:Option (Str->yb))(W:Str->Hp->Prop):XK:=λv _ H=>∃c f,cl=some f/\v=f c/\W c H
structure Cal(X:Cx)(W:Str->Hp->Prop)(cl:Option (Str->yb))(k:Nat)(x:Str)(np:Nat)(f:DF):Prop where
 ex:∃(CX:CXT) (fa:yc) (fd:yQ) (ps:List Str),FnOk X.prog X.w X.K X.mg X.base CX k fa fd ps (spF X.K cl np f)/\X.mg x=some (.ref fa)/\yr X.K (.ref fa)=true/\ZA X.K fd ps []/\zbI CX X (EX cl W)
 nox:cl=none->∀ts c,f ts ≠ .exc c
section
variable {X:Cx}{W:Str->Hp->Prop}{fl:Bool}{a b c e:yj}{es:List yj}{da db:DE}{pos:Pos}
theorem Zh{cl:Option (Str->yb)}{k np:Nat}{x:Str}{f:DF}{d:DA}{p:Pos}(C:Cal X W cl k x np f)(hr:Room k X.A)(hg:Gl X x)(ha:AV X W (e::es) d)(hL:∀G ts,d G=.ok ts->ts.length=np:=by first | exact zjj | exact zji | exact zjh | exact len_c4)(hdb:(x == ("__debug__" : Str))=false:=by decide)
  (he:yp (e::es) X.env=(false,yz e X.env)::yp es X.env:=by rfl) (hpl:(backTo pos (yp es X.env)).any (·.1)=false:=by rfl):EV X W (.Call (.Name x p) (e::es) [] pos) (Zi f d):=by
 obtain⟨CX,fa,fd,ps,F,hm,hk,hb,hx⟩:=C.ex;refine ZF (ziS (x:=x) (p:=p) F hr hg hm hk hb .nil hx ha (hdb:=hdb) (he:=he) (hpl:=hpl)) λσ H Q ⟨G,P,h,q⟩=>?_
 unfold Zi at q;obtain⟨q1,q2,q3⟩:=zg7 q;refine VH h q1 q2 λts vs H1 es' s1 h1 rs=>?_
 have q4:=Xg.up (q3 ts es') s1;have el:(vs++[])=vs:=jO vs;rw[el]
 -- the callee sees all that the caller may not hand on as forbidden
 have gg:Tr H1 P H1 ⟨λ_=>none,λa=>¬Off P a⟩:=λa o e1 _ o1=>⟨e1,λ_ z=>(by cases z),λz=>z o1⟩
 have back:∀H2,Tr H2 ⟨λ_=>none,λa=>¬Off P a⟩ H2 P:=λH2 a o e1 _ o1=>⟨e1,jx λz=>o1.2 z⟩
 refine⟨by rw[<- rs.length];exact hL G ts es',ts,⟨λ_=>none,λa=>¬Off P a⟩,Rls.go gg ts vs rs,λ_=>rfl,⟨λa z=>h1.ld z,h1.tab⟩,?_⟩
 ·cases e:f ts with
  | ok t=>rw[e] at q4;exact λv H' s r=>q4 v H' s (Rl.go (back H') t v r)
  | exc c=>
   rw[e] at q4;cases ec:cl with
   | none=>exact absurd e (C.nox ec ts c)
   | some g=>exact λdx H' s=>⟨c,g,rfl,rfl,q4 H' s⟩
  | stuck=>rw[e] at q4;exact q4
end
theorem za1{K:yh}{H:Hp}{P:Pv}{ts:List ya}{vs:List V}{N:List Str}(r:Rls K H P ts vs)(ho:∀i,P.own i=none)(hf:(∀a,P.fb a->∃o,H a=some o/\LD o)/\VE K H) :
  Hol K H P (L2.start N vs) (ts.map .val++y0 (N.length - ts.length) .emp) where
 sl:=λi s e=>by
  by_cases hi:i < ts.length
  ·rw[jH (by simpa using hi),jc] at e
   cases et:ts[i]? with
   | none=>rw[et] at e;cases e
   | some t=>
    rw[et] at e;cases e;obtain⟨v,ev,rv⟩:=r.getT et;refine⟨v,?_,rv⟩;have hl:=r.length;unfold L2.start;rw[y8,jH (by simp;omega),jc,ev]
    rfl
  ·rw[j6 (by simpa using hi)] at e
   rw[ql] at e;split at e
   ·cases e;trivial
   ·cases e
 inj:=λi j a h _=>by rw[ho i] at h;cases h
 only:=λi a h=>by rw[ho i] at h;cases h
 fbd:=hf.1
 tab:=hf.2
 nfb:=λi a h=>by rw[ho i] at h;cases h
 len:=by
  have hl:=r.length;unfold L2.start;simp[hl]
theorem fn_ok{P:y6}{w:y3}{K:yh}{mg:Str->Option yb}{base:yd}{x qual:Str}{st:ym}{f:yc}{fd:yQ}{N ps:List Str}{k np:Nat}{d:DS}(F:Fun K x qual st f fd)(S:FnScope N ps (Zd st))(hnp:ps.length=np)
  (hb:∀(cdv:yb) (A:yB) (outer:List Env) (s:ye) (H:Hp) (E:XK),Room k (A.deeper (envOfC qual (Zd st) s.heap.objs.size f cdv)) ->
   SVs (cxOf CX0 P w K mg base N qual (Zd st) f cdv A outer s H E).nox (λ_ _=>False) false (Zl st) d):FnOk P w K mg base CX0 (k+1) f fd ps (spF K none np (runQ N.length np d)):=by
 refine F.ok S (λvs H Q E h=>by rw[hnp];exact h.1) λcdv A outer s H vs Q E hr h=>⟨_,hb cdv A outer s H E hr,?_⟩
 obtain⟨hl,ts,P',rs,ho,hf,q⟩:=h;have hlt:ts.length=np:=by rw[rs.length];exact hl
 refine⟨_,P',za1 rs ho hf,?_⟩;unfold runQ runF at q;rw[if_pos hlt] at q;have en:N.length - np=N.length - ts.length:=by rw[hlt]
 rw[en] at q;have sm:∀H' P2,Go H P' H' P2->Same H H':=λH' P2 g=>g.all ho
 have bk:∀H' P2,Go H P' H' P2->Tr H' P2 H' P':=λH' P2 g b o e _ z=>⟨e,λi=>by rw[ho i];exact λz=>(by cases z),by rw[<- g.fbe];exact z.2⟩
 cases e:d (ts.map .val++y0 (N.length - ts.length) .emp) with
 | stuck=>rw[e] at q;exact q.elim
 | exc c=>rw[e] at q;exact q.elim
 | ok o=>
  rw[e,Res.bind_ok] at q;cases o with
  | nx G=>exact λσ' H' P2 g h'=>q .non H' (sm H' P2 g) (XC.mpr rfl)
  | rt t=>exact λv H' P2 g r _=>q v H' (sm H' P2 g) (Rl.go (bk H' P2 g) t v r)
  | bk G=>exact q.elim
  | ct G=>exact q.elim
structure Cle(P:y6)(w:y3)(K:yh)(mg:Str->Option yb)(base:yd)(k:Nat)(x:Str)(np:Nat)(f:DF):Prop where
 ex:∃(fa:yc) (fd:yQ) (ps:List Str),FnOk P w K mg base CX0 k fa fd ps (spF K none np f)/\mg x=some (.ref fa)/\yr K (.ref fa)=true/\ZA K fd ps []
 nox:∀ts c,f ts ≠ .exc c
section
variable {P:y6}{w:y3}{K:yh}{mg:Str->Option yb}{base:yd}
theorem Cle.cal{X:Cx}{W:Str->Hp->Prop}{k np:Nat}{x:Str}{f:DF}(C:Cle X.prog X.w X.K X.mg X.base k x np f):Cal X W none k x np f:=by
 obtain⟨fa,fd,ps,F,hm,hk,hb⟩:=C.ex;exact⟨⟨CX0,fa,fd,ps,F,hm,hk,hb,λ_ _ _ _ _ _ _ h=>h.elim⟩,λ_=>C.nox⟩
theorem Cle.mono{j k np:Nat}{x:Str}{f:DF}(C:Cle P w K mg base j x np f)(h:j<=k):Cle P w K mg base k x np f:=by
 obtain⟨fa,fd,ps,F,r⟩:=C.ex;exact⟨⟨fa,fd,ps,F.mono h,r⟩,C.nox⟩
theorem Zx{x:Str}{st:ym}{fa:yc}{fd:yQ}{N ps:List Str}{k n np:Nat}{d:DS}(F:Fun K x x st fa fd)(hm:mg x=some (.ref fa))(b:ZA K fd ps [])(S:FnScope N ps (Zd st))(hnp:ps.length=np)(hN:N.length=n)
  (hb:∀(cdv:yb) (A:yB) (outer:List Env) (s:ye) (H:Hp) (E:XK),Room k (A.deeper (envOfC x (Zd st) s.heap.objs.size fa cdv)) ->
   SVs (cxOf CX0 P w K mg base N x (Zd st) fa cdv A outer s H E).nox (λ_ _=>False) false (Zl st) d):Cle P w K mg base (k+1) x np (runQ n np d):=by
 subst hN;exact⟨⟨fa,fd,ps,fn_ok F S hnp hb,hm,F.kp,b⟩,λts c=>zda _ _ _ ts c⟩
theorem law_sp{f:DF}{ns:List Int}(h:f [.list (ns.map .int)]=.ok (.bool true)){H:Hp}{a:yc}(hT:VE K H)(hS:SqL K H a (ns.map V.int)):spF K none 1 f [.ref a] H (λv _=>v=.bl true) (λ_ _ _=>False):=by
 refine⟨rfl,[.list (ns.map .int)],⟨λ_=>none,λ_=>False⟩,ZG.mpr ⟨.ref a,[],rfl,Z7.mpr ⟨a,ns.map V.int,rfl,?_,zga ns⟩,Z2.mpr rfl⟩,λ_=>rfl,⟨λ_ z=>z.elim,hT⟩,?_⟩
 ·rcases hS with h | h
  ·exact .inl ⟨h,λ_ z=>(by cases z),λz=>z⟩
  ·exact .inr h
 ·rw[h];exact λv H' _ r=>YQ.mp r
end
def Yld(K:yh)(J:It)(ts:List ya)(H:Hp)(P:Pv):Prop:=∀H' P',Tr H P H' P'->(∀p,H' p=none->Off P' p)->∀i,
 (∀t,ts[i]? = some t->J.go i H'/\∀x H'',J.yld i H' x H''->Same H' H''/\Rl K H'' P' t x)/\(ts.length<=i->J.stop i H')
def PostI(K:yh)(W:Str->Hp->Prop)(H:Hp)(P:Pv)(r:Res (List ya))(R:It->Hp->Prop):Prop:=
 match r with
 | .ok ts=>∀J H',Same H H'->Yld K J ts H' P->R J H'
 | .exc c=>∀H',Same H H'->W c H'
 | .stuck=>False
def tFI(K:yh)(W:Str->Hp->Prop)(d:DA):TI:=λσ H R=>∃G P,Hol K H P σ G/\PostI K W H P (d G) R
def IV(X:Cx)(W:Str->Hp->Prop)(tg iter:yj)(d:DA):Prop:=PI X tg iter (tFI X.K W d)
theorem zdg{X:Cx}{tg e:yj}{t t':TI}(h:PI X tg e t)(w:∀σ H Q,t' σ H Q->t σ H Q):PI X tg e t':=λpins s σ H Q I q=>h pins s σ H Q I (w σ H Q q)
theorem zkn{a:Res ya}{f:ya->Res (List ya)}{K:yh}{W:Str->Hp->Prop}{H:Hp}{P:Pv}{Q:It->Hp->Prop}(q:PostI K W H P (a.bind f) Q) :
  (∀c,a=.exc c->∀H',Same H H'->W c H')/\a ≠ .stuck/\∀t,a=.ok t->PostI K W H P (f t) Q:=by
 cases a with
 | ok t=>exact⟨λc e=>(by cases e),(by intro e;cases e),λt' e=>by cases e;exact q⟩
 | exc c=>exact⟨λc' e=>by cases e;exact q,(by intro e;cases e),λt e=>by cases e⟩
 | stuck=>exact q.elim
section
variable {X:Cx}{W:Str->Hp->Prop}{fl:Bool}{tg a b c e:yj}{da db:DE}{pos:Pos}
def iSq(K:yh)(tl:TE):TI:=λσ H R=>tl σ H λx H1=>(∃a,x=.ref a/\(∃xs,SqL K H1 a xs)/\R (Itl K a) H1)\/(∃a,x=.ref a/\(∃xs,SqT K H1 a xs)/\R (Itt K a) H1)
theorem pi_sq{l:yj}{tl:TE}(hl:PE X l tl):PI X tg l (iSq X.K tl):=by
 intro pins s σ H R I h;refine thn (hl pins s σ H _ I h) λv s1 ⟨x,H1,I1,r1,q1⟩=>?_
 rcases q1 with ⟨a,e,⟨xs,hq⟩,q⟩ | ⟨a,e,⟨xs,hq⟩,q⟩
 ·subst e;cases r1;obtain⟨its,rv,p,hz⟩:=I1.list hq;refine wpAny_pyIter_list p.isList ?_;refine⟨s1.heap.objs.size,[s1.heap.objs.size],_,_,H1,rfl,I1.kept (t':=s1.toks) λb o e=>yA _ e,zh4 a _,⟨_,yN _ rfl,rfl,rfl⟩,λb hb=>?_,q⟩
  have e:b=s1.heap.objs.size:=by simpa using hb
  subst e;exact I1.fpOk (yq _) (I1.hok.fresh (yq _))
 ·subst e;cases r1;obtain⟨its,rv,p,hz⟩:=I1.tuple hq;refine wpAny_pyIter_tuple (show s1.heap.IsTuple a its.toArray from p) ?_;refine⟨s1.heap.objs.size,[s1.heap.objs.size],_,_,H1,rfl,I1.kept (t':=s1.toks) λb o e=>yA _ e,zhb a _,⟨_,yN _ rfl,rfl,rfl⟩,λb hb=>?_,q⟩
  have e:b=s1.heap.objs.size:=by simpa using hb
  subst e;exact I1.fpOk (yq _) (I1.hok.fresh (yq _))
theorem yld_list{H:Hp}{P:Pv}{l:yc}{xs:List ya}{vs:List V}(s:SL X.K H P l vs)(r:Rls X.K H P xs vs):Yld X.K (Itl X.K l) xs H P:=λH' P' tr nf i=>
 ⟨λt e=>by
  have r':=Rls.go tr xs vs r;have s':=(s.go tr).sq;obtain⟨v,ev,rv⟩:=r'.getT e;refine⟨⟨vs,v,s',ev⟩,λx H'' y=>?_⟩
  obtain⟨rfl,y⟩:=y;have:=y vs s';rw[ev] at this;cases this;exact⟨Same.refl _,rv⟩,λhl=>⟨vs,(s.go tr).sq,by rw[<- r.length];exact hl⟩⟩
theorem zhZ{H:Hp}{P:Pv}{l:yc}{xs:List ya}{vs:List V}(s:ST X.K H P l vs)(r:Rls X.K H P xs vs):Yld X.K (Itt X.K l) xs H P:=λH' P' tr nf i=>
 ⟨λt e=>by
  have r':=Rls.go tr xs vs r;have s':=(s.go tr).sq;obtain⟨v,ev,rv⟩:=r'.getT e;refine⟨⟨vs,v,s',ev⟩,λx H'' y=>?_⟩
  obtain⟨rfl,y⟩:=y;have:=y vs s';rw[ev] at this;cases this;exact⟨Same.refl _,rv⟩,λhl=>⟨vs,(s.go tr).sq,by rw[<- r.length];exact hl⟩⟩
theorem YA(ha:EV X W a da):IV X W tg a (iSeq da):=
 zdg (pi_sq ha) λσ H R ⟨G,P,h,q⟩=>by
  unfold iSeq at q;obtain⟨q1,q2,q3⟩:=zkn q;refine ZE h q1 q2 λtx x H1 ex s1 h1 rx=>?_
  have q4:=q3 tx ex;cases tx <;> try exact q4.elim
  ·obtain⟨l,vs,rfl,sl,rs⟩:=Z7.mp rx;exact .inl ⟨l,rfl,⟨vs,sl.sq⟩,q4 _ H1 s1 (yld_list sl rs)⟩
  ·obtain⟨l,vs,rfl,sl,rs⟩:=ZN.mp rx;exact .inr ⟨l,rfl,⟨vs,sl.sq⟩,q4 _ H1 s1 (zhZ sl rs)⟩
theorem rngT_get(lo:Int)(n i:Nat):(rngT lo n)[i]? = if i < n then some (.int (lo+(i:Int))) else none:=by
 unfold rngT;rw[jc];by_cases h:i < n
 ·rw[if_pos h,j7 (by simpa using h)]
  simp
 ·rw[if_neg h,List.getElem?_eq_none (by simpa using h)]
  rfl
theorem zh0{H:Hp}{P:Pv}(lo:Int)(n:Nat):Yld X.K (Itr lo n) (rngT lo n) H P:=by
 intro H' P' tr nf i;refine⟨λt e=>?_,λhl=>?_⟩
 ·rw[rngT_get] at e;split at e
  ·rename_i hi;cases e;refine⟨hi,λx H'' y=>?_⟩
   obtain⟨rfl,rfl⟩:=y;exact⟨Same.refl _,ZU.mpr rfl⟩
  ·cases e
 ·have:(rngT lo n).length=n:=by simp[rngT]
  rw[this] at hl;exact hl
theorem Ws{p:Pos}(hg:Gl X "range")(hm:X.mg "range" = none)(ha:EV X W a da)(hs:yp [a] X.env=[(false,yz a X.env)]:=by rfl)(hs':yp [a] X.env=(false,yz a X.env)::yp [] X.env:=by rfl):IV X W tg (.Call (.Name "range" p) [a] [] pos) (iRng da):=
 zdg (ziQ hg hm (Yn ha X9 hs') hs) λσ H R ⟨G,P,h,q⟩=>by
  unfold Fx.iRng at q;obtain⟨q1,q2,q3⟩:=zkn q;refine ZE h q1 q2 λtx x H1 ex s1 h1 rx=>?_
  have q4:=q3 tx ex;cases tx <;> try exact q4.elim
  rename_i j;simp only at q4;split at q4
  ·rename_i hj;exact⟨j,by rw[ZU.mp rx],(UQ hj).1,(UQ hj).2,q4 _ H1 s1 (zh0 0 j.toNat)⟩
  ·exact q4.elim
def GV(X:Cx)(tg:yj)(st:ya->List Sl->Res (List Sl)):Prop:=
 ∃g,PG X tg g/\∀(t:ya) (v:V) (σ:L2.St) (H:Hp) (P:Pv) (G:List Sl) (Q:L2.St->Hp->Prop),Hol X.K H P σ G->Rl X.K H P t v ->
  (∃G',st t G=.ok G'/\∀σ' P',Go H P H P'->Hol X.K H P' σ' G'->Q σ' H)->g v σ H Q
theorem ZL{i:Nat}{x:Str}(hN:X.N.Nodup)(hi:X.N[i]? = some x)(hx:Loc X.env.scope x)(hf:X.fn x=true\/X.env.scope.names.lookup x=some .local:=by first | exact .inl rfl | exact .inr rfl | assumption):GV X (.Name x pos) (Zu i):=
 ⟨gName i,zfp hN hi hx hf,λt v σ H P G Q h r ⟨G',e,q⟩=>by
  cases e;exact q _ (P.del i) .del (h.setVal i r)⟩
theorem za2{i j:Nat}{x y:Str}{p1 p2:Pos}{k:Nat}(hc:X.calm=true)(hN:X.N.Nodup)(hi:X.N[i]? = some x)(hx:Loc X.env.scope x)(hj:X.N[j]? = some y)(hy:Loc X.env.scope y)
  (hf:X.fn x=true\/X.env.scope.names.lookup x=some .local:=by first | exact .inl rfl | exact .inr rfl | assumption) (hf2:X.fn y=true\/X.env.scope.names.lookup y=some .local:=by first | exact .inl rfl | exact .inr rfl | assumption)
  (hs:(j2 [.Name x p1,.Name y p2] X.env).map (·.2)=assign (.Name x p1) X.env::(j2 [.Name y p2] X.env).map (·.2):=by rfl)
  (hs2:(j2 [.Name y p2] X.env).map (·.2)=assign (.Name y p2) X.env::(j2 [] X.env).map (·.2):=by rfl)
  (hn:(j2 [.Name x p1,.Name y p2] X.env).length=2:=by rfl) (hst:(j2 [.Name x p1,.Name y p2] X.env).findIdx? (·.1)=none:=by rfl):GV X (.Tuple [.Name x p1,.Name y p2] k pos) (V6 i j):=
 ⟨_,pg_tup hc (zgh (zfp hN hi hx hf) (zgh (zfp hN hj hy hf2) pgs_nil hs2) hs) hn hst,λt v σ H P G Q h r ⟨G',e,q⟩=>by
  unfold V6 at e;split at e
  ·rename_i tx ty G0;cases e;obtain⟨l,vs,rfl,s1,rs⟩:=ZN.mp r;obtain⟨v1,r1,rfl,a1,b1⟩:=ZG.mp rs;obtain⟨v2,r2,rfl,a2,b2⟩:=ZG.mp b1;cases Z2.mp b2;have h1:=h.setVal i a1;have h2:=h1.setVal j (Rl.go .del ty v2 a2);exact⟨l,[v1,v2],rfl,s1.sq,rfl,v1,[v2],rfl,v2,[],rfl,rfl,q _ _ (Go.del.trans .del) h2⟩
  ·cases e⟩
theorem Hol.offn{K:yh}{H:Hp}{P:Pv}{σ:L2.St}{G:List Sl}(h:Hol K H P σ G):∀p,H p=none->Off P p:=λp e=>h.off_new e
theorem X8{body:List ym}{is:List Nat}{st:ya->List Sl->Res (List Sl)}{it:DA}{d:DS}{iter:yj}(hp:yS (yk X.prog X.w) X.A X.env X.xe)(hc:X.calm=true)(hi:IV X W tg iter it)(hg:GV X tg st)(hb:SVs X W fl body d)
  (hst:∀t G c,st t G ≠ .exc c:=by first | exact ziw | exact ziv) (hs:∀x,qk iter X.env x=pure x:=by intro _;rfl):SV X W fl (.For tg iter body [] pos) (dFor st is it d):=by
 obtain⟨g,pg,gp⟩:=hg;refine Xh (ps_for hp hc hi pg hb hs) λD σ H ⟨G,P,h,q⟩=>?_
 unfold dFor at q;obtain⟨P1,h1,g1⟩:=h.frz is;obtain⟨q1,q2,q3⟩:=bindAS q;refine⟨frz is G,P1,h1,?_⟩;cases e:it (frz is G) with
 | stuck=>exact absurd e q2
 | exc c=>exact λH' s=>q1 c e H' P1 (g1.trans (.same s))
 | ok ts=>
  intro J H1 s1 y;have q4:=q3 ts e;have g2:Go H P H1 P1:=g1.trans (.same s1);refine⟨λi m σ' H'=>m=ts.length - i/\i<=ts.length/\∃G' P',Go H1 P1 H' P'/\Hol X.K H' P' σ' G'/\W0 X.K W fl H P (forL st d (ts.drop i) G') D,⟨ts.length,by simp,jZ _,frz is G,P1,.refl _ _,h1.same s1,q4⟩,?_⟩
  rintro i m σ' H' ⟨rfl,hi,G',P',g',h',q'⟩
  obtain⟨y1,y2⟩:=y H' P' g'.tr h'.offn i;by_cases hlt:i < ts.length
  ·have et:ts[i]? = some ts[i]:=by simp[hlt]
   obtain⟨go,yl⟩:=y1 _ et;rw[ycn hlt] at q';unfold forL at q';refine .inr ⟨go,λσ2 H2=>∃G2 P2,Go H1 P1 H2 P2/\Hol X.K H2 P2 σ2 G2/\W0 X.K W fl H P (forL st d (ts.drop (i+1)) G2) D,λσ2 H2 z=>⟨_,by omega,rfl,hlt,z⟩,λx H2 yy=>?_⟩
   obtain⟨s2,r2⟩:=yl x H2 yy;have h2:=h'.same s2;cases es:st ts[i] G' with
   | stuck=>rw[es] at q';exact q'.elim
   | exc c=>exact absurd es (hst _ _ c)
   | ok G1=>
    rw[es,Res.bind_ok] at q';refine gp ts[i] x σ' H2 P' G' _ h2 r2 ⟨G1,es,λσ3 P3 g3 h3=>⟨G1,P3,h3,?_⟩⟩
    have gg:Go H1 P1 H2 P3:=g'.trans ((Go.same s2).trans g3);cases ed:d G1 with
    | stuck=>rw[ed] at q';exact q'.elim
    | exc c=>rw[ed] at q';exact W0.up (r:=.exc c) q' (g2.trans gg)
    | ok o=>
     rw[ed,Res.bind_ok] at q';cases o with
     | nx G4=>exact λσ4 H4 P4 g4 h4=>⟨G4,P4,gg.trans g4,h4,q'⟩
     | ct G4=>exact λσ4 H4 P4 g4 h4=>⟨G4,P4,gg.trans g4,h4,q'⟩
     | bk G4=>exact λσ4 H4 P4 g4 h4=>q' σ4 H4 P4 (g2.trans (gg.trans g4)) h4
     | rt t=>exact λv H4 P4 g4 h4 n4=>q' v H4 P4 (g2.trans (gg.trans g4)) h4 λz=>(n4 z).back (g2.trans gg)
  ·have ei:i=ts.length:=by omega
   subst ei;rw[List.drop_length] at q';exact .inl ⟨y2 (yq _),q' σ' H' P' (g2.trans g') h'⟩
end
theorem Same.updL{H H8:Hp}{D:yc}{vs ws:List V}(s:Same H H8)(hD:H D=none)(h8:H8 D=some (.lst vs)):Same H (upd H8 D (.lst ws)) where
 kp:=λb o e n=>by rw[Zr (ZH e hD)];exact s.kp b o e n
 free:=λ{b} w=>by
  by_cases z:b=D
  ·rw[z];exact hD
  ·rw[Zr z] at w;exact s.free w
 tab:=λK t=>VE.mono (s.tab K t) λb o e nl=>by
  rw[Zr (λz=>by rw[z,h8] at e;cases e;exact nl (.inl ⟨_,rfl⟩))];exact e
 tbk:=λb ps e=>by rw[Zr (ZH e hD)];exact s.tbk b ps e
def zfW(K:yh)(W:Str->Hp->Prop)(H:Hp)(P:Pv)(r:Res (List ya))(Q:VK):Prop:=
 match r with
 | .ok xs=>∀p vs H',Same H H'->H p=none->H' p=some (.lst vs)->Rls K H' (P.fbd p) xs vs->Q (.ref p) H'
 | .exc c=>∀H',Same H H'->W c H'
 | .stuck=>False
def tFO(K:yh)(W:Str->Hp->Prop)(d:DA):TE:=λσ H Q=>∃G P,Hol K H P σ G/\zfW K W H P (d G) Q
def OV(X:Cx)(W:Str->Hp->Prop)(e:yj)(d:DA):Prop:=PE X e (tFO X.K W d)
theorem Tr.fbd{H:Hp}{P:Pv}{p:yc}:Tr H (P.fbd p) H P:=λa o e _ q=>⟨e,q.1,λz=>q.2 (.inl z)⟩
theorem Tr.tofbd{H:Hp}{P:Pv}{p:yc}(hp:H p=none):Tr H P H (P.fbd p):=λa o e _ q=>⟨e,q.1,λz=>z.elim q.2 λz=>by rw[z,hp] at e;cases e⟩
theorem rl_new{K:yh}{H H':Hp}{P:Pv}{σ:L2.St}{G:List Sl}{p:yc}{vs:List V}{xs:List ya}(h:Hol K H P σ G)(s:Same H H')(hp:H p=none)(hl:H' p=some (.lst vs))(r:Rls K H' (P.fbd p) xs vs):Rl K H' P (.list xs) (.ref p):=
 Z7.mpr ⟨p,vs,rfl,.off hl (h.off_new hp),Rls.go .fbd xs vs r⟩
theorem Hol.own'{K:yh}{H H':Hp}{P:Pv}{σ:L2.St}{G:List Sl}{p:yc}{vs:List V}{xs:List ya}{i:Nat}(h:Hol K H P σ G)(hi:i < G.length)(s:Same H H')(hp:H p=none)(hl:H' p=some (.lst vs))(r:Rls K H' (P.fbd p) xs vs) :
  Hol K H' (P.put i p) (σ.set i (some (.ref p))) (G.set i (.own xs))/\Go H P H' (P.put i p):=by
 have g0:Go H P H' (P.put i p):=(Go.put hp).trans (.same s);have gg:=g0.tr;have tt:Tr H' (P.fbd p) H' (P.put i p):=λa o e _ q=>⟨e,λj z=>by
  have z':(if j=i then some p else P.own j)=some a:=z
  split at z'
  ·cases z';exact q.2 (yC rfl)
  ·exact q.1 j z',λz=>q.2 (yg z)⟩
 have rr:Rls K H' (P.put i p) xs vs:=Rls.go tt xs vs r;refine⟨⟨λj s' q=>?_,?_,?_,?_,?_,?_,s.tab K h.tab⟩,g0⟩
 ·by_cases e:j=i
  ·subst e;rw[jy hi] at q;cases q;exact⟨p,vs,VN (by rw[h.len];exact hi),if_pos rfl,hl,rr⟩
  ·rw[jg (Ne.symm e)] at q;have z:=h.sl j s' q;rw[Qq e];cases s' with
   | emp=>trivial
   | val t'=>obtain⟨v',e1,r'⟩:=z;exact⟨v',e1,Rl.go gg t' v' r'⟩
   | own xs'=>
    obtain⟨p',vs',e1,e2,e3,r'⟩:=z;exact⟨p',vs',e1,(by show(if j=i then some p else P.own j)=_;rw[if_neg e];exact e2),s.kp _ _ e3 JK,Rls.go gg xs' vs' r'⟩
   | dct xs'=>
    obtain⟨p',vs',e1,e2,e3,r'⟩:=z;exact⟨p',vs',e1,(by show(if j=i then some p else P.own j)=_;rw[if_neg e];exact e2),s.kp _ _ e3 nt_dT,Rlk.go gg xs' vs' r'⟩
 ·intro a b c h1 h2;have h1':(if a=i then some p else P.own a)=some c:=h1
  have h2':(if b=i then some p else P.own b)=some c:=h2
  split at h1'
  ·split at h2'
   ·rename_i z1 z2;rw[z1,z2]
   ·cases h1';obtain⟨ws,q,_⟩:=h.dom h2';rw[hp] at q;cases q
  ·split at h2'
   ·cases h2';obtain⟨ws,q,_⟩:=h.dom h1';rw[hp] at q;cases q
   ·exact h.inj a b c h1' h2'
 ·intro j a z;have z':(if j=i then some p else P.own j)=some a:=z
  split at z'
  ·rename_i e;subst e;exact⟨_,jy hi,trivial⟩
  ·rename_i ne;obtain⟨xs,q,m⟩:=h.only j a z';exact⟨xs,by rw[jg (Ne.symm ne)];exact q,m⟩
 ·intro a z;obtain⟨o,q,m⟩:=h.fbd a z;refine⟨o,?_,m⟩;exact s.kp _ _ q m.nt
 ·intro j a z;have z':(if j=i then some p else P.own j)=some a:=z
  split at z'
  ·cases z';exact h.nofb hp
  ·exact h.nfb j a z'
 ·rw[jP,jP];exact h.len
def Z5(env:Env):List (Str × yZ)->List (Str × yc)->List (Str × yc)
 | [],cs=>cs
 | (n,k)::r,cs=>Z5 env r (if(k == yZ.free)=true then(n,(env.cells.lookup n).getD 0)::cs else cs)
theorem zeT(env:Env)(f:Str × yZ->List (Str × yc)->Sem (ForInStep (List (Str × yc))))
  (hf:∀n k cs,f (n,k) cs=if(k == yZ.free)=true then(cellOf env n >>= λa=>pure (.yield ((n,a)::cs))) else pure (.yield cs)) :
  ∀(names:List (Str × yZ)) (cs:List (Str × yc)),(∀y ∈ names,y.2=.free->∃c,env.cells.lookup y.1=some c)->(forIn names cs f:Sem (List (Str × yc)))=pure (Z5 env names cs)
 | [],cs,h=>rfl
 | (n,k)::r,cs,h=>by
  rw[yb8,hf];have ih:=λcs=>zeT env f hf r cs λy hy=>h y (yR _ hy)
  by_cases hk:(k == yZ.free)=true
  ·obtain⟨c,e⟩:=h (n,k) yP (by simpa using hk)
   have e2:cellOf env n=pure c:=by unfold cellOf;rw[e]
   rw[if_pos hk,e2,pure_bind,pure_bind];show forIn r _ f=_;rw[ih];have ec:Z5 env ((n,k)::r) cs=Z5 env r (if(k == yZ.free)=true then(n,(env.cells.lookup n).getD 0)::cs else cs):=rfl
   rw[ec,if_pos hk,e]
   rfl
  ·rw[if_neg hk,pure_bind];show forIn r _ f=_;rw[ih];have ec:Z5 env ((n,k)::r) cs=Z5 env r (if(k == yZ.free)=true then(n,(env.cells.lookup n).getD 0)::cs else cs):=rfl
   rw[ec,if_neg hk]
theorem Ja{scope:yJ}{env:Env}(h:∀y ∈ scope.names,y.2=.free->∃c,env.cells.lookup y.1=some c):closureFor scope env=pure (Z5 env scope.names []):=by
 unfold closureFor;have:=zeT env (λx r=>match x with
  | (name,kind)=>if(kind == yZ.free)=true then(cellOf env name >>= λa=>pure (.yield ((name,a)::r))) else pure (.yield r)) (λ_ _ _=>rfl) scope.names [] h
 simp only[bind_pure];exact this
theorem U1(env:Env):∀(names:List (Str × yZ)) (cs:List (Str × yc)),(∀y ∈ names,y.2=.free->∃c,env.cells.lookup y.1=some c)->(∀x c,cs.lookup x=some c->env.cells.lookup x=some c) ->
  ∀x c,(Z5 env names cs).lookup x=some c->env.cells.lookup x=some c
 | [],cs,h,hc,x,c,e=>hc x c e
 | (n,k)::r,cs,h,hc,x,c,e=>by
  unfold Z5 at e;refine U1 env r _ (λy hy=>h y (yR _ hy)) (λy d ey=>?_) x c e
  by_cases hk:(k == yZ.free)=true
  ·rw[if_pos hk] at ey;obtain⟨c',e'⟩:=h (n,k) yP (by simpa using hk)
   rw[qK] at ey;split at ey
   ·rename_i q;have:y=n:=by simpa using q
    subst this;rw[e'] at ey ⊢;exact ey
   ·exact hc y d ey
  ·rw[if_neg hk] at ey;exact hc y d ey
theorem Xk{α:Type}{x:Str}{a:α}:∀{cs:List (Str × α)},(x,a) ∈ cs->∃b,cs.lookup x=some b
 | (y,b)::r,h=>by
  rw[qK];split
  ·exact⟨b,rfl⟩
  ·rename_i q;rcases yI.mp h with e | e
   ·cases e;simp at q
   ·exact Xk e
theorem VD(env:Env):∀(names:List (Str × yZ)) (cs:List (Str × yc)) (x:Str),((∃c,(x,c) ∈ cs)\/(x,yZ.free) ∈ names)->∃c,(x,c) ∈ Z5 env names cs
 | [],cs,x,h=>by
  rcases h with h | h
  ·exact h
  ·cases h
 | (n,k)::r,cs,x,h=>by
  unfold Z5;refine VD env r _ x ?_;rcases h with ⟨c,h⟩ | h
  ·left
   split
   ·exact⟨c,yR _ h⟩
   ·exact⟨c,h⟩
  ·rcases yI.mp h with e | e
   ·cases e
    left
    exact⟨_,by rw[if_pos (by rfl)];exact yP⟩
   ·exact .inr e
theorem Yo{α:Type}{x:Str}{a:α}:∀{cs:List (Str × α)},cs.lookup x=some a->(x,a) ∈ cs
 | (y,b)::r,h=>by
  rw[qK] at h;split at h
  ·rename_i q;have:x=y:=by simpa using q
   cases h;subst this;exact yP
  ·exact yR _ (Yo h)
theorem JI{scope:yJ}{env:Env}{x:Str}(hcell:∀y ∈ scope.names,y.2 ≠ .cell):(relabel scope env).names.lookup x=some .cell\/(relabel scope env).names.lookup x=some .free->(x,yZ.free) ∈ scope.names:=by
 intro h;have:∃k,(x,k) ∈ (relabel scope env).names/\(k=.cell\/k=.free):=by
  rcases h with h | h
  ·exact⟨_,Yo h,.inl rfl⟩
  ·exact⟨_,Yo h,.inr rfl⟩
 obtain⟨k,hm,hk⟩:=this;unfold relabel at hm;obtain⟨⟨n,k0⟩,hm0,e⟩:=yD.mp hm;simp only at e;split at e
 ·rename_i q;cases e;simp only[jl,beq_iff_eq] at q;rw[q.1.1] at hm0;exact hm0
 ·cases e;rcases hk with rfl | rfl
  ·exact absurd rfl (hcell _ hm0)
  ·exact hm0
def cxC(X:Cx)(scope:yJ)(N:List Str)(s₀:ye)(H₀:Hp)(ex:List yc)(pn:List (yc × Obj):=[]):Cx:=
 { X with env:=compEnvC scope (Z5 X.env scope.names []) s₀.heap.objs.size X.env,N:=N,s₀:=s₀,H₀:=H₀,outer:=X.stack,ex:=ex,fn:=λ_=>false,pn:=pn,xe:=λ_ _=>False }
structure CompOk(X:Cx)(scope:yJ)(N:List Str)(nv:Nat)(cap:List Nat):Prop where
 cell:∀y ∈ scope.names,y.2 ≠ .cell
 kind:scope.kind=.function
 names:∀y ∈ scope.names,y.2=.local->scope.names.lookup y.1=some .local
 free:∀y ∈ scope.names,y.2=.free->X.env.kindOf y.1=some .cell\/X.env.kindOf y.1=some .free
 len:N.length=nv+cap.length
 caps:∀(i j:Nat) (x:Str),cap[i]? = some j->N[nv+i]? = some x->X.N[j]? = some x/\((relabel scope X.env).names.lookup x=some .cell\/(relabel scope X.env).names.lookup x=some .free)/\(X.env.kindOf x=some .cell\/X.env.kindOf x=some .free)
def sig(nv:Nat)(cap:List Nat)(σ:L2.St):L2.St:=y0 nv none++cap.map λj=>σ.getD j none
section
variable {X:Cx}{scope:yJ}{N:List Str}{nv:Nat}{cap:List Nat}{pins:List (yc × Obj)}{σ:L2.St}{H:Hp}{s:ye}{ex:List yc}
theorem CompOk.has(C:CompOk X scope N nv cap)(ok:X.Ok):∀y ∈ scope.names,y.2=.free->∃c,X.env.cells.lookup y.1=some c:=λy hy e=>ok.has y.1 (C.free y hy e)
theorem CompOk.start(C:CompOk X scope N nv cap)(I:Inv X pins σ H s)(hex:∀b ∈ ex,FpOk X pins H b/\b < s.heap.objs.size){h':yd}{t:Nat}{m:Str->Option yb}(hn:h'.Ns s.heap.objs.size m)(hk:∀b o,s.heap.get? b=some o->h'.get? b=some o) :
  Inv (cxC X scope N s H ex) [] (sig nv cap σ) H { s with heap:=h',toks:=t }:=by
 have hh:=C.has I.ok;have sub:=U1 X.env scope.names [] hh (λx c e=>by cases e)
 have hL:s.heap.objs.size<=(cxC X scope N s H ex).env.locals:=yq _;have stk:∀b ∈ frs X.stack,b < s.heap.objs.size:=λb hb=>by
  obtain⟨_,o,ho,_⟩:=I.stack.mem hb;exact yG ho
 refine⟨⟨I.ok.mod,C.kind,I.ok.glob,I.ok.blt,hL,λx y c h1 h2=>I.ok.inj x y c (sub x c h1) (sub y c h2),λx hx=>?_,λx c h=>?_,I.ok.hd,I.ok.frames,.inl rfl,λb hb=>?_,λb o e=>I.bs b o e,?_,λb o e hb=>?_,λb hb=>?_,I.stack,I.stkFree⟩,
  rfl,I.bare,Un.kept hk,⟨m,hn,λi x v e1 e2 e3=>?_⟩,λx c e=>?_,I.hok.fresh (yq _),λx c e=>I.freeC x c (sub x c e),λp hp=>?_,I.hok.kept hk,?_⟩
 ·have hx':(relabel scope X.env).names.lookup x=some .cell\/(relabel scope X.env).names.lookup x=some .free:=hx;obtain⟨c,hc⟩:=VD X.env scope.names [] x (.inr (JI C.cell hx'));exact Xk hc
 ·cases h
 ·obtain⟨f,lt⟩:=hex b hb;refine⟨yW lt,λx c e=>f.2.2.2.2.1 x c (sub x c e)⟩
 ·exact yE I.ok.bsz I.sz
 ·obtain⟨f,lt⟩:=hex b hb;rcases f.2.2.2.1 with z | z
  ·exact I.ok.noex b o e z
  ·exact absurd (yU (yG e) (yE I.ok.bsz z)) (jS _)
 ·obtain⟨f,lt⟩:=hex b hb;intro z;rcases yI.mp (I.stkSub b z) with e | e
  ·exact f.2.1 e
  ·exact f.2.2.1 e
 ·-- the names
  have hi:nv<=i:=by
   rcases Nat.lt_or_ge i nv with z | z
   ·unfold sig at e2;rw[jH (by simpa using z),ql] at e2
    split at e2 <;> cases e2
   ·exact z
  obtain⟨k,rfl⟩:=Nat.exists_eq_add_of_le hi;unfold sig at e2;rw[j6 (by simp),jc] at e2
  have ek:nv+k - (y0 nv (none:Option V)).length=k:=by simp
  rw[ek] at e2;cases ec:cap[k]? with
  | none=>rw[ec] at e2;cases e2
  | some j=>
   rw[ec] at e2;have e2':σ.getD j none=some v:=by simpa using e2
   obtain⟨c1,c2,c3⟩:=C.caps k j x ec e1;obtain⟨m0,_,hl⟩:=I.loc;have vis:Vis X.env.scope x:=c3.elim (λz=>.inr (.inl z)) λz=>.inr (.inr z)
   obtain⟨u,ru,lk⟩:=hl j x v c1 (getD_some e2') vis;refine⟨u,ru,.inr ⟨c2,?_⟩⟩;rcases lk with ⟨z,_⟩ | ⟨_,c,ec',o,ho,hd⟩
   ·rcases c3 with c3 | c3 <;> (rw[c3] at z;cases z)
   ·obtain⟨c',hc'⟩:=VD X.env scope.names [] x (.inr (JI C.cell c2));obtain⟨c'',hc''⟩:=Xk hc';have:=sub x c'' hc'';rw[ec'] at this;cases this;exact⟨c,hc'',o,hk c o ho,hd⟩
 ·obtain⟨v,o,ho,hd⟩:=I.cell x c (sub x c e);exact⟨v,o,hk c o ho,hd⟩
 ·exact absurd (show p ∈ ([]:List (yc × Obj)) from hp) (by simp)
 ·show(sig nv cap σ).length=N.length;unfold sig;rw[C.len];simp
theorem CompOk.stop{H':Hp}{s':ye}{σ':L2.St}{pl:List (yc × Obj)}(I:Inv X pins σ H s)(hex:∀b ∈ ex,FpOk X pins H b)(J:Inv (cxC X scope N s H ex) pl σ' H' s'):Inv X pins σ H' s':=
 I.call' J.os J.base J.hok J.bare λb hb=>by
  obtain⟨f0,f1,f2,f3,f4,f5⟩:=hex b hb;exact⟨f3,f1,f4,f5⟩
theorem inv_pn{s₀:ye}{H₀:Hp}{E:yb->ye->Prop}(I:Inv (cxC X scope N s₀ H₀ ex) pins σ H s):Inv ((cxC X scope N s₀ H₀ ex pins).wish E) [] σ H s:=
 ⟨⟨I.ok.mod,I.ok.kind,I.ok.glob,I.ok.blt,I.ok.above,I.ok.inj,I.ok.has,I.ok.cab,I.ok.hd,I.ok.frames,I.ok.stk,I.ok.exf,I.ok.bs,I.ok.bsz,I.ok.noex,I.ok.exfs,I.ok.funs,I.ok.frf⟩,I.os,I.bare,I.base,I.loc,I.cell,I.free,I.freeC,
  λp hp=>I.pin p (show p ∈ []++pins by simpa using(show p ∈ pins++[] from hp)),I.hok,I.len⟩
theorem inv_np{s₀:ye}{H₀:Hp}{pn:List (yc × Obj)}{E:yb->ye->Prop}(I:Inv ((cxC X scope N s₀ H₀ ex pn).wish E) pins σ H s):Inv (cxC X scope N s₀ H₀ ex) (pn++pins) σ H s:=
 ⟨⟨I.ok.mod,I.ok.kind,I.ok.glob,I.ok.blt,I.ok.above,I.ok.inj,I.ok.has,I.ok.cab,I.ok.hd,I.ok.frames,I.ok.stk,I.ok.exf,I.ok.bs,I.ok.bsz,I.ok.noex,I.ok.exfs,I.ok.funs,I.ok.frf⟩,I.os,I.bare,I.base,I.loc,I.cell,I.free,I.freeC,
  λp hp=>I.pin p (show p ∈ pn++pins from by simpa using(show p ∈ []++(pn++pins) from hp)),I.hok,I.len⟩
end
theorem zhO{prog:y6}{w:y3}{A:yB}{R:Result->ye->Prop}{s:ye}{elt target iter:yj}{ifs:List yj}{scope:yJ}{pos:Pos}{it acc:yb}{env:Env}(I:Nat->ye->Prop)
  (turn:∀n s,I n s->yi (yk prog w) A (pyNext it) (λr s₁=>match r with
   | none=>R (.ok .next) s₁
   | some v=>yi (yk prog w) A (letOwnedTupleGo target it v) (λ_ s₀=>yi (yk prog w) A (assign target env v) (λ_ s₂=>
     yi (yk prog w) A (forIn ifs true λc r=>if r=true then do let ok <- isTrue c env (yz c env);pure (ForInStep.yield ok) else pure (ForInStep.yield r)) (λok s₃=>
      if ok=true then yi (yk prog w) A (yz elt env) (λx s₄=>
       yi (yk prog w) A (call (.builtin "list.append") [acc,x]) (λ_ s₅=>∃m,m < n/\I m s₅) (notedBy (yk prog w) A env λe s'=>R (.error e) s') s₄) (notedBy (yk prog w) A env λe s'=>R (.error e) s') s₃
      else ∃m,m < n/\I m s₃) (notedBy (yk prog w) A env λe s'=>R (.error e) s') s₂) (notedBy (yk prog w) A env λe s'=>R (.error e) s') s₀) (notedBy (yk prog w) A env λe s'=>R (.error e) s') s₁) (notedBy (yk prog w) A env λe s'=>R (.error e) s') s)
  (n:Nat) (h:I n s) :
  codeAny (yk prog w) A (.compLoop (.ListComp elt [⟨target,iter,ifs,0⟩] scope pos) 0 it acc env) R s:=by
 refine codeAny_loop rfl I (λn s hI=>?_) n h
 show yi _ A ((compTurn (.ListComp elt [⟨target,iter,ifs,0⟩] scope pos) 0 it acc env).onRaise (λx=>do noteFrame x env;theTreesLotGoes x)) _ _ s
 refine wpAny_noted ?_;rw[compTurn_list];refine yf (wpAny_standAt (yf (yO (turn n s hI) (λr s₁ h₁=>?_) λ_ _ h'=>h')))
 cases r with
 | none=>exact yt h₁
 | some v=>
  refine yf (yO h₁ (λ_ s₀ h₀=>?_) λ_ _ h'=>h')
  refine yf (yO h₀ (λ_ s₂ h₂=>yf (yO h₂ (λok s₃ h₃=>?_) λ_ _ h'=>h')) λ_ _ h'=>h')
  cases ok with
  | false=>exact yt ⟨rfl,h₃⟩
  | true=>
   exact yf (yf (yO h₃ (λx s₄ h₄=>yf (yO h₄ (λ_ s₅ h₅=>yt (yt ⟨rfl,h₅⟩)) λ_ _ h'=>h')) λ_ _ h'=>h'))
def CT(X:Cx)(W:Str->Hp->Prop)(ifs:List yj)(dc:DT):Prop:=(ifs=[]/\dc=tT)\/∃c,ifs=[c]/\TV X W c dc
theorem Yz{X:Cx}{W:Str->Hp->Prop}:CT X W [] tT:=.inl ⟨rfl,rfl⟩
theorem zg0{X:Cx}{W:Str->Hp->Prop}{c:yj}{dc:DT}(h:TV X W c dc):CT X W [c] dc:=.inr ⟨c,rfl,h⟩
section
variable {X:Cx}{scope:yJ}{N:List Str}{nv:Nat}{cap:List Nat}
theorem zjD{K:yh}{H H':Hp}{P P':Pv}{σ:L2.St}{G:List Sl}(h:Hol K H P σ G)(tr:Tr H P H' P')(ho:∀i,P'.own i=none)(hf:∀a,P'.fb a->∃o,H' a=some o/\LD o)(htb:VE K H'):Hol K H' P' (sig nv cap σ) (y0 nv .emp++capS cap G) where
 sl:=λi s e=>by
  by_cases hi:i < nv
  ·rw[jH (by simpa using hi),ql,if_pos hi] at e
   cases e;trivial
  ·rw[j6 (by simpa using hi)] at e
   have el:i - (y0 nv Sl.emp).length=i - nv:=by simp
   rw[el] at e;unfold capS at e;rw[jc] at e;cases ec:cap[i - nv]? with
   | none=>rw[ec] at e;cases e
   | some j=>
    rw[ec] at e;have es:(sig nv cap σ).getD i none=σ.getD j none:=by
     unfold sig;rw[y8,j6 (by simpa using hi)]
     have el2:i - (y0 nv (none:Option V)).length=i - nv:=by simp
     rw[el2,jc,ec]
     rfl
    rw[es];simp only[yb9,ja.injEq] at e;cases eg:G[j]? with
    | none=>rw[eg] at e;subst e;trivial
    | some x=>
     rw[eg] at e;cases x with
     | emp=>subst e;trivial
     | own xs=>subst e;trivial
     | dct xs=>subst e;trivial
     | val t=>
      subst e;obtain⟨v,ev,rv⟩:=h.sl j _ eg;exact⟨v,ev,Rl.go tr t v rv⟩
 inj:=λi j a z _=>by rw[ho i] at z;cases z
 only:=λi a z=>by rw[ho i] at z;cases z
 fbd:=hf
 nfb:=λi a z=>by rw[ho i] at z;cases z
 len:=by simp[sig]
 tab:=htb
theorem zhE{K:yh}{H:Hp}{P:Pv}{σ:L2.St}{G1:List Sl}{C:List Sl}(hC:∀i,i < nv->∀s,C[i]? = some s->s=.emp)(hC2:∀(i:Nat) (x:Sl),C[i]? = some x->¬x.mine)(h:Hol K H P σ G1)(hl:G1.length=C.length)(he:∀i,nv<=i->G1[i]? = C[i]?) :
  Hol K H P.bare σ C:=by
 obtain⟨h',g⟩:=h.frzA;refine⟨λi s e=>?_,λ_ _ _ z=>(by cases z),λ_ _ z=>(by cases z),h'.fbd,λ_ _ z=>(by cases z),by rw[h.len,hl],h'.tab⟩
 by_cases hi:i < nv
 ·rw[hC i hi s e];trivial
 ·have e1:G1[i]? = some s:=by rw[he i (by omega)];exact e
  cases s with
  | emp=>trivial
  | own xs=>exact(hC2 i _ e trivial).elim
  | dct xs=>exact(hC2 i _ e trivial).elim
  | val t=>
   refine h'.sl i (.val t) ?_;rw[VO,e1];rfl
abbrev cxT(xz:Cx->yb->ye->Prop)(X:Cx)(scope:yJ)(N:List Str)(s₀:ye)(H₀:Hp)(ex:List yc)(pn:List (yc × Obj)):Cx:=(cxC X scope N s₀ H₀ ex pn).wish (xz (cxC X scope N s₀ H₀ ex pn))
theorem zhN{xz:Cx->yb->ye->Prop}{W:Str->Hp->Prop}{tg elt iter:yj}{ifs:List yj}{pos:Pos}{st:ya->List Sl->Res (List Sl)}{dc:DT}{de:DE}{pins:List (yc × Obj)}{σ:L2.St}{H2:Hp}{s3 s4:ye}{P:Pv}{G:List Sl}{J:It}{fp:List yc}{itA D:yc}{tn:Nat->yd->Prop}{ts:List ya}{r:Res (List ya)}{R:Result->ye->Prop}{m:Str->Option yb}
  (C:CompOk X scope N nv cap) (hc:X.calm=true) (hk:ze4 nv st)
  (hg:∀s₀ H₀ ex pn,GV (cxT xz X scope N s₀ H₀ ex pn) tg st) (ht:∀s₀ H₀ ex pn,(∀b ∈ ex,∃o,(b,o) ∈ pn)->CT (cxT xz X scope N s₀ H₀ ex pn) W ifs dc) (he:∀s₀ H₀ ex pn,(∀b ∈ ex,∃o,(b,o) ∈ pn)->EV (cxT xz X scope N s₀ H₀ ex pn) W elt de)
  (h2:Hol X.K H2 P σ G) (hD:H2 D=none) (I3:Inv X pins σ (upd H2 D (.lst [])) s3) (T:Turn X.prog X.w X.K tg J fp itA tn) (hf:∀b ∈ fp,FpOk X pins (upd H2 D (.lst [])) b/\b < s3.heap.objs.size) (y:Yld X.K J ts H2 P) (hlen:ts.length<=16777216)
  (hall:YF st dc de (y0 nv .emp++capS cap G) ts=r) (hr:r ≠ .stuck) (hW:∀c,r=.exc c->∀H',Same H2 H'->W c H')
  (hn:s4.heap.Ns s3.heap.objs.size m) (hkp:∀b o,s3.heap.get? b=some o->s4.heap.get? b=some o) (e4:∃h' t,s4={ s3 with heap:=h',toks:=t }) (tn0:tn 0 s4.heap)
  (fin:∀s' H' σ' vs all,r=.ok all->Inv (cxC X scope N s3 (upd H2 D (.lst [])) fp) [] σ' H' s'->H' D=some (.lst vs)->Same H2 H'->Rls X.K H' (P.fbd D) all vs->R (.ok .next) s')
  (finx:∀pn e s',(∀b ∈ fp,∃o,(b,o) ∈ pn)->xz (cxC X scope N s3 (upd H2 D (.lst [])) fp pn) e s'->notedBy (yk X.prog X.w) X.A (compEnvC scope (Z5 X.env scope.names []) s3.heap.objs.size X.env) (λe s'=>R (.error e) s') e s') :
  codeAny (yk X.prog X.w) X.A (.compStart (.ListComp elt [⟨tg,iter,ifs,0⟩] scope pos) 0 (.ref itA) (.ref D) (compEnvC scope (Z5 X.env scope.names []) s3.heap.objs.size X.env)) R s4:=by
 obtain⟨h4,t4,rfl⟩:=e4;have J4:=C.start (t:=t4) I3 hf hn hkp
 -- what no element may hold
 have trc:∀H',Same H2 H'->(∃vs,H' D=some (.lst vs))->Tr H2 P H' ⟨λ_=>none,λa=>¬Off P a\/a=D⟩:=λH' s _ a o e n q=>⟨s.kp a o e n,λ_ z=>(by cases z),λz=>z.elim (λz=>z q) λz=>by rw[z,hD] at e;cases e⟩
 have offc:∀H',Same H2 H'->(∃vs,H' D=some (.lst vs))->∀p,H' p=none->Off ⟨λ_=>none,λa=>¬Off P a\/a=D⟩ p:=λH' s ⟨vs,hv⟩ p hp=>⟨λ_ z=>(by cases z),λz=>z.elim (λz=>z (h2.off_new (s.free hp))) λz=>by rw[z,hv] at hp;cases hp⟩
 have fbc:∀H',Same H2 H'->(∃vs,H' D=some (.lst vs))->∀a,(¬Off P a\/a=D)->∃o,H' a=some o/\LD o:=λH' s ⟨vs,hv⟩ a z=>z.elim (λz=>let⟨o,q,m⟩:=h2.ld z;⟨o,s.kp _ _ q m.nt,m⟩) λz=>by rw[z];exact⟨_,hv,.inl ⟨vs,rfl⟩⟩
 have hCe:∀i,i < nv->∀x,(y0 nv Sl.emp++capS cap G)[i]? = some x->x=.emp:=λi hi x e=>by
  rw[jH (by simpa using hi),ql,if_pos hi] at e
  cases e
  rfl
 have hCo:∀(i:Nat) xs,(y0 nv Sl.emp++capS cap G)[i]? = some xs->¬xs.mine:=λi xs e m=>by
  by_cases hi:i < nv
  ·rw[hCe i hi _ e] at m;exact m
  ·rw[j6 (by simpa using hi)] at e
   unfold capS at e;rw[jc] at e;cases ec:cap[i - (y0 nv Sl.emp).length]? with
   | none=>rw[ec] at e;cases e
   | some j=>
    rw[ec] at e;simp only[yb9,ja.injEq] at e;subst e
    revert m
    cases eg:G[j]? with
    | none=>exact λm=>m
    | some x=>cases x <;> exact λm=>m
 have fpo:∀H',(∀b ∈ fp,H' b=none)->∀b ∈ fp,FpOk (cxC X scope N s3 (upd H2 D (.lst [])) fp) [] H' b:=λH' hz b hb=>by
  obtain⟨f,lt⟩:=hf b hb;refine⟨hz b hb,yW lt,λz=>?_,.inl hb,λx c e=>f.2.2.2.2.1 x c (U1 X.env scope.names [] (C.has I3.ok) (λx c e=>by cases e) x c e),λp hp=>absurd (show p ∈ ([]:List (yc × Obj)) from hp) (by simp)⟩
  rcases yI.mp (I3.stkSub b z) with e | e
  ·exact f.2.1 e
  ·exact f.2.2.1 e
 have up0:Same H2 (upd H2 D (.lst [])):=Zz hD
 -- the loop
 have loop:∀s5:ye,s5={ s3 with heap:=h4,toks:=t4 }->codeAny (yk X.prog X.w) X.A (.compLoop (.ListComp elt [⟨tg,iter,ifs,0⟩] scope pos) 0 (.ref itA) (.ref D) (compEnvC scope (Z5 X.env scope.names []) s3.heap.objs.size X.env)) R s5:=by
  rintro s5 rfl
  refine zhO (λn s=>∃i σ' H' vs ys,n=ts.length - i/\i<=ts.length/\Inv (cxC X scope N s3 (upd H2 D (.lst [])) fp) [] σ' H' s/\tn i s.heap/\(∀b ∈ fp,H' b=none)/\Same H2 H'/\H' D=some (.lst vs) /\
   Rls X.K H' ⟨λ_=>none,λa=>¬Off P a\/a=D⟩ ys vs/\Hol X.K H' ⟨λ_=>none,λa=>¬Off P a\/a=D⟩ σ' (y0 nv .emp++capS cap G)/\((YF st dc de (y0 nv .emp++capS cap G) (ts.drop i)).bind λzs=>.ok (ys++zs))=r/\ys.length<=i) ?_ ts.length
   ⟨0,_,_,[],[],rfl,jZ _,J4,tn0,λb hb=>(hf b hb).1.1,up0,Zt,Z2.mpr rfl,zjD h2 (trc _ up0 ⟨_,Zt⟩) (λ_=>rfl) (fbc _ up0 ⟨_,Zt⟩) (up0.tab _ h2.tab),by rw[List.drop_zero,hall];cases r <;> rfl,yq _⟩
  rintro n s ⟨i,σ',H',vs,ys,rfl,hi,Ji,tni,fpn,sm,hDv,rys,hol,ecl,hyl⟩
  obtain⟨y1,y2⟩:=y H' ⟨λ_=>none,λa=>¬Off P a\/a=D⟩ (trc H' sm ⟨vs,hDv⟩) (offc H' sm ⟨vs,hDv⟩) i
  by_cases hlt:i < ts.length
  ·have et:ts[i]? = some ts[i]:=by simp[hlt]
   obtain⟨go,yl⟩:=y1 _ et;rw[ycn hlt] at ecl;unfold YF at ecl
   -- the turn's own data
   obtain⟨G1,eG⟩:∃G1,st ts[i] (y0 nv .emp++capS cap G)=.ok G1:=by
    rcases zev (st ts[i] (y0 nv .emp++capS cap G)) with ⟨G1,h⟩ | h
    ·exact⟨G1,noX_ok h⟩
    ·rw[h] at ecl;exact absurd ecl.symm hr
   rw[eG,show noX (Res.ok G1:Res (List Sl))=.ok G1 from rfl,Res.bind_ok] at ecl;obtain⟨kl,ke⟩:=hk _ _ _ eG;refine yO (T.item (cxC X scope N s3 (upd H2 D (.lst [])) fp) rfl rfl rfl hc i [] s σ' H' (λ_ _=>False) Ji (fpo H' fpn) tni go) (λr' s1 hr'=>?_) λ_ _ z=>z.elim
   obtain⟨u,rfl,hr'⟩:=hr';refine yO hr' (λ_ s2 hr2=>?_) λ_ _ z=>z.elim
   obtain⟨x,H5,J5,r5,y5,tn5,fr5⟩:=hr2;obtain⟨sm5,rl5⟩:=yl x H5 y5;have J5':Inv (cxT xz X scope N s3 (upd H2 D (.lst [])) fp (Wm fp s2.heap)) [] σ' H5 s2:=inv_pn (J5.pinned (fpo H5 fr5) (T.obj _ _ tn5));have pnn:∀b ∈ fp,∃o,(b,o) ∈ Wm fp s2.heap:=λb hb=>by
    obtain⟨o,e,_⟩:=T.obj _ _ tn5 b hb;exact⟨o,US hb e⟩
   have finx':=λe s'=>finx (Wm fp s2.heap) e s' pnn
   obtain⟨g,pg,gp⟩:=hg s3 (upd H2 D (.lst [])) fp (Wm fp s2.heap);have hol5:=hol.same sm5;refine yO (pg _ s2 σ' H5 x u (λσ6 H6=>H6=H5/\∃P6,Go H5 ⟨λ_=>none,λa=>¬Off P a\/a=D⟩ H5 P6/\Hol X.K H5 P6 σ6 G1) J5' r5 (gp ts[i] x σ' H5 _ _ _ hol5 rl5 ⟨G1,eG,λσ6 P6 g6 h6=>⟨rfl,P6,g6,h6⟩⟩)) (λ_ s6 h6=>?_) finx'
   obtain⟨σ6,H6,J6,rfl,P6,g6,hol6⟩:=h6
   -- on to the next turn
   have fr6:∀{H8:Hp}{s8:ye},Inv (cxT xz X scope N s3 (upd H2 D (.lst [])) fp (Wm fp s2.heap)) [] σ6 H8 s8->∀b ∈ fp,H8 b=none:=λ{H8 s8} J8 b hb=>by
    obtain⟨o,e⟩:=pnn b hb;exact(J8.pin (b,o) (qH _ e)).2.1
   have next:∀{H8:Hp}{s8:ye}{ys':List ya}{vs':List V},Inv (cxT xz X scope N s3 (upd H2 D (.lst [])) fp (Wm fp s2.heap)) [] σ6 H8 s8->Same H2 H8->H8 D=some (.lst vs')->(∀b,b ≠ D->∀o,H6 b=some o->Nt o->H8 b=some o) ->
     Rls X.K H8 ⟨λ_=>none,λa=>¬Off P a\/a=D⟩ ys' vs'->((YF st dc de (y0 nv .emp++capS cap G) (ts.drop (i+1))).bind λzs=>.ok (ys'++zs))=r->ys'.length<=i+1 ->
     ∃m,m < ts.length - i/\∃i σ' H' vs ys,m=ts.length - i/\i<=ts.length/\Inv (cxC X scope N s3 (upd H2 D (.lst [])) fp) [] σ' H' s8/\tn i s8.heap/\(∀b ∈ fp,H' b=none)/\Same H2 H'/\H' D=some (.lst vs) /\
      Rls X.K H' ⟨λ_=>none,λa=>¬Off P a\/a=D⟩ ys vs/\Hol X.K H' ⟨λ_=>none,λa=>¬Off P a\/a=D⟩ σ' (y0 nv .emp++capS cap G)/\((YF st dc de (y0 nv .emp++capS cap G) (ts.drop i)).bind λzs=>.ok (ys++zs))=r/\ys.length<=i:=by
    intro H8 s8 ys' vs' J8 sm8 hD8 kp8 rys8 ecl8 hyl8;refine⟨ts.length - (i+1),by omega,i+1,σ6,H8,vs',ys',rfl,hlt,Inv.unpinned (pins:=[]) (pl:=Wm fp s2.heap) (by simpa using inv_np J8),?_,fr6 J8,sm8,hD8,rys8,?_,ecl8,hyl8⟩
    ·exact T.keep _ _ _ tn5 λb hb o e=>(J8.pin (b,o) (qH _ (US hb e))).1
    ·have hF:Hol X.K H6 P6.bare σ6 (y0 nv .emp++capS cap G):=zhE hCe hCo hol6 kl ke;have ep:P6.bare=⟨λ_=>none,λa=>¬Off P a\/a=D⟩:=by
      unfold Pv.bare;rw[g6.fbe]
     rw[ep] at hF;have tr8:Tr H6 ⟨λ_=>none,λa=>¬Off P a\/a=D⟩ H8 ⟨λ_=>none,λa=>¬Off P a\/a=D⟩:=λa o e n q=>⟨kp8 a (λz=>q.2 (yC z)) o e n,q⟩
     refine⟨λj x e=>?_,λ_ _ _ z=>(by cases z),λ_ _ z=>(by cases z),fbc H8 sm8 ⟨vs',hD8⟩,λ_ _ z=>(by cases z),hF.len,sm8.tab _ h2.tab⟩
     have z:=hF.sl j x e;cases x with
     | emp=>trivial
     | val t=>obtain⟨v,e1,r1⟩:=z;exact⟨v,e1,Rl.go tr8 t v r1⟩
     | own xs=>exact(hCo j _ e trivial).elim
     | dct xs=>exact(hCo j _ e trivial).elim
   have sm6:Same H2 H6:=sm.trans sm5
   -- behind the test
   have after:∀k s7 H7,Inv (cxT xz X scope N s3 (upd H2 D (.lst [])) fp (Wm fp s2.heap)) [] σ6 H7 s7->Same H6 H7->dc G1=.ok k->(if k=true then yi (yk X.prog X.w) X.A (yz elt (compEnvC scope (Z5 X.env scope.names []) s3.heap.objs.size X.env)) (λx s₄=>
      yi (yk X.prog X.w) X.A (call (.builtin "list.append") [.ref D,x]) (λ_ s₅=>∃m,m < ts.length - i/\∃i σ' H' vs ys,m=ts.length - i/\i<=ts.length/\Inv (cxC X scope N s3 (upd H2 D (.lst [])) fp) [] σ' H' s₅/\tn i s₅.heap/\(∀b ∈ fp,H' b=none)/\Same H2 H'/\H' D=some (.lst vs) /\
      Rls X.K H' ⟨λ_=>none,λa=>¬Off P a\/a=D⟩ ys vs/\Hol X.K H' ⟨λ_=>none,λa=>¬Off P a\/a=D⟩ σ' (y0 nv .emp++capS cap G)/\((YF st dc de (y0 nv .emp++capS cap G) (ts.drop i)).bind λzs=>.ok (ys++zs))=r/\ys.length<=i) (notedBy (yk X.prog X.w) X.A (compEnvC scope (Z5 X.env scope.names []) s3.heap.objs.size X.env) λe s'=>R (.error e) s') s₄) (notedBy (yk X.prog X.w) X.A (compEnvC scope (Z5 X.env scope.names []) s3.heap.objs.size X.env) λe s'=>R (.error e) s') s7
     else ∃m,m < ts.length - i/\∃i σ' H' vs ys,m=ts.length - i/\i<=ts.length/\Inv (cxC X scope N s3 (upd H2 D (.lst [])) fp) [] σ' H' s7/\tn i s7.heap/\(∀b ∈ fp,H' b=none)/\Same H2 H'/\H' D=some (.lst vs) /\
      Rls X.K H' ⟨λ_=>none,λa=>¬Off P a\/a=D⟩ ys vs/\Hol X.K H' ⟨λ_=>none,λa=>¬Off P a\/a=D⟩ σ' (y0 nv .emp++capS cap G)/\((YF st dc de (y0 nv .emp++capS cap G) (ts.drop i)).bind λzs=>.ok (ys++zs))=r/\ys.length<=i):=by
    intro k s7 H7 J7 sm7 eK;rw[eK,Res.bind_ok] at ecl;have sm27:Same H2 H7:=sm6.trans sm7;have hD7:H7 D=some (.lst vs):=sm7.kp _ _ (sm5.kp _ _ hDv JK) JK;have r7:Rls X.K H7 ⟨λ_=>none,λa=>¬Off P a\/a=D⟩ ys vs:=Rls.go (.same (sm5.trans sm7)) ys vs rys
    cases k with
    | false=>
     rw[if_neg jz] at ecl ⊢;exact next J7 sm27 hD7 (λb _ o e n=>sm7.kp b o e n) r7 ecl (by omega)
    | true=>
     rw[if_pos rfl] at ecl ⊢;cases eY:de G1 with
     | stuck=>rw[eY] at ecl;exact absurd ecl.symm hr
     | exc c=>
      rw[eY] at ecl;refine yO (he s3 (upd H2 D (.lst [])) fp (Wm fp s2.heap) pnn _ s7 σ6 H7 (λ_ _=>False) J7 ⟨G1,P6,hol6.same sm7,by rw[eY];exact λH8 s8=>hW c ecl.symm H8 (sm27.trans s8)⟩) (λxv s8 h8=>?_) finx'
      obtain⟨_,_,_,_,z⟩:=h8;exact z.elim
     | ok yv=>
      rw[eY,Res.bind_ok] at ecl;refine yO (he s3 (upd H2 D (.lst [])) fp (Wm fp s2.heap) pnn _ s7 σ6 H7 (λv H8=>Same H7 H8/\Rl X.K H8 P6 yv v) J7 ⟨G1,P6,hol6.same sm7,by rw[eY];exact λv H8 s r=>⟨s,r⟩⟩) (λxv s8 h8=>?_) finx'
      obtain⟨v8,H8,J8,r8,sm8,rl8⟩:=h8;have hD8:H8 D=some (.lst vs):=sm8.kp _ _ hD7 JK;have lv:=rys.length;have tr6:Tr H8 P6 H8 ⟨λ_=>none,λa=>¬Off P a\/a=D⟩:=λa o e _ q=>⟨e,λ_ z=>(by cases z),by rw[<- g6.fbe];exact q.2⟩
      refine yO (zew (X:=cxT xz X scope N s3 (upd H2 D (.lst [])) fp (Wm fp s2.heap)) _ s8 σ6 H8 (.ref D) [v8] (.ref D) [xv] (λw H9=>H9=upd H8 D (.lst (vs++[v8]))) J8 rfl (.cons r8 .nil) ⟨D,vs,v8,rfl,rfl,hD8,by rw[j9];omega,rfl⟩) (λ_ s9 h9=>?_) finx'
      obtain⟨_,H9,J9,_,rfl⟩:=h9;have trD:Tr H8 ⟨λ_=>none,λa=>¬Off P a\/a=D⟩ (upd H8 D (.lst (vs++[v8]))) ⟨λ_=>none,λa=>¬Off P a\/a=D⟩:=λa o e _ q=>⟨by rw[Zr (λz=>q.2 (yC z))];exact e,q⟩
      have smD:Same H2 (upd H8 D (.lst (vs++[v8]))):=(sm27.trans sm8).updL hD hD8;refine next J9 smD Zt (λb hb o e n=>by rw[Zr hb];exact sm8.kp b o (sm7.kp b o e n) n) (Rls.append (Rls.go trD ys vs (Rls.go (.same sm8) ys vs r7)) (ZG.mpr ⟨v8,[],rfl,Rl.go trD yv v8 (Rl.go tr6 yv v8 rl8),Z2.mpr rfl⟩)) ?_ (by simp;omega)
      rw[<- ecl];cases YF st dc de (y0 nv .emp++capS cap G) (ts.drop (i+1)) <;> simp
   rcases ht s3 (upd H2 D (.lst [])) fp (Wm fp s2.heap) pnn with ⟨rfl,rfl⟩ | ⟨cx,rfl,tvc⟩
   ·exact wpAny_tests_nil (after true s6 H6 J6 (Same.refl _) rfl)
   ·cases eK:dc G1 with
    | stuck=>rw[eK] at ecl;exact absurd ecl.symm hr
    | exc c=>
     rw[eK] at ecl;refine wpAny_tests_one (yO (tvc _ s6 σ6 H6 (λ_ _=>False) J6 ⟨G1,P6,hol6,by rw[eK];exact λH7 s=>hW c ecl.symm H7 (sm6.trans s)⟩) (λb s7 h7=>?_) finx')
     obtain⟨_,_,z⟩:=h7;exact z.elim
    | ok k=>
     refine wpAny_tests_one (yO (tvc _ s6 σ6 H6 (λb H7=>b=k/\Same H6 H7) J6 ⟨G1,P6,hol6,by rw[eK];exact λH7 s=>⟨rfl,s⟩⟩) (λb s7 h7=>?_) finx')
     obtain⟨H7,J7,rfl,sm7⟩:=h7;exact after b s7 H7 J7 sm7 eK
  ·have ei:i=ts.length:=by omega
   subst ei;rw[List.drop_length] at ecl;have ecl':r=.ok ys:=by rw[<- ecl];simp[YF]
   refine yO (T.done (cxC X scope N s3 (upd H2 D (.lst [])) fp) rfl rfl rfl hc _ [] s σ' H' (λ_ _=>False) Ji (fpo H' fpn) tni (y2 (yq _))) (λr' s1 hr'=>?_) λ_ _ z=>z.elim
   obtain⟨rfl,J1⟩:=hr';have trf:Tr H' ⟨λ_=>none,λa=>¬Off P a\/a=D⟩ H' (P.fbd D):=λa o e _ q=>by
    have o1:Off P a:=jx λz=>q.2 (yg z)
    exact⟨e,o1.1,λz=>z.elim o1.2 λz=>q.2 (yC z)⟩
   exact fin s1 H' σ' vs ys ecl' J1 hDv sm (Rls.go trf ys vs rys)
 exact codeAny_compStart_list (loop _ rfl) (T.self _ 0 _ _ _ tn0 (loop _ rfl))
end
theorem zg6{a:Res (List ya)}{f:List ya->Res (List ya)}{K:yh}{W:Str->Hp->Prop}{H:Hp}{P:Pv}{Q:VK}(q:zfW K W H P (a.bind f) Q) :
  (∀c,a=.exc c->∀H',Same H H'->W c H')/\a ≠ .stuck/\∀t,a=.ok t->zfW K W H P (f t) Q:=by
 cases a with
 | ok t=>exact⟨λc e=>(by cases e),(by intro e;cases e),λt' e=>by cases e;exact q⟩
 | exc c=>exact⟨λc' e=>by cases e;exact q,(by intro e;cases e),λt e=>by cases e⟩
 | stuck=>exact q.elim
theorem zcR{a:Res ya}{f:ya->Res (List ya)}{K:yh}{W:Str->Hp->Prop}{H:Hp}{P:Pv}{Q:VK}(q:zfW K W H P (a.bind f) Q) :
  (∀c,a=.exc c->∀H',Same H H'->W c H')/\a ≠ .stuck/\∀t,a=.ok t->zfW K W H P (f t) Q:=by
 cases a with
 | ok t=>exact⟨λc e=>(by cases e),(by intro e;cases e),λt' e=>by cases e;exact q⟩
 | exc c=>exact⟨λc' e=>by cases e;exact q,(by intro e;cases e),λt e=>by cases e⟩
 | stuck=>exact q.elim
def zhY(X:Cx)(scope:yJ)(N:List Str)(xz:Cx->yb->ye->Prop):Prop:=
 ∀(pins:List (yc × Obj)) (σ:L2.St) (H3:Hp) (s3:ye) (fp:List yc) (pn:List (yc × Obj)) (e:yb) (s':ye),Inv X pins σ H3 s3->(∀b ∈ fp,FpOk X pins H3 b/\b < s3.heap.objs.size)->(∀b ∈ fp,∃o,(b,o) ∈ pn) ->
  xz (cxC X scope N s3 H3 fp pn) e s'->notedBy (yk X.prog X.w) X.A (compEnvC scope (Z5 X.env scope.names []) s3.heap.objs.size X.env) (λx s'=>∃m,s'.heap.Ns s3.heap.objs.size m/\∀h',qf s3.heap.objs.size s'.heap h'->∀cenv:Env,cenv.locals=s3.heap.objs.size ->
   yi (yk X.prog X.w) X.A (PySem.passOn "comprehension.variables-let-go" x cenv:Sem yb) (λ_ _=>False) X.xe { s' with heap:=h' }) e s'
theorem ZT{X:Cx}{scope:yJ}{N:List Str}:zhY X scope N (λ_ _ _=>False):=λ_ _ _ _ _ _ _ _ _ _ _ h=>h.elim
section
variable {X:Cx}{W:Str->Hp->Prop}{fl:Bool}{scope:yJ}{N:List Str}{nv:Nat}{cap:List Nat}{tg elt iter:yj}{ifs:List yj}{pos:Pos}{st:ya->List Sl->Res (List Sl)}{it:DA}{dc:DT}{de:DE}{xz:Cx->yb->ye->Prop}
theorem zg1{pins:List (yc × Obj)}{σ:L2.St}{H:Hp}{s:ye}{P:Pv}{G:List Sl}{use:Option (yb->Sem Unit)}{Q:yb->ye->Prop}{pos':Pos}
  (C:CompOk X scope N nv cap) (hc:X.calm=true) (hk:ze4 nv st) (hi:IV X W tg iter it)
  (hX:zhY X scope N xz) (hg:∀s₀ H₀ ex pn,GV (cxT xz X scope N s₀ H₀ ex pn) tg st) (ht:∀s₀ H₀ ex pn,(∀b ∈ ex,∃o,(b,o) ∈ pn)->CT (cxT xz X scope N s₀ H₀ ex pn) W ifs dc) (he:∀s₀ H₀ ex pn,(∀b ∈ ex,∃o,(b,o) ∈ pn)->EV (cxT xz X scope N s₀ H₀ ex pn) W elt de)
  (I:Inv X pins σ H s) (h:Hol X.K H P σ G)
  (hx:∀c,it G=.exc c->∀H',Same H H'->W c H') (hs0:it G ≠ .stuck)
  (fin:∀ts,it G=.ok ts->ts.length<=16777216/\YF st dc de (y0 nv .emp++capS cap G) ts ≠ .stuck/\(∀c,YF st dc de (y0 nv .emp++capS cap G) ts=.exc c->∀H',Same H H'->W c H')/\∀all,YF st dc de (y0 nv .emp++capS cap G) ts=.ok all ->
   ∀D vs H' s' c,Inv X pins σ H' s'->FpOk X pins H' c->(∃m,s'.heap.Ns c m)->(X.env.locals ≠ c/\∀x a,X.env.cells.lookup x=some a->a ≠ c)->Same H H'->H D=none->H' D=some (.lst vs)->Rls X.K H' (P.fbd D) all vs ->
    compPost (yk X.prog X.w) X.A X.xe use Q (.ref D) c (.ok .next) s')
  (hs:∀x,qk iter X.env x=pure x:=by intro _;rfl) :
  yi (yk X.prog X.w) X.A (comprehension (.ListComp elt [⟨tg,iter,ifs,0⟩] scope pos) scope X.env pos' (newList []) false (yz iter X.env) use) Q X.xe s:=by
 refine wpAny_comprehension_free rfl hs (Ja (C.has I.ok)) C.kind C.names (yO (hi pins s σ H (λJ H'=>Same H H'/\∃ts,it G=.ok ts/\Yld X.K J ts H' P) I ⟨G,P,h,?_⟩) (λv s1 h1=>yO h1 (λitv s2 h2=>?_) λ_ _ z=>z) λ_ _ z=>z)
 ·cases e:it G with
  | ok ts=>exact λJ H' s y=>⟨s,ts,rfl,y⟩
  | exc c=>exact hx c e
  | stuck=>exact absurd e hs0
 obtain⟨itA,fp,tn,J,H2,rfl,I2,T,tn0,f2,sm2,ts,ets,y⟩:=h2;obtain⟨hlen,hns,hex,fin⟩:=fin ts ets;have hD:H2 s2.heap.objs.size=none:=I2.hok.fresh (yq _);refine jN (wpAny_newFunctionEnv C.cell (by intro y hy;simp at hy) (λh₁ hns₁ hsb₁=>?_) C.kind)
 have I3:Inv X pins σ (upd H2 s2.heap.objs.size (.lst [])) { s2 with heap:=s2.heap.push { cls:=.type "list",dict:=none,data:=.seq ([]:List yb).toArray } }:=
  I2.laid (t':=s2.toks) (λb u e=>yA _ e) (yq _) ⟨by show 0<=y7;exact jZ _,[],0,.nil,yN _ rfl⟩
 have sz:(s2.heap.push { cls:=.type "list",dict:=none,data:=.seq ([]:List yb).toArray }).objs.size=s2.heap.objs.size+1:=qy _ _;have hf3:∀b ∈ fp,FpOk X pins (upd H2 s2.heap.objs.size (.lst [])) b/\b < (s2.heap.push { cls:=.type "list",dict:=none,data:=.seq ([]:List yb).toArray }).objs.size:=λb hb=>by
  obtain⟨o,ho,_⟩:=T.obj 0 _ tn0 b hb;have lt:=yG ho;obtain⟨a1,a2⟩:=f2 b hb;exact⟨⟨by rw[Zr (yW lt)];exact a1,a2⟩,by rw[sz];exact Nat.lt_succ_of_lt lt⟩
 have kp:∀b o,(s2.heap.push { cls:=.type "list",dict:=none,data:=.seq ([]:List yb).toArray }).get? b=some o->h₁.get? b=some o:=λb o e=>
  hsb₁.extBut b o (yW (yG e)) (yA _ e)
 have tn3:tn 0 h₁:=T.keep 0 _ _ tn0 λb _ o e=>kp b o (yA _ e)
 refine zhN (s3:={ s2 with heap:=s2.heap.push { cls:=.type "list",dict:=none,data:=.seq ([]:List yb).toArray } }) (D:=s2.heap.objs.size) C hc hk hg ht he (h.same sm2) hD I3 T hf3 y hlen rfl hns (λc ec H' sm=>hex c ec H' (sm2.trans sm)) hns₁ kp ⟨h₁,_,rfl⟩ tn3 (λs' H' σ' vs all hall J' hl sm r=>?_) λpn e s' pnn hx=>hX pins σ _ _ fp pn e s' I3 hf3 pnn hx
 have IX:=CompOk.stop I3 (λb hb=>(hf3 b hb).1) J'
 have fo:FpOk X pins H' (s2.heap.push { cls:=.type "list",dict:=none,data:=.seq ([]:List yb).toArray }).objs.size:=I3.fpOk (yq _) J'.free;obtain⟨m,hm,_⟩:=J'.loc;exact fin all hall _ vs H' s' _ IX fo ⟨m,hm⟩ ⟨Ne.symm fo.2.1,λx a e=>fo.2.2.2.2.1 x a e⟩ (sm2.trans sm) (sm2.free hD) hl r
theorem atC{pins:List (yc × Obj)}{σ:L2.St}{H:Hp}{s:ye}{c:yc}{h':yd}(I:Inv X pins σ H s)(f:FpOk X pins H c)(hs:qf c s.heap h'):Inv X pins σ H { s with heap:=h' }:=
 I.turned (t':=s.toks) (λb o hb e=>(hs.2 b hb).trans e) f.1 f.2.1 f.2.2.2.1 f.2.2.2.2.1 f.2.2.2.2.2
theorem XF(C:CompOk X scope N nv cap)(hc:X.calm=true)(hk:ze4 nv st)(hi:IV X W tg iter it)
  (hX:zhY X scope N xz) (hg:∀s₀ H₀ ex pn,GV (cxT xz X scope N s₀ H₀ ex pn) tg st) (ht:∀s₀ H₀ ex pn,(∀b ∈ ex,∃o,(b,o) ∈ pn)->CT (cxT xz X scope N s₀ H₀ ex pn) W ifs dc) (he:∀s₀ H₀ ex pn,(∀b ∈ ex,∃o,(b,o) ∈ pn)->EV (cxT xz X scope N s₀ H₀ ex pn) W elt de)
  (hs:∀x,qk iter X.env x=pure x:=by intro _;rfl):OV X W (.ListComp elt [⟨tg,iter,ifs,0⟩] scope pos) (YS nv cap st it dc de):=by
 intro pins s σ H Q I ⟨G,P,h,q⟩;unfold YS at q;obtain⟨q1,q2,q3⟩:=zg6 q;rw[eval_ListComp];refine zg1 (use:=none) C hc hk hi hX hg ht he I h q1 q2 (λts ets=>?_) hs
 have q4:=q3 ts ets;split at q4
 ·rename_i hl;cases e:YF st dc de (y0 nv .emp++capS cap G) ts with
  | stuck=>rw[e] at q4;exact q4.elim
  | exc c=>rw[e] at q4;exact⟨hl,λz=>(by cases z),λc' z=>by cases z;exact q4,λall z=>by cases z⟩
  | ok all=>
   rw[e] at q4;refine⟨hl,λz=>(by cases z),λc z=>(by cases z),λall' z D vs H' s' c IX fo hm hne sm hD hl r=>?_⟩
   cases z;obtain⟨m,hm⟩:=hm;exact⟨m,hm,λh' hsb=>⟨.ref D,H',atC IX fo hsb,rfl,q4 D vs H' sm hD hl r⟩⟩
 ·exact q4.elim
theorem Ys{e:yj}{d:DA}(h:OV X W e d):EV X W e (dL d):=
 ZF h λσ H Q ⟨G,P,hh,q⟩=>by
  refine⟨G,P,hh,?_⟩;unfold dL at q;cases e:d G with
  | stuck=>rw[e] at q;exact q.elim
  | exc c=>rw[e] at q;exact q
  | ok xs=>rw[e] at q;exact λp vs H' s hp hl r=>q _ H' s (rl_new hh s hp hl r)
theorem Jj{e:yj}{d:DA}{i:Nat}{x:Str}{is:List Nat}{pos':Pos}(hN:X.N.Nodup)(hi:X.N[i]? = some x)(hx:Loc X.env.scope x)(he:OV X W e d)(hs:jv e (some (.Name x pos')) pos.line X.env=pure false:=by rfl)
  (hf:X.fn x=true\/X.env.scope.names.lookup x=some .local:=by first | exact .inl rfl | exact .inr rfl | assumption):SV X W fl (.Assign [.Name x pos'] e pos) (zal i is d):=
 Xh (ziK hN hi hx he hs hf) λD σ H ⟨G,P,h,q⟩=>by
  unfold zal at q;obtain⟨P1,h1,g⟩:=h.frz is;obtain⟨q1,q2,q3⟩:=bindAS q;refine⟨frz is G,P1,h1,?_⟩;cases e:d (frz is G) with
  | stuck=>exact absurd e q2
  | exc c=>exact λH' s=>q1 c e H' P1 (g.trans (.same s))
  | ok xs=>
   have q4:=q3 xs e;intro p vs H' s hp hl r;split at q4
   ·rename_i hlt;have hlt':i < (frz is G).length:=by rw[<- h1.len,h.len];exact hlt
    obtain⟨h2,g2⟩:=h1.own' hlt' s hp hl r;exact q4 _ H' _ (g.trans g2) h2
   ·exact q4.elim
theorem zea{i:Nat}{x:Str}{pos':Pos}{d:DS}(C:CompOk X scope N nv cap)(hc:X.calm=true)(hk:ze4 nv st)(hi:IV X W tg iter it)
  (hX:zhY X scope N xz) (hg:∀s₀ H₀ ex pn,GV (cxT xz X scope N s₀ H₀ ex pn) tg st) (ht:∀s₀ H₀ ex pn,(∀b ∈ ex,∃o,(b,o) ∈ pn)->CT (cxT xz X scope N s₀ H₀ ex pn) W ifs dc) (he:∀s₀ H₀ ex pn,(∀b ∈ ex,∃o,(b,o) ∈ pn)->EV (cxT xz X scope N s₀ H₀ ex pn) W elt de)
  (hN:X.N.Nodup) (hix:X.N[i]? = some x) (hx:Loc X.env.scope x) {spos:Pos}(hsw:jv (.ListComp elt [⟨tg,iter,ifs,0⟩] scope pos) (some (.Name x pos')) spos.line X.env=pure true)
  (hs:∀x,qk iter X.env x=pure x) (hf:X.fn x=true\/X.env.scope.names.lookup x=some .local)
  (hd:∀D σ H,tFS X.K W fl d D σ H->∃G P,Hol X.K H P σ G/\(∀c,it G=.exc c->∀H',Same H H'->W c H')/\it G ≠ .stuck/\∀ts,it G=.ok ts->ts.length<=16777216/\YF st dc de (y0 nv .emp++capS cap G) ts ≠ .stuck/\(∀c,YF st dc de (y0 nv .emp++capS cap G) ts=.exc c->∀H',Same H H'->W c H')/\∀all,YF st dc de (y0 nv .emp++capS cap G) ts=.ok all ->
   ∀p vs H',Same H H'->H p=none->H' p=some (.lst vs)->Rls X.K H' (P.fbd p) all vs->D.nx (σ.set i (some (.ref p))) H'):SV X W fl (.Assign [.Name x pos'] (.ListComp elt [⟨tg,iter,ifs,0⟩] scope pos) spos) d:=by
 intro pins s σ H D I hq;obtain⟨G,P,h,q1,q2,q3⟩:=hd D σ H hq;rw[exec_Assign_Name_used _ _ _ _ hsw];refine yf (wpAny_standAt (yf ?_));show yi _ X.A (do let _ <- comprehension (.ListComp elt [⟨tg,iter,ifs,0⟩] scope pos) scope X.env _ (newList []) false (yz iter X.env) (some (assign (.Name x pos') X.env))) _ _ s
 refine yf (yO (zg1 (use:=some (assign (.Name x pos') X.env)) (Q:=λ_ s'=>SP X pins D .next s') C hc hk hi hX hg ht he I h q1 q2 (λts ets=>?_) hs) (λ_ s' hq=>yt (yt hq)) λ_ _ e=>e)
 obtain⟨hl,n1,n2,q4⟩:=q3 ts ets;refine⟨hl,n1,n2,λall hall p vs H' s' c IX fo hm hne sm hp hl r=>?_⟩
 obtain⟨m,hm⟩:=hm;show yi _ X.A (assign (.Name x pos') X.env (.ref p)) _ _ _;refine wpAny_assign_Name (zd5 IX hN hix hx (v:=.ref p) rfl (λs'' I'' ch=>?_) hf)
 obtain⟨a,hsb,ha⟩:=ch;have hca:c ≠ a:=by
  rcases ha with rfl | ha
  ·exact Ne.symm hne.1
  ·exact Ne.symm (hne.2 x a ha)
 refine⟨m,hm.sameBut hsb hca,λh' hs'=>⟨_,H',atC I'' fo hs',q4 all hall p vs H' sm hp hl r⟩⟩
theorem V9{i:Nat}{x:Str}{is:List Nat}{pos' spos:Pos}(C:CompOk X scope N nv cap)(hc:X.calm=true)(hk:ze4 nv st)(hi:IV X W tg iter it)
  (hX:zhY X scope N xz) (hg:∀s₀ H₀ ex pn,GV (cxT xz X scope N s₀ H₀ ex pn) tg st) (ht:∀s₀ H₀ ex pn,(∀b ∈ ex,∃o,(b,o) ∈ pn)->CT (cxT xz X scope N s₀ H₀ ex pn) W ifs dc) (he:∀s₀ H₀ ex pn,(∀b ∈ ex,∃o,(b,o) ∈ pn)->EV (cxT xz X scope N s₀ H₀ ex pn) W elt de)
  (hN:X.N.Nodup) (hix:X.N[i]? = some x) (hx:Loc X.env.scope x) (hsw:jv (.ListComp elt [⟨tg,iter,ifs,0⟩] scope pos) (some (.Name x pos')) spos.line X.env=pure true:=by rfl)
  (hs:∀x,qk iter X.env x=pure x:=by intro _;rfl) (hf:X.fn x=true\/X.env.scope.names.lookup x=some .local:=by first | exact .inl rfl | exact .inr rfl | assumption) :
  SV X W fl (.Assign [.Name x pos'] (.ListComp elt [⟨tg,iter,ifs,0⟩] scope pos) spos) (dSet i is (dL (YS nv cap st it dc de))):=
 zea C hc hk hi hX hg ht he hN hix hx hsw hs hf λD σ H ⟨G,P,h,q⟩=>by
  unfold dSet dL YS at q;obtain⟨P1,h1,g⟩:=h.frz is;refine⟨frz is G,P1,h1,?_⟩;cases e:it (frz is G) with
  | stuck=>rw[e] at q;exact q.elim
  | exc c=>rw[e] at q;exact⟨λc' ec H' s=>by cases ec;exact q H' P1 (g.trans (.same s)),(by intro z;cases z),λts z=>by cases z⟩
  | ok ts=>
   refine⟨λc' ec=>(by cases ec),(by intro z;cases z),λts' z=>?_⟩
   cases z;rw[e,Res.bind_ok] at q;split at q
   ·rename_i hl;refine⟨hl,?_⟩;cases e2:YF st dc de (y0 nv .emp++capS cap (frz is G)) ts with
    | stuck=>rw[e2] at q;exact q.elim
    | exc c=>rw[e2] at q;exact⟨λz=>(by cases z),λc' z H' s=>by cases z;exact q H' P1 (g.trans (.same s)),λall z=>by cases z⟩
    | ok all=>
     rw[e2] at q;refine⟨λz=>(by cases z),λc z=>(by cases z),λall' z p vs H' s hp hl r=>?_⟩
     cases z;have h2:=(h1.same s).setVal i (rl_new h1 s hp hl r);exact q _ H' _ (g.trans ((Go.same s).trans .del)) h2
   ·exact q.elim
theorem zf6{i:Nat}{x:Str}{is:List Nat}{pos' spos:Pos}(C:CompOk X scope N nv cap)(hc:X.calm=true)(hk:ze4 nv st)(hi:IV X W tg iter it)
  (hX:zhY X scope N xz) (hg:∀s₀ H₀ ex pn,GV (cxT xz X scope N s₀ H₀ ex pn) tg st) (ht:∀s₀ H₀ ex pn,(∀b ∈ ex,∃o,(b,o) ∈ pn)->CT (cxT xz X scope N s₀ H₀ ex pn) W ifs dc) (he:∀s₀ H₀ ex pn,(∀b ∈ ex,∃o,(b,o) ∈ pn)->EV (cxT xz X scope N s₀ H₀ ex pn) W elt de)
  (hN:X.N.Nodup) (hix:X.N[i]? = some x) (hx:Loc X.env.scope x) (hsw:jv (.ListComp elt [⟨tg,iter,ifs,0⟩] scope pos) (some (.Name x pos')) spos.line X.env=pure true:=by rfl)
  (hs:∀x,qk iter X.env x=pure x:=by intro _;rfl) (hf:X.fn x=true\/X.env.scope.names.lookup x=some .local:=by first | exact .inl rfl | exact .inr rfl | assumption) :
  SV X W fl (.Assign [.Name x pos'] (.ListComp elt [⟨tg,iter,ifs,0⟩] scope pos) spos) (zal i is (YS nv cap st it dc de)):=
 zea C hc hk hi hX hg ht he hN hix hx hsw hs hf λD σ H ⟨G,P,h,q⟩=>by
  unfold zal YS at q;obtain⟨P1,h1,g⟩:=h.frz is;refine⟨frz is G,P1,h1,?_⟩;cases e:it (frz is G) with
  | stuck=>rw[e] at q;exact q.elim
  | exc c=>rw[e] at q;exact⟨λc' ec H' s=>by cases ec;exact q H' P1 (g.trans (.same s)),(by intro z;cases z),λts z=>by cases z⟩
  | ok ts=>
   refine⟨λc' ec=>(by cases ec),(by intro z;cases z),λts' z=>?_⟩
   cases z;rw[e,Res.bind_ok] at q;split at q
   ·rename_i hl;refine⟨hl,?_⟩;cases e2:YF st dc de (y0 nv .emp++capS cap (frz is G)) ts with
    | stuck=>rw[e2] at q;exact q.elim
    | exc c=>rw[e2] at q;exact⟨λz=>(by cases z),λc' z H' s=>by cases z;exact q H' P1 (g.trans (.same s)),λall z=>by cases z⟩
    | ok all=>
     rw[e2,Res.bind_ok] at q;refine⟨λz=>(by cases z),λc z=>(by cases z),λall' z p vs H' s hp hl r=>?_⟩
     cases z;split at q
     ·rename_i hlt;have hlt':i < (frz is G).length:=by rw[<- h1.len,h.len];exact hlt
      obtain⟨h2,g2⟩:=h1.own' hlt' s hp hl r;exact q _ H' _ (g.trans g2) h2
     ·exact q.elim
   ·exact q.elim
end
end Fx
namespace Fx
open PySem PySem.Spec PyProof.Rows L2
open AutoSeq1 (wpAny_loadPart')
def SrI(h:yd)(it l:yc)(i:Nat):Bool->Prop
 | true=>h.IsTupleIter it l i
 | false=>h.IsListIter it l i
def SrS(h:yd)(l:yc)(xs:Array yb):Bool->Prop
 | true=>h.IsTuple l xs
 | false=>h.IsList l xs
theorem SrI.at{h h':yd}{it l:yc}{i:Nat}{t:Bool}(x:SrI h it l i t)(k:∀o,h.get? it=some o->h'.get? it=some o):SrI h' it l i t:=by
 cases t <;> (obtain⟨o,e,r⟩:=x;exact⟨o,k o e,r⟩)
theorem SrS.at{h h':yd}{l:yc}{xs:Array yb}{t:Bool}(x:SrS h l xs t)(k:∀o,h.get? l=some o->h'.get? l=some o):SrS h' l xs t:=by
 cases t <;> (obtain⟨o,e,r⟩:=x;exact⟨o,k o e,r⟩)
theorem SrI.obj{h:yd}{it l:yc}{i:Nat}{t:Bool}(x:SrI h it l i t):∃o,h.get? it=some o/\∀v,o.data ≠ .cell v:=by
 cases t <;> (obtain⟨o,e,c,d⟩:=x;exact⟨o,e,λv z=>by rw[d] at z;cases z⟩)
theorem SrS.lt{h:yd}{l:yc}{xs:Array yb}{t:Bool}(x:SrS h l xs t):l < h.objs.size:=by
 cases t <;> (obtain⟨o,e,_⟩:=x;exact yG e)
def zjx(l:yc)(t:Bool):Obj:={ cls:=.type (if t then "tuple_iterator" else "list_iterator"),data:=.fields #[.ref l,.int 0 0] }
theorem SrI.new{h:yd}{l:yc}{t:Bool}:SrI (h.push (zjx l t)) h.objs.size l 0 t:=by
 cases t <;> exact⟨_,yN _ rfl,rfl,rfl⟩
section
variable {prog:y6}{w:y3}{A:yB}{E:yb->ye->Prop}{s:ye}
theorem zig{l:yc}{xs:Array yb}{t:Bool}{Q:yb->ye->Prop}(x:SrS s.heap l xs t)(q:Q (.ref s.heap.objs.size) { s with heap:=s.heap.push (zjx l t) }):yi (yk prog w) A (pyIter (.ref l)) Q E s:=by
 cases t
 ·exact wpAny_pyIter_list x q
 ·exact wpAny_pyIter_tuple x q
theorem ze8{it l:yc}{i:Nat}{xs:Array yb}{t:Bool}{x:yb}{Q:yb->ye->Prop}(hi:SrI s.heap it l i t)(hs:SrS s.heap l xs t)(hx:xs[i]? = some x)
  (hQ:∀h',SrI h' it l (i+1) t->qf it s.heap h'->Q x { s with heap:=h' }):yi (yk prog w) A (y9.SmallTypes.nextOf (.ref it)) Q E s:=by
 cases t
 ·exact wpAny_nextOf_list_item hi hs hx hQ
 ·have ty:=yd.IsTupleIter.typeIs hi;obtain⟨o,ho,hc,hd⟩:=hi;obtain⟨ol,hol,_,nl,hdl⟩:=hs;unfold y9.SmallTypes.nextOf;refine yf (qj (name:=Str.ofString "__next__") ty F.slot_tuple_iterator_next (qb F.slot_tuple_iterator_next ty F.entry_tuple_iterator_next ?_ (F.args_tuple_iterator_next_1 _)));show yi _ _ (field (.ref it) 0 >>= _) _ _ s;refine yf (jq ho hd (x:=.ref l) rfl ?_);show yi _ _ (if(yb.ref l == yb.none)=true then _ else _) _ _ s
  rw[if_neg (show ¬((yb.ref l == yb.none)=true) from jz)];show yi _ _ (field (.ref it) 1 >>= _) _ _ s;refine yf (jq ho hd (x:=.int i 0) rfl ?_);show yi _ _ (seqItems? (.ref l) >>= _) _ _ s;refine yf (jI hol hdl ?_);simp only[yad,hx];refine yf (wpAny_setField ho hd (by simp) (yt ⟨x,rfl,yt (hQ _ ?_ (yd.SameBut.update ..))⟩))
  exact⟨_,ybm _ ho (Obj.isFreed_of_fields (yay hd _)),(Obj.cls_mapFields ..).trans hc,by rw[yay hd];simp[rawInt]⟩
theorem sr_end{it l:yc}{i:Nat}{xs:Array yb}{t:Bool}{Q:yb->ye->Prop}(hh:A.handled=none)(hi:SrI s.heap it l i t)(hs:SrS s.heap l xs t)(hx:xs[i]? = none)
  (hE:∀h' e,yd.ExtBut it s.heap h'->(∃o,h'.get? e=some o/\o.cls=.type "StopIteration")->E (.ref e) { s with heap:=h' }):yi (yk prog w) A (y9.SmallTypes.nextOf (.ref it)) Q E s:=by
 cases t
 ·exact wpAny_nextOf_list_end hh hi hs hx hE
 ·have ty:=yd.IsTupleIter.typeIs hi;obtain⟨o,ho,hc,hd⟩:=hi;obtain⟨ol,hol,_,nl,hdl⟩:=hs;unfold y9.SmallTypes.nextOf;refine yf (qj (name:=Str.ofString "__next__") ty F.slot_tuple_iterator_next (qb F.slot_tuple_iterator_next ty F.entry_tuple_iterator_next ?_ (F.args_tuple_iterator_next_1 _)));show yi _ _ (field (.ref it) 0 >>= _) _ _ s;refine yf (jq ho hd (x:=.ref l) rfl ?_);show yi _ _ (if(yb.ref l == yb.none)=true then _ else _) _ _ s
  rw[if_neg (show ¬((yb.ref l == yb.none)=true) from jz)];show yi _ _ (field (.ref it) 1 >>= _) _ _ s;refine yf (jq ho hd (x:=.int i 0) rfl ?_);show yi _ _ (seqItems? (.ref l) >>= _) _ _ s;refine yf (jI hol hdl ?_);simp only[yad,hx];refine yf (wpAny_rule (yf (wpAny_setField ho hd (by simp) ?_)))
  show yi _ _ (newExc (.type "StopIteration") [] >>= _) _ _ _;refine yf ?_;simp only[newExc,newTuple];refine yf (jN ?_ (by size_fits))
  refine yf (m:=firstArgMember _ _) (wpAny_of_eq (a:=yb.none) (by first | rfl | (simp only[firstArgMember];rfl)) ?_)
  refine jN ?_ (by size_fits)
  simp only[raiseNew];refine yf (wpAny_handled ?_)
  first | rw[show A.in1.handled=none from hh] | rw[hh]
  refine yf (yt (wpAny_throw ?_));exact hE _ _ (((yd.SameBut.update ..).extBut.push _).push _) ⟨_,yN _ rfl,rfl⟩
end
end Fx
namespace Fx
open PySem PySem.Spec PyProof.Rows L2
section
variable {X:Cx}{W:Str->Hp->Prop}{pins:List (yc × Obj)}{σ:L2.St}{H:Hp}{s s':ye}{ch:List yc}
theorem inv_ch(I:Inv X pins σ H s)(hch:∀b ∈ ch,FpOk X pins H b)(ho:s'.os=s.os)(hg:s'.gens=s.gens)(k:∀b o,b ∉ ch->s.heap.get? b=some o->s'.heap.get? b=some o):Inv X pins σ H s':=by
 have nch:∀b u,H b=some u->b ∉ ch:=λb u e z=>by rw[(hch b z).1] at e;cases e
 refine I.call' (ch:=ch) ho ⟨λb o e _ _ hx=>k b o hx e,λb o e _ _ hx=>⟨o.slots,k b o hx e⟩,λb o e n _=>n,λb o e hx=>⟨o,k b o hx e⟩,λ_ _ e=>e,λ_ _ _ e=>e,λb ps e=>⟨#[],by rw[e];simp⟩⟩ (λb u e=>?_) (by rw[hg];exact I.bare) λb hb=>?_
 ·refine(I.hok b u e).stay (λc v hc q=>k c v ?_ q) (λ_ q=>q) λ_ _ q=>q
  rcases hc with z | z
  ·rw[z];exact nch b u e
  ·exact nch c _ z
 ·obtain⟨f0,f1,f2,f3,f4,f5⟩:=hch b hb;exact⟨f3,f1,f4,f5⟩
theorem inv_rec{xs:List V}{its:List yb}(I:Inv X pins σ H s)(hch:∀b ∈ ch,FpOk X pins H b)(ho:s'.os=s.os)(hg:s'.gens=s.gens)(k:∀b o,b ∉ ch->s.heap.get? b=some o->s'.heap.get? b=some o)
  (ht:s'.heap.get? s.heap.objs.size=some { cls:=.type "tuple",data:=.seq its.toArray }) (rv:Vals xs its) (hz:xs.length<=y7):Inv X pins σ (upd H s.heap.objs.size (.tup xs)) s':=by
 have hp:H s.heap.objs.size=none:=I.hok.fresh (yq _);have nch:∀b u,H b=some u->b ∉ ch:=λb u e z=>by rw[(hch b z).1] at e;cases e
 have ne:∀b o,s.heap.get? b=some o->b ≠ s.heap.objs.size:=λb o e=>yW (yG e)
 refine I.call' (ch:=ch) ho ⟨λb o e _ _ hx=>k b o hx e,λb o e _ _ hx=>⟨o.slots,k b o hx e⟩,λb o e n _=>by rw[Zr (ne b o e)];exact n,λb o e hx=>⟨o,k b o hx e⟩,λb ys e=>by rw[Zr (ZH e hp)];exact e,
  λb o u e=>by rw[Zr (ZH e hp)];exact e,λb ps e=>⟨#[],by rw[Zr (ZH e hp),e];simp⟩⟩ (λb u e=>?_) (by rw[hg];exact I.bare) λb hb=>?_
 ·by_cases hb:b=s.heap.objs.size
  ·subst hb;rw[Zt] at e;cases e;exact⟨hz,its,rv,⟨_,ht,rfl,_,rfl⟩⟩
  ·rw[Zr hb] at e;refine(I.hok b u e).stay (λc v hc q=>k c v ?_ q) (λc q=>by rw[Zr (ZH q hp)];exact q) λc ys q=>by rw[Zr (ZH q hp)];exact q
   rcases hc with z | z
   ·rw[z];exact nch b u e
   ·exact nch c _ z
 ·obtain⟨f0,f1,f2,f3,f4,f5⟩:=hch b hb;exact⟨f3,f1,f4,f5⟩
end
def Sq(K:yh)(H:Hp)(a:yc)(xs:List V):Bool->Prop
 | true=>SqT K H a xs
 | false=>SqL K H a xs
theorem zb8{X:Cx}{pins:List (yc × Obj)}{σ:L2.St}{H:Hp}{s:ye}{a:yc}{xs:List V}{t:Bool}(I:Inv X pins σ H s)(h:Sq X.K H a xs t):∃its:List yb,Vals xs its/\SrS s.heap a its.toArray t/\xs.length<=y7:=by
 cases t
 ·obtain⟨its,r,p,z⟩:=I.list h;exact⟨its,r,p.isList,z⟩
 ·obtain⟨its,r,p,z⟩:=I.tuple h;exact⟨its,r,p,z⟩
theorem sq_inj{X:Cx}{pins:List (yc × Obj)}{σ:L2.St}{H:Hp}{s:ye}{a:yc}{xs ys:List V}{t:Bool}(I:Inv X pins σ H s)(h:Sq X.K H a xs t)(h':Sq X.K H a ys t):xs=ys:=by
 cases t
 ·exact I.list_inj h h'
 ·exact I.tuple_inj h h'
section
variable {X:Cx}{W:Str->Hp->Prop}{tg a b c e:yj}{es elts:List yj}{da db:DE}{pos:Pos}
end
section
variable {prog:y6}{w:y3}{A:yB}{E:yb->ye->Prop}{s:ye}
theorem zip_item{z TI TO i1 i2 l1 l2:yc}{k1 k2:Nat}{xs ys:Array yb}{x y a b:yb}{t1 t2:Bool}{Q:yb->ye->Prop}(D:ZipApart z TI TO i1 i2 l1 l2)
  (hz:IsZip s.heap z TI TO .none) (hTI:yY s.heap TI (.ref i1) (.ref i2)) (hTO:yY s.heap TO a b)
  (h1:SrI s.heap i1 l1 k1 t1) (h2:SrI s.heap i2 l2 k2 t2) (hl1:SrS s.heap l1 xs t1) (hl2:SrS s.heap l2 ys t2) (hx:xs[k1]? = some x) (hy:ys[k2]? = some y)
  (hQ:∀h',IsZip h' z TI TO (rawInt s.heap.objs.size)->yY h' TO x y->SrI h' i1 l1 (k1+1) t1->SrI h' i2 l2 (k2+1) t2->yY h' s.heap.objs.size x y ->
   (∀c o,c ∉ [z,TO,i1,i2]->s.heap.get? c=some o->h'.get? c=some o)->Q (.ref s.heap.objs.size) { s with heap:=h' }) :
  yi (yk prog w) A (y9.«zip.__next__» ⟨[.ref z],[]⟩) (λfin s'=>∃v,fin=.done (.ret v)/\Q v s') E s:=by
 show yi _ _ (field (.ref z) 2 >>= _) _ _ _;refine yf (jq hz rfl (x:=.bool false) rfl ?_);show yi _ _ (field (.ref z) 3 >>= _) _ _ _;refine yf (jq hz rfl (x:=.ref TI) rfl ?_);refine yf (jI hTI rfl ?_);show yi _ _ (y9.SmallTypes.ownedTupleIsFree (.ref z) >>= _) _ _ _;refine yf ?_;unfold y9.SmallTypes.ownedTupleIsFree;refine yf (jq hz rfl (x:=.none) rfl (yt ?_));simp only[if_true];refine yf (wpAny_rule ?_);refine yf (jq hz rfl (x:=.ref TO) rfl ?_);refine yf (qE hz (by simp) λg1 z1 e1=>?_)
 replace z1:IsZip g1 z TI TO .ellipsis:=z1
 refine yf ?_;simp only[List.zipIdx_cons,List.zipIdx_nil,yb8,List.forIn_nil]
 -- the first draw
 refine yf (yf (wpAny_onRaise ?_));show yi _ _ (y9.SmallTypes.nextOf (.ref i1) >>= _) _ _ _;refine yf (ze8 (h1.at λo e=>e1.extBut _ _ D.i1z e) (hl1.at λo e=>e1.extBut _ _ D.l1z e) hx λg2 d2 e2=>yt ?_)
 have o2:yY g2 TO a b:=e2.extBut _ _ D.TOi1 (e1.extBut _ _ D.TOz hTO);refine yf (jI o2 rfl ?_);refine yf (wpAny_updateSeq_pair o2 λg3 o3 e3=>?_)
 replace o3:yY g3 TO x b:=o3
 refine yf (wpAny_letGo (yt ?_))
 -- the second
 refine yf (yf (wpAny_onRaise ?_));show yi _ _ (y9.SmallTypes.nextOf (.ref i2) >>= _) _ _ _;refine yf (ze8 (h2.at λo e=>e3.extBut _ _ D.TOi2.symm (e2.extBut _ _ D.i12.symm (e1.extBut _ _ D.i2z e))) (hl2.at λo e=>e3.extBut _ _ D.l2TO (e2.extBut _ _ D.l2i1 (e1.extBut _ _ D.l2z e))) hy λg4 d4 e4=>yt ?_)
 have o4:yY g4 TO x b:=e4.extBut _ _ D.TOi2 o3;refine yf (jI o4 rfl ?_);refine yf (wpAny_updateSeq_pair o4 λg5 o5 e5=>?_)
 replace o5:yY g5 TO x y:=o5
 refine yf (wpAny_letGo (yt (yt ?_)))
 -- the pair
 refine yf (jI o5 rfl ?_);refine yf (wpAny_newTuple ?_);have sz:g5.objs.size=s.heap.objs.size:=by rw[e5.1,e4.1,e3.1,e2.1,e1.1]
 have z5:IsZip g5 z TI TO .ellipsis:=e5.extBut _ _ D.TOz.symm (e4.extBut _ _ D.i2z.symm (e3.extBut _ _ D.TOz.symm (e2.extBut _ _ D.i1z.symm z1)));have k5:∀c o,c ∉ [z,TO,i1,i2]->s.heap.get? c=some o->g5.get? c=some o:=λc o hc e=>by
  simp only[yI,qu,or_false,not_or] at hc;exact e5.extBut _ _ hc.2.1 (e4.extBut _ _ hc.2.2.2 (e3.extBut _ _ hc.2.1 (e2.extBut _ _ hc.2.2.1 (e1.extBut _ _ hc.1 e))))
 have i5:SrI g5 i1 l1 (k1+1) t1:=d2.at λo e=>e5.extBut _ _ D.TOi1.symm (e4.extBut _ _ D.i12 (e3.extBut _ _ D.TOi1.symm e))
 have j5:SrI g5 i2 l2 (k2+1) t2:=d4.at λo e=>e5.extBut _ _ D.TOi2.symm e
 have zlt:z < g5.objs.size:=yG z5;show yi _ _ (y9.SmallTypes.ownedTupleHandOut (.ref z) (.ref g5.objs.size) >>= _) _ _ _;refine yf ?_;unfold y9.SmallTypes.ownedTupleHandOut;have z6:IsZip (g5.push { cls:=.type "tuple",data:=.seq #[x,y] }) z TI TO .ellipsis:=yA _ z5;refine yf (qE z6 (by simp) λg7 z7 e7=>?_)
 replace z7:IsZip g7 z TI TO (rawInt g5.objs.size):=z7
 refine qE z7 (by simp) λg8 z8 e8=>?_
 replace z8:IsZip g8 z TI TO (rawInt g5.objs.size):=z8
 have up:∀c o,c ≠ z->g5.get? c=some o->g8.get? c=some o:=λc o c1 e=>e8.extBut _ _ c1 (e7.extBut _ _ c1 (yA _ e))
 have t8:yY g8 g5.objs.size x y:=e8.extBut _ _ (yal zlt) (e7.extBut _ _ (yal zlt) (yN _ rfl));rw[sz] at z8 t8;refine yt ⟨_,rfl,?_⟩;show Q (.ref g5.objs.size) _;rw[sz];exact hQ g8 z8 (up _ _ D.TOz o5) (i5.at λo e=>up _ o D.i1z e) (j5.at λo e=>up _ o D.i2z e) t8 λc o hc e=>up c o (λq=>hc (by simp[q])) (k5 c o hc e)
theorem zip_end{z TI TO i1 i2 l1 l2:yc}{k1 k2:Nat}{xs ys:Array yb}{a b:yb}{t1 t2:Bool}{Q:Fin->ye->Prop}(hh:A.handled=none)(D:ZipApart z TI TO i1 i2 l1 l2)
  (hz:IsZip s.heap z TI TO .none) (hTI:yY s.heap TI (.ref i1) (.ref i2)) (hTO:yY s.heap TO a b)
  (h1:SrI s.heap i1 l1 k1 t1) (h2:SrI s.heap i2 l2 k2 t2) (hl1:SrS s.heap l1 xs t1) (hl2:SrS s.heap l2 ys t2) (hend:xs[k1]? = none\/ys[k2]? = none)
  (hE:∀h' e,(∀c o,c ∉ [z,TO,i1,i2]->s.heap.get? c=some o->h'.get? c=some o)->(∃o,h'.get? e=some o/\o.cls=.type "StopIteration")->E (.ref e) { s with heap:=h' }) :
  yi (yk prog w) A (y9.«zip.__next__» ⟨[.ref z],[]⟩) Q E s:=by
 show yi _ _ (field (.ref z) 2 >>= _) _ _ _;refine yf (jq hz rfl (x:=.bool false) rfl ?_);show yi _ _ (field (.ref z) 3 >>= _) _ _ _;refine yf (jq hz rfl (x:=.ref TI) rfl ?_);refine yf (jI hTI rfl ?_);show yi _ _ (y9.SmallTypes.ownedTupleIsFree (.ref z) >>= _) _ _ _;refine yf ?_;unfold y9.SmallTypes.ownedTupleIsFree;refine yf (jq hz rfl (x:=.none) rfl (yt ?_));simp only[if_true];refine yf (wpAny_rule ?_);refine yf (jq hz rfl (x:=.ref TO) rfl ?_);refine yf (qE hz (by simp) λg1 z1 e1=>?_)
 replace z1:IsZip g1 z TI TO .ellipsis:=z1
 refine yf ?_;simp only[List.zipIdx_cons,List.zipIdx_nil,yb8,List.forIn_nil];refine yf (yf (wpAny_onRaise ?_));show yi _ _ (y9.SmallTypes.nextOf (.ref i1) >>= _) _ _ _;cases hx:xs[k1]? with
 | none=>
  refine yf (sr_end hh (h1.at λo e=>e1.extBut _ _ D.i1z e) (hl1.at λo e=>e1.extBut _ _ D.l1z e) hx λg2 e e2 he=>?_)
  obtain⟨oe,hoe,hce⟩:=he;have z2:IsZip g2 z TI TO .ellipsis:=e2 _ _ D.i1z.symm z1;have hez:e ≠ z:=λq=>by subst q;rw[z2] at hoe;cases hoe;simp at hce
  refine qE z2 (by simp) λg3 _ e3=>hE g3 e (λc o hc q=>?_) ⟨oe,e3.extBut _ _ hez hoe,hce⟩
  simp only[yI,qu,or_false,not_or] at hc;exact e3.extBut _ _ hc.1 (e2 _ _ hc.2.2.1 (e1.extBut _ _ hc.1 q))
 | some x=>
  have hy:ys[k2]? = none:=by
   rcases hend with h | h
   ·rw[hx] at h;cases h
   ·exact h
  refine yf (ze8 (h1.at λo e=>e1.extBut _ _ D.i1z e) (hl1.at λo e=>e1.extBut _ _ D.l1z e) hx λg2 d2 e2=>yt ?_)
  have o2:yY g2 TO a b:=e2.extBut _ _ D.TOi1 (e1.extBut _ _ D.TOz hTO);refine yf (jI o2 rfl ?_);refine yf (wpAny_updateSeq_pair o2 λg3 o3 e3=>?_)
  refine yf (wpAny_letGo (yt ?_));refine yf (yf (wpAny_onRaise ?_));show yi _ _ (y9.SmallTypes.nextOf (.ref i2) >>= _) _ _ _;refine yf (sr_end hh (h2.at λo e=>e3.extBut _ _ D.TOi2.symm (e2.extBut _ _ D.i12.symm (e1.extBut _ _ D.i2z e))) (hl2.at λo e=>e3.extBut _ _ D.l2TO (e2.extBut _ _ D.l2i1 (e1.extBut _ _ D.l2z e))) hy λg4 e e4 he=>?_)
  obtain⟨oe,hoe,hce⟩:=he;have z4:IsZip g4 z TI TO .ellipsis:=e4 _ _ D.i2z.symm (e3.extBut _ _ D.TOz.symm (e2.extBut _ _ D.i1z.symm z1));have hez:e ≠ z:=λq=>by subst q;rw[z4] at hoe;cases hoe;simp at hce
  refine qE z4 (by simp) λg5 _ e5=>hE g5 e (λc o hc q=>?_) ⟨oe,e5.extBut _ _ hez hoe,hce⟩
  simp only[yI,qu,or_false,not_or] at hc;exact e5.extBut _ _ hc.1 (e4 _ _ hc.2.2.2 (e3.extBut _ _ hc.2.1 (e2.extBut _ _ hc.2.2.1 (e1.extBut _ _ hc.1 q))))
theorem zip_pn{z TI TO i1 i2 l1 l2:yc}{k1 k2:Nat}{xs ys:Array yb}{x y a b:yb}{t1 t2:Bool}{Q:Option yb->ye->Prop}(D:ZipApart z TI TO i1 i2 l1 l2)
  (hz:IsZip s.heap z TI TO .none) (hTI:yY s.heap TI (.ref i1) (.ref i2)) (hTO:yY s.heap TO a b)
  (h1:SrI s.heap i1 l1 k1 t1) (h2:SrI s.heap i2 l2 k2 t2) (hl1:SrS s.heap l1 xs t1) (hl2:SrS s.heap l2 ys t2) (hx:xs[k1]? = some x) (hy:ys[k2]? = some y)
  (hQ:∀h',IsZip h' z TI TO (rawInt s.heap.objs.size)->yY h' TO x y->SrI h' i1 l1 (k1+1) t1->SrI h' i2 l2 (k2+1) t2->yY h' s.heap.objs.size x y ->
   (∀c o,c ∉ [z,TO,i1,i2]->s.heap.get? c=some o->h'.get? c=some o)->Q (some (.ref s.heap.objs.size)) { s with heap:=h' }) :
  yi (yk prog w) A (pyNext (.ref z)) Q E s:=by
 have hT:s.TypeIs (.ref z) "zip":=⟨_,hz,rfl⟩;unfold pyNext;exact yf (wpAny_attempt (qj (name:=Str.ofString "__next__") hT F.slot_zip_next
  (qb F.slot_zip_next hT F.entry_zip_next (zip_item D hz hTI hTO h1 h2 hl1 hl2 hx hy λh' a1 a2 a3 a4 a5 a6=>yt (hQ h' a1 a2 a3 a4 a5 a6)) (F.args_zip_next_1 _))))
theorem zip_pe{z TI TO i1 i2 l1 l2:yc}{k1 k2:Nat}{xs ys:Array yb}{a b:yb}{t1 t2:Bool}{Q:Option yb->ye->Prop}(hh:A.handled=none)(D:ZipApart z TI TO i1 i2 l1 l2)
  (hz:IsZip s.heap z TI TO .none) (hTI:yY s.heap TI (.ref i1) (.ref i2)) (hTO:yY s.heap TO a b)
  (h1:SrI s.heap i1 l1 k1 t1) (h2:SrI s.heap i2 l2 k2 t2) (hl1:SrS s.heap l1 xs t1) (hl2:SrS s.heap l2 ys t2) (hend:xs[k1]? = none\/ys[k2]? = none)
  (hQ:∀h',(∀c o,c ∉ [z,TO,i1,i2]->s.heap.get? c=some o->h'.get? c=some o)->Q none { s with heap:=h' }):yi (yk prog w) A (pyNext (.ref z)) Q E s:=by
 have hT:s.TypeIs (.ref z) "zip":=⟨_,hz,rfl⟩;unfold pyNext;refine yf (wpAny_attempt (qj (name:=Str.ofString "__next__") hT F.slot_zip_next
  (qb F.slot_zip_next hT F.entry_zip_next (zip_end hh D hz hTI hTO h1 h2 hl1 hl2 hend λh' e hk he=>?_) (F.args_zip_next_1 _))))
 obtain⟨o,ho,hc⟩:=he;exact yf (wpAny_isInstance (T:="StopIteration") (b:=true) ⟨o,ho,hc⟩ isSubtype_stop (yt (hQ _ hk)))
abbrev zH1(h:yd)(l1:yc)(t1:Bool):yd:=h.push (zjx l1 t1)
abbrev zH2(h:yd)(l1 l2:yc)(t1 t2:Bool):yd:=(zH1 h l1 t1).push (zjx l2 t2)
abbrev zH3(h:yd)(l1 l2:yc)(t1 t2:Bool):yd:=(zH2 h l1 l2 t1 t2).push { cls:=.type "tuple",data:=.seq #[.ref h.objs.size,.ref (zH1 h l1 t1).objs.size] }
abbrev zH4(h:yd)(l1 l2:yc)(t1 t2:Bool):yd:=(zH3 h l1 l2 t1 t2).push { cls:=.type "tuple",data:=.seq #[.none,.none] }
abbrev zH5(h:yd)(l1 l2:yc)(t1 t2:Bool):yd:=(zH4 h l1 l2 t1 t2).push { cls:=.type "zip",data:=.fields #[.none,.bool false,.bool false,.ref (zH2 h l1 l2 t1 t2).objs.size,.ref (zH3 h l1 l2 t1 t2).objs.size] }
theorem zjc(l1 l2:yc)(xs ys:Array yb)(t1 t2:Bool) :
  Meets (y9.«zip.__new__» ⟨[.type "zip",.ref l1,.ref l2],[]⟩) (λ_ R s=>SrS s.heap l1 xs t1/\SrS s.heap l2 ys t2/\R (.ok (.ret (.ref (zH4 s.heap l1 l2 t1 t2).objs.size))) { s with heap:=zH5 s.heap l1 l2 t1 t2 }):=
 .of_wp λprog w A R s h=>by
  obtain⟨hp,g,d,tk,os⟩:=s;obtain⟨hl1,hl2,h⟩:=h;have hsub:=sub_zip;have L1:SrS (ye.heap ⟨hp,g,d,tk,os⟩) l1 xs t1:=hl1;have L2:SrS (ye.heap ⟨hp.push (zjx l1 t1),g,d,tk,os⟩) l2 ys t2:=hl2.at λo e=>yA _ e
  wp_walk using zig L1,zig L2
  exact⟨_,rfl,h⟩
theorem call_zip{l1 l2:yc}{xs ys:Array yb}{t1 t2:Bool}{Q:yb->ye->Prop}(hl1:SrS s.heap l1 xs t1)(hl2:SrS s.heap l2 ys t2)
  (h:∀h',IsZip h' (s.heap.objs.size+4) (s.heap.objs.size+2) (s.heap.objs.size+3) .none->yY h' (s.heap.objs.size+2) (.ref s.heap.objs.size) (.ref (s.heap.objs.size+1)) ->
   yY h' (s.heap.objs.size+3) .none .none->SrI h' s.heap.objs.size l1 0 t1->SrI h' (s.heap.objs.size+1) l2 0 t2 ->
   (∀c o,s.heap.get? c=some o->h'.get? c=some o)->Q (.ref (s.heap.objs.size+4)) { s with heap:=h' }) :
  yi (yk prog w) A (call (.type "zip") [.ref l1,.ref l2]) Q E s:=by
 refine callType_new F.called_zip (by decide) (F.typeCall_zip_2 _ _) (F.newCall_zip_2 _ _) (λobj=>F.args_object_init_3 obj _ _) F.entry_zip_new (zjc l1 l2 xs ys t1 t2) ⟨hl1,hl2,?_⟩
 have z1:(zH1 s.heap l1 t1).objs.size=s.heap.objs.size+1:=qy ..;have z2:(zH2 s.heap l1 l2 t1 t2).objs.size=s.heap.objs.size+2:=by rw[qy,z1]
 have z3:(zH3 s.heap l1 l2 t1 t2).objs.size=s.heap.objs.size+3:=by rw[qy,z2]
 have z4:(zH4 s.heap l1 l2 t1 t2).objs.size=s.heap.objs.size+4:=by rw[qy,z3]
 have g5:(zH5 s.heap l1 l2 t1 t2).get? (zH4 s.heap l1 l2 t1 t2).objs.size=some _:=yN _ rfl;have g4:(zH5 s.heap l1 l2 t1 t2).get? (zH3 s.heap l1 l2 t1 t2).objs.size=some _:=yA _ (yN _ rfl);have g3:(zH5 s.heap l1 l2 t1 t2).get? (zH2 s.heap l1 l2 t1 t2).objs.size=some _:=yA _ (yA _ (yN _ rfl));have g2:SrI (zH5 s.heap l1 l2 t1 t2) (zH1 s.heap l1 t1).objs.size l2 0 t2:=SrI.new.at λo e=>yA _ (yA _ (yA _ e))
 have g1:SrI (zH5 s.heap l1 l2 t1 t2) s.heap.objs.size l1 0 t1:=SrI.new.at λo e=>yA _ (yA _ (yA _ (yA _ e)))
 show _/\_;rw[z2,z3,z4] at g5;rw[z1,z2] at g3;rw[z3] at g4;rw[z1] at g2;rw[z4];exact⟨⟨_,g5,rfl⟩,h _ g5 g3 g4 g1 g2 λc o x=>yA _ (yA _ (yA _ (yA _ (yA _ x))))⟩
end
def Itz(K:yh)(l1 l2:yc)(t1 t2:Bool):It:=
 ⟨λi H=>∃xs ys x y,Sq K H l1 xs t1/\Sq K H l2 ys t2/\xs[i]? = some x/\ys[i]? = some y,
   λi H x H'=>∃p v w,x=.ref p/\H p=none/\H'=upd H p (.tup [v,w])/\(∀xs,Sq K H l1 xs t1->xs[i]? = some v)/\∀ys,Sq K H l2 ys t2->ys[i]? = some w,
   λi H=>∃xs ys,Sq K H l1 xs t1/\Sq K H l2 ys t2/\(xs.length<=i\/ys.length<=i)⟩
theorem turn_zip{P:y6}{w:y3}{K:yh}{elts:List yj}{k:Nat}{pos:Pos}(z TI TO i1 i2 l1 l2:yc)(t1 t2:Bool)(D:ZipApart z TI TO i1 i2 l1 l2) :
  Turn P w K (.Tuple elts k pos) (Itz K l1 l2 t1 t2) [z,TI,TO,i1,i2] z (λi h=>IsZip h z TI TO .none/\yY h TI (.ref i1) (.ref i2)/\(∃a b,yY h TO a b)/\SrI h i1 l1 i t1/\SrI h i2 l2 i t2) where
 mem:=by simp
 obj:=λi h st b hb=>by
  obtain⟨hz,hTI,⟨a,c,hTO⟩,h1,h2⟩:=st;simp only[yI,qu,or_false] at hb;rcases hb with rfl | rfl | rfl | rfl | rfl
  ·exact⟨_,hz,λv q=>by cases q⟩
  ·exact⟨_,hTI,λv q=>by cases q⟩
  ·exact⟨_,hTO,λv q=>by cases q⟩
  ·exact h1.obj
  ·exact h2.obj
 keep:=λi h h' st kk=>by
  obtain⟨hz,hTI,⟨a,c,hTO⟩,h1,h2⟩:=st;exact⟨kk z (by simp) _ hz,kk TI (by simp) _ hTI,⟨a,c,kk TO (by simp) _ hTO⟩,h1.at λo e=>kk i1 (by simp) o e,h2.at λo e=>kk i2 (by simp) o e⟩
 item:=by
  intro X hP hw hK hc i pins s σ H E I hf st hg;subst hP hw hK;obtain⟨xs,ys,x,y,hq1,hq2,hx,hy⟩:=hg;obtain⟨a1,r1,s1,_⟩:=zb8 I hq1;obtain⟨a2,r2,s2,_⟩:=zb8 I hq2;obtain⟨u1,hu1,ru1⟩:=r1.get hx;obtain⟨u2,hu2,ru2⟩:=r2.get hy;obtain⟨hz,hTI,⟨a,c,hTO⟩,h1,h2⟩:=st;have fresh:∀b o,s.heap.get? b=some o->b ≠ s.heap.objs.size:=λb o e=>yW (yG e)
  refine zip_pn D hz hTI hTO h1 h2 s1 s2 (x:=u1) (y:=u2) (by simpa using hu1) (by simpa using hu2) λh' z' o' i1' i2' p' kk=>?_
  refine⟨_,rfl,wpAny_letOwnedTupleGo_zip z' λh'' z'' hsb=>?_⟩
  have ke:∀b o,b ∉ [z,TI,TO,i1,i2]->s.heap.get? b=some o->h''.get? b=some o:=λb o hb e=>by
   simp only[yI,qu,or_false,not_or] at hb;exact hsb.extBut _ _ hb.1 (kk b o (by simp[hb.1,hb.2.2.1,hb.2.2.2.1,hb.2.2.2.2]) e)
  refine⟨.ref s.heap.objs.size,upd H s.heap.objs.size (.tup [x,y]),inv_rec (s':={ s with heap:=h'' }) (its:=[u1,u2]) I hf rfl rfl ke (hsb.extBut _ _ (Ne.symm (fresh z _ hz)) p') (.cons ru1 (.cons ru2 .nil)) (by show 2<=y7;decide),rfl,?_,?_,λb hb=>?_⟩
  ·exact⟨_,x,y,rfl,I.hok.fresh (yq _),rfl,λzs hz=>by rw[sq_inj I hz hq1];exact hx,λzs hz=>by rw[sq_inj I hz hq2];exact hy⟩
  ·exact⟨z'',hsb.extBut _ _ D.TIz (kk TI _ (by simp[D.TIz,D.TITO,D.TIi1,D.TIi2]) hTI),⟨_,_,hsb.extBut _ _ D.TOz o'⟩,i1'.at λo e=>hsb.extBut _ _ D.i1z e,i2'.at λo e=>hsb.extBut _ _ D.i2z e⟩
  ·have q:=(hf b hb).1;obtain⟨o,ho⟩:∃o,s.heap.get? b=some o:=by
    simp only[yI,qu,or_false] at hb;rcases hb with rfl | rfl | rfl | rfl | rfl
    ·exact⟨_,hz⟩
    ·exact⟨_,hTI⟩
    ·exact⟨_,hTO⟩
    ·obtain⟨o,ho,_⟩:=h1.obj;exact⟨o,ho⟩
    ·obtain⟨o,ho,_⟩:=h2.obj;exact⟨o,ho⟩
   rw[Zr (fresh b o ho)];exact q
 done:=by
  intro X hP hw hK hc i pins s σ H E I hf st hg;subst hP hw hK;obtain⟨xs,ys,hq1,hq2,hx⟩:=hg;obtain⟨a1,r1,s1,_⟩:=zb8 I hq1;obtain⟨a2,r2,s2,_⟩:=zb8 I hq2;obtain⟨hz,hTI,⟨a,c,hTO⟩,h1,h2⟩:=st;have n1:=r1.length;have n2:=r2.length;have he:a1.toArray[i]? = none\/a2.toArray[i]? = none:=by
   rcases hx with q | q
   ·exact .inl (by simp;omega)
   ·exact .inr (by simp;omega)
  exact zip_pe (I.ok.hd hc) D hz hTI hTO h1 h2 s1 s2 he λh' kk=>⟨rfl,inv_ch (ch:=[z,TI,TO,i1,i2]) (s':={ s with heap:=h' }) I hf rfl rfl λb o hb e=>kk b o (λq=>hb (by simp at q ⊢;rcases q with q | q | q | q <;> simp[q])) e⟩
 self:=λ_ _ _ _ _ st h=>wpAny_pyIter_zip st.1 h
section
variable {X:Cx}{W:Str->Hp->Prop}{tg a b c e:yj}{es elts:List yj}{da db:DE}{pos:Pos}
def iZp(K:yh)(ta:TA):TI:=λσ H R=>ta σ H λvs H1=>∃a b t1 t2,vs=[.ref a,.ref b]/\(∃xs,Sq K H1 a xs t1)/\(∃ys,Sq K H1 b ys t2)/\R (Itz K a b t1 t2) H1
theorem pi_zip{l1 l2:yj}{ta:TA}{p tp:Pos}{k:Nat}(hg:Gl X "zip")(hm:X.mg "zip" = none)(hl:PA X [l1,l2] ta)(hs:yp [l1,l2] X.env=(false,yz l1 X.env)::yp [l2] X.env:=by rfl)
  (hpl:(backTo pos (yp [l2] X.env)).any (·.1)=false:=by rfl):PI X (.Tuple elts k tp) (.Call (.Name "zip" p) [l1,l2] [] pos) (iZp X.K ta):=by
 intro pins s σ H R I h;refine Call_ (zcn I hg hm (show yK "zip" = some (.type "zip") by decide +kernel) (PyProof.Rows.callWith_type1 (thn (hl pos pins s σ H _ I h) λus s1 ⟨vs,H1,I1,r1,q1⟩=>?_) hs hpl))
 obtain⟨l1,l2,t1,t2,rfl,⟨xs,hq1⟩,⟨ys,hq2⟩,q⟩:=q1;obtain⟨u1,u2,rfl,ru1,ru2⟩:=vals2 r1;cases ru1;cases ru2;obtain⟨a1,rv1,s1',_⟩:=zb8 I1 hq1;obtain⟨a2,rv2,s2',_⟩:=zb8 I1 hq2;have lt1:=s1'.lt;have lt2:=s2'.lt;refine call_zip s1' s2' λh' hz hTI hTO h1 h2 kk=>wpAny_pyIter_zip hz ?_
 have I2:Inv X pins σ H1 { s1 with heap:=h' }:=I1.kept (t':=s1.toks) kk
 have ap:ZipApart (s1.heap.objs.size+4) (s1.heap.objs.size+2) (s1.heap.objs.size+3) s1.heap.objs.size (s1.heap.objs.size+1) l1 l2:=by
  constructor <;> (intro e;simp only[yc] at *;omega)
 refine⟨_,[s1.heap.objs.size+4,s1.heap.objs.size+2,s1.heap.objs.size+3,s1.heap.objs.size,s1.heap.objs.size+1],_,Itz X.K l1 l2 t1 t2,H1,rfl,I2,turn_zip _ _ _ _ _ l1 l2 t1 t2 ap,⟨hz,hTI,⟨_,_,hTO⟩,h1,h2⟩,λb hb=>?_,q⟩
 have hb':s1.heap.objs.size<=b:=by
  simp only[yI,qu,or_false] at hb;rcases hb with rfl | rfl | rfl | rfl | rfl
  ·exact yag _ _
  ·exact yag _ _
  ·exact yag _ _
  ·exact yq _
  ·exact yag _ _
 exact I1.fpOk hb' (I1.hok.fresh hb')
theorem zfZ:∀(xs ys:List ya) (i:Nat) (t:ya),(zipT xs ys)[i]? = some t->∃x y,xs[i]? = some x/\ys[i]? = some y/\t=.tuple [x,y]
 | [],ys,i,t,h=>by simp[zipT] at h
 | x::xs,[],i,t,h=>by simp[zipT] at h
 | x::xs,y::ys,0,t,h=>by simp[zipT] at h;exact⟨x,y,rfl,rfl,h.symm⟩
 | x::xs,y::ys,i+1,t,h=>by
  simp only[zipT,qF] at h;obtain⟨a,b,h1,h2,h3⟩:=zfZ xs ys i t h;exact⟨a,b,by simpa using h1,by simpa using h2,h3⟩
theorem zfY:∀(xs ys:List ya) (i:Nat),(zipT xs ys).length<=i->xs.length<=i\/ys.length<=i
 | [],ys,i,h=>.inl (jZ _)
 | x::xs,[],i,h=>.inr (jZ _)
 | x::xs,y::ys,0,h=>by simp[zipT] at h
 | x::xs,y::ys,i+1,h=>by
  simp only[zipT,jk] at h;rcases zfY xs ys i (by omega) with q | q
  ·exact .inl (by simp;omega)
  ·exact .inr (by simp;omega)
theorem yld_zip{H:Hp}{P:Pv}{l1 l2:yc}{t1 t2:Bool}{xs ys:List ya}{vs ws:List V}(q1:∀H' P',Tr H P H' P'->Sq X.K H' l1 vs t1)(q2:∀H' P',Tr H P H' P'->Sq X.K H' l2 ws t2)(r1:Rls X.K H P xs vs)(r2:Rls X.K H P ys ws) :
  Yld X.K (Itz X.K l1 l2 t1 t2) (zipT xs ys) H P:=by
 intro H' P' tr nf i;have a1:=Rls.go tr xs vs r1;have a2:=Rls.go tr ys ws r2;refine⟨λtt e=>?_,λhl=>⟨vs,ws,q1 H' P' tr,q2 H' P' tr,by rw[<- r1.length,<- r2.length];exact zfY xs ys i hl⟩⟩
 obtain⟨x,y,e1,e2,rfl⟩:=zfZ xs ys i tt e;obtain⟨v,ev,rv⟩:=a1.getT e1;obtain⟨w,ew,rw'⟩:=a2.getT e2;refine⟨⟨vs,ws,v,w,q1 H' P' tr,q2 H' P' tr,ev,ew⟩,λz H'' yy=>?_⟩
 obtain⟨p,v',w',rfl,hp,rfl,hv,hw⟩:=yy;have z1:=hv vs (q1 H' P' tr);have z2:=hw ws (q2 H' P' tr);rw[ev] at z1;rw[ew] at z2;cases z1;cases z2;exact⟨Zz hp,ZN.mpr ⟨p,_,rfl,.off Zt (nf p hp),ZG.mpr ⟨v,[w],rfl,Rl.go (.same (Zz hp)) x v rv,ZG.mpr ⟨w,[],rfl,Rl.go (.same (Zz hp)) y w rw',Z2.mpr rfl⟩⟩⟩⟩
theorem seq_of{K:yh}{H:Hp}{P:Pv}{t:ya}{v:V}{xs:List ya}(r:Rl K H P t v)(e:t=.list xs\/t=.tuple xs):∃l vs b,v=.ref l/\(∀H' P',Tr H P H' P'->Sq K H' l vs b)/\Rls K H P xs vs:=by
 rcases e with rfl | rfl
 ·obtain⟨l,vs,rfl,sl,rs⟩:=Z7.mp r;exact⟨l,vs,false,rfl,λH' P' tr=>(sl.go tr).sq,rs⟩
 ·obtain⟨l,vs,rfl,sl,rs⟩:=ZN.mp r;exact⟨l,vs,true,rfl,λH' P' tr=>(sl.go tr).sq,rs⟩
theorem zeB{p tp:Pos}{k:Nat}(hg:Gl X "zip")(hm:X.mg "zip" = none)(ha:EV X W a da)(hb:EV X W b db)(hs:yp [a,b] X.env=(false,yz a X.env)::yp [b] X.env:=by rfl)(hs2:yp [b] X.env=(false,yz b X.env)::yp [] X.env:=by rfl)
  (hpl:(backTo pos (yp [b] X.env)).any (·.1)=false:=by rfl):IV X W (.Tuple elts k tp) (.Call (.Name "zip" p) [a,b] [] pos) (iZip (iSeq da) (iSeq db)):=
 zdg (pi_zip hg hm (Yn ha (Yn hb X9 hs2) hs) hs hpl) λσ H R ⟨G,P,h,q⟩=>by
  unfold iZip iSeq at q;refine⟨G,P,h,?_⟩;cases ea:da G with
  | stuck=>rw[ea] at q;exact q.elim
  | exc c=>rw[ea] at q;exact q
  | ok tx=>
   intro x H1 s1 rx;refine⟨G,P,h.same s1,?_⟩;cases eb:db G with
   | stuck=>
    rw[ea,eb,Res.bind_ok] at q;cases tx <;> exact q.elim
   | exc c=>
    rw[ea,eb,Res.bind_ok] at q;cases tx <;> first | exact q.elim | exact λH' s=>q H' (s1.trans s)
   | ok ty=>
    intro y H2 s2 ry;have q':=q;rw[ea,eb,Res.bind_ok] at q';have fin:∀xs ys,(tx=.list xs\/tx=.tuple xs)->(ty=.list ys\/ty=.tuple ys)->PostI X.K W H P (.ok (zipT xs ys)) R->∃a b t1 t2,[x,y]=[V.ref a,V.ref b]/\(∃xs,Sq X.K H2 a xs t1)/\(∃ys,Sq X.K H2 b ys t2)/\R (Itz X.K a b t1 t2) H2:=λxs ys e1 e2 q'=>by
     obtain⟨l1,v1,b1,rfl,f1,g1⟩:=seq_of (Rl.go (.same s2) tx x rx) e1;obtain⟨l2,v2,b2,rfl,f2,g2⟩:=seq_of ry e2;exact⟨l1,l2,b1,b2,rfl,⟨v1,f1 H2 P (.refl _ _)⟩,⟨v2,f2 H2 P (.refl _ _)⟩,q' _ H2 (s1.trans s2) (yld_zip f1 f2 g1 g2)⟩
    cases tx <;> cases ty <;> first | exact q'.elim | exact fin _ _ (.inl rfl) (.inl rfl) q' | exact fin _ _ (.inl rfl) (.inr rfl) q' | exact fin _ _ (.inr rfl) (.inl rfl) q' | exact fin _ _ (.inr rfl) (.inr rfl) q'
end
def cf(k:Option yZ):Bool:=k == some .cell || k == some .free
theorem zhS{k:Option yZ}(h:cf k=true):k=some .cell\/k=some .free:=by
 unfold cf at h;rw[qx] at h;rcases h with h | h
 ·exact .inl (by simpa using h)
 ·exact .inr (by simpa using h)
def capChk(scope:yJ)(env:Env)(N0 N:List Str)(nv:Nat)(cap:List Nat):Bool:=
 (yF cap.length).all λi=>match(cap[i]?:Option Nat),(N[nv+i]?:Option Str) with
  | some j,some x=>N0[j]? == some x && cf ((relabel scope env).names.lookup x) && cf (env.kindOf x)
  | _,_=>true
def zkh(scope:yJ)(env:Env)(N0 N:List Str)(nv:Nat)(cap:List Nat):Bool:=
 (scope.names.all λy=>y.2 != .cell) && (scope.kind == .function) && (scope.names.all λy=>y.2 != .local || scope.names.lookup y.1 == some .local)
  && (scope.names.all λy=>y.2 != .free || cf (env.kindOf y.1)) && (N.length == nv+cap.length) && capChk scope env N0 N nv cap
theorem YR{X:Cx}{scope:yJ}{N:List Str}{nv:Nat}{cap:List Nat}(h:zkh scope X.env X.N N nv cap=true):CompOk X scope N nv cap:=by
 unfold zkh at h;simp only[jl,qw] at h;obtain⟨⟨⟨⟨⟨h1,h2⟩,h3⟩,h4⟩,h5⟩,h6⟩:=h;refine⟨λy hy=>by simpa using h1 y hy,by simpa using h2,λy hy e=>?_,λy hy e=>?_,by simpa using h5,λi j x hc hx=>?_⟩
 ·have:=h3 y hy;rw[e] at this;simpa using this
 ·have:=h4 y hy;rw[e] at this;exact zhS (by simpa using this)
 ·unfold capChk at h6;rw[qw] at h6;have hi:i < cap.length:=(jb.mp hc).1;have:=h6 i (js.mpr hi);rw[hc,hx] at this;simp only[jl] at this;exact⟨by simpa using this.1.1,zhS this.1.2,zhS this.2⟩
section
variable {X:Cx}{W:Str->Hp->Prop}{fl:Bool}{a b c e:yj}{es:List yj}{da db:DE}{pos:Pos}
theorem zaK{K:yh}{H1:Hp}{P:Pv}{p:yc}{ts:List ya}{vs:List V}{o:HO}(hp:H1 p=none)(rs:Rls K H1 P ts vs):Rls K (upd H1 p o) (P.fbd p) ts vs:=
 Rls.go (.same (Zz hp)) ts vs (Rls.go (Tr.tofbd hp) ts vs rs)
theorem zen{d:DA}(h:AV X W es d):OV X W (.List es pos) (oLst d):=
 ZF (pe_lst h) λσ H Q ⟨G,P,h,q⟩=>by
  unfold oLst at q;obtain⟨q1,q2,q3⟩:=zg6 q;refine VH h q1 q2 λts vs H1 es' s1 h1 rs=>?_
  have q4:=q3 ts es';split at q4
  ·rename_i hl;exact⟨zdx hl rs,λp hp=>q4 p vs _ (s1.trans (Zz hp)) (s1.free hp) Zt (zaK hp rs)⟩
  ·exact q4.elim
theorem zaN{p:Pos}(hg:Gl X "list")(hm:X.mg "list" = none)(ha:EV X W a da)(hs:yp [a] X.env=(false,yz a X.env)::yp [] X.env:=by rfl):OV X W (.Call (.Name "list" p) [a] [] pos) (zdp da):=
 ZF (Vw zeU hg hm (show yK "list" = some (.type "list") by decide +kernel) (Yn ha X9 hs) (he:=hs)) λσ H Q ⟨G,P,h,q⟩=>by
  unfold zdp at q;obtain⟨q1,q2,q3⟩:=zcR q;refine ZE h q1 q2 λtx x H1 ex s1 h1 rx=>?_
  have q4:=q3 tx ex;cases tx <;> try exact q4.elim
  ·obtain⟨l,vs,rfl,sl,rs⟩:=Z7.mp rx;exact⟨l,vs,rfl,.inl sl.sq,λp hp=>q4 p vs _ (s1.trans (Zz hp)) (s1.free hp) Zt (zaK hp rs)⟩
  ·obtain⟨l,vs,rfl,sl,rs⟩:=ZN.mp rx;exact⟨l,vs,rfl,.inr sl.sq,λp hp=>q4 p vs _ (s1.trans (Zz hp)) (s1.free hp) Zt (zaK hp rs)⟩
theorem UX{p:Pos}(hg:Gl X "tuple")(hm:X.mg "tuple" = none)(ha:EV X W a da)(hs:yp [a] X.env=(false,yz a X.env)::yp [] X.env:=by rfl):EV X W (.Call (.Name "tuple" p) [a] [] pos) (d1 U6 da):=
 ZF (Vw zdV hg hm (show yK "tuple" = some (.type "tuple") by decide +kernel) (Yn ha X9 hs) (he:=hs)) λσ H Q h=>zf2 (λH P σ G x tx Q h rx q=>by
  cases tx <;> try exact q.elim
  ·obtain⟨l,vs,rfl,sl,rs⟩:=Z7.mp rx;exact⟨l,vs,rfl,.inl ⟨sl.sq,λp hp=>q _ _ (Zz hp) (ZN.mpr ⟨p,vs,rfl,.off Zt (h.off_new hp),Rls.go (.same (Zz hp)) _ vs rs⟩)⟩⟩
  ·obtain⟨l,vs,rfl,sl,rs⟩:=ZN.mp rx;exact⟨l,vs,rfl,.inr ⟨sl.sq,q _ H (Same.refl H) rx⟩⟩) h
theorem zek{K:yh}{H:Hp}{P:Pv}:∀{bs:List Bool}{vs:List V},Rls K H P (bs.map .bool) vs->vs=bs.map V.bl
 | [],vs,h=>Z2.mp h
 | b::bs,vs,h=>by
  obtain⟨v,r,rfl,a,q⟩:=ZG.mp h;rw[YQ.mp a,zek q]
  rfl
theorem call_all(hc:X.calm=true):zbJ X (.builtin "all") (λxs H Q=>∃(p:yc) (bs:List Bool),xs=[.ref p]/\SqL X.K H p (bs.map V.bl)/\Q (.bl (bs.all id)) H):=by
 intro pins s σ H xs us Q I r h;obtain⟨l,bs,rfl,hq,q⟩:=h;obtain⟨u,rfl,ru⟩:=zd1 r;cases ru;obtain⟨its,rv,pl,hz⟩:=I.list hq;have hl:s.heap.IsList l its.toArray:=pl.isList;have hlt:l < s.heap.objs.size:=by obtain⟨_,e,_⟩:=hl;exact yG e
 have hb:∀(i:Nat) (v:yb),its[i]? = some v->∃b,bs[i]? = some b/\v=.bool b:=λi v e=>by
  have hi:i < its.length:=(jb.mp e).1;have hl2:=rv.length;rw[jm] at hl2;have hi2:i < bs.length:=by omega
  obtain⟨u,hu,ru⟩:=rv.get (i:=i) (x:=V.bl bs[i]) (by simp[hi2])
  rw[e] at hu;cases hu;cases ru;exact⟨bs[i],by simp[hi2],rfl⟩
 refine call_all_walk (wpAny_pyIter_list hl ?_);refine⟨s.heap.objs.size,[s.heap.objs.size,l],[s.heap.objs.size],its.toArray.size,_,_,λi=>(bs[i]?).getD true,rfl,Walks.list (A:=X.A.in1) (I.ok.hd hc) _ l (yW hlt) its.toArray,
  ⟨⟨_,yN _ rfl,rfl,rfl⟩,hl.push _⟩,λi v s' Q' E' hP hQ=>?_,λh' tk hk=>?_⟩
 ·obtain⟨b,e,rfl⟩:=hb i v (by simpa using hP)
  simp only[e,yb3] at hQ;exact qa hQ
 ·have e:((yF its.toArray.size).all λi=>(bs[i]?).getD true)=bs.all id:=by
   have hl2:=rv.length;rw[jm] at hl2;rw[yL,<- hl2,Bool.eq_iff_iff,qw,qw];constructor
   ·intro h b hb;obtain⟨i,hi,e⟩:=qI hb;have:=h i (js.mpr hi);simp only[j7 hi,yb3,e] at this;exact this
   ·intro h i hi;have hi':=js.mp hi;simp only[j7 hi',yb3];exact h _ (jr hi')
  rw[e];have kk:∀b x,s.heap.get? b=some x->h'.get? b=some x:=λb x e=>hk b x (λhm=>by rw[qd.mp hm] at e;exact jS _ (yG e)) (yA _ e)
  exact⟨.bl _,H,I.kept (t':=tk) kk,rfl,q⟩
theorem zjM{p:Pos}(hg:Gl X "all")(hm:X.mg "all" = none)(ha:EV X W a da)(hc:X.calm=true:=by rfl)(hs:yp [a] X.env=(false,yz a X.env)::yp [] X.env:=by rfl):EV X W (.Call (.Name "all" p) [a] [] pos) (d1 fAll da):=
 ZF (QL (call_all hc) hg hm (show yK "all" = some (.builtin "all") by decide +kernel) (Yn ha X9 hs) (he:=hs)) λσ H Q h=>zf2 (λH P σ G x tx Q h rx q=>by
  cases tx <;> try exact q.elim
  rename_i xs;obtain⟨l,vs,rfl,sl,rs⟩:=Z7.mp rx;simp only[fAll] at q;cases e:allT xs with
  | stuck=>rw[e] at q;exact q.elim
  | exc c=>exact absurd e (zg8 xs c)
  | ok k=>
   rw[e,Res.bind_ok] at q;obtain⟨bs,rfl,rfl⟩:=zks e;have:=zek rs;subst this;exact⟨l,bs,rfl,sl.sq,ZB q⟩) h
theorem zdz{G:List Sl}{i:Nat}(h:zb2 G i=true):∃xs,G[i]? = some (.own xs):=by
 unfold zb2 at h;split at h
 ·rename_i xs e;exact⟨xs,e⟩
 ·cases h
theorem ss_app{i:Nat}{x:Str}{is:List Nat}{p1 p2 p3:Pos}(hi:X.N[i]? = some x)(he:EV X W e da)(hv:Vis X.env.scope x:=by first | exact yg rfl | exact yC (yg rfl) | exact yC (yC rfl))(hd:(x == ("__debug__" : Str))=false:=by decide)
  (hcd:(x == ("__classdict__" : Str))=false:=by decide) (hsw:jv (.Call (.Attribute (.Name x p1) "append" p2) [e] [] p3) none pos.line X.env=pure false:=by rfl)
  (hbase:attributeBase (.Name x p1) "append" X.env (yz (.Name x p1) X.env)=yz (.Name x p1) X.env:=by rfl)
  (hfew:((backTo p3 (yp [e] X.env)).all (λx=>!x.1) && (backToKw p3 (keywordEach [] X.env)).all (λx=>x.1.isSome)
   && decide (([e]:List yj).length+([]:List Keyword).length+(if([]:List Keyword).isEmpty then 0 else 1) < 30))=true:=by rfl)
  (hline:(p2.endLine == p3.line)=true:=by rfl) (hs:yp [e] X.env=(false,yz e X.env)::yp [] X.env:=by rfl) :
  SV X W fl (.Expr (.Call (.Attribute (.Name x p1) "append" p2) [e] [] p3) pos) (dApp i is da):=
 Xh (zfn (pe_bm ycr PySem.F.slot_list_append PySem.F.type_list_append zew (U3 hi hv hd hcd) (Yn he X9 hs) hbase hfew hline hs rfl) hsw) λD σ H ⟨G,P,h,q⟩=>by
  unfold dApp at q;obtain⟨P1,h1,g⟩:=h.frz is;split at q
  ·rename_i ho;obtain⟨xs0,e0⟩:=zdz ho;obtain⟨q1,q2,q3⟩:=zaf q;obtain⟨p,vs,ev,ep,eh,rs⟩:=h.sl i _ e0;refine⟨.ref p,getD_some ev,.inl ⟨rfl,vs,SqL.of eh⟩,?_⟩;refine ZE h1 (λc e H' s=>q1 c e H' P1 (g.trans (.same s))) q2 λt v H1 et s1 h2 r=>?_
   obtain⟨P2,h3,r3,g3⟩:=after h h1 g s1 r;have q4:=q3 t et;unfold ze3 at q4;split at q4
   ·rename_i xs1 e1;split at q4
    ·rename_i hz;obtain⟨p',vs',ev',ep',eh',rs'⟩:=h3.sl i _ e1;rw[ev] at ev';cases ev';have hl:=rs'.length;obtain⟨h4,g4⟩:=h3.upOwn e1 ep' (rs'.append (ZG.mpr ⟨v,[],rfl,r3,Z2.mpr rfl⟩));exact⟨p,vs',v,rfl,rfl,eh',by rw[j9];omega,q4 σ _ P2 (g3.trans g4) h4⟩
    ·exact q4.elim
   ·exact q4.elim
  ·exact q.elim
theorem QD{i:Nat}{x:Str}{is:List Nat}{dk:DE}{k:yj}{p1 p2:Pos}(hi:X.N[i]? = some x)(hk:EV X W k dk)(he:EV X W e da)(hv:Vis X.env.scope x:=by first | exact yg rfl | exact yC (yg rfl) | exact yC (yC rfl))(hd:(x == ("__debug__" : Str))=false:=by decide)
  (hcd:(x == ("__classdict__" : Str))=false:=by decide)
  (ha:∀v,assign (.Subscript (.Name x p1) k p2) X.env v=(do
   let ov <- holding [v] (yz (.Name x p1) X.env)
   let iv <- holding [v,ov] (yz k X.env)
   standAt p2
   holding [v,ov,iv] (setItem ov iv v)
   release [v,ov,iv] []):=by intro _;rfl)
  (hs:swapsWithSole [.Subscript (.Name x p1) k p2] e pos.line X.env=pure false:=by rfl) (hw:swappedStores [.Subscript (.Name x p1) k p2] e X.env=pure none:=by rfl)
  (h1:(j2 [.Subscript (.Name x p1) k p2] X.env).map (·.2)=[assign (.Subscript (.Name x p1) k p2) X.env]:=by rfl) :
  SV X W fl (.Assign [.Subscript (.Name x p1) k p2] e pos) (UF i is dk da):=
 Xh (ps_asg he (pg_sub (U3 hi hv hd hcd) hk set_list ha) hs hw h1) λD σ H ⟨G,P,h,q⟩=>by
  unfold UF at q;obtain⟨P1,h1,g⟩:=h.frz is;obtain⟨q1,q2,q3⟩:=zaf q;refine ZE h1 (λc e H' s=>q1 c e H' P1 (g.trans (.same s))) q2 λt v H1 et s1 h2 r=>?_
  obtain⟨P2,h3,r3,g3⟩:=after h h1 g s1 r;have q4:=q3 t et;generalize (if XS t=true then G else frz is G)=G' at h3 q4
  split at q4
  ·rename_i ho;obtain⟨xs0,e0⟩:=zdz ho;obtain⟨p,vs,ev,ep,eh,rs⟩:=h3.sl i _ e0;refine⟨.ref p,getD_some ev,?_⟩;obtain⟨q5,q6,q7⟩:=zaf q4;refine ZE h2 (λc e H' s=>q5 c e H' P1 ((g.trans (.same s1)).trans (.same s))) q6 λkt kv H2 ek s2 h4 rk=>?_
   have q8:=q7 kt ek;unfold zd9 at q8;rw[e0] at q8;cases kt <;> try exact q8.elim
   rename_i j;simp only at q8;cases em:ixP xs0.length j with
   | none=>rw[em] at q8;exact q8.elim
   | some m=>
    rw[em] at q8;have h5:=h3.same s2;have hl:=rs.length;obtain⟨p',vs',ev',ep',eh',rs'⟩:=h5.sl i _ e0;rw[ev] at ev';cases ev';have hl':=rs'.length;obtain⟨h6,g6⟩:=h5.upOwn e0 ep' (rs'.set m (Rl.go (.same s2) t v r3));refine⟨p,vs',j,m,rfl,ZU.mp rk,eh',by rw[<- hl',<- ixP_eq];exact em,q8 σ _ P2 ((g3.trans (.same s2)).trans g6) h6⟩
  ·exact q4.elim
end
section
variable {X:Cx}{pins:List (yc × Obj)}{σ:L2.St}{H H':Hp}{s:ye}{h':yd}{a T:yc}{cv fl:yb}{n:Option (yc × yb)}
end
section
variable {X:Cx}{cl:Str->yb}{W:Str->Hp->Prop}{pins:List (yc × Obj)}{σ:L2.St}{H H':Hp}{s s':ye}{a:yc}
end
section
variable {P:y6}{w:y3}{K:yh}{mg:Str->Option yb}{base:yd}
end
section
variable {X:Cx}{cl:Str->yb}{W:Str->Hp->Prop}{e:yj}{es:List yj}{d:DA}{pos:Pos}
end
section
variable {X:Cx}{cl:Str->yb}{W:Str->Hp->Prop}{L:yc}{scope:yJ}{N:List Str}
end
section
variable {X:Cx}{pins:List (yc × Obj)}{σ:L2.St}{H H':Hp}{s s':ye}{a:yc}{cv:yb}{n:Option (yc × yb)}{cl:Str->yb}{W:Str->Hp->Prop}{L:yc}
section
variable {Cn:Str}{C':yc}{sub:Str->Bool}{dh:DS}{b₀:ym}{suite:List ym}{np hpos:Pos}{ex:yj}{es:List yj}{k nps:Nat}{x:Str}{f:DF}{d:DA}{p cpos epos pos:Pos}
end
section
variable {Cn n:Str}{i:Nat}{C':yc}{sub:Str->Bool}{dh:DS}{b₀:ym}{suite:List ym}{np hpos:Pos}{ex:yj}{es:List yj}{k nps:Nat}{x:Str}{f:DF}{d:DA}{p cpos epos pos:Pos}
end
end
section
variable {X:Cx}{W:Str->Hp->Prop}{a b c e:yj}{es:List yj}{da db:DE}{pos:Pos}
theorem zc9(n d:Nat)(o:Option Int):sIxT n d o=HT.sIx n d o:=by cases o <;> rfl
theorem zke{K:yh}{H:Hp}{P:Pv}{xs:List ya}{vs:List V}(lo hi:Option Int)(r:Rls K H P xs vs):Rls K H P (cutT xs lo hi) (cutV vs lo hi):=by
 unfold cutT cutV;rw[zc9,zc9,r.length];exact(r.drop _).take _
def PV(X:Cx)(W:Str->Hp->Prop)(e:Option yj)(d:DP):Prop:=PO X e λσ H Q=>∃G P,Hol X.K H P σ G/\match d G with
 | .ok o=>∀H',Same H H'->Q o H'
 | .exc c=>∀H',Same H H'->W c H'
 | .stuck=>False
theorem zah:PV X W none pNo:=λpins s σ H Q I ⟨G,P,h,q⟩=>po_none pins s σ H Q I (q H (Same.refl H))
theorem zai(he:EV X W e da):PV X W (some e) (pAt da):=λpins s σ H Q I ⟨G,P,h,q⟩=>po_some he pins s σ H Q I (by
 unfold pAt at q;refine⟨G,P,h,?_⟩;cases ed:da G with
 | stuck=>rw[ed] at q;exact q.elim
 | exc c=>rw[ed] at q;exact q
 | ok t=>
  rw[ed,Res.bind_ok] at q;cases t <;> try exact q.elim
  exact λv H' s r=>⟨_,ZU.mp r,q H' s⟩)
theorem JJ{lo hi:Option yj}{dl dh:DP}{p2:Pos}(ha:EV X W a da)(hl:PV X W lo dl)(hh:PV X W hi dh):OV X W (.Subscript a (.Slice lo hi none p2) pos) (oCut da dl dh):=
 ZF (zgi sl_list ha hl hh) λσ H Q ⟨G,P,h,q⟩=>by
  unfold oCut at q;obtain⟨q1,q2,q3⟩:=zcR q;refine ZE h q1 q2 λtx x H1 ex s1 h1 rx=>⟨G,P,h1,?_⟩
  have q4:=q3 tx ex;cases el:dl G with
  | stuck=>rw[el] at q4;exact q4.elim
  | exc c=>rw[el] at q4;exact λH' s=>q4 H' (s1.trans s)
  | ok l=>
   rw[el,Res.bind_ok] at q4;refine λH2 s2=>⟨G,P,h1.same s2,?_⟩
   cases eh:dh G with
   | stuck=>rw[eh] at q4;exact q4.elim
   | exc c=>rw[eh] at q4;exact λH' s=>q4 H' ((s1.trans s2).trans s)
   | ok u=>
    rw[eh,Res.bind_ok] at q4;intro H3 s3;cases tx <;> try exact q4.elim
    obtain⟨p,vs,rfl,sl,rs⟩:=Z7.mp (Rl.go (.same (s2.trans s3)) _ x rx);exact⟨p,vs,rfl,sl.sq,λp hp=>q4 p _ _ (((s1.trans s2).trans s3).trans (Zz hp)) (((s1.trans s2).trans s3).free hp) Zt (zaK hp (zke l u rs))⟩
end
end Fx
namespace Fx
open PySem
@[simp] def dRetO (i : Nat) : DS := λG => match G[i]? with
 | some (.own xs)=>.ok (.rt (.list xs))
 | _=>.stuck
@[simp] def asL : ya -> Res (List ya)
 | .list xs=>.ok xs
 | _=>.stuck
@[simp] def oCall (f : DF) (a : DA) : DA := λG => (a G).bind λts => (f ts).bind asL
def dUnp(st:ya->List Sl->Res (List Sl))(is:List Nat)(e:DE):DS:=λG=>(e (frz is G)).bind λt=>(st t (if XS t then G else frz is G)).bind λG'=>.ok (.nx G')
@[simp] theorem dUnp_cons (st : ya -> List Sl -> Res (List Sl)) (i : Nat) (is : List Nat) (e : DE) (G : List Sl) : dUnp st (i :: is) e G = (e (frz (i :: is) G)).bind λt => (st t (if XS t then G else frz (i :: is) G)).bind λG' => .ok (.nx G') := rfl
@[simp] def set2 (i j : Nat) (G : List Sl) : List ya -> Res Out
 | [x,y]=>.ok (.nx ((G.set i (.val x)).set j (.val y)))
 | _=>.stuck
def dPar(i j:Nat)(is:List Nat)(d:DA):DS:=λG=>(d (frz is G)).bind λts=>set2 i j (if VI ts then G else frz is G) ts
@[simp] theorem dPar_cons (i j k : Nat) (is : List Nat) (d : DA) (G : List Sl) : dPar i j (k :: is) d G = (d (frz (k :: is) G)).bind λts => set2 i j (if VI ts then G else frz (k :: is) G) ts := rfl
@[simp] def fMax : ya -> ya -> Res ya
 | .int i,.int j=>.ok (.int (if j > i then j else i))
 | _,_=>.stuck
def lkp(f:Str):List (ya × ya)->Option ya
 | []=>none
 | (.str n,t)::r=>if n=f then some t else lkp f r
 | _=>none
def fFld(f:Str):ya->Res ya
 | .dict kvs=>ofO (lkp f kvs)
 | _=>.stuck
def zipK:List Str->List ya->List (ya × ya)
 | n::ns,t::ts=>(.str n,t)::zipK ns ts
 | _,_=>[]
@[simp] def dMk (ns : List Str) (d : DA) : DE := λG => (d G).bind λxs => if xs.length = ns.length /\ ns ≠ [] then .ok (.dict (zipK ns xs)) else .stuck
@[simp] def oRep (a : DA) (b : DE) : DA := λG => (a G).bind λxs => (b G).bind λy => match y with
 | .int k=>if Vv k=true/\xs.length * k.toNat<=16777216 then .ok (y0 k.toNat xs).flatten else .stuck
 | _=>.stuck
@[simp] def zhu (a : DA) : DA := λG => (a G).bind λxs => if xs.length <= 16777216 then .ok xs else .stuck
def minL(key:ya->Res ya):ya->Int->List ya->Res ya
 | b,_,[]=>.ok b
 | b,m,x::r=>(key x).bind λy=>match y with
  | .int k=>if k < m then minL key x k r else minL key b m r
  | _=>.stuck
def minT(key:ya->Res ya):List ya->Res ya
 | []=>.ok .none
 | x::r=>(key x).bind λy=>match y with
  | .int k=>minL key x k r
  | _=>.stuck
@[simp] def dMinK (cap : List Nat) (da : DE) (de : DE) : DE := λG => (da G).bind λx => match x with
 | .list xs=>minT (λt=>noX (de (.val t::capS cap G))) xs
 | _=>.stuck
@[simp] def zeR (a : DE) (lo hi : DP) : DE := λG => (a G).bind λx => (lo G).bind λl => (hi G).bind λh => match x with
 | .tuple xs=>if sIxT xs.length 0 l=0/\sIxT xs.length xs.length h=xs.length then .stuck else .ok (.tuple (cutT xs l h))
 | _=>.stuck
@[simp] def fAddU : ya -> ya -> Res ya
 | .tuple xs,.tuple ys=>if xs.length+ys.length<=16777216 then .ok (.tuple (xs++ys)) else .stuck
 | _,_=>.stuck
end Fx
namespace Fx
open PySem PySem.Spec PyProof.Rows L2
def PostN(K:yh)(H:Hp)(P:Pv)(t:ya)(Q:VK):Prop:=match t with
 | .list xs=>∀p us H',Same H H'->H p=none->H' p=some (.lst us)->Rls K H' (P.fbd p) xs us->Q (.ref p) H'
 | t=>∀v H',Same H H'->Rl K H' P t v->Q v H'
def spN(K:yh)(cl:Option (Str->yb))(np:Nat)(f:DF):Sp:=λvs H Q E=>vs.length=np/\∃ts P,Rls K H P ts vs/\(∀i,P.own i=none)/\((∀a,P.fb a->∃o,H a=some o/\LD o)/\VE K H) /\
 match f ts with
 | .ok t=>PostN K H P t Q
 | .exc c=>spX E H c cl
 | .stuck=>False
theorem spN_of{K:yh}{cl:Option (Str->yb)}{np:Nat}{f:DF}(vs:List V)(H:Hp)(Q:VK)(E:XK)(h:spF K cl np f vs H Q E):spN K cl np f vs H Q E:=by
 obtain⟨hl,ts,P,rs,ho,hf,q⟩:=h;refine⟨hl,ts,P,rs,ho,hf,?_⟩;cases e:f ts with
 | stuck=>rw[e] at q;exact q
 | exc c=>rw[e] at q;exact q
 | ok t=>
  rw[e] at q;cases t <;> try exact q
  rename_i xs;exact λp us H' s hp hl' r=>q _ H' s (Z7.mpr ⟨p,us,rfl,.off hl' ⟨λi z=>(by rw[ho i] at z;cases z),λz=>by obtain⟨o,q',_⟩:=hf.1 p z;rw[hp] at q';cases q'⟩,Rls.go .fbd xs us r⟩)
theorem fn_new{P:y6}{w:y3}{K:yh}{mg:Str->Option yb}{base:yd}{x qual:Str}{st:ym}{f:yc}{fd:yQ}{N ps:List Str}{k np:Nat}{d:DS}(F:Fun K x qual st f fd)(S:FnScope N ps (Zd st))(hnp:ps.length=np)
  (hb:∀(cdv:yb) (A:yB) (outer:List Env) (s:ye) (H:Hp) (E:XK),Room k (A.deeper (envOfC qual (Zd st) s.heap.objs.size f cdv)) ->
   SVs (cxOf CX0 P w K mg base N qual (Zd st) f cdv A outer s H E).nox (λ_ _=>False) true (Zl st) d):FnOk P w K mg base CX0 (k+1) f fd ps (spN K none np (runQ N.length np d)):=by
 refine F.ok S (λvs H Q E h=>by rw[hnp];exact h.1) λcdv A outer s H vs Q E hr h=>⟨_,hb cdv A outer s H E hr,?_⟩
 obtain⟨hl,ts,P',rs,ho,hf,q⟩:=h;have hlt:ts.length=np:=by rw[rs.length];exact hl
 refine⟨_,P',za1 rs ho hf,?_⟩;unfold runQ runF at q;rw[if_pos hlt] at q;have en:N.length - np=N.length - ts.length:=by rw[hlt]
 rw[en] at q;have sm:∀H' P2,Go H P' H' P2->Same H H':=λH' P2 g=>g.all ho
 cases e:d (ts.map .val++y0 (N.length - ts.length) .emp) with
 | stuck=>rw[e] at q;exact q.elim
 | exc c=>rw[e] at q;exact q.elim
 | ok o=>
  rw[e,Res.bind_ok] at q;cases o with
  | nx G=>exact λσ' H' P2 g h'=>q .non H' (sm H' P2 g) (XC.mpr rfl)
  | rt t=>
   intro v H' P2 g r n;obtain⟨p,us,xs,rfl,rfl,e3,rr,fr⟩:=n rfl;refine q p us H' (sm H' P2 g) ?_ e3 (Rls.go (P:=P2.fbd p) (P':=P'.fbd p) (λb o e _ z=>⟨e,λi w=>(by have w':P'.own i=some b:=w;rw[ho i] at w';cases w'),λw=>z.2 (Or.elim w (λw=>yg (by rw[g.fbe];exact w)) yC)⟩) xs us rr)
   cases eh:H p with
   | none=>rfl
   | some o=>
    by_cases nt:Nt o
    ·obtain⟨i,w⟩:=fr o eh nt;rw[ho i] at w;cases w
    ·obtain⟨ps',rfl⟩:=not_nt nt;obtain⟨qs,w⟩:=g.tbk _ _ eh;rw[e3] at w;cases w
  | bk G=>exact q.elim
  | ct G=>exact q.elim
structure Cln(P:y6)(w:y3)(K:yh)(mg:Str->Option yb)(base:yd)(k:Nat)(x:Str)(np:Nat)(f:DF):Prop where
 ex:∃(fa:yc) (fd:yQ) (ps:List Str),FnOk P w K mg base CX0 k fa fd ps (spN K none np f)/\mg x=some (.ref fa)/\yr K (.ref fa)=true/\ZA K fd ps []
 nox:∀ts c,f ts ≠ .exc c
structure Caln(X:Cx)(W:Str->Hp->Prop)(cl:Option (Str->yb))(k:Nat)(x:Str)(np:Nat)(f:DF):Prop where
 ex:∃(CX:CXT) (fa:yc) (fd:yQ) (ps:List Str),FnOk X.prog X.w X.K X.mg X.base CX k fa fd ps (spN X.K cl np f)/\X.mg x=some (.ref fa)/\yr X.K (.ref fa)=true/\ZA X.K fd ps []/\zbI CX X (EX cl W)
 nox:cl=none->∀ts c,f ts ≠ .exc c
section
variable {P:y6}{w:y3}{K:yh}{mg:Str->Option yb}{base:yd}
theorem Cln.cle{k np:Nat}{x:Str}{f:DF}(C:Cln P w K mg base k x np f):Cle P w K mg base k x np f:=by
 obtain⟨fa,fd,ps,F,r⟩:=C.ex;exact⟨⟨fa,fd,ps,F.imp spN_of,r⟩,C.nox⟩
theorem Cln.mono{j k np:Nat}{x:Str}{f:DF}(C:Cln P w K mg base j x np f)(h:j<=k):Cln P w K mg base k x np f:=by
 obtain⟨fa,fd,ps,F,r⟩:=C.ex;exact⟨⟨fa,fd,ps,F.mono h,r⟩,C.nox⟩
theorem Cln.cal{X:Cx}{W:Str->Hp->Prop}{k np:Nat}{x:Str}{f:DF}(C:Cln X.prog X.w X.K X.mg X.base k x np f):Caln X W none k x np f:=by
 obtain⟨fa,fd,ps,F,hm,hk,hb⟩:=C.ex;exact⟨⟨CX0,fa,fd,ps,F,hm,hk,hb,λ_ _ _ _ _ _ _ h=>h.elim⟩,λ_=>C.nox⟩
theorem cln_of{x:Str}{st:ym}{fa:yc}{fd:yQ}{N ps:List Str}{k n np:Nat}{d:DS}(F:Fun K x x st fa fd)(hm:mg x=some (.ref fa))(b:ZA K fd ps [])(S:FnScope N ps (Zd st))(hnp:ps.length=np)(hN:N.length=n)
  (hb:∀(cdv:yb) (A:yB) (outer:List Env) (s:ye) (H:Hp) (E:XK),Room k (A.deeper (envOfC x (Zd st) s.heap.objs.size fa cdv)) ->
   SVs (cxOf CX0 P w K mg base N x (Zd st) fa cdv A outer s H E).nox (λ_ _=>False) true (Zl st) d):Cln P w K mg base (k+1) x np (runQ n np d):=by
 subst hN;exact⟨⟨fa,fd,ps,fn_new F S hnp hb,hm,F.kp,b⟩,λts c=>zda _ _ _ ts c⟩
end
section
variable {X:Cx}{W:Str->Hp->Prop}{fl:Bool}{a b c e:yj}{es:List yj}{da db:DE}{pos:Pos}
theorem ov_call{cl:Option (Str->yb)}{k np:Nat}{x:Str}{f:DF}{d:DA}{p:Pos}(C:Caln X W cl k x np f)(hr:Room k X.A)(hg:Gl X x)(ha:AV X W (e::es) d)(hL:∀G ts,d G=.ok ts->ts.length=np:=by first | exact zjj | exact zji | exact zjh | exact len_c4)(hdb:(x == ("__debug__" : Str))=false:=by decide)
  (he:yp (e::es) X.env=(false,yz e X.env)::yp es X.env:=by rfl) (hpl:(backTo pos (yp es X.env)).any (·.1)=false:=by rfl):OV X W (.Call (.Name x p) (e::es) [] pos) (oCall f d):=by
 obtain⟨CX,fa,fd,ps,F,hm,hk,hb,hx⟩:=C.ex;refine ZF (ziS (x:=x) (p:=p) F hr hg hm hk hb .nil hx ha (hdb:=hdb) (he:=he) (hpl:=hpl)) λσ H Q ⟨G,P,h,q⟩=>?_
 unfold oCall at q;obtain⟨q1,q2,q3⟩:=zg6 q;refine VH h q1 q2 λts vs H1 es' s1 h1 rs=>?_
 have q4:=q3 ts es';have el:(vs++[])=vs:=jO vs;rw[el];have gg:Tr H1 P H1 ⟨λ_=>none,λa=>¬Off P a⟩:=λa o e1 _ o1=>⟨e1,λ_ z=>(by cases z),λz=>z o1⟩
 refine⟨by rw[<- rs.length];exact hL G ts es',ts,⟨λ_=>none,λa=>¬Off P a⟩,Rls.go gg ts vs rs,λ_=>rfl,⟨λa z=>h1.ld z,h1.tab⟩,?_⟩
 ·cases e:f ts with
  | ok t=>
   rw[e,Res.bind_ok] at q4;cases t <;> try exact q4.elim
   rename_i xs;intro p us H' s hp hl r;refine q4 p us H' (s1.trans s) (s1.free hp) hl (Rls.go (λb o eb _ z=>⟨eb,?_⟩) xs us r)
   have o1:Off P b:=jx λw=>z.2 (.inl w)
   exact⟨o1.1,λw=>w.elim o1.2 λw=>z.2 (.inr w)⟩
  | exc c=>
   rw[e] at q4;cases ec:cl with
   | none=>exact absurd e (C.nox ec ts c)
   | some g=>exact λdx H' s=>⟨c,g,rfl,rfl,q4 H' (s1.trans s)⟩
  | stuck=>rw[e] at q4;exact q4
theorem ss_retO(i:Nat){x:Str}{p:Pos}(hN:X.N[i]? = some x:=by rfl)(hv:Vis X.env.scope x:=by first | exact yg rfl | exact yC (yg rfl) | exact yC (yC rfl))(hd:(x == ("__debug__" : Str))=false:=by decide)
  (hcd:(x == ("__classdict__" : Str))=false:=by decide):SV X W fl (.Return (some (.Name x p)) pos) (dRetO i):=
 Xh (ziL (U3 hN hv hd hcd)) λD σ H ⟨G,P,h,q⟩=>by
  unfold dRetO at q;obtain⟨h',g⟩:=h.frzA;cases e:G[i]? with
  | none=>rw[e] at q;exact q.elim
  | some s=>
   rw[e] at q;cases s with
   | emp=>exact q.elim
   | val t=>exact q.elim
   | dct xs=>exact q.elim
   | own xs=>
    obtain⟨p',vs,e1,e2,e3,r⟩:=h.sl i _ e;have z:(frzA G)[i]? = some (.val (.list xs)):=by rw[VO,e];rfl
    obtain⟨v,e4,r2⟩:=h'.sl i _ z;rw[e1] at e4;cases e4;exact⟨.ref p',getD_some e1,q _ H P.bare g r2 λ_=>⟨p',vs,xs,rfl,rfl,e3,Rls.go (P:=P) (P':=P.bare.fbd p') (λa o ea _ o1=>⟨ea,λj w=>(by cases w),λw=>Or.elim w o1.2 λw=>o1.1 i (by rw[e2,w])⟩) xs vs r,λo _ _=>⟨i,e2⟩⟩⟩
end
section
variable {X:Cx}{W:Str->Hp->Prop}{fl:Bool}{tg a b c e:yj}{es:List yj}{da db dc:DE}{pos:Pos}
theorem tCB2_of{r:List V->Hp->VK->Prop}{f:ya->ya->Res ya}(hf:∀(H:Hp) (P:Pv) (σ:L2.St) (G:List Sl) (x y:V) (tx ty:ya) (Q:VK),Hol X.K H P σ G->Rl X.K H P tx x->Rl X.K H P ty y->Xg X.K W H P (f tx ty) Q->r [x,y] H Q){σ:L2.St}{H:Hp}{Q:VK}(h:tF X.K W (d2 f da db) σ H Q) :
  tCB r (zh6 (tF X.K W da) (zh6 (tF X.K W db) tNil)) σ H Q:=by
 obtain⟨G,P,h,q⟩:=h;unfold d2 at q;obtain⟨q1,q2,q3⟩:=VV q;refine ZE h q1 q2 λtx x H1 ex s1 h1 rx=>?_
 obtain⟨q4,q5,q6⟩:=VV (q3 tx ex);refine ZE h1 (λc e H' s=>q4 c e H' (s1.trans s)) q5 λty y H2 ey s2 h2 ry=>?_
 exact hf H2 P σ G x y tx ty Q h2 (Rl.go (.same s2) tx x rx) ry ((q6 ty ey).up (s1.trans s2))
theorem ev_max{p:Pos}(hg:Gl X "max")(hm:X.mg "max" = none)(ha:EV X W a da)(hb:EV X W b db)(hc:X.calm=true:=by rfl)(hs:yp [a,b] X.env=(false,yz a X.env)::yp [b] X.env:=by rfl)(hs2:yp [b] X.env=(false,yz b X.env)::yp [] X.env:=by rfl)
  (hpl:(backTo pos (yp [b] X.env)).any (·.1)=false:=by rfl):EV X W (.Call (.Name "max" p) [a,b] [] pos) (d2 fMax da db):=
 ZF (QL (zkl hc) hg hm (show yK "max" = some (.builtin "max") by decide +kernel) (Yn ha (Yn hb X9 hs2) hs) (he:=hs) (hpl:=hpl)) λσ H Q h=>tCB2_of (λH P σ G x y tx ty Q h rx ry q=>by
  cases tx <;> cases ty <;> try exact q.elim
  exact⟨_,_,by rw[ZU.mp rx,ZU.mp ry],XE q⟩) h
end
end Fx
namespace Lw
open PySem Fx
def V3:DS:=
  (dRet (dC (.bool true)))
def V4:DS:=
  dSeq (dFor (Zu 2) [] (iSeq (dVar 0))
  (dIf (tNot (tV (Zi Ye (Zc (dVar 2) dNil))))
  (dRet (dC (.bool false)))
  ZD))
  V3
def Qa:DS:=
  dSeq (dIf (tOr (tNot (tV (d1 (fIs isList) (dVar 0)))) (tV (d2 fNe (d1 fLen (dVar 0)) (dVar 1))))
  (dRet (dC (.bool false)))
  ZD)
  V4
def Xm:DF:=runQ 3 2 Qa
def Wt:DS:=
  (dRet (dC (.bool true)))
def Qy:DS:=
  dSeq (dFor (Zu 2) [] (iSeq (dVar 0))
  (dIf (tV (Zi ZW (Zc (dTup (Zc (d2 fIx (dVar 2) (dC (.int 1))) (Zc (dC (.int 1)) dNil))) (Zc (Zi Yp (Zc (d2 fIx (dVar 2) (dC (.int 0))) (Zc (dVar 1) dNil))) dNil))))
  (dRet (dC (.bool false)))
  ZD))
  Wt
def YC:DF:=runQ 3 2 Qy
theorem zfJ{ps:List Rat}{k:Nat}(h:ps.length=k):Xm [.list (ps.map fr),.int k]=.ok (.bool true):=by
 obtain⟨G',e,hG⟩:=VP (st:=Zu 2) (b:=(dIf (tNot (tV (Zi Ye (Zc (dVar 2) dNil)))) (dRet (dC (.bool false))) ZD))
  (λ_ G=>∃s,G=[.val (.list (ps.map fr)),.val (.int k),s]) (ps.map fr) 0 [.val (.list (ps.map fr)),.val (.int k),.emp] ⟨.emp,rfl⟩ λi x G hx ⟨s,hG⟩=>by
   subst hG;rw[jc] at hx;cases hz:ps[i]? with
   | none=>rw[hz] at hx;cases hx
   | some q=>
    rw[hz] at hx;cases hx;exact⟨_,rfl,[.val (.list (ps.map fr)),.val (.int k),.val (fr q)],.inl (by simp[isfr_ok]),⟨_,rfl⟩⟩
 obtain⟨s,rfl⟩:=hG;simp[Xm,runQ,runF,Qa,V4,V3,fNe,h,e]
theorem keeps_ok{m n k:Nat}{ls:List Lim}{ps:List Rat}(h:∀l ∈ ls,WP m n l.1 ps)(hs:∀l ∈ ls,l.2.natAbs < 2 ^ m)(hb:wSz m n ps.length+m+n < 8000)(hl:ps.length < 1000)(hk:∀l ∈ ls,dot l.1 ps<=(l.2:Rat)) :
  YC [.list (ls.map limL),.list (ps.map fr)]=.ok (.bool true):=by
 obtain⟨G',e,hG⟩:=VP (st:=Zu 2) (b:=(dIf (tV (Zi ZW (Zc (dTup (Zc (d2 fIx (dVar 2) (dC (.int 1))) (Zc (dC (.int 1)) dNil))) (Zc (Zi Yp (Zc (d2 fIx (dVar 2) (dC (.int 0))) (Zc (dVar 1) dNil))) dNil)))) (dRet (dC (.bool false))) ZD))
  (λ_ G=>∃s,G=[.val (.list (ls.map limL)),.val (.list (ps.map fr)),s]) (ls.map limL) 0 [.val (.list (ls.map limL)),.val (.list (ps.map fr)),.emp] ⟨.emp,rfl⟩ λi x G hx ⟨s,hG⟩=>by
   subst hG;rw[jc] at hx;cases hz:ls[i]? with
   | none=>rw[hz] at hx;cases hx
   | some l=>
    rw[hz] at hx;cases hx;have hm:=yav hz;have w:=zcT (.inl rfl) (h l hm) hb hl;have s1:=(h l hm).sz ps.length (yq _);have e1:dot (l.1.take ps.length) (ps.take ps.length)=dot l.1 ps:=by rw[jp,<- (h l hm).len,jp]
    rw[e1] at s1;have b:=Ud (Sz.ofInt (hs l hm) (h l hm).m1) s1 (by omega)
    have nb:¬((l.2:Rat) < dot l.1 ps):=jM.mpr (hk l hm);exact⟨_,rfl,[.val (.list (ls.map limL)),.val (.list (ps.map fr)),.val (limL l)],.inl (by simp[limL,at0,at1,w,Uf,b,nb]),⟨_,rfl⟩⟩
 obtain⟨s,rfl⟩:=hG;simp[YC,runQ,runF,Qy,Wt,e]
def colN(j:Nat)(l:Lim):Int:=l.1.getD j 0
def WM(ls:List Lim)(ss:List Rat):Rat:=dot (ls.map (·.2)) ss
theorem zel{α:Type}(f:Nat->α)(k j:Nat)(v:α):((yF k).map f).set j v=(yF k).map λi=>if i=j then v else f i:=by
 apply yb4
 ·simp
 ·intro n h1 h2;simp at h1 h2 ⊢;rw[List.getElem_set];by_cases e:j=n
  ·subst e;simp
  ·simp[e,Ne.symm e]
section
variable {m n k:Nat}{ls:List Lim}{ss:List Rat}
end
end Lw
namespace Fx
open PySem PySem.Spec PyProof.Rows L2
section
variable {K:yh}{H H':Hp}{P P':Pv}
theorem ziD{C:yc}{f:Str}{t:ya}:∀{kvs:List (ya × ya)}{fs:List (Str × V)},Rlp K H P C kvs fs->lkp f kvs=some t->∃v,fs.lookup f=some v/\Vb K C f/\Rl K H P t v
 | [],fs,_,e=>by simp[lkp] at e
 | (k,u)::r,fs,h,e=>by
  obtain⟨n,v,r',rfl,rfl,na,rv,rr⟩:=zgb.mp h;simp only[lkp] at e;split at e
  ·rename_i z;cases e;subst z;exact⟨v,by rw[qK,beq_self_eq_true],na,rv⟩
  ·rename_i z;obtain⟨v',e1,e2,e3⟩:=ziD rr e;refine⟨v',?_,e2,e3⟩;rw[qK,show(f == n)=false from beq_eq_false_iff_ne.mpr λq=>z q.symm]
   exact e1
theorem ziB{C:yc}:∀{ns:List Str}{ts:List ya}{vs:List V},(∀n ∈ ns,Vb K C n)->Rls K H P ts vs->Rlp K H P C (zipK ns ts) (ns.zip vs)
 | [],ts,vs,_,_=>by simp only[zipK,List.zip_nil_left];exact ziC.mpr rfl
 | n::ns,[],vs,_,r=>by rw[Z2.mp r];simp only[zipK,List.zip_nil_right];exact ziC.mpr rfl
 | n::ns,t::ts,vs,h,r=>by
  obtain⟨v,r',rfl,a,b⟩:=ZG.mp r;simp only[zipK,List.zip_cons_cons];exact zgb.mpr ⟨n,v,_,rfl,rfl,h n (by simp),a,ziB (λm hm=>h m (by simp[hm])) b⟩
end
def spI(C:yc)(ns:List Str):Sp:=λvs H Q _=>∃x dx us,vs=.ref x::us/\us.length=ns.length/\H x=some (.ins C dx [])/\Q .non (upd H x (.ins C dx (ns.zip us)))
theorem spI_len{C:yc}{ns:List Str}{vs:List V}{H:Hp}{Q:VK}{E:XK}(h:spI C ns vs H Q E):vs.length=ns.length+1:=by
 obtain⟨x,dx,us,rfl,hl,_⟩:=h;simp[hl]
theorem spI3{C:yc}{n1 n2 n3:Str}{vs:List V}{H:Hp}{Q:VK}{E:XK}(h:spI C [n1,n2,n3] vs H Q E):∃x dx u1 u2 u3,vs=[.ref x,u1,u2,u3]/\H x=some (.ins C dx [])/\Q .non (upd H x (.ins C dx [(n1,u1),(n2,u2),(n3,u3)])):=by
 obtain⟨x,dx,us,rfl,hl,hx,q⟩:=h
 match us,hl with
 | [u1,u2,u3],_=>exact⟨x,dx,u1,u2,u3,rfl,hx,q⟩
theorem putF3{n1 n2 n3:Str}{u1 u2 u3:V}(h12:¬n1=n2)(h13:¬n1=n3)(h23:¬n2=n3):putF n3 u3 (putF n2 u2 (putF n1 u1 []))=[(n1,u1),(n2,u2),(n3,u3)]:=by
 show putF n3 u3 (putF n2 u2 [(n1,u1)])=_;show putF n3 u3 (if n1=n2 then _ else(n1,u1)::[(n2,u2)])=_
 rw[if_neg h12];show(if n1=n3 then _ else(n1,u1)::(if n2=n3 then _ else(n2,u2)::[(n3,u3)]))=_
 rw[if_neg h13,if_neg h23]
structure Mko(P:y6)(w:y3)(K:yh)(mg:Str->Option yb)(base:yd)(k:Nat)(x:Str)(ns:List Str):Prop where
 ex:∃(C f:yc) (fd:yQ) (ps:List Str),L2.Mk K C f/\FnOk P w K mg base CX0 k f fd ps (spI C ns)/\mg x=some (.ref C)/\ZA K fd ps []/\Cls K C/\∀n ∈ ns,Vb K C n
theorem Mko.mono{P:y6}{w:y3}{K:yh}{mg:Str->Option yb}{base:yd}{j k:Nat}{x:Str}{ns:List Str}(M:Mko P w K mg base j x ns)(h:j<=k):Mko P w K mg base k x ns:=by
 obtain⟨C,f,fd,ps,m,F,r⟩:=M.ex;exact⟨C,f,fd,ps,m,F.mono h,r⟩
section
variable {X:Cx}{W:Str->Hp->Prop}{fl:Bool}{a b c e:yj}{es:List yj}{da db:DE}{pos:Pos}
theorem Ym{f:Str}(ha:EV X W a da)(hb:attributeBase a f X.env (yz a X.env)=yz a X.env:=by rfl):EV X W (.Attribute a f pos) (d1 (fFld f) da):=
 ZF (pe_fld ha hb) λσ H Q ⟨G,P,h,q⟩=>by
  unfold d1 at q;obtain⟨q1,q2,q3⟩:=VV q;refine ZE h q1 q2 λtx x H1 ex s1 h1 rx=>?_
  have q4:=Xg.up (q3 tx ex) s1;cases tx <;> try exact q4.elim
  rename_i kvs;cases kvs with
  | nil=>exact q4.elim
  | cons y ys=>
   obtain⟨k,w⟩:=y;cases k <;> try exact(show False from q4).elim
   rename_i sk;obtain⟨a,C,dx,fs,rfl,ha,off,cl,r⟩:=rl_obj.mp rx;simp only[fFld] at q4;cases el:lkp f ((.str sk,w)::ys) with
   | none=>rw[el] at q4;exact q4.elim
   | some t=>
    rw[el] at q4;obtain⟨v,hv,na,rv⟩:=ziD r el;exact⟨a,C,dx,fs,v,rfl,ha,cl,na,hv,q4 v H1 (Same.refl _) rv⟩
theorem zjL{k:Nat}{x:Str}{ns:List Str}{d:DA}{p:Pos}(M:Mko X.prog X.w X.K X.mg X.base k x ns)(hr:Room (k+1) X.A)(hg:Gl X x)(ha:AV X W (e::es) d)(hdb:(x == ("__debug__" : Str))=false:=by decide)
  (he:yp (e::es) X.env=(false,yz e X.env)::yp es X.env:=by rfl) (hpl:(backTo pos (yp es X.env)).any (·.1)=false:=by rfl):EV X W (.Call (.Name x p) (e::es) [] pos) (dMk ns d):=by
 obtain⟨C,f,fd,ps,m,F,hm,hb,cl,na⟩:=M.ex;refine ZF (pe_make (x:=x) (p:=p) (E:=E0) m F hr hg hm hb .nil pass0 ha (hdb:=hdb) (he:=he) (hpl:=hpl)) λσ H Q ⟨G,P,h,q⟩=>?_
 unfold dMk at q;obtain⟨q1,q2,q3⟩:=zg7 q;refine VH h q1 q2 λts vs H1 es' s1 h1 rs=>?_
 have q4:=Xg.up (q3 ts es') s1;split at q4
 ·rename_i hl;intro x dx hx hdx hne;have sm:Same H1 (upd (upd (upd H1 dx (.own x)) x (.ins C dx [])) x (.ins C dx (ns.zip vs))):=.of λb o e=>by
   rw[Zr (ZH e hx),Zr (ZH e hx),Zr (ZH e hdx)];exact e
  refine⟨x,dx,vs++[],rfl,by rw[jO,<- rs.length];exact hl.1,Zt,rfl,?_⟩
  rw[jO];refine q4 _ _ sm ?_;obtain⟨hl,hn⟩:=hl;have rz:=ziB (K:=X.K) (C:=C) (ns:=ns) na (Rls.go (.same sm) ts vs rs);cases ns with
  | nil=>exact absurd rfl hn
  | cons n ns=>
   cases ts with
   | nil=>simp at hl
   | cons t ts=>exact rl_obj.mpr ⟨x,C,dx,_,rfl,Zt,h1.off_new hx,cl,rz⟩
 ·exact q4.elim
theorem zgH{K:yh}{H:Hp}{P:Pv}{ts:List ya}{vs:List V}(r:Rls K H P ts vs):∀n:Nat,Rls K H P (y0 n ts).flatten (y0 n vs).flatten
 | 0=>Z2.mpr rfl
 | n+1=>by
  rw[jU,qr,jU,qr];exact r.append (zgH r n)
theorem ziW{dl:DA}(ha:OV X W a dl)(hb:EV X W b db):OV X W (.BinOp a .Mult b pos) (oRep dl db):=
 ZF (pe_op op_rep ha hb) λσ H Q ⟨G,P,h,q⟩=>by
  unfold oRep at q;obtain⟨q1,q2,q3⟩:=zg6 q;refine⟨G,P,h,?_⟩;cases el:dl G with
  | stuck=>exact absurd el q2
  | exc c=>exact λH' s=>q1 c el H' s
  | ok xs=>
   intro p vs H1 s1 hp hl rl;obtain⟨q4,q5,q6⟩:=zcR (q3 xs el);refine ZE (h.same s1) (λc e H' s=>q4 c e H' (s1.trans s)) q5 λty y H2 ey s2 h2 ry=>?_
   have q7:=q6 ty ey;cases ty <;> try exact q7.elim
   rename_i k;simp only at q7;split at q7
   ·rename_i hz;have hb1:=UQ hz.1;have el2:=rl.length;refine⟨p,k,vs,rfl,ZU.mp ry,s2.kp _ _ hl JK,by omega,by omega,by rw[j9,<- el2];exact hz.2,λp2 hp2=>?_⟩
    refine q7 p2 _ _ ((s1.trans s2).trans (Zz hp2)) ((s1.trans s2).free hp2) Zt ?_;exact zaK hp2 (zgH (Rls.go (P:=P.fbd p) (P':=P) .fbd _ _ (Rls.go (.same s2) _ _ rl)) k.toNat)
   ·exact q7.elim
theorem zh1:∀{xs:List V}{us:List yb},xs.length=us.length->(∀(i:Nat) x u,xs[i]? = some x->us[i]? = some u->RelV x u)->Vals xs us
 | [],[],_,_=>.nil
 | [],u::us,h,_=>by simp at h
 | x::xs,[],h,_=>by simp at h
 | x::xs,u::us,h,r=>.cons (r 0 x u rfl rfl) (zh1 (by simpa using h) λi y v e1 e2=>r (i+1) y v (by simpa using e1) (by simpa using e2))
theorem Jb(hc:X.calm=true):zbJ X (.type "list") (λxs H Q=>∃r lo hi,xs=[.ref r]/\H r=some (.rng lo hi)/\-(2 ^ 62)<=lo/\lo < 2 ^ 62/\-(2 ^ 62)<=hi/\hi < 2 ^ 62/\(hi - lo).toNat<=16777216 /\
  ∀l,H l=none->Q (.ref l) (upd H l (.lst ((yF (hi - lo).toNat).map λ(i:Nat)=>V.int (lo+(i:Int)))))):=by
 intro pins s σ H xs us Q I r h;obtain⟨p,lo,hi,rfl,hp,h1,h2,h3,h4,hz,q⟩:=h;obtain⟨u,rfl,rx⟩:=zd1 r;cases rx;obtain⟨t,u,v,e⟩:=(show ∃t u v,s.heap.get? p=some { cls:=.type "range",data:=.fields #[.int lo t,.int hi u,.int 1 v] } from I.hok p _ hp);refine call_list_range (n:=(hi - lo).toNat) (I.ok.hd hc) (show IsRange s.heap p lo hi 1 t u v from e) (small_one h1 h2 h3 h4) (by rw[rangeSize_one];split <;> omega) hz λh' tk acc c' kp ea it=>?_
 have rv:Vals ((yF (hi - lo).toNat).map λ(i:Nat)=>V.int (lo+(i:Int))) acc.toList:=by
  refine zh1 (by rw[jm,List.length_range,yab,it.1]) λi x u e1 e2=>?_
  rw[jc] at e1;cases ei:(yF (hi - lo).toNat)[i]? with
  | none=>rw[ei] at e1;cases e1
  | some j=>
   rw[ei] at e1;obtain⟨hj,ej⟩:=jb.mp ei;rw[ybu] at ej;subst ej;cases e1;obtain⟨t,rfl⟩:=it.2 i u (by simpa using e2)
   exact⟨t,by rw[qh]⟩
 refine⟨.ref s.heap.objs.size,_,I.laid (t':=tk) kp (yq _) (show X3 X.prog X.w _ h' _ (.lst _) from⟨by rw[jm,List.length_range,j9];exact hz,acc.toList,c',rv,by simpa using ea⟩),rfl,q _ (I.hok.fresh (yq _))⟩
theorem zg5:zbJ X (.type "range") (λxs H Q=>(∃j,xs=[.int j]/\∀r,H r=none->Q (.ref r) (upd H r (.rng 0 j)))\/(∃i j,xs=[.int i,.int j]/\∀r,H r=none->Q (.ref r) (upd H r (.rng i j)))):=by
 intro pins s σ H xs us Q I r h;rcases h with ⟨j,rfl,q⟩ | ⟨i,j,rfl,q⟩
 ·obtain⟨u,rfl,t,rfl⟩:=zd1 r;refine call_range_1 ⟨.ref s.heap.objs.size,_,I.laid (λb o e=>yA _ e) (yq _) (show X3 X.prog X.w _ _ _ (.rng 0 j) from⟨_,_,_,yN _ rfl⟩),rfl,q _ (I.hok.fresh (yq _))⟩
 ·cases r with
  | cons r1 rr=>
   cases rr with
   | cons r2 rr=>
    cases rr;obtain⟨t,rfl⟩:=r1;obtain⟨t',rfl⟩:=r2;refine call_range_2 ⟨.ref s.heap.objs.size,_,I.laid (λb o e=>yA _ e) (yq _) (show X3 X.prog X.w _ _ _ (.rng i j) from⟨_,_,_,yN _ rfl⟩),rfl,q _ (I.hok.fresh (yq _))⟩
theorem zf8{K:yh}{H:Hp}{P:Pv}(lo:Int)(n:Nat):Rls K H P (rngT lo n) ((yF n).map λ(i:Nat)=>V.int (lo+(i:Int))):=by
 unfold rngT;have:∀l:List Nat,Rls K H P (l.map λ(k:Nat)=>.int (lo+(k:Int))) (l.map λ(i:Nat)=>V.int (lo+(i:Int))):=by
  intro l
  induction l with
  | nil=>exact Z2.mpr rfl
  | cons x l ih=>exact ZG.mpr ⟨_,_,rfl,ZU.mpr rfl,ih⟩
 exact this _
theorem ov_rng1{p p2 pos2:Pos}(hg:Gl X "list")(hm:X.mg "list" = none)(hg2:Gl X "range")(hm2:X.mg "range" = none)(ha:EV X W a da)(hc:X.calm=true:=by rfl)(hs:yp [a] X.env=(false,yz a X.env)::yp [] X.env:=by rfl)
  (hs2:yp [.Call (.Name "range" p2) [a] [] pos2] X.env=(false,yz (.Call (.Name "range" p2) [a] [] pos2) X.env)::yp [] X.env:=by rfl):OV X W (.Call (.Name "list" p) [.Call (.Name "range" p2) [a] [] pos2] [] pos) (zhu (iRng da)):=
 ZF (Vw (Jb hc) hg hm (show yK "list" = some (.type "list") by decide +kernel) (Yn (Vw zg5 hg2 hm2 boot_range (Yn ha X9 hs) (he:=hs)) X9 hs2) (he:=hs2)) λσ H Q ⟨G,P,h,q⟩=>by
  unfold zhu iRng at q;obtain⟨q1,q2,q3⟩:=zcR (show zfW X.K W H P ((da G).bind λx=>((match x with
   | .int j=>if Vv j=true then .ok (rngT 0 j.toNat) else .stuck
   | _=>.stuck:Res (List ya)).bind λxs=>if xs.length<=16777216 then .ok xs else .stuck)) Q by
    cases e:da G <;> rw[e] at q <;> exact q)
  refine ZE h q1 q2 λtx x H1 ex s1 h1 rx=>?_
  have q4:=q3 tx ex;cases tx <;> try exact q4.elim
  rename_i j;simp only at q4;split at q4
  ·rename_i hj;rw[Res.bind_ok] at q4;split at q4
   ·rename_i hz;have hb:=UQ hj;have hl:(rngT 0 j.toNat).length=j.toNat:=by simp[rngT]
    refine .inl ⟨j,by rw[ZU.mp rx],λr hr=>⟨r,0,j,rfl,Zt,by omega,by omega,by omega,by omega,by rw[qS,<- hl];exact hz,λl hl'=>?_⟩⟩
    have s2:Same H (upd H1 r (.rng 0 j)):=s1.trans (Zz hr);rw[qS];exact q4 l _ _ (s2.trans (Zz hl')) (s2.free hl') Zt (zf8 0 j.toNat)
   ·exact q4.elim
  ·exact q4.elim
theorem ov_rng2{p p2 pos2:Pos}(hg:Gl X "list")(hm:X.mg "list" = none)(hg2:Gl X "range")(hm2:X.mg "range" = none)(ha:EV X W a da)(hb:EV X W b db)(hc:X.calm=true:=by rfl)(hs:yp [a,b] X.env=(false,yz a X.env)::yp [b] X.env:=by rfl)
  (hs3:yp [b] X.env=(false,yz b X.env)::yp [] X.env:=by rfl) (hpl:(backTo pos2 (yp [b] X.env)).any (·.1)=false:=by rfl)
  (hs2:yp [.Call (.Name "range" p2) [a,b] [] pos2] X.env=(false,yz (.Call (.Name "range" p2) [a,b] [] pos2) X.env)::yp [] X.env:=by rfl):OV X W (.Call (.Name "list" p) [.Call (.Name "range" p2) [a,b] [] pos2] [] pos) (zhu (iRng2 da db)):=
 ZF (Vw (Jb hc) hg hm (show yK "list" = some (.type "list") by decide +kernel) (Yn (Vw zg5 hg2 hm2 boot_range (Yn ha (Yn hb X9 hs3) hs) (he:=hs) (hpl:=hpl)) X9 hs2) (he:=hs2)) λσ H Q ⟨G,P,h,q⟩=>by
  unfold zhu iRng2 at q;obtain⟨q1,q2,q3⟩:=zcR (show zfW X.K W H P ((da G).bind λx=>(db G).bind λy=>((match x,y with
   | .int i,.int j=>if Vv i=true/\Vv j=true then .ok (rngT i (j - i).toNat) else .stuck
   | _,_=>.stuck:Res (List ya)).bind λxs=>if xs.length<=16777216 then .ok xs else .stuck)) Q by
    cases e:da G <;> rw[e] at q <;> cases e2:db G <;> rw[e2] at q <;> exact q)
  refine ZE h q1 q2 λtx x H1 ex s1 h1 rx=>?_
  obtain⟨q4,q5,q6⟩:=zcR (q3 tx ex);refine ZE h1 (λc e H' s=>q4 c e H' (s1.trans s)) q5 λty y H2 ey s2 h2 ry=>?_
  have q7:=q6 ty ey;cases tx <;> cases ty <;> try exact q7.elim
  rename_i i j;simp only at q7;split at q7
  ·rename_i hj;rw[Res.bind_ok] at q7;split at q7
   ·rename_i hz;have hb1:=UQ hj.1;have hb2:=UQ hj.2;have hl:(rngT i (j - i).toNat).length=(j - i).toNat:=by simp[rngT]
    refine .inr ⟨i,j,by rw[ZU.mp rx,ZU.mp ry],λr hr=>⟨r,i,j,rfl,Zt,by omega,by omega,by omega,by omega,by rw[<- hl];exact hz,λl hl'=>?_⟩⟩
    have s3:Same H (upd H2 r (.rng i j)):=(s1.trans s2).trans (Zz hr);exact q7 l _ _ (s3.trans (Zz hl')) (s3.free hl') Zt (zf8 i (j - i).toNat)
   ·exact q7.elim
  ·exact q7.elim
theorem ev_notN{j pos'}(ha:EV X W a da):EV X W (.Compare a [.IsNot] [.Constant .none j pos'] pos) (d1 JA da):=
 ZF (pe_cmp (ziT ha)) λσ H Q ⟨G,P,h,q⟩=>by
  unfold d1 at q;obtain⟨q1,q2,q3⟩:=VV q;refine ZE h q1 q2 λtx x H1 ex s1 h1 rx=>?_
  have q4:=Xg.up (q3 tx ex) s1;cases tx with
  | none=>rw[XC.mp rx];exact ZB q4
  | bool b=>rw[YQ.mp rx];exact ZB q4
  | int b=>rw[ZU.mp rx];exact ZB q4
  | str b=>rw[QJ.mp rx];exact ZB q4
  | list b=>obtain⟨l,us,rfl,_⟩:=Z7.mp rx;exact ZB q4
  | tuple b=>obtain⟨l,us,rfl,_⟩:=ZN.mp rx;exact ZB q4
  | dict b=>rcases Jq.mp rx with ⟨_,l,rfl,_⟩ | ⟨_,l,_,_,_,rfl,_⟩ | ⟨l,_,_,rfl,_⟩ <;> exact ZB q4
theorem isN_b(t:ya):∃k,fIsN t=.ok (.bool k):=by cases t <;> exact⟨_,rfl⟩
theorem notN_b(t:ya):∃k,JA t=.ok (.bool k):=by cases t <;> exact⟨_,rfl⟩
theorem tv_of1{f:ya->Res ya}(hf:∀t,∃k,f t=.ok (.bool k)){σ:L2.St}{H:Hp}{Q:Bool->Hp->Prop}(h:tFT X.K W (tV (d1 f da)) σ H Q):tF X.K W (d1 f da) σ H λx H1=>∃c,x=.bl c/\Q c H1:=by
 obtain⟨G,P,h,q⟩:=h;refine⟨G,P,h,?_⟩;unfold tV at q;cases e:d1 f da G with
 | stuck=>rw[e] at q;exact q
 | exc c=>rw[e] at q;exact q
 | ok t=>
  rw[e] at q;have hb:∃k,t=.bool k:=by
   unfold d1 at e;cases e1:da G with
   | stuck=>rw[e1] at e;cases e
   | exc c=>rw[e1] at e;cases e
   | ok tx=>
    rw[e1,Res.bind_ok] at e;obtain⟨k,e3⟩:=hf tx;rw[e3] at e;cases e;exact⟨k,rfl⟩
  obtain⟨k,rfl⟩:=hb;exact λv H' s r=>⟨k,YQ.mp r,q H' s⟩
theorem zb6{j pos'}(ha:EV X W a da):TV X W (.Compare a [.Is] [.Constant .none j pos'] pos) (tV (d1 fIsN da)):=by
 intro pins s σ H Q I h;refine ziI (t:=tF X.K W (d1 fIsN da)) (λpins s σ H Q I h=>?_) (by first | exact zaq _ (by decide) (by decide) | rfl) pins s σ H Q I (tv_of1 isN_b h)
 exact pc_isN ha pins s σ H Q I (by
  obtain⟨G,P,h,q⟩:=h;unfold d1 at q;obtain⟨q1,q2,q3⟩:=VV q;refine ZE h q1 q2 λtx x H1 ex s1 h1 rx=>?_
  have q4:=Xg.up (q3 tx ex) s1;cases tx with
  | none=>rw[XC.mp rx];exact ZB q4
  | bool b=>rw[YQ.mp rx];exact ZB q4
  | int b=>rw[ZU.mp rx];exact ZB q4
  | str b=>rw[QJ.mp rx];exact ZB q4
  | list b=>obtain⟨l,us,rfl,_⟩:=Z7.mp rx;exact ZB q4
  | tuple b=>obtain⟨l,us,rfl,_⟩:=ZN.mp rx;exact ZB q4
  | dict b=>rcases Jq.mp rx with ⟨_,l,rfl,_⟩ | ⟨_,l,_,_,_,rfl,_⟩ | ⟨l,_,_,rfl,_⟩ <;> exact ZB q4)
theorem zcX{j pos'}(ha:EV X W a da):TV X W (.Compare a [.IsNot] [.Constant .none j pos'] pos) (tV (d1 JA da)):=by
 intro pins s σ H Q I h;refine ziI (t:=tF X.K W (d1 JA da)) (λpins s σ H Q I h=>?_) (by first | exact zaq _ (by decide) (by decide) | rfl) pins s σ H Q I (tv_of1 notN_b h)
 exact ziT ha pins s σ H Q I (by
  obtain⟨G,P,h,q⟩:=h;unfold d1 at q;obtain⟨q1,q2,q3⟩:=VV q;refine ZE h q1 q2 λtx x H1 ex s1 h1 rx=>?_
  have q4:=Xg.up (q3 tx ex) s1;cases tx with
  | none=>rw[XC.mp rx];exact ZB q4
  | bool b=>rw[YQ.mp rx];exact ZB q4
  | int b=>rw[ZU.mp rx];exact ZB q4
  | str b=>rw[QJ.mp rx];exact ZB q4
  | list b=>obtain⟨l,us,rfl,_⟩:=Z7.mp rx;exact ZB q4
  | tuple b=>obtain⟨l,us,rfl,_⟩:=ZN.mp rx;exact ZB q4
  | dict b=>rcases Jq.mp rx with ⟨_,l,rfl,_⟩ | ⟨_,l,_,_,_,rfl,_⟩ | ⟨l,_,_,rfl,_⟩ <;> exact ZB q4)
end
abbrev zgp(qual:Str)(scope:yJ)(L f:yc)(cd:yb)(cl:List (Str × yc)):Env:=
 { scope:=scope,locals:=L,globals:=yn,cells:=cl,qual:=qual ++ ".<locals>.",func:=some f,code:=cd,frame:=some L,builtins:=builtinsNs }
def cxL(X:Cx)(qual:Str)(scope:yJ)(N:List Str)(s₀:ye)(H₀:Hp)(f:yc)(cd:yb):Cx:=
 { X with env:=zgp qual scope s₀.heap.objs.size f cd (Z5 X.env scope.names []),A:=X.A.deeper (zgp qual scope s₀.heap.objs.size f cd (Z5 X.env scope.names [])),N:=N,s₀:=s₀,H₀:=H₀,outer:=X.stack,stack:=zgp qual scope s₀.heap.objs.size f cd (Z5 X.env scope.names [])::X.stack,ex:=[],fn:=λ_=>false,pn:=[],xe:=λ_ _=>False }
structure LamOk(X:Cx)(scope:yJ)(N:List Str)(y:Str)(cap:List Nat):Prop where
 cell:∀z ∈ scope.names,z.2 ≠ .cell
 kind:scope.kind=.function
 co:scope.isCoroutine=false
 gen:scope.isGenerator=false
 par:scope.names.lookup y=some .local
 free:∀z ∈ scope.names,z.2=.free->X.env.kindOf z.1=some .cell\/X.env.kindOf z.1=some .free
 head:N[0]? = some y
 len:N.length=1+cap.length
 caps:∀(i j:Nat) (x:Str),cap[i]? = some j->N[1+i]? = some x->X.N[j]? = some x/\(scope.names.lookup x=some .cell\/scope.names.lookup x=some .free)/\(X.env.kindOf x=some .cell\/X.env.kindOf x=some .free)
def lamS(cap:List Nat)(σ:L2.St)(v:V):L2.St:=some v::cap.map λj=>σ.getD j none
section
variable {X:Cx}{qual:Str}{scope:yJ}{N:List Str}{y:Str}{cap:List Nat}{pins:List (yc × Obj)}{σ:L2.St}{H:Hp}{s:ye}{f:yc}{cd:yb}
theorem LamOk.has(C:LamOk X scope N y cap)(ok:X.Ok):∀z ∈ scope.names,z.2=.free->∃c,X.env.cells.lookup z.1=some c:=λz hz e=>ok.has z.1 (C.free z hz e)
theorem zjm(C:LamOk X scope N y cap)(I:Inv X pins σ H s){h':yd}{t:Nat}{v:V}{u:yb}(rv:RelV v u)(hn:h'.Ns s.heap.objs.size (λx=>[(y,u)].reverse.lookup x))(hk:∀b o,s.heap.get? b=some o->h'.get? b=some o) :
  Inv (cxL X qual scope N s H f cd) [] (lamS cap σ v) H { s with heap:=h',toks:=t }:=by
 have hh:=C.has I.ok;have sub:=U1 X.env scope.names [] hh (λx c e=>by cases e)
 refine⟨⟨I.ok.mod,C.kind,rfl,rfl,yq _,λx z c h1 h2=>I.ok.inj x z c (sub x c h1) (sub z c h2),λx hx=>?_,λx c h=>?_,I.ok.hd,yB.frames_deeper I.ok.frames,.inr ⟨rfl,rfl⟩,λb hb=>?_,λb o e=>I.bs b o e,yE I.ok.bsz I.sz,λb o e hb=>?_,λb hb=>?_,I.stack,I.stkFree⟩,
  rfl,I.bare,Un.kept hk,⟨_,hn,λi x w e1 e2 e3=>?_⟩,λx c e=>?_,I.hok.fresh (yq _),λx c e=>I.freeC x c (sub x c e),λp hp=>?_,I.hok.kept hk,?_⟩
 ·have hx':scope.names.lookup x=some .cell\/scope.names.lookup x=some .free:=hx;rcases hx' with hx' | hx'
  ·exact absurd rfl (C.cell _ (Yo hx'))
  ·obtain⟨c,hc⟩:=VD X.env scope.names [] x (.inr (Yo hx'));exact Xk hc
 ·cases h
 ·exact absurd (show b ∈ ([]:List yc) from hb) (by simp)
 ·exact absurd (show b ∈ ([]:List yc) from hb) (by simp)
 ·exact absurd (show b ∈ ([]:List yc) from hb) (by simp)
 ·-- the names
  cases i with
  | zero=>
   have e2':some (some v)=some (some w):=e2;cases e2';have e1':N[0]? = some x:=e1;rw[C.head] at e1';cases e1';refine⟨u,rv,.inl ⟨C.par,?_⟩⟩;show qi y [(y,u)]=some u;rw[qK,beq_self_eq_true]
  | succ k=>
   have e2':(cap.map λj=>σ.getD j none)[k]? = some (some w):=by simpa[lamS] using e2
   rw[jc] at e2';cases ec:cap[k]? with
   | none=>rw[ec] at e2';cases e2'
   | some j=>
    rw[ec] at e2';have e3':σ.getD j none=some w:=by simpa using e2'
    obtain⟨c1,c2,c3⟩:=C.caps k j x ec (by rw[qz];exact e1)
    obtain⟨m0,_,hl⟩:=I.loc;have vis:Vis X.env.scope x:=c3.elim (λz=>.inr (.inl z)) λz=>.inr (.inr z)
    obtain⟨u',ru,lk⟩:=hl j x w c1 (getD_some e3') vis;refine⟨u',ru,.inr ⟨c2,?_⟩⟩;rcases lk with ⟨z,_⟩ | ⟨_,c,ec',o,ho,hd⟩
    ·rcases c3 with c3 | c3 <;> (rw[c3] at z;cases z)
    ·have fm:(x,yZ.free) ∈ scope.names:=by
      rcases c2 with q | q
      ·exact absurd rfl (C.cell _ (Yo q))
      ·exact Yo q
     obtain⟨c',hc'⟩:=VD X.env scope.names [] x (.inr fm);obtain⟨c'',hc''⟩:=Xk hc';have:=sub x c'' hc'';rw[ec'] at this;cases this;exact⟨c,hc'',o,hk c o ho,hd⟩
 ·obtain⟨v,o,ho,hd⟩:=I.cell x c (sub x c e);exact⟨v,o,hk c o ho,hd⟩
 ·exact absurd (show p ∈ ([]:List (yc × Obj)) from hp) (by simp)
 ·show(lamS cap σ v).length=N.length;rw[C.len];simp[lamS,qz]
def LO(f:yc)(fd:yQ):HO:=.ext λh=>h.get? f=some { cls:=.type "function",data:=.func fd }
theorem lam_call{k:Nat}{params:Arguments}{body:yj}{pm ctv:yb}{c':yc}{v:V}{u:yb}{t:TE}{Q:VK}(C:LamOk X scope N y cap)(hr:Room (k+1) X.A)(I:Inv X pins σ H s)(rv:RelV v u)
  (hf:H f=some (LO f (jC "<lambda>" qual params body scope (Z5 X.env scope.names []) pm (.ref c') ctv))) (hc:H c'=some (CO c' qual)) (hb:bindArgs (jC "<lambda>" qual params body scope (Z5 X.env scope.names []) pm (.ref c') ctv) ⟨[u],[]⟩=pure [(y,u)])
  (he:PE (cxL X qual scope N s H f (.ref c')) body t) (hq:t (lamS cap σ v) H Q):yi (yk X.prog X.w) X.A (call (.ref f) [u]) (EP X pins σ Q) (λ_ _=>False) s:=by
 obtain⟨ho,_,_⟩:=(show(s.heap.get? f=some _/\_/\_) from I.hok f _ hf);obtain⟨⟨oc,vs,tq,h1,h2,h3⟩,_,_⟩:=(show((∃oc vs t,s.heap.get? c'=some oc/\oc.data=.fields vs/\vs[1]? = some (.str qual t))/\_/\_) from I.hok c' _ hc);refine wpAny_call (PySem.W.kla_callFunE hr.depth ho rfl C.co C.gen rfl ⟨c',oc,vs,tq,rfl,h1,h2,h3⟩ ?_);rw[hb];refine yt (wpAny_newFunctionEnv C.cell (λz hz=>?_) (λh₁ hns hsb=>?_) C.kind)
 ·have:z=(y,u):=by simpa using hz
  subst this;exact C.par
 have hk₁:∀b o,s.heap.get? b=some o->h₁.get? b=some o:=λb o e=>hsb.extBut b o (yW (yG e)) (yA _ e)
 refine⟨I.nolimit.keeps hk₁,?_⟩;show codeAny _ _ (.expr body (zgp qual scope s.heap.objs.size f (.ref c') (Z5 X.env scope.names []))) _ _;have J:Inv (cxL X qual scope N s H f (.ref c')) [] (lamS cap σ v) H { s with heap:=h₁,toks:=s.toks + [(y,u)].length }:=zjm C I rv hns hk₁
 refine PySem.W.kla_codeExpr (yO (he [] _ _ _ Q J hq) (λr s' h=>?_) λ_ _ z=>z.elim)
 obtain⟨v',H',J',rv',q⟩:=h;exact I.after ⟨v',H',J'.os,J'.bare,J'.base,J'.hok,rv',q⟩
def zdY(mg:Str->Option yb)(base:yd):Prop:=∃bm ob,mg "__builtins__" = some (.ref bm)/\bm ≠ builtinsNs/\bm ≠ yn/\base.get? bm=some ob/\ob.cls=.type "module" /\ ob.dict=some builtinsNs/\ob.data=.plain
structure LamAt(X:Cx)(x:Str)(c T:yc):Prop where
 tab:j3 X.K x=some (c,T)
 nm:x ∈ W7
 code:X.env.code=.ref c
 qual:X.env.qual ++ "<lambda>" = lamQ x
 hd:∀h:yd,X.K.In h->jR h c T
 blt:zdY X.mg X.base
theorem zhU{pos:Pos}{a b:Int}{c:yb}:∀(l:List yb),TriplesOk l->∀cv,codeAmong pos (l++[rawInt a,rawInt b,c])=some cv->codeAmong pos l=some cv\/cv=c:=by
 intro l
 fun_induction TriplesOk l with
 | case1=>
  intro _ cv h;simp only[qL,codeAmong,rawInt] at h;split at h
  ·cases h;exact .inr rfl
  ·cases h
 | case2 x1 x2 x3 x4 x5 rest ih=>
  intro h cv e;simp only[ya4,codeAmong] at e ⊢;split at e
  ·rename_i q;rw[if_pos q];exact .inl e
  ·rename_i q;rw[if_neg q];exact ih h cv e
 | case3=>intro h;exact h.elim
theorem zjn{x x':Str}(h:x ∈ W7)(h':x' ∈ W7):x=x':=by
 unfold W7 at h h';rw[qd.mp h,qd.mp h']
def tLam(X:Cx)(x:Str)(params:Arguments)(body:yj)(scope:yJ):TE:=λσ H Q=>VE X.K H/\∀f c' ctv H',Same H H'->H f=none ->
 H' f=some (LO f (jC "<lambda>" (lamQ x) params body scope (Z5 X.env scope.names []) ((X.mg "__name__").getD .none) (.ref c') ctv))->H' c'=some (CO c' (lamQ x))->Q (.ref f) H'
theorem pe_lam{x:Str}{c T:yc}{params:Arguments}{body:yj}{lpos:Pos}(L:LamAt X x c T)(C:LamOk X scope N y cap)(hdef:defaultsOf params X.env=([],[])):PE X (.Lambda params body scope lpos) (tLam X x params body scope):=by
 intro pins s σ H Q I h;obtain⟨tb,q⟩:=h;obtain⟨ps,hT,tr,good⟩:=tb x c T L.nm L.tab;have hP:s.heap.get? T=some (ycd ps):=I.hok T _ hT;have hgs:s.heap.Ns yn X.mg:=I.ok.mod.glob.keeps I.bk;have hgP:yn ≠ T:=λe=>by
  obtain⟨o,es,ep,e1,hd,_⟩:=hgs;rw[e,hP] at e1;cases e1;cases hd
 have hbA:s.heap.BuiltinsAt X.mg T:=by
  obtain⟨bm,ob,b1,b2,b3,b4,b5,b6,b7⟩:=L.blt;have e:=I.bk _ _ b4;exact⟨bm,ob,b1,b2,b3,λz=>(by rw[z,hP] at e;cases e;cases b5),e,b5,b6,b7⟩
 have hcl:=Ja (scope:=scope) (env:=X.env) (C.has I.ok);refine PySem.W.kla_eval hdef ?_;rw[L.qual];cases ha:codeAmong lpos ps.toList with
 | none=>
  refine PySem.W.kla_makeFunction (mg:=X.mg) hcl I.ok.glob hgs L.code (L.hd _ I.kIn) hP tr ha hgP hbA λc' ctv h' tk hx hge hlt hrec htb=>?_
  have hcn:H c'=none:=I.hok.fresh hge;have hsz:s.heap.objs.size<=h'.objs.size:=yE hge (jD hlt);have hfn:H h'.objs.size=none:=I.hok.fresh hsz;have hfc:h'.objs.size ≠ c':=yal hlt;have hTc:T ≠ c':=ZH hT hcn;have hTf:T ≠ h'.objs.size:=ZH hT hfn;obtain⟨c₂,oc,vs,t,e2,hoc,hdd,hvv⟩:=hrec;cases e2;generalize hmore:(#[rawInt ↑lpos.line,rawInt ↑lpos.col,yb.ref c']:Array yb)=more at htb;generalize hob:PySem.W.kla_obj "<lambda>" (lamQ x) params body scope (Z5 X.env scope.names []) ((X.mg "__name__").getD .none) c' ctv=ob;have kp:∀b o,b ≠ T->s.heap.get? b=some o->(h'.push ob).get? b=some o:=λb o hb e=>yA _ (hx b o hb e)
  have u1:∀b o,H b=some o->b ≠ T->upd (upd (upd H T (.tbl (ps++more))) c' (CO c' (lamQ x))) h'.objs.size (LO h'.objs.size (jC "<lambda>" (lamQ x) params body scope (Z5 X.env scope.names []) ((X.mg "__name__").getD .none) (.ref c') ctv)) b=some o:=λb o e hb=>by
   rw[Zr (ZH e hfn),Zr (ZH e hcn),Zr hb];exact e
  have uT:upd (upd (upd H T (.tbl (ps++more))) c' (CO c' (lamQ x))) h'.objs.size (LO h'.objs.size (jC "<lambda>" (lamQ x) params body scope (Z5 X.env scope.names []) ((X.mg "__name__").getD .none) (.ref c') ctv)) T=some (.tbl (ps++more)):=by
   rw[Zr hTf,Zr hTc,Zt]
  have uC:upd (upd (upd H T (.tbl (ps++more))) c' (CO c' (lamQ x))) h'.objs.size (LO h'.objs.size (jC "<lambda>" (lamQ x) params body scope (Z5 X.env scope.names []) ((X.mg "__name__").getD .none) (.ref c') ctv)) c'=some (CO c' (lamQ x)):=by
   rw[Zr (Ne.symm hfc),Zt]
  have sm:Same H (upd (upd (upd H T (.tbl (ps++more))) c' (CO c' (lamQ x))) h'.objs.size (LO h'.objs.size (jC "<lambda>" (lamQ x) params body scope (Z5 X.env scope.names []) ((X.mg "__name__").getD .none) (.ref c') ctv))):=by
   refine⟨λb o e n=>u1 b o e λz=>?_,λ{b} w=>?_,λK' tb' x' c0 T0 hx' ht'=>?_,λb qs e=>?_⟩
   ·rw[z,hT] at e;cases e;exact n _ rfl
   ·cases e:H b with
    | none=>rfl
    | some o=>
     by_cases z:b=T
     ·rw[z,uT] at w;cases w
     ·rw[u1 b o e z] at w;cases w
   ·obtain⟨ps0,h0,tr0,g0⟩:=tb' x' c0 T0 hx' ht';have lift:∀c1,H c1=some (CO c1 (lamQ x'))->upd (upd (upd H T (.tbl (ps++more))) c' (CO c' (lamQ x))) h'.objs.size (LO h'.objs.size (jC "<lambda>" (lamQ x) params body scope (Z5 X.env scope.names []) ((X.mg "__name__").getD .none) (.ref c') ctv)) c1=some (CO c1 (lamQ x')):=λc1 e=>u1 c1 _ e λz=>by rw[z,hT] at e;cases e
    by_cases z:T0=T
    ·subst z;rw[hT] at h0;cases h0;refine⟨ps++more,uT,by rw[<- hmore,Array.toList_append];exact TriplesOk_snoc _ _ _ _ tr0,λpos cv hc=>?_⟩
     rw[<- hmore,Array.toList_append] at hc;rcases zhU _ tr0 cv hc with w | w
     ·obtain⟨c1,e1,e2⟩:=g0 pos cv w;exact⟨c1,e1,lift c1 e2⟩
     ·exact⟨c',w,by rw[zjn hx' L.nm];exact uC⟩
    ·refine⟨ps0,u1 _ _ h0 z,tr0,λpos cv hc=>?_⟩
     obtain⟨c1,e1,e2⟩:=g0 pos cv hc;exact⟨c1,e1,lift c1 e2⟩
   ·by_cases z:b=T
    ·subst z;exact⟨_,uT⟩
    ·exact⟨qs,u1 b _ e z⟩
  refine⟨.ref h'.objs.size,_,I.un (t':=tk) (H':=upd (upd (upd H T (.tbl (ps++more))) c' (CO c' (lamQ x))) h'.objs.size (LO h'.objs.size (jC "<lambda>" (lamQ x) params body scope (Z5 X.env scope.names []) ((X.mg "__name__").getD .none) (.ref c') ctv))) ⟨λb o e n _ _=>kp b o (λz=>by rw[z,hT] at n;cases n) e,λb o e n _ _=>⟨o.slots,kp b o (λz=>by rw[z,hT] at n;cases n) e⟩,λb o e n _=>?_,λb o e _=>?_,λb xs e=>u1 b _ e (λz=>by rw[z,hT] at e;cases e),λb o u e=>u1 b _ e (λz=>by rw[z,hT] at e;cases e),λb qs e=>?_⟩ (λb o e=>?_),rfl,q h'.objs.size c' ctv _ sm hfn Zt uC⟩
  ·have lt:=yG e;rw[Zr (yW (yU lt hsz)),Zr (yW (yU lt hge)),Zr (λz=>by rw[z,hT] at n;cases n)]
   exact n
  ·by_cases z:b=T
   ·subst z;exact⟨_,yA _ htb⟩
   ·exact⟨o,kp b o z e⟩
  ·by_cases z:b=T
   ·subst z;rw[hT] at e;cases e;exact⟨more,uT⟩
   ·exact⟨#[],by rw[u1 b _ e z];simp⟩
  ·by_cases z1:b=h'.objs.size
   ·subst z1;rw[Zt] at e;cases e;subst hob;exact⟨yN _ rfl,⟨_,yN _ rfl⟩,λh1 h2 w k=>k _ w⟩
   ·rw[Zr z1] at e;by_cases z2:b=c'
    ·subst z2;rw[Zt] at e;cases e;refine⟨⟨oc,vs,t,yA _ hoc,hdd,hvv⟩,⟨_,yA _ hoc⟩,λh1 h2 ⟨oc',vs',t',w1,w2,w3⟩ k=>⟨oc',vs',t',k _ w1,w2,w3⟩⟩
    ·rw[Zr z2] at e;by_cases z3:b=T
     ·subst z3;rw[Zt] at e;cases e;exact yA _ htb
     ·rw[Zr z3] at e;refine(I.hok b o e).stay (λb' u hb' w=>kp b' u (λz=>?_) w) (λb' w=>u1 b' _ w λz=>by rw[z,hT] at w;cases w) λb' xs w=>u1 b' _ w λz=>by rw[z,hT] at w;cases w
      rcases hb' with w1 | w1
      ·exact z3 (w1.symm.trans z)
      ·rw[z,hT] at w1;cases w1
 | some cv=>
  obtain⟨c',rfl,hc'⟩:=good lpos cv ha;refine PySem.W.kla_makeFunctionHit (mg:=X.mg) hcl I.ok.glob hgs L.code (L.hd _ I.kIn) hP tr ha hbA λctv h' tk hk hsz=>?_
  have hfn:H h'.objs.size=none:=I.hok.fresh hsz;refine⟨.ref h'.objs.size,_,I.laid (t':=tk) (a:=h'.objs.size) (o:=LO h'.objs.size (jC "<lambda>" (lamQ x) params body scope (Z5 X.env scope.names []) ((X.mg "__name__").getD .none) (.ref c') ctv)) (λb o e=>yA _ (hk b o e)) hsz ⟨yN _ rfl,⟨_,yN _ rfl⟩,λh1 h2 w k=>k _ w⟩,rfl,q _ c' ctv _ (Zz hfn) hfn Zt ?_⟩
  rw[Zr (ZH hc' hfn)];exact hc'
end
abbrev Cx.i1(X:Cx):Cx:={ X with A:=X.A.in1,xe:=λ_ _=>False }
section
variable {X:Cx}{pins:List (yc × Obj)}{σ:L2.St}{H:Hp}{s:ye}
theorem Inv.toi1(I:Inv X pins σ H s):Inv (Cx.i1 X) pins σ H s:=
 ⟨⟨I.ok.mod,I.ok.kind,I.ok.glob,I.ok.blt,I.ok.above,I.ok.inj,I.ok.has,I.ok.cab,I.ok.hd,I.ok.frames,I.ok.stk,I.ok.exf,I.ok.bs,I.ok.bsz,I.ok.noex,I.ok.exfs,I.ok.funs,I.ok.frf⟩,I.os,I.bare,I.base,I.loc,I.cell,I.free,I.freeC,I.pin,I.hok,I.len⟩
theorem Inv.ofi1(hX:X.Ok)(I:Inv (Cx.i1 X) pins σ H s):Inv X pins σ H s:=
 ⟨hX,I.os,I.bare,I.base,I.loc,I.cell,I.free,I.freeC,I.pin,I.hok,I.len⟩
def Mine(X:Cx)(pins:List (yc × Obj))(b:yc):Prop:=b ≠ X.env.locals/\b ∉ X.fs/\(b ∈ X.ex\/X.s₀.heap.objs.size<=b)/\(∀x c,X.env.cells.lookup x=some c->c ≠ b)/\∀p ∈ X.pn++pins,p.1 ≠ b
theorem Mine.of{b:yc}(f:FpOk X pins H b):Mine X pins b:=⟨f.2.1,f.2.2.1,f.2.2.2.1,f.2.2.2.2.1,f.2.2.2.2.2⟩
theorem Inv.turn1{t':Nat}{it:yc}{h':yd}(I:Inv X pins σ H s)(m:Mine X pins it)(hn:H it=none)(k:∀b o,b ≠ it->s.heap.get? b=some o->h'.get? b=some o):Inv X pins σ H { s with heap:=h',toks:=t' }:=
 I.turned k hn m.1 m.2.2.1 m.2.2.2.1 m.2.2.2.2
theorem Inv.pin2{a b:yc}{oa ob:Obj}(I:Inv X pins σ H s)(ma:Mine X pins a)(mb:Mine X pins b)(ha:H a=none)(hb:H b=none)(ea:s.heap.get? a=some oa)(eb:s.heap.get? b=some ob)(da:∀v,oa.data ≠ .cell v)(db:∀v,ob.data ≠ .cell v):Inv X (pins++[(a,oa),(b,ob)]) σ H s:=
 I.pins_of λp hp=>by
  rcases ju.mp hp with hp | hp
  ·exact I.pin p (yT _ hp)
  ·rcases yI.mp hp with rfl | hp
   ·exact⟨ea,ha,ma.1,ma.2.1,da⟩
   ·rw[qd.mp hp];exact⟨eb,hb,mb.1,mb.2.1,db⟩
theorem zdf{h:yd}{a:yc}{its:Array yb}(p:PlainL h a its):h.IsList a its:=p.isList
theorem min_args(a v d:yb):argsOk "min" ⟨[a],[(Str.ofString "key",v),(Str.ofString "default",d)]⟩:=by unfold argsOk;kernel_rfl
variable {xs:List V}{kf:Nat->Int}{H0:Hp}{l I S q:yc}{R:Result->ye->Prop}
theorem min_loop(hh:X.A.handled=none)(hlI:l ≠ I)(hSI:S ≠ I)(mS:Mine X pins S)(mI:Mine X pins I)(hl:∀H',Same H0 H'->SqL X.K H' l xs)
  (turn:∀(i:Nat) v u pins' s H',xs[i]? = some v->RelV v u->Inv X pins' σ H' s->Same H0 H'->yi (yk X.prog X.w) X.A.in1 (call (.ref q) [u]) (λr s'=>∃t H'',r=.int (kf i) t/\Inv X pins' σ H'' s'/\Same H0 H'') (λ_ _=>False) s)
  (fin:∀(i:Nat) v u s' H',xs[i]? = some v->RelV v u->(∀j,j < xs.length->kf i<=kf j/\(j < i->kf i < kf j))->Inv X pins σ H' s'->Same H0 H'->R (.ok (.ret u)) s') :
  ∀(r j i:Nat) (s:ye) (H:Hp) (vb:yb) (v0:V) (tb:Tok) (c:Nat) (oI:Obj),xs.length - (j+1)=r->j+1<=xs.length->Inv X (pins++[(S,seqObj "list" #[vb,.int (kf i) tb] c),(I,oI)]) σ H s->Same H0 H->s.heap.IsListIter I l (j+1)->xs[i]? = some v0->RelV v0 vb->i<=j ->
   (∀j',j'<=j->kf i<=kf j'/\(j' < i->kf i < kf j')) ->
   codeAny (yk X.prog X.w) X.A (.builtin "min.loop" ⟨[.ref I,.ref q,.ref S],[(Str.ofString "default",.none)]⟩) R s:=by
 have hname:(toString "min" ++ toString ".loop" : String) = "min.loop":=by decide
 intro r
 induction r with
 | zero=>
  intro j i s H vb v0 tb c oI hr hj J sm hit hvb hrb hij hbest;have hin:j+1=xs.length:=by omega
  obtain⟨eS,nS,_⟩:=J.pin (S,seqObj "list" #[vb,.int (kf i) tb] c) (yT _ (yT _ (.head _)));obtain⟨eI,nI,_⟩:=J.pin (I,oI) (yT _ (yT _ (.tail _ (.head _))));obtain⟨its,rv,pl,hz⟩:=J.list (hl H sm);have hlen:=rv.length;have W:=Walks.list (prog:=X.prog) (w:=X.w) (A:=X.A.in1) hh I l hlI its.toArray;have hsz:its.toArray.size=its.length:=yL ..;have J0:Inv X pins σ H s:=J.unpinned;refine codeAny_builtin ybl ?_;rw[yB.under_plainId qm _];show yi _ X.A.in1 (seqItems? (.ref S) >>= _) _ _ _;refine yf (jI eS rfl ?_);show yi _ X.A.in1 (tryCatch (pyNext (.ref I)) _ >>= _) _ _ _;refine yf (qp (W.done _ _ _ ⟨by rw[hsz,<- hlen,<- hin];exact hit,zdf pl⟩ λh' tk' hk'=>?_))
  have J1:Inv X pins σ H { s with heap:=h',toks:=tk' }:=Fx.Inv.turn1 J0 mI nI λb o hb e=>hk' b o (by simpa using hb) e
  have hS':=hk' S _ (by simpa using hSI) eS
  have s1:=yd.SameBut.update h' S (jE λ_=>(#[]:Array yb))
  show yi _ X.A.in1 (updateSeq S (λ_=>#[]) >>= _) _ _ _
  refine yf ?_;refine wpAny_updateSeq hS' rfl (yf (wpAny_letGo (yt ?_)));exact fin i v0 vb _ H hvb hrb (λj' hj'=>hbest j' (by omega)) (Fx.Inv.turn1 J1 mS nS λb o hb e=>(s1.2 b hb).trans e) sm
 | succ r ih=>
  intro j i s H vb v0 tb c oI hr hj J sm hit hvb hrb hij hbest;have hlt:j+1 < xs.length:=by omega
  obtain⟨eS,nS,_⟩:=J.pin (S,seqObj "list" #[vb,.int (kf i) tb] c) (yT _ (yT _ (.head _)));obtain⟨eI,nI,_⟩:=J.pin (I,oI) (yT _ (yT _ (.tail _ (.head _))));obtain⟨its,rv,pl,hz⟩:=J.list (hl H sm);have hlen:=rv.length;have W:=Walks.list (prog:=X.prog) (w:=X.w) (A:=X.A.in1) hh I l hlI its.toArray;have hsz:its.toArray.size=its.length:=yL ..;have J0:Inv X pins σ H s:=J.unpinned;refine codeAny_builtin ybl ?_;rw[yB.under_plainId qm _];show yi _ X.A.in1 (seqItems? (.ref S) >>= _) _ _ _;refine yf (jI eS rfl ?_);show yi _ X.A.in1 (tryCatch (pyNext (.ref I)) _ >>= _) _ _ _;refine yf (qp (W.item (j+1) _ _ _ (by rw[hsz,<- hlen];exact hlt) ⟨hit,zdf pl⟩ λu h' tk' hP hst' hk'=>?_))
  have hu:its[j+1]? = some u:=by simpa using hP
  obtain⟨oI',hoI',hoc,hod⟩:=id hst'.1;have J1:Inv X pins σ H { s with heap:=h',toks:=tk' }:=Fx.Inv.turn1 J0 mI nI λb o hb e=>hk' b o (by simpa using hb) e
  have hS':=hk' S _ (by simpa using hSI) eS
  have J2:Inv X (pins++[(S,seqObj "list" #[vb,.int (kf i) tb] c),(I,oI')]) σ H { s with heap:=h',toks:=tk' }:=Fx.Inv.pin2 J1 mS mI nS nI hS' hoI' (λv z=>by cases z) (λv z=>by rw[hod] at z;cases z)
  obtain⟨v1,hv1⟩:∃v1,xs[j+1]? = some v1:=⟨_,j7 hlt⟩;obtain⟨u',hu',ru⟩:=rv.get hv1;rw[hu] at hu';cases hu';show yi _ X.A.in1 (tryCatch (holding [u] (call (.ref q) [u])) _ >>= _) _ _ _;refine yf (qp (jT (yO (turn (j+1) v1 u _ _ H hv1 ru J2 sm) (λx s'' he=>?_) λ_ _ hF=>hF.elim)))
  obtain⟨t2,H2,rfl,J3,sm2⟩:=he;obtain⟨eS2,nS2,_⟩:=J3.pin (S,seqObj "list" #[vb,.int (kf i) tb] c) (yT _ (yT _ (.head _)));obtain⟨eI2,nI2,_⟩:=J3.pin (I,oI') (yT _ (yT _ (.tail _ (.head _))));have hit2:s''.heap.IsListIter I l (j+1+1):=⟨oI',eI2,hoc,hod⟩;show yi _ X.A.in1 (tryCatch (holding [u,.int (kf (j+1)) t2] (richCompare .Lt (.int (kf (j+1)) t2) (.int (kf i) tb) >>= _)) _ >>= _) _ _ _;refine yf (qp (jT (yf (CmpOf.ints_lt (prog:=X.prog) (w:=X.w) (A:=X.A.in1) (P:=λi v=>∃t,v=.int (kf i) t) kf (λi v h=>h) (j+1) i _ _ _ _ _ ⟨t2,rfl⟩ ⟨tb,rfl⟩ ?_))))
  refine yf (jT (qa ?_));refine yf (wpAny_letGo (yt ?_));by_cases hb':kf (j+1) < kf i
  ·have s1:=yd.SameBut.update s''.heap S (jE λ_=>#[u,.int (kf (j+1)) t2])
   obtain⟨c2,hc2⟩:∃c2,(s''.heap.update S (jE λ_=>#[u,.int (kf (j+1)) t2])).get? S=some (seqObj "list" #[u,.int (kf (j+1)) t2] c2):=⟨_,get?_update_seq eS2 λ_=>#[u,.int (kf (j+1)) t2]⟩
   simp only[hb',decide_true,if_true];refine yf ?_;refine wpAny_updateSeq eS2 rfl (yf (wpAny_letGo ?_));rw[hname];have J4:Inv X pins σ H2 { s'' with heap:=s''.heap.update S (jE λ_=>#[u,.int (kf (j+1)) t2]) }:=Fx.Inv.turn1 (t':=s''.toks) J3.unpinned mS nS2 λb o hb e=>(s1.2 b hb).trans e
   refine yt ⟨plainId_quiet qm _,ih (j+1) (j+1) _ H2 u v1 t2 c2 oI' (by omega) hlt (Fx.Inv.pin2 J4 mS mI nS2 nI2 hc2 ((s1.2 I hSI.symm).trans eI2) (λv z=>by cases z) (λv z=>by rw[hod] at z;cases z)) sm2 ⟨oI',(s1.2 I hSI.symm).trans eI2,hoc,hod⟩ hv1 ru (yq _) λj' hj'=>?_⟩
   by_cases e:j'=j+1
   ·subst e;exact⟨by omega,λ_=>by omega⟩
   ·have hb1:=hbest j' (by omega)
    have hb2:=hb1.1;exact⟨by omega,λ_=>by omega⟩
  ·simp only[hb',decide_false,yac,if_false];refine yf (wpAny_letGo ?_);rw[hname];refine yt ⟨plainId_quiet qm _,ih (j+1) i _ H2 vb v0 tb c oI' (by omega) hlt J3 sm2 hit2 hvb hrb (by omega) λj' hj'=>?_⟩
   by_cases e:j'=j+1
   ·subst e;exact⟨by omega,λ_=>by omega⟩
   ·exact hbest j' (by omega)
theorem zkk{Q:yb->ye->Prop}{E:yb->ye->Prop}(hh:X.A.handled=none)(J:Inv X pins σ H s)(hl:∀H',Same H H'->SqL X.K H' l xs)
  (turn:∀(i:Nat) v u pins' s H',xs[i]? = some v->RelV v u->Inv X pins' σ H' s->Same H H'->yi (yk X.prog X.w) X.A.in1 (call (.ref q) [u]) (λr s'=>∃t H'',r=.int (kf i) t/\Inv X pins' σ H'' s'/\Same H H'') (λ_ _=>False) s)
  (fin0:xs=[]->∀s' H',Inv X pins σ H' s'->Same H H'->Q .none s')
  (fin:∀(i:Nat) v u s' H',xs[i]? = some v->RelV v u->(∀j,j < xs.length->kf i<=kf j/\(j < i->kf i < kf j))->Inv X pins σ H' s'->Same H H'->Q u s') :
  yi (yk X.prog X.w) X.A (call (.builtin "min") [.ref l] [(Str.ofString "key",.ref q),(Str.ofString "default",.none)]) Q E s:=by
 have hname:(toString "min" ++ toString ".loop" : String) = "min.loop":=by decide
 obtain⟨its,rv,pl,hz⟩:=J.list (hl H (Same.refl H));have hls:=zdf pl;have hlen:=rv.length;obtain⟨ol,hol,_⟩:=id hls;have hll:l < s.heap.objs.size:=yG hol;refine kmk_tree PySem.F.kind_min PySem.F.plain_min PySem.F.entry_min (min_args _ _ _) ?_;show yi _ X.A.in1 (y9.Builtins.bindParams "min" ["key","default"] 0 ⟨[],[(Str.ofString "key",.ref q),(Str.ofString "default",.none)]⟩ >>= _) _ _ s;refine yf (wpAny_of_eq (show y9.Builtins.bindParams "min" ["key","default"] 0 ⟨[],[(Str.ofString "key",.ref q),(Str.ofString "default",.none)]⟩=pure [some (.ref q),some .none] from rfl) ?_);refine yf (yt ?_);refine yf (wpAny_pyIter_list hls ?_);refine yf (wpAny_newList ?_ (jZ _));rw[hname];have hS:(s.heap.push { cls:=.type "list_iterator",data:=.fields #[.ref l,.int 0 0] }).objs.size=s.heap.objs.size+1:=size_push' ..;have hlI:l ≠ s.heap.objs.size:=yW hll
 have hSI:(s.heap.push { cls:=.type "list_iterator",data:=.fields #[.ref l,.int 0 0] }).objs.size ≠ s.heap.objs.size:=by rw[hS];exact yal (yae _)
 have nI:H s.heap.objs.size=none:=J.hok.fresh (yq _);have nS:H (s.heap.push { cls:=.type "list_iterator",data:=.fields #[.ref l,.int 0 0] }).objs.size=none:=J.hok.fresh (by rw[hS];exact yao _)
 have mI:Mine X pins s.heap.objs.size:=.of (J.fpOk (yq _) nI);have mS:Mine X pins (s.heap.push { cls:=.type "list_iterator",data:=.fields #[.ref l,.int 0 0] }).objs.size:=.of (J.fpOk (by rw[hS];exact yao _) nS)
 refine yt ⟨plainId_quiet qm _,?_⟩;have kpH:∀b o,s.heap.get? b=some o->((s.heap.push { cls:=.type "list_iterator",data:=.fields #[.ref l,.int 0 0] }).push (seqObj "list" #[] 0)).get? b=some o:=λb o e=>yA _ (yA _ e)
 have gI:((s.heap.push { cls:=.type "list_iterator",data:=.fields #[.ref l,.int 0 0] }).push (seqObj "list" #[] 0)).get? s.heap.objs.size=some { cls:=.type "list_iterator",data:=.fields #[.ref l,.int 0 0] }:=
  yA _ (yN _ rfl)
 have gS:((s.heap.push { cls:=.type "list_iterator",data:=.fields #[.ref l,.int 0 0] }).push (seqObj "list" #[] 0)).get? (s.heap.push { cls:=.type "list_iterator",data:=.fields #[.ref l,.int 0 0] }).objs.size=some (seqObj "list" #[] 0):=yN _ rfl;have W:=Walks.list (prog:=X.prog) (w:=X.w) (A:=X.A.in1) hh s.heap.objs.size l hlI its.toArray;have hsz:its.toArray.size=its.length:=yL ..;have JH:Inv X pins σ H { s with heap:=(s.heap.push { cls:=.type "list_iterator",data:=.fields #[.ref l,.int 0 0] }).push (seqObj "list" #[] 0) }:=J.kept (t':=s.toks) kpH
 obtain⟨o1,ho1,ho2⟩:=hls;have hlsH:((s.heap.push { cls:=.type "list_iterator",data:=.fields #[.ref l,.int 0 0] }).push (seqObj "list" #[] 0)).IsList l its.toArray:=⟨o1,kpH _ _ ho1,ho2⟩;refine codeAny_builtin ybl ?_;rw[yB.under_plainId qm _];show yi _ X.A.in1 (seqItems? (.ref _) >>= _) _ _ _;refine yf (jI gS rfl ?_);show yi _ X.A.in1 (tryCatch (pyNext (.ref s.heap.objs.size)) _ >>= _) _ _ _;by_cases hne:0 < xs.length
 ·refine yf (qp (W.item 0 _ _ _ (by rw[hsz,<- hlen];exact hne) ⟨⟨_,gI,rfl,rfl⟩,hlsH⟩ λu h' tk' hP hst' hk'=>?_))
  have hu:its[0]? = some u:=by simpa using hP
  obtain⟨oI',hoI',hoc,hod⟩:=id hst'.1;have J1:Inv X pins σ H { s with heap:=h',toks:=tk' }:=Fx.Inv.turn1 (s:={ s with heap:=(s.heap.push { cls:=.type "list_iterator",data:=.fields #[.ref l,.int 0 0] }).push (seqObj "list" #[] 0) }) JH mI nI λb o hb e=>hk' b o (by simpa using hb) e
  have hS':=hk' _ _ (by simpa using hSI) gS
  have J2:=Fx.Inv.pin2 J1 mS mI nS nI hS' hoI' (λv z=>by cases z) (λv z=>by rw[hod] at z;cases z)
  obtain⟨v1,hv1⟩:∃v1,xs[0]? = some v1:=⟨_,j7 hne⟩;obtain⟨u',hu',ru⟩:=rv.get hv1;rw[hu] at hu';cases hu';show yi _ X.A.in1 (tryCatch (holding [u] (call (.ref q) [u])) _ >>= _) _ _ _;refine yf (qp (jT (yO (turn 0 v1 u _ _ H hv1 ru J2 (Same.refl H)) (λx s'' he=>?_) λ_ _ hF=>hF.elim)))
  obtain⟨t2,H2,rfl,J3,sm2⟩:=he;obtain⟨eS2,nS2,_⟩:=J3.pin ((s.heap.push { cls:=.type "list_iterator",data:=.fields #[.ref l,.int 0 0] }).objs.size,seqObj "list" #[] 0) (yT _ (yT _ (.head _)));obtain⟨eI2,nI2,_⟩:=J3.pin (s.heap.objs.size,oI') (yT _ (yT _ (.tail _ (.head _))));have s1:=yd.SameBut.update s''.heap (s.heap.push { cls:=.type "list_iterator",data:=.fields #[.ref l,.int 0 0] }).objs.size (jE λ_=>#[u,.int (kf 0) t2])
  obtain⟨c2,hc2⟩:∃c2,(s''.heap.update (s.heap.push { cls:=.type "list_iterator",data:=.fields #[.ref l,.int 0 0] }).objs.size (jE λ_=>#[u,.int (kf 0) t2])).get? (s.heap.push { cls:=.type "list_iterator",data:=.fields #[.ref l,.int 0 0] }).objs.size=some (seqObj "list" #[u,.int (kf 0) t2] c2):=⟨_,get?_update_seq eS2 λ_=>#[u,.int (kf 0) t2]⟩
  show yi _ X.A.in1 (updateSeq (s.heap.push { cls:=.type "list_iterator",data:=.fields #[.ref l,.int 0 0] }).objs.size (λ_=>#[u,.int (kf 0) t2]) >>= _) _ _ _
  refine yf ?_;refine wpAny_updateSeq eS2 rfl ?_;rw[hname];have J4:=Fx.Inv.turn1 (t':=s''.toks) (h':=s''.heap.update (s.heap.push { cls:=.type "list_iterator",data:=.fields #[.ref l,.int 0 0] }).objs.size (jE λ_=>#[u,.int (kf 0) t2])) J3.unpinned mS nS2 λb o hb e=>(s1.2 b hb).trans e
  refine yt ⟨plainId_quiet qm _,min_loop hh hlI hSI mS mI hl turn (λi v u s' H' a b c d e=>fin i v u s' H' a b c d e) _ 0 0 _ H2 u v1 t2 c2 oI' rfl hne (Fx.Inv.pin2 J4 mS mI nS2 nI2 hc2 ((s1.2 _ hSI.symm).trans eI2) (λv z=>by cases z) (λv z=>by rw[hod] at z;cases z)) sm2 ⟨oI',(s1.2 _ hSI.symm).trans eI2,hoc,hod⟩ hv1 ru (yq _) λj' hj'=>?_⟩
  have e:j'=0:=by omega
  subst e;exact⟨by omega,λh=>absurd h (jS _)⟩
 ·have h0:xs=[]:=ycs.mp (by omega)
  refine yf (qp (W.done _ _ _ ⟨by rw[hsz,<- hlen,h0];exact⟨_,gI,rfl,rfl⟩,hlsH⟩ λh' tk' hk'=>?_))
  have J1:Inv X pins σ H { s with heap:=h',toks:=tk' }:=Fx.Inv.turn1 (s:={ s with heap:=(s.heap.push { cls:=.type "list_iterator",data:=.fields #[.ref l,.int 0 0] }).push (seqObj "list" #[] 0) }) JH mI nI λb o hb e=>hk' b o (by simpa using hb) e
  exact yf (wpAny_rule (yt (fin0 h0 _ H J1 (Same.refl H))))
end
def kOf(key:ya->Res ya)(ts:List ya)(i:Nat):Int:=match ts[i]? with
 | some t=>(match key t with
  | .ok (.int k)=>k
  | _=>0)
 | none=>0
theorem zfF{key:ya->Res ya}(nx:∀t c,key t ≠ .exc c){all:List ya}{r:ya}:∀(ts:List ya) (b:ya) (m:Int) (i j:Nat),all.drop (j+1)=ts->minL key b m ts=.ok r->all[i]? = some b->key b=.ok (.int m)->i<=j ->
  (∀j',j'<=j->kOf key all i<=kOf key all j'/\(j' < i->kOf key all i < kOf key all j'))->(∀j':Nat,j'<=j->∀t,all[j']? = some t->∃k,key t=.ok (.int k)) ->
  (∀(j':Nat) t,all[j']? = some t->∃k,key t=.ok (.int k))/\∃i':Nat,all[i']? = some r/\∀j',j' < all.length->kOf key all i'<=kOf key all j'/\(j' < i'->kOf key all i' < kOf key all j')
 | [],b,m,i,j,hd,h,hb,hk,hij,best,ks=>by
  have hl:all.length<=j+1:=by
   have:=congrArg List.length hd;rw[yb2] at this;simp at this;omega
  cases h;exact⟨λj' t e=>ks j' (by have:=(jb.mp e).1;omega) t e,i,hb,λj' hj'=>best j' (by omega)⟩
 | x::ts,b,m,i,j,hd,h,hb,hk,hij,best,ks=>by
  have hx:all[j+1]? = some x:=by
   have:=congrArg (λl=>l[0]?) hd
   simpa[List.getElem?_drop] using this
  have hd':all.drop (j+1+1)=ts:=by
   have:=congrArg (List.drop 1) hd;rw[List.drop_drop] at this;simpa using this
  have km:kOf key all i=m:=by unfold kOf;rw[hb];simp only[hk]
  unfold minL at h;cases ek:key x with
  | stuck=>rw[ek] at h;cases h
  | exc c=>exact absurd ek (nx x c)
  | ok y=>
   rw[ek,Res.bind_ok] at h;cases y <;> try (simp at h;done)
   rename_i k;simp only at h;have kx:kOf key all (j+1)=k:=by unfold kOf;rw[hx];simp only[ek]
   have ks':∀j',j'<=j+1->∀t,all[j']? = some t->∃k,key t=.ok (.int k):=λj' hj' t e=>by
    by_cases z:j'=j+1
    ·subst z;rw[hx] at e;cases e;exact⟨k,ek⟩
    ·exact ks j' (by omega) t e
   split at h
   ·refine zfF nx ts x k (j+1) (j+1) hd' h hx ek (yq _) (λj' hj'=>?_) ks'
    by_cases z:j'=j+1
    ·subst z;exact⟨jL _,λw=>by omega⟩
    ·have:=best j' (by omega)
     rw[kx];rw[km] at this;exact⟨by omega,λ_=>by omega⟩
   ·refine zfF nx ts b m i (j+1) hd' h hb hk (by omega) (λj' hj'=>?_) ks'
    by_cases z:j'=j+1
    ·subst z;rw[kx,km];exact⟨by omega,λw=>by omega⟩
    ·exact best j' (by omega)
theorem minT_ok{key:ya->Res ya}(nx:∀t c,key t ≠ .exc c){ts:List ya}{r:ya}(h:minT key ts=.ok r):(ts=[]/\r=.none)\/(ts ≠ []/\(∀(j':Nat) t,ts[j']? = some t->∃k,key t=.ok (.int k))/\∃i':Nat,ts[i']? = some r/\∀j',j' < ts.length->kOf key ts i'<=kOf key ts j'/\(j' < i'->kOf key ts i' < kOf key ts j')):=by
 cases ts with
 | nil=>cases h;exact .inl ⟨rfl,rfl⟩
 | cons x ts=>
  simp only[minT] at h;cases ek:key x with
  | stuck=>rw[ek] at h;cases h
  | exc c=>exact absurd ek (nx x c)
  | ok y=>
   rw[ek,Res.bind_ok] at h;cases y <;> try (simp at h;done)
   rename_i k;simp only at h;refine .inr ⟨by simp,zfF nx (all:=x::ts) ts x k 0 0 rfl h rfl ek (yq _) (λj' hj'=>?_) λj' hj' t e=>?_⟩
   ·have z:j'=0:=by omega
    subst z;exact⟨jL _,λw=>by omega⟩
   ·have z:j'=0:=by omega
    subst z;cases e;exact⟨k,ek⟩
theorem zdt{key:ya->Res ya}(nx:∀t c,key t ≠ .exc c):∀(ts:List ya) b m c,minL key b m ts ≠ .exc c
 | [],b,m,c=>by simp[minL]
 | x::ts,b,m,c=>by
  unfold minL;cases ek:key x with
  | stuck=>simp
  | exc c'=>exact absurd ek (nx x c')
  | ok y=>
   rw[Res.bind_ok];cases y <;> try simp
   split
   ·exact zdt nx ts _ _ c
   ·exact zdt nx ts _ _ c
theorem minT_nox{key:ya->Res ya}(nx:∀t c,key t ≠ .exc c)(ts:List ya)(c:Str):minT key ts ≠ .exc c:=by
 cases ts with
 | nil=>simp[minT]
 | cons x ts=>
  simp only[minT];cases ek:key x with
  | stuck=>simp
  | exc c'=>exact absurd ek (nx x c')
  | ok y=>
   rw[Res.bind_ok];cases y <;> try simp
   exact zdt nx ts _ _ c
theorem hol_lam{K:yh}{H H':Hp}{P P':Pv}{σ:L2.St}{G:List Sl}{cap:List Nat}{t:ya}{v:V}(h:Hol K H P σ G)(tr:Tr H P H' P')(ho:∀i,P'.own i=none)(hf:∀a,P'.fb a->∃o,H' a=some o/\LD o)(htb:VE K H')(rv:Rl K H' P' t v) :
  Hol K H' P' (lamS cap σ v) (.val t::capS cap G):=by
 have z:=zjD (nv:=0) (cap:=cap) h tr ho hf htb;refine⟨λi s e=>?_,λi j a z _=>(by rw[ho i] at z;cases z),λi a z=>(by rw[ho i] at z;cases z),hf,λi a z=>(by rw[ho i] at z;cases z),?_,htb⟩
 ·cases i with
  | zero=>
   cases e;exact⟨v,rfl,rv⟩
  | succ i=>
   have w:=z.sl i s (by simpa using e)
   have es:(lamS cap σ v).getD (i+1) none=(sig 0 cap σ).getD i none:=by simp[lamS,sig]
   have w':SlOk K H' P' i ((lamS cap σ v).getD (i+1) none) s:=by rw[es];exact w
   cases s with
   | emp=>trivial
   | val t'=>exact w'
   | own xs=>
    obtain⟨p,vs,_,e2,_⟩:=w';rw[ho i] at e2;cases e2
   | dct xs=>
    obtain⟨p,vs,_,e2,_⟩:=w';rw[ho i] at e2;cases e2
 ·have:=z.len;simp[lamS,sig] at this ⊢
  try omega
section
variable {X:Cx}{W:Str->Hp->Prop}{fl:Bool}{a b c e:yj}{es:List yj}{da db:DE}{pos:Pos}
theorem ev_minK{k:Nat}{x y:Str}{c T:yc}{params:Arguments}{body:yj}{scope:yJ}{N:List Str}{cap:List Nat}{de:DE}{p lpos kp1 kp2 cp:Pos}{jj:Nat}(L:LamAt X x c T)(C:LamOk X scope N y cap)(hr:Room (k+2) X.A)(hg:Gl X "min")(hm:X.mg "min" = none)(ha:EV X W a da)
  (he:∀s₀ H₀ f cd,EV (cxL (Cx.i1 X) (lamQ x) scope N s₀ H₀ f cd) (λ_ _=>False) body de) (hdef:defaultsOf params X.env=([],[]):=by rfl)
  (hb:∀cl pm c' ctv u,bindArgs (jC "<lambda>" (lamQ x) params body scope cl pm (.ref c') ctv) ⟨[u],[]⟩=pure [(y,u)]:=by intros;rfl)
  (hs:yp [a] X.env=(false,yz a X.env)::yp [] X.env:=by rfl) :
  EV X W (.Call (.Name "min" p) [a] [⟨some "key",.Lambda params body scope lpos,kp1⟩,⟨some "default",.Constant .none jj cp,kp2⟩] pos) (dMinK cap da de):=by
 intro pins s σ H Q I ⟨G,P,h,q⟩;unfold dMinK at q;obtain⟨q1,q2,q3⟩:=VV q;refine qY (zcn I hg hm (show yK "min" = some (.builtin "min") by decide +kernel) ?_)
 refine callWith_kw (thn (Yn ha X9 hs pos pins s σ H (λvs H1=>∃tx v,vs=[v]/\da G=.ok tx/\Same H H1/\Hol X.K H1 P σ G/\Rl X.K H1 P tx v) I (ZE h q1 q2 λtx v H1 ex s1 h1 rx=>⟨tx,v,rfl,ex,s1,h1,rx⟩)) λus s1 ⟨vs,H1,I1,r1,tx,v,ev,ex,sm1,h1,rx⟩=>?_) (by rw[hs];rfl) (by rw[hs];rfl)
 subst ev;obtain⟨u1,rfl,ru⟩:=zd1 r1;refine thn ((ziO (pe_lam L C hdef) (ziO pe_non pk_nil)) pos pins s1 σ H1 (λzs H2=>∃f c' ctv,zs=[.ref f,.non]/\Same H1 H2/\H2 f=some (LO f (jC "<lambda>" (lamQ x) params body scope (Z5 X.env scope.names []) ((X.mg "__name__").getD .none) (.ref c') ctv))/\H2 c'=some (CO c' (lamQ x))) I1 ⟨h1.tab,λf c' ctv H2 sm2 _ e1 e2=>⟨f,c',ctv,rfl,sm2,e1,e2⟩⟩) λws s2 ⟨zs,H2,I2,r2,f,c',ctv,ez,sm2,hf,hc⟩=>?_
 subst ez;have hws:ws=[.ref f,.none]:=by
  cases r2 with
  | cons ra rb=>
   cases rb with
   | cons rc rd=>
    cases rd;cases ra;cases rc
    rfl
 subst hws;show yi _ _ (call (.builtin "min") [u1] [(Str.ofString "key",.ref f),(Str.ofString "default",.none)]) _ _ _;have q4:=q3 tx ex;cases tx <;> try exact q4.elim
 rename_i ts;obtain⟨l,vs,rfl,sl,rs⟩:=Z7.mp rx;cases ru;simp only at q4;have nx:∀t c,noX (de (.val t::capS cap G)) ≠ .exc c:=λt c z=>by
  rcases zev (de (.val t::capS cap G)) with ⟨w,e⟩ | e <;> (rw[e] at z;cases z)
 have hlen:=rs.length;cases em:minT (λt=>noX (de (.val t::capS cap G))) ts with
 | stuck=>rw[em] at q4;exact q4.elim
 | exc c=>exact absurd em (minT_nox nx ts c)
 | ok r=>
  rw[em] at q4;have mt:=minT_ok nx em;refine zkk (X:=X) (xs:=vs) (kf:=kOf (λt=>noX (de (.val t::capS cap G))) ts) hr.hd I2 (λH' sm=>((sl.go (.same sm2)).go (.same sm)).sq) (λi v u pins' s' H' hv rvu J sm=>?_) (λh0 s' H' J sm=>?_) (λi v u s' H' hv rvu best J sm=>?_)
  ·-- one call of the lambda
   obtain⟨t,ht,rt⟩:=rs.get hv;obtain⟨kv,ek⟩:∃kv,noX (de (.val t::capS cap G))=.ok (.int kv):=by
    rcases mt with ⟨e0,_⟩ | ⟨_,ks,_⟩
    ·rw[e0] at ht;simp at ht
    ·exact ks i t ht
   have ed:=noX_ok ek;have kk:kOf (λt=>noX (de (.val t::capS cap G))) ts i=kv:=by unfold kOf;rw[ht];simp only[ek]
   have smA:Same H1 H':=sm2.trans sm;have gg:Tr H1 P H' ⟨λ_=>none,λa=>¬Off P a⟩:=λa o e1 n o1=>⟨smA.kp a o e1 n,λ_ z=>(by cases z),λz=>z o1⟩
   refine yO (lam_call (X:=Cx.i1 X) (k:=k) (t:=tF X.K (λ_ _=>False) de) (Q:=λv' H''=>v'=.int kv/\Same H' H'') ⟨C.cell,C.kind,C.co,C.gen,C.par,C.free,C.head,C.len,C.caps⟩ hr.in1 (Fx.Inv.toi1 J) rvu (sm.kp _ _ hf zi9) (sm.kp _ _ hc zi9) (hb _ _ _ _ _) (he s' H' f (.ref c')) ⟨.val t::capS cap G,⟨λ_=>none,λa=>¬Off P a⟩,hol_lam h1 gg (λ_=>rfl) (λa z=>let⟨o,q,m⟩:=h1.ld z;⟨o,smA.kp _ _ q m.nt,m⟩) (smA.tab _ h1.tab) (Rl.go gg t v rt),?_⟩) (λrr s'' hh=>?_) λ_ _ z=>z
   ·rw[ed];exact λv' H'' sm' r'=>⟨ZU.mp r',sm'⟩
   ·obtain⟨v',H'',J',rv',e1,sm'⟩:=hh;subst e1;obtain⟨t',rfl⟩:=rv';exact⟨t',H'',by rw[kk],Fx.Inv.ofi1 J.ok J',sm.trans sm'⟩
  ·-- nothing in the list
   rcases mt with ⟨_,rfl⟩ | ⟨hne,_,_⟩
   ·exact⟨.non,H',J,rfl,q4 _ H' ((sm1.trans sm2).trans sm) (XC.mpr rfl)⟩
   ·exact absurd (ycs.mp (by rw[hlen,h0];rfl)) hne
  ·rcases mt with ⟨e0,_⟩ | ⟨_,_,i',hi',best'⟩
   ·rw[e0] at hlen;have:=(jb.mp hv).1;simp at hlen;omega
   ·have hi1:=(jb.mp hv).1;have hi2:=(jb.mp hi').1;have e:i=i':=by
     have b1:=best i' (by omega)
     have b2:=best' i (by omega)
     rcases yb0 i i' with z | z | z
     ·have:=b2.2 z;have:=b1.1;omega
     ·exact z
     ·have:=b1.2 z;have:=b2.1;omega
    subst e;obtain⟨t,ht,rt⟩:=rs.get hv;rw[hi'] at ht;cases ht;exact⟨v,H',J,rvu,q4 v H' ((sm1.trans sm2).trans sm) (Rl.go (.same (sm2.trans sm)) _ v rt)⟩
end
def lamCap(scope:yJ)(env:Env)(N0 N:List Str)(cap:List Nat):Bool:=
 (yF cap.length).all λi=>match(cap[i]?:Option Nat),(N[1+i]?:Option Str) with
  | some j,some x=>N0[j]? == some x && cf (scope.names.lookup x) && cf (env.kindOf x)
  | _,_=>true
def lamChk(scope:yJ)(env:Env)(N0 N:List Str)(y:Str)(cap:List Nat):Bool:=
 (scope.names.all λz=>z.2 != .cell) && (scope.kind == .function) && (scope.isCoroutine == false) && (scope.isGenerator == false) && (scope.names.lookup y == some .local)
  && (scope.names.all λz=>z.2 != .free || cf (env.kindOf z.1)) && (N[0]? == some y) && (N.length == 1+cap.length) && lamCap scope env N0 N cap
theorem lamok{X:Cx}{scope:yJ}{N:List Str}{y:Str}{cap:List Nat}(h:lamChk scope X.env X.N N y cap=true):LamOk X scope N y cap:=by
 unfold lamChk at h;simp only[jl,qw] at h;obtain⟨⟨⟨⟨⟨⟨⟨⟨h1,h2⟩,h3⟩,h4⟩,h5⟩,h6⟩,h7⟩,h8⟩,h9⟩:=h;refine⟨λy hy=>by simpa using h1 y hy,by simpa using h2,by simpa using h3,by simpa using h4,by simpa using h5,λy hy e=>?_,by simpa using h7,by simpa using h8,λi j x hc hx=>?_⟩
 ·have:=h6 y hy;rw[e] at this;exact zhS (by simpa using this)
 ·unfold lamCap at h9;rw[qw] at h9;have hi:i < cap.length:=(jb.mp hc).1;have:=h9 i (js.mpr hi);rw[hc,hx] at this;simp only[jl] at this;exact⟨by simpa using this.1.1,zhS this.1.2,zhS this.2⟩
structure LamHyp(K:yh)(mg:Str->Option yb)(base:yd)(x:Str)(c T:yc):Prop where
 tab:j3 K x=some (c,T)
 hd:∀h:yd,K.In h->jR h c T
 blt:zdY mg base
theorem zhd{K:yh}{x:Str}{c T:yc}(t:j3 K x=some (c,T)):∃o,K.lookup c=some o:=by
 unfold j3 at t;split at t
 ·split at t
  ·split at t
   ·split at t
    ·rename_i hco;split at t
     ·cases t;exact⟨_,hco⟩
     ·cases t
    ·cases t
   ·cases t
  ·cases t
 ·cases t
theorem tab_mk{K:yh}{x:Str}{f c T:yc}{oc occ:yb}{od odc:Option yc}{fd:yQ}{sl slc:Array (Option yb)}{vs:Array yb}(a:yo K yn x=some (some (.ref f)))(l:K.lookup f=some ⟨oc,od,.func fd,sl⟩)(hc:fd.code=.ref c)(lc:K.lookup c=some ⟨occ,odc,.fields vs,slc⟩)(v:vs[11]? = some (.ref T)):j3 K x=some (c,T):=by
 unfold j3;rw[a];simp only[l,hc,lc,v]
theorem zcP{K:yh}{x:Str}{c T:yc}{b:yd}(t:j3 K x=some (c,T))(hb:K.In b)(h:jR b c T):∀h':yd,K.In h'->jR h' c T:=λh' hk=>by
 obtain⟨o0,e0⟩:=zhd t;obtain⟨o,vs,file,tf,flags,tg,inF,text,tt,e,r⟩:=h;have:=hb _ _ e0;rw[e] at this;cases this;exact⟨_,vs,file,tf,flags,tg,inF,text,tt,hk _ _ e0,r⟩
theorem lam_at{X:Cx}{x:Str}{c T:yc}(L:LamHyp X.K X.mg X.base x c T)(nm:x ∈ W7)(hc:X.env.code=.ref c:=by rfl)(hq:X.env.qual ++ "<lambda>" = lamQ x:=by rfl):LamAt X x c T:=⟨L.tab,nm,hc,hq,L.hd,L.blt⟩
theorem cle_ofC{P:y6}{w:y3}{K:yh}{mg:Str->Option yb}{base:yd}{x:Str}{st:ym}{fa c:yc}{fd:yQ}{N ps:List Str}{k n np:Nat}{d:DS}(F:Fun K x x st fa fd)(hcode:fd.code=.ref c)(hm:mg x=some (.ref fa))(b:ZA K fd ps [])(S:FnScope N ps (Zd st))(hnp:ps.length=np)(hN:N.length=n)
  (hb:∀(A:yB) (outer:List Env) (s:ye) (H:Hp) (E:XK),Room k (A.deeper (envOfC x (Zd st) s.heap.objs.size fa (.ref c))) ->
   SVs (cxOf CX0 P w K mg base N x (Zd st) fa (.ref c) A outer s H E).nox (λ_ _=>False) false (Zl st) d):Cle P w K mg base (k+1) x np (runQ n np d):=by
 subst hN;refine⟨⟨fa,fd,ps,?_,hm,F.kp,b⟩,λts c=>zda _ _ _ ts c⟩
 obtain⟨oc,od,kV,doc,pm,an,cdv,ct,osl,rfl,lk,hcd⟩:=F.ex;have hcode':cdv=.ref c:=hcode;subst hcode';have F':Fun K x x st fa (yu x x (Zm st) (Zl st) (Zd st) .none kV doc pm an (.ref c) ct):=F;refine fn_of lk hcd S (λvs H Q E h=>by rw[hnp];exact h.1) λA outer s H vs Q E hr h=>⟨_,(hb A outer s H E hr).nox,?_⟩
 obtain⟨hl,ts,P',rs,ho,hf,q⟩:=h;have hlt:ts.length=np:=by rw[rs.length];exact hl
 refine⟨_,P',za1 rs ho hf,?_⟩;unfold runQ runF at q;rw[if_pos hlt] at q;have en:N.length - np=N.length - ts.length:=by rw[hlt]
 rw[en] at q;have sm:∀H' P2,Go H P' H' P2->Same H H':=λH' P2 g=>g.all ho
 have bk:∀H' P2,Go H P' H' P2->Tr H' P2 H' P':=λH' P2 g b o e _ z=>⟨e,λi=>by rw[ho i];exact λz=>(by cases z),by rw[<- g.fbe];exact z.2⟩
 cases e:d (ts.map .val++y0 (N.length - ts.length) .emp) with
 | stuck=>rw[e] at q;exact q.elim
 | exc c=>rw[e] at q;exact q.elim
 | ok o=>
  rw[e,Res.bind_ok] at q;cases o with
  | nx G=>exact λσ' H' P2 g h'=>q .non H' (sm H' P2 g) (XC.mpr rfl)
  | rt t=>exact λv H' P2 g r _=>q v H' (sm H' P2 g) (Rl.go (bk H' P2 g) t v r)
  | bk G=>exact q.elim
  | ct G=>exact q.elim
theorem zjl{P:y6}{w:y3}{K:yh}{mg mb:Str->Option yb}{k:Nat}{fa a c T:yc}{fd:yQ}{x x0:Str}{f:DF}{s₁:ye}{vs:List yb}{ns:List Int}
  (KX:K.In s₁.heap) (hns:s₁.heap.Ns yn mg) (hb:s₁.heap.Ns builtinsNs mb) (hbb:∀x:Str,x ≠ "__name__" -> mb x=yK x) (hlim:s₁.heap.NoLimit) (hg:s₁.gens=#[])
  (bmain:zdY mg s₁.heap) (htb:j3 K x0=some (c,T)) (hx0:x0 ∈ W7) (hno:yaj K=true) (hC:jR s₁.heap c T) (hT:s₁.heap.get? T=some (ycd #[]))
  (ha:s₁.heap.get? a=some { cls:=.type "list",data:=.seq vs.toArray }) (hi:IntsAre vs ns) (hl:ns.length<=y7) (hr:Room k callerA)
  (F:∀base:yd,K.In base->base.Ns yn mg->zdY mg base->jR base c T->FnOk P w K mg base CX0 k fa fd [x] (spF K none 1 f)) (hbind:∀(s:ye) (u:yb),BindsTo s fd ⟨[u],[]⟩ [(x,u)])
  (hok:f [.list (ns.map .int)]=.ok (.bool true)) :
  codeAny (yk P w) callerA (.call (.ref fa) ⟨[.ref a],[]⟩) (λr s'=>r=.ok (.ret (.bool true))/\OldK s₁.heap s'.heap/\s'.os=s₁.os/\AllBare s'.gens) s₁:=by
 have rv:=zd0 hi;have lenV:=hi.length;have haT:a ≠ T:=λe=>by rw[e,hT] at ha;cases ha
 have hKT:∀b o,K.lookup b=some o->b ≠ T:=λb o e z=>by
  have h2:=qw.mp hno (b,o) (PySem.W.mem_of_lookupK e);have h3:=KX _ _ e;rw[z,hT] at h3;cases h3;exact absurd (show false=true from h2) jz
 -- from an abstract heap in which nothing but the table and the script may be tracked
 have core:∀H:Hp,H T=some (.tbl #[])->SqL K H a (ns.map V.int)->HOk P w H s₁.heap->(∀b,H b ≠ none->b=a\/b=T)->(∀o,H a=some o->K.lookup a=none/\∃ob xs,o=.frz ob (.lst xs)) ->
   codeAny (yk P w) callerA (.call (.ref fa) ⟨[.ref a],[]⟩) (λr s'=>r=.ok (.ret (.bool true))/\OldK s₁.heap s'.heap/\s'.os=s₁.os/\AllBare s'.gens) s₁:=by
  intro H hHT hS hok' hA hK;have base_of:∀{b:yc}{o:Obj},s₁.heap.get? b=some o->H b=none->(hidT s₁.heap H).get? b=some o:=λe n=>hidT_get e n
  have noD:∀{b:yc}{o:Obj},s₁.heap.get? b=some o->b ≠ T->(∀xs n,o.data ≠ .seq xs n)->H b=none:=λ{b o} e nt d=>by
   cases q:H b with
   | none=>rfl
   | some u=>
    rcases hA b (by rw[q];simp) with e' | e'
    ·subst e';rw[ha] at e;cases e;exact absurd rfl (d _ _)
    ·exact absurd e' nt
  have nsK:∀{b:yc}{m:Str->Option yb},s₁.heap.Ns b m->(hidT s₁.heap H).Ns b m:=λ{b m} ⟨o,es,ep,e,d,r⟩=>⟨o,es,ep,base_of e (noD e (λz=>by rw[z,hT] at e;cases e;cases d) λxs n z=>by rw[d] at z;cases z),d,r⟩
  have hKb:K.In (hidT s₁.heap H):=λb o e=>base_of (KX b o e) (by
   cases q:H b with
   | none=>rfl
   | some u=>
    rcases hA b (by rw[q];simp) with e' | e'
    ·subst e';rw[(hK u q).1] at e;cases e
    ·exact absurd e' (hKT b o e))
  have hBb:zdY mg (hidT s₁.heap H):=by
   obtain⟨bm,ob,b1,b2,b3,b4,b5,b6,b7⟩:=bmain;exact⟨bm,ob,b1,b2,b3,base_of b4 (noD b4 (λz=>by rw[z,hT] at b4;cases b4;cases b5) λxs n z=>by rw[b7] at z;cases z),b5,b6,b7⟩
  have hCb:jR (hidT s₁.heap H) c T:=zcP htb KX hC _ hKb;have hM:Mod K mg (hidT s₁.heap H):=⟨hKb,nsK hns,⟨mb,nsK hb,hbb⟩,let⟨mc,h1,h2⟩:=hlim;⟨mc,nsK h1,h2⟩⟩
  have e0:Env0 P w K mg (hidT s₁.heap H) callerA [] s₁ H:=⟨rfl,hM,λb o e=>of_hidT e,Nat.le_of_eq (zjE _ _),trivial,λb hb=>absurd (show b ∈ ([]:List yc) from hb) (by simp),hok',.of_eq hg⟩
  have tk:VE K H:=λx1 c1 T1 h1 h2=>by
   have e1:x1=x0:=zjn h1 hx0;subst e1;rw[htb] at h2;cases h2;exact⟨#[],hHT,trivial,λpos cv z=>by simp[codeAmong] at z⟩
  refine codeAny_mono ((F _ hKb (nsK hns) hBb hCb).run callerA [] s₁ H ⟨[.ref a],[]⟩ [.ref a] [.ref a] _ (λ_ _ _=>False) hr e0 (hbind s₁ (.ref a)) (.cons rfl .nil) (law_sp hok tk hS)) λr s' h=>?_
  cases r with
  | error e=>exact False.elim h
  | ok fl=>
   cases fl with
   | next=>exact False.elim h
   | brk=>exact False.elim h
   | cont=>exact False.elim h
   | ret u=>
    obtain⟨v,H',os,bare,un,hok2,r',q⟩:=h;have q':v=.bl true:=q;subst q';obtain rfl:u=yb.bool true:=r';have keep:∀b o,b ≠ T->s₁.heap.get? b=some o->s'.heap.get? b=some o:=λb o nb e=>by
     cases q:H b with
     | none=>exact un.keep b o e q (by intro z;exact absurd (show b ∈ ([]:List yc) from z) (by simp)) (by simp)
     | some u=>
      rcases hA b (by rw[q];simp) with e' | e'
      ·subst e';obtain⟨_,ob,xs,rfl⟩:=hK u q;have z2:=un.frzs b ob _ q;obtain⟨e1,_⟩:=hok' b _ q;obtain⟨e2,_⟩:=hok2 b _ z2;rw[e] at e1;cases e1;exact e2
      ·exact absurd e' nb
    obtain⟨more,hT'⟩:=un.tbls T _ hHT;have hTo:s'.heap.get? T=some (ycd (#[]++more)):=hok2 T _ hT';refine⟨rfl,⟨λb o e=>?_,λb o e=>?_⟩,os,bare⟩
    ·by_cases nb:b=T
     ·subst nb;rw[hT] at e;cases e;exact .inr (.inl ⟨(hC.tab hT).isCodeTable,rfl,#[],more,rfl,hTo⟩)
     ·exact .inl (keep b o nb e)
    ·by_cases nb:b=T
     ·subst nb;exact⟨_,hTo⟩
     ·exact⟨o,keep b o nb e⟩
 cases hk:K.lookup a with
 | some o=>
  have e:=KX a o hk;rw[ha] at e;cases e;refine core (λb=>if b=T then some (.tbl #[]) else none) (if_pos rfl) (.inr ⟨_,vs.toArray,_,hk,rfl,rfl,rfl,by rw[yL,lenV];exact hl,by simpa using rv⟩) (λb u z=>?_) (λb z=>?_) λo z=>?_
  ·by_cases hb:b=T
   ·have z':=(if_pos hb).symm.trans z;cases z';subst hb;exact hT
   ·have z':=(if_neg hb).symm.trans z;cases z'
  ·by_cases hb:b=T
   ·exact .inr hb
   ·exact absurd (if_neg hb) z
  ·have z':=(if_neg haT).symm.trans z;cases z'
 | none=>
  refine core (λb=>if b=T then some (.tbl #[]) else if b=a then some (.frz { cls:=.type "list",data:=.seq vs.toArray } (.lst (ns.map V.int))) else none) (if_pos rfl) (.inl (.inr ⟨{ cls:=.type "list",data:=.seq vs.toArray },(if_neg haT).trans (if_pos rfl)⟩)) (λb u z=>?_) (λb z=>?_) λo z=>?_
  ·by_cases hb:b=T
   ·have z':=(if_pos hb).symm.trans z;cases z';subst hb;exact hT
   ·have z1:=(if_neg hb).symm.trans z;by_cases hb2:b=a
    ·have z':=(if_pos hb2).symm.trans z1;cases z';subst hb2;exact⟨ha,by rw[jm];exact hl,vs,_,rv,ha⟩
    ·have z':=(if_neg hb2).symm.trans z1;cases z'
  ·by_cases hb:b=T
   ·exact .inr hb
   ·by_cases hb2:b=a
    ·exact .inl hb2
    ·exact absurd ((if_neg hb).trans (if_neg hb2)) z
  ·have z':=((if_neg haT).trans (if_pos rfl)).symm.trans z;cases z';exact⟨hk,_,_,rfl⟩
theorem walk_T{l:yca}{n k:Nat}{q:y6}{loose:List Str}{XP:(Str->Option yb)->yd->Prop}{YP:y3->yd->Prop}{d d0:DefRec}{K:Params->yh}{x x0:Str}{f:DF}
  (hn:l.most=some n) (hn2:n<=y7) (hdf:d.params.defaults=[]) (hr:Room k callerA) (hx0:x0 ∈ W7) (hrec:(recsOf q).find? (λe=>e.name == x0)=some d0)
  (hY:∀(w:y3) (h:yd),YP w h->(K w.params).In h)
  (F:∀(w:y3) (mg:Str->Option yb) (fa:yc) (h:yd),(K w.params).In h->h.Ns yn mg->mg d.name=some (.ref fa) ->
   ∃(fd:yQ) (c T:yc),j3 (K w.params) x0=some (c,T)/\yaj (K w.params)=true/\(∀(s:ye) (u:yb),BindsTo s fd ⟨[u],[]⟩ [(x,u)]) /\
    ∀base:yd,(K w.params).In base->base.Ns yn mg->zdY mg base->jR base c T->FnOk l.prog w (K w.params) mg base CX0 k fa fd [x] (spF (K w.params) none 1 f))
  (hok:∀ns:List Int,ns.length<=n->f [.list (ns.map .int)]=.ok (.bool true)) :
  PySem.W.WalkO q loose XP YP l.row.toRowW d [] (λf vs=>PySem.call f vs):=by
 refine Att.attach_call hn hdf λw s₀ s₁ mg mb fa o pm cd doc a vs ns G Y ho hd hcd hmg hobj hints hlen hg=>?_
 have KX:=hY w _ Y;obtain⟨fd,c,T,htb,hno,hb,hF⟩:=F w mg fa _ KX G.T.g hmg;obtain⟨hC,hT⟩:=PySem.W.tab_of G.T KX hrec htb;have hB:zdY mg s₁.heap:=by
  obtain⟨bm,ob,b1,b2,b3,b4,b5,b6⟩:=G.T.bmain;refine⟨bm,ob,b1,b2,λz=>?_,b3,b4,b5,b6⟩
  obtain⟨o,es,ep,e,hdd,_⟩:=G.T.g;rw[z,e] at b3;cases b3;rw[hdd] at b6;cases b6
 exact zjl KX G.T.g G.T.b G.T.builtins G.T.nolimit hg hB htb hx0 hno hC hT hobj hints (yE hlen hn2) hr hF hb (hok ns hlen)
section
variable {X:Cx}{W:Str->Hp->Prop}{a b e:yj}{da db:DE}{pos:Pos}
theorem zdH{lo hi:Option yj}{dl dh:DP}{p2:Pos}(ha:EV X W a da)(hl:PV X W lo dl)(hh:PV X W hi dh):EV X W (.Subscript a (.Slice lo hi none p2) pos) (zeR da dl dh):=
 ZF (zgi sl_tup ha hl hh) λσ H Q ⟨G,P,h,q⟩=>by
  unfold zeR at q;obtain⟨q1,q2,q3⟩:=VV q;refine ZE h q1 q2 λtx x H1 ex s1 h1 rx=>⟨G,P,h1,?_⟩
  have q4:=q3 tx ex;cases el:dl G with
  | stuck=>rw[el] at q4;exact q4.elim
  | exc c=>rw[el] at q4;exact λH' s=>q4 H' (s1.trans s)
  | ok l=>
   rw[el,Res.bind_ok] at q4;refine λH2 s2=>⟨G,P,h1.same s2,?_⟩
   cases eh:dh G with
   | stuck=>rw[eh] at q4;exact q4.elim
   | exc c=>rw[eh] at q4;exact λH' s=>q4 H' ((s1.trans s2).trans s)
   | ok u=>
    rw[eh,Res.bind_ok] at q4;intro H3 s3;cases tx <;> try exact q4.elim
    rename_i xs;simp only at q4;split at q4
    ·exact q4.elim
    ·rename_i hw;obtain⟨p,vs,rfl,sl,rs⟩:=ZN.mp (Rl.go (.same (s2.trans s3)) _ x rx);have h3:=h1.same (s2.trans s3);refine⟨p,vs,rfl,sl.sq,?_,λp hp=>q4 _ _ (((s1.trans s2).trans s3).trans (Zz hp)) (ZN.mpr ⟨p,_,rfl,.off Zt (h3.off_new hp),Rls.go (.same (Zz hp)) _ _ (zke l u rs)⟩)⟩
     rw[<- rs.length,<- zc9,<- zc9];exact hw
def rCatU(K:yh):R2:=λx y H Q=>∃a b xs ys,x=.ref a/\y=.ref b/\SqT K H a xs/\SqT K H b ys/\xs.length+ys.length<=y7 /\
 (xs=[]->Q (.ref b) H)/\(ys=[]->Q (.ref a) H)/\(∀p,H p=none->Q (.ref p) (upd H p (.tup (xs++ys))))
theorem cat_tup0{prog:y6}{w:y3}{A:yB}{E:yb->ye->Prop}{s:ye}{t b:yc}{ws:List yb}{Q:yb->ye->Prop}(ht:IsTup s.heap t #[])(hb:IsTup s.heap b ws.toArray)
  (h1:Q (.ref b) s):yi (yk prog w) A (je .Add (.ref t) (.ref b)) Q E s:=by
 obtain⟨⟨cls,dd,data,sl⟩,ho,hc,n,hd⟩:=id ht;obtain⟨⟨cls2,dd2,data2,sl2⟩,ho2,hc2,n2,hd2⟩:=id hb;simp only at hc hd hc2 hd2;subst hc hd hc2 hd2;exact concat_meets ⟨_,ho,rfl⟩ ⟨_,ho2,rfl⟩ noFill_tuple_add seq_tuple_add ybk ybj (ybi _ _)
   (tuple_addW0 t b #[] ws.toArray n n2 dd dd2 sl sl2 rfl) ⟨ho,ho2,h1⟩
theorem op_catU:OpR X (je .Add) (rCatU X.K):=by
 intro pins s σ H x y v u Q I rx ry h;obtain⟨a,b,xs,ys,rfl,rfl,ha,hb,hz,q0,q1,q2⟩:=h;by_cases hx:xs=[]
 ·subst hx;cases rx;cases ry;obtain⟨its,r1,p1,_⟩:=I.tuple ha;obtain⟨its2,r2,p2,_⟩:=I.tuple hb;cases r1;exact cat_tup0 p1 p2 ⟨.ref b,H,I,rfl,q0 rfl⟩
 ·exact op_catT pins s σ H _ _ _ _ Q I rx ry ⟨a,b,xs,ys,rfl,rfl,ha,hb,hx,hz,q1,λ_=>q2⟩
theorem ziZ:OpR X (je .Add) (rCatU X.K)/\Fop X W (rCatU X.K) fAddU:=
 ⟨op_catU,λH P σ G x y tx ty Q h rx ry q=>by
  cases tx <;> cases ty <;> try exact q.elim
  rename_i xs ys;obtain⟨l,us,rfl,s1,r1⟩:=ZN.mp rx;obtain⟨m,ws,rfl,s2,r2⟩:=ZN.mp ry;simp only[fAddU] at q;split at q
  ·rename_i hz;have e1:=r1.length;have e2:=r2.length;refine⟨l,m,us,ws,rfl,rfl,s1.sq,s2.sq,by rw[j9];omega,λz=>?_,λz=>?_,λp hp=>q _ _ (Zz hp) (ZN.mpr ⟨p,us++ws,rfl,.off Zt (h.off_new hp),?_⟩)⟩
   ·subst z;have:xs=[]:=yck e1;subst this;exact q _ _ (Same.refl H) ry
   ·subst z;have:ys=[]:=yck e2;subst this;rw[jO] at q;exact q _ _ (Same.refl H) rx
   ·exact(Rls.go (.same (Zz hp)) xs us r1).append (Rls.go (.same (Zz hp)) ys ws r2)
  ·exact q.elim⟩
end
end Fx
namespace Sx
def sumN:Nat->(Nat->Int)->Int
 | 0,_=>0
 | n+1,f=>sumN n f+f n
theorem ZZ:∀{n:Nat}{f g:Nat->Int},(∀i,i < n->f i=g i)->sumN n f=sumN n g
 | 0,f,g,h=>rfl
 | n+1,f,g,h=>by
  simp only[sumN];rw[ZZ (λi hi=>h i (by omega)),h n (by omega)]
theorem zcZ(n:Nat)(f g:Nat->Int):sumN n (λi=>f i+g i)=sumN n f+sumN n g:=by
 induction n with
 | zero=>rfl
 | succ n ih=>simp only[sumN,ih];omega
theorem WN(n:Nat)(a:Int)(f:Nat->Int):sumN n (λi=>a * f i)=a * sumN n f:=by
 induction n with
 | zero=>simp[sumN]
 | succ n ih=>simp only[sumN,ih,Int.mul_add]
theorem zcY{n:Nat}{f:Nat->Int}(h:∀i,i < n->f i=0):sumN n f=0:=by
 induction n with
 | zero=>rfl
 | succ n ih=>simp only[sumN,ih (λi hi=>h i (by omega)),h n (by omega)];rfl
theorem Jf{n k:Nat}{f:Nat->Int}(hk:k < n)(h:∀i,i < n->i ≠ k->f i=0):sumN n f=f k:=by
 induction n with
 | zero=>omega
 | succ n ih=>
  simp only[sumN];by_cases e:k=n
  ·subst e;rw[zcY (λi hi=>h i (by omega) (by omega))];omega
  ·rw[ih (by omega) (λi hi=>h i (by omega)),h n (by omega) (by omega)];omega
theorem ze5{n k l:Nat}{f:Nat->Int}(hk:k < l)(hl:l < n)(h:∀i,i < n->i ≠ k->i ≠ l->f i=0):sumN n f=f k+f l:=by
 induction n with
 | zero=>omega
 | succ n ih=>
  simp only[sumN];by_cases e:l=n
  ·subst e;rw[Jf (k:=k) (by omega) (λi hi hne=>h i (by omega) hne (by omega))]
  ·rw[ih (by omega) (λi hi=>h i (by omega)),h n (by omega) (by omega) (by omega)];omega
theorem sum_le{n:Nat}{f g:Nat->Int}(h:∀i,i < n->f i<=g i):sumN n f<=sumN n g:=by
 induction n with
 | zero=>simp[sumN]
 | succ n ih=>
  have:=ih λi hi=>h i (by omega)
  have:=h n (by omega)
  simp only[sumN];omega
theorem zie(n:Nat)(a:Int):sumN n (λ_=>a)=n * a:=by
 induction n with
 | zero=>simp[sumN]
 | succ n ih=>simp only[sumN,ih];rw[Int.natCast_succ,Int.add_mul];omega
abbrev Vec:=Nat->Int
abbrev Mat:=Nat->Vec
def skip(i:Nat)(v:Mat):Mat:=λk=>if k < i then v k else v (k+1)
def sg:Nat->Int
 | 0=>1
 | n+1=>- sg n
def det:Nat->Mat->Int
 | 0,_=>1
 | n+1,v=>sumN (n+1) λi=>sg i * v i n * det n (skip i v)
def put(v:Mat)(k:Nat)(x:Vec):Mat:=λi=>if i=k then x else v i
@[simp] theorem XD (v : Mat) (k : Nat) (x : Vec) : put v k x k = x := if_pos rfl
theorem W4{v:Mat}{k i:Nat}{x:Vec}(h:i ≠ k):put v k x i=v i:=if_neg h
theorem put_put(v:Mat)(k:Nat)(x y:Vec):put (put v k x) k y=put v k y:=by
 funext i;unfold put;by_cases e:i=k <;> simp[e]
theorem W5{v:Mat}{k l:Nat}{x y:Vec}(h:k ≠ l):put (put v k x) l y=put (put v l y) k x:=by
 funext i;unfold put
 by_cases e:i=k
 ·by_cases e2:i=l
  ·omega
  ·simp[e,h]
 ·simp[e]
theorem VJ(v:Mat)(k:Nat):put v k (v k)=v:=by
 funext i;unfold put;by_cases e:i=k <;> simp[e]
theorem Wg:∀{n:Nat}{v u:Mat},(∀i c,i < n->c < n->v i c=u i c)->det n v=det n u
 | 0,v,u,h=>rfl
 | n+1,v,u,h=>by
  simp only[det];refine ZZ λi hi=>?_
  rw[h i n hi (by omega)]
  congr 1
  refine Wg λk c hk hc=>?_
  unfold skip;split
  ·exact h k c (by omega) (by omega)
  ·exact h (k+1) c (by omega) (by omega)
theorem zc1(v:Mat)(k:Nat)(x:Vec):skip k (put v k x)=skip k v:=by
 funext i;unfold skip put
 split
 ·rw[if_neg (by omega)]
 ·rw[if_neg (by omega)]
theorem Qj{v:Mat}{i k:Nat}{x:Vec}(h:k < i):skip i (put v k x)=put (skip i v) k x:=by
 funext j;unfold skip put
 by_cases e:j=k
 ·subst e;simp[h]
 ·simp only[e,if_false];split
  ·rfl
  ·rw[if_neg (by omega)]
theorem Qk{v:Mat}{i k:Nat}{x:Vec}(h:i < k):skip i (put v k x)=put (skip i v) (k - 1) x:=by
 funext j;unfold skip put
 by_cases e:j=k - 1
 ·subst e;rw[if_neg (by omega),if_pos (by omega),if_pos rfl]
 ·rw[if_neg e];split
  ·rename_i g;rw[if_neg (by omega)];exact(if_pos g).symm
  ·rename_i g;rw[if_neg (by omega)];exact(if_neg g).symm
theorem Qv:∀{n:Nat}(v:Mat) {k:Nat}(a b:Int) (x y:Vec),k < n->det n (put v k λc=>a * x c+b * y c)=a * det n (put v k x)+b * det n (put v k y)
 | 0,v,k,a,b,x,y,h=>by omega
 | n+1,v,k,a,b,x,y,h=>by
  simp only[det];rw[<- WN,<- WN,<- zcZ];refine ZZ λi hi=>?_
  by_cases e:i=k
  ·subst e;simp only[XD,zc1];generalize det n (skip i v)=d;generalize sg i=s
   grind
  ·rw[W4 e,W4 e,W4 e];rcases yaz e with g | g
   ·rw[Qk g,Qk g,Qk g,Qv (skip i v) a b x y (by omega)]
    grind
   ·rw[Qj g,Qj g,Qj g,Qv (skip i v) a b x y (by omega)]
    grind
theorem zdL:∀{n:Nat}{v:Mat}{k:Nat},k+1 < n->(∀c,c < n->v k c=v (k+1) c)->det n v=0
 | 0,v,k,h,e=>by omega
 | n+1,v,k,h,e=>by
  simp only[det];rw[ze5 (k:=k) (l:=k+1) (by omega) h λi hi h1 h2=>?_]
  ·have:det n (skip k v)=det n (skip (k+1) v):=by
    refine Wg λi c hi hc=>?_
    unfold skip;by_cases g:i < k
    ·rw[if_pos g,if_pos (by omega)]
    ·rw[if_neg g];by_cases g2:i=k
     ·subst g2;rw[if_pos (by omega)];exact(e c (by omega)).symm
     ·rw[if_neg (by omega)]
   rw[this,e n (by omega)]
   simp only[sg];generalize det n (skip (k+1) v)=d
   grind
  ·rcases yaz h1 with g | g
   ·rw[zdL (n:=n) (v:=skip i v) (k:=k - 1) (by omega),jo]
    intro c hc;unfold skip;rw[if_neg (by omega),if_neg (by omega),show k - 1+1=k by omega]
    exact e c (by omega)
   ·rw[zdL (n:=n) (v:=skip i v) (k:=k) (by omega),jo]
    intro c hc;unfold skip;rw[if_pos (by omega),if_pos (by omega)]
    exact e c (by omega)
theorem zbe{n:Nat}{v:Mat}{p l:Nat}(hp:p < n)(hl:l < n)(hne:p ≠ l)(alt:∀z:Vec,det n (put (put v p z) l z)=0)(x y:Vec):det n (put (put v p y) l x)=- det n (put (put v p x) l y):=by
 have h:=alt λc=>1 * x c+1 * y c
 rw[Qv _ 1 1 x y hl,W5 hne,W5 hne,Qv _ 1 1 x y hp,Qv _ 1 1 x y hp,<- W5 hne,<- W5 hne,<- W5 hne,<- W5 hne,alt x,alt y] at h;omega
theorem zfQ{n:Nat}:∀(d:Nat) {v:Mat}{k l:Nat},l=k+1+d->l < n->(∀c,c < n->v k c=v l c)->det n v=0
 | 0,v,k,l,h,hl,e=>by subst h;exact zdL hl e
 | d+1,v,k,l,h,hl,e=>by
  obtain⟨m,rfl⟩:∃m,l=m+1:=⟨k+1+d,by omega⟩
  have an:=zbe (n:=n) (v:=v) (p:=m) (l:=m+1) (by omega) hl (by omega) (λz=>zdL hl λc hc=>by
   rw[W4 (i:=m) (k:=m+1) (by omega),XD,XD]) (v m) (v (m+1))
  have z:=zfQ (n:=n) d (v:=put (put v m (v (m+1))) (m+1) (v m)) (k:=k) (l:=m) (by omega) (by omega) λc hc=>by
   rw[W4 (i:=k) (k:=m+1) (by omega),W4 (i:=k) (k:=m) (by omega),W4 (i:=m) (k:=m+1) (by omega),XD];exact e c hc
  rw[z,VJ,VJ] at an;omega
theorem Uk{n:Nat}{v:Mat}{k l:Nat}(hk:k < n)(hl:l < n)(hne:k ≠ l)(e:∀c,c < n->v k c=v l c):det n v=0:=by
 rcases yaz hne with g | g
 ·exact zfQ (l - k - 1) (by omega) hl e
 ·exact zfQ (k - l - 1) (by omega) hk λc hc=>(e c hc).symm
theorem det_anti{n:Nat}{v:Mat}{p l:Nat}(hp:p < n)(hl:l < n)(hne:p ≠ l)(x y:Vec):det n (put (put v p y) l x)=- det n (put (put v p x) l y):=
 zbe hp hl hne (λz=>Uk hp hl hne λc hc=>by rw[W4 hne,XD,XD]) x y
theorem zdK{n:Nat}(v:Mat){k:Nat}(a:Int)(x:Vec)(h:k < n):det n (put v k λc=>a * x c)=a * det n (put v k x):=by
 have:=Qv v a 0 x x h;simpa using this
theorem zfP{n:Nat}(v:Mat){k:Nat}(h:k < n)(m:Nat)(a:Nat->Int)(u:Nat->Vec):det n (put v k λc=>sumN m λj=>a j * u j c)=sumN m λj=>a j * det n (put v k (u j)):=by
 induction m with
 | zero=>
  simp only[sumN];have:=zdK v 0 (λ_=>0) h
  simpa using this
 | succ m ih=>
  simp only[sumN];have:=Qv v 1 (a m) (λc=>sumN m λj=>a j * u j c) (u m) h
  simp only[yaq] at this;rw[this,ih]
theorem sg_abs(n:Nat):sg n=1\/sg n=-1:=by
 induction n with
 | zero=>exact .inl rfl
 | succ n ih=>simp only[sg];omega
def fact:Nat->Nat
 | 0=>1
 | n+1=>(n+1) * fact n
theorem sum_abs{n:Nat}{f:Nat->Int}{B:Nat}(h:∀i,i < n->(f i).natAbs<=B):(sumN n f).natAbs<=n * B:=by
 induction n with
 | zero=>simp[sumN]
 | succ n ih=>
  have h1:=ih λi hi=>h i (by omega)
  have h2:=h n (by omega)
  simp only[sumN,Nat.succ_mul];omega
theorem zfR{B:Nat}:∀{n:Nat}{v:Mat},(∀i c,i < n->c < n->(v i c).natAbs<=B)->(det n v).natAbs<=fact n * B ^ n
 | 0,v,h=>by simp[det,fact]
 | n+1,v,h=>by
  simp only[det,fact];have:=sum_abs (n:=n+1) (f:=λi=>sg i * v i n * det n (skip i v)) (B:=B * (fact n * B ^ n)) λi hi=>by
   have h1:=h i n hi (by omega)
   have h2:=zfR (n:=n) (v:=skip i v) (B:=B) λk c hk hc=>by
    unfold skip;split
    ·exact h k c (by omega) (by omega)
    ·exact h (k+1) c (by omega) (by omega)
   rw[jw,jw];have h3:(sg i).natAbs=1:=by rcases sg_abs i with e | e <;> rw[e] <;> rfl
   rw[h3,yap];exact yak h1 h2
  refine yE this (Nat.le_of_eq ?_);rw[ybb];simp only[ycf,Nat.mul_comm,Nat.mul_left_comm]
end Sx
namespace Sx
def eK(K:Nat):Vec:=λc=>if c=K then 1 else 0
def Vh(K:Nat)(M:Mat)(h:Nat->Nat):Mat:=λj=>if j < K then M (h j) else eK K
structure Bd where
 h:Nat->Nat
 D:Int
 R:Nat->Nat->Int
structure Good(K N:Nat)(M:Mat)(b:Bd):Prop where
 pos:0 < b.D
 dt:∃σ:Int,σ * σ=1/\b.D=σ * det (K+1) (Vh K M b.h)/\∀i j,i < N->j<=K->b.R i j=σ * det (K+1) (put (Vh K M b.h) j (M i))
 cr:∀i c,i < N->c<=K->sumN (K+1) (λj=>b.R i j * Vh K M b.h j c)=b.D * M i c
 hN:∀j,j < K->b.h j < N
def iabs(x:Int):Int:=if x < 0 then -x else x
def tk(x y:Int):Int:=if 0 < x then y else -y
theorem iabs_pos{x:Int}(h:x ≠ 0):0 < iabs x:=by unfold iabs;split <;> omega
def swR(b:Bd)(t p:Nat)(i j:Nat):Int:=if j=p then tk (b.R t p) (b.R i p) else(iabs (b.R t p) * b.R i j - tk (b.R t p) (b.R i p) * b.R t j).fdiv b.D
def swp(b:Bd)(t p:Nat):Bd:=⟨λj=>if j=p then t else b.h j,iabs (b.R t p),swR b t p⟩
theorem zid{n p:Nat}(h:p < n)(a:Int):sumN n (λj=>if j=p then a else 0)=a:=by
 rw[Jf h λi hi hne=>if_neg hne,if_pos rfl]
theorem sum_two'{n k l:Nat}{f:Nat->Int}(hkn:k < n)(hln:l < n)(hne:k ≠ l)(h:∀i,i < n->i ≠ k->i ≠ l->f i=0):sumN n f=f k+f l:=by
 rcases yaz hne with g | g
 ·exact ze5 g hln h
 ·rw[ze5 g hkn λi hi h1 h2=>h i hi h2 h1];omega
theorem fdiv_of{x y d:Int}(hd:0 < d)(h:x=d * y):x.fdiv d=y:=by
 rw[h,Int.mul_fdiv_cancel_left _ (by omega)]
section
variable {K N:Nat}{M:Mat}{b b1 b2:Bd}{t p:Nat}
theorem Vh_swp(hp:p < K):Vh K M (swp b t p).h=put (Vh K M b.h) p (M t):=by
 funext j
 show(if j < K then M (if j=p then t else b.h j) else eK K)=(if j=p then M t else if j < K then M (b.h j) else eK K)
 by_cases e:j=p
 ·subst e;simp[hp]
 ·simp[e]
theorem Vh_K:Vh K M b.h K=eK K:=if_neg (by omega)
theorem Vh_lt{j:Nat}(h:j < K):Vh K M b.h j=M (b.h j):=if_pos h
theorem Good.lin(g:Good K N M b1){q:Nat}(hq:q<=K):∃φ:Vec->Int,(∀i,i < N->b1.R i q=φ (M i))/\(∀m (a:Nat->Int) (u:Nat->Vec),φ (λc=>sumN m λj=>a j * u j c)=sumN m λj=>a j * φ (u j))/\(∀u u':Vec,(∀c,c<=K->u c=u' c)->φ u=φ u')/\(∀a u,φ (λc=>a * u c)=a * φ u)/\φ (eK K)=(if q=K then b1.D else 0)/\∀j,j < K->φ (M (b1.h j))=if j=q then b1.D else 0:=by
 obtain⟨σ,hs,hD,hR⟩:=g.dt;refine⟨λu=>σ * det (K+1) (put (Vh K M b1.h) q u),λi hi=>hR i q hi hq,λm a u=>?_,λu u' e=>?_,λa u=>?_,?_,λj hj=>?_⟩
 ·show σ * _=_;rw[zfP _ (by omega),<- WN]
  exact ZZ λj _=>by rw[qJ]
 ·show σ * _=σ * _
  congr 1
  refine Wg λi c hi hc=>?_
  unfold put;split
  ·exact e c (by omega)
  ·rfl
 ·show σ * _=a * (σ * _);rw[zdK _ _ _ (by omega),qJ]
 ·show σ * det (K+1) (put (Vh K M b1.h) q (eK K))=_;by_cases e:q=K
  ·subst e;rw[if_pos rfl,hD,<- Vh_K (b:=b1) (M:=M),VJ]
  ·rw[if_neg e,Uk (k:=q) (l:=K) (by omega) (by omega) e (λc hc=>by rw[XD,W4 (Ne.symm e),Vh_K]),jo]
 ·show σ * det (K+1) (put (Vh K M b1.h) q (M (b1.h j)))=_;rw[<- Vh_lt (b:=b1) (M:=M) hj];by_cases e:j=q
  ·subst e;rw[if_pos rfl,hD,VJ]
  ·rw[if_neg e,Uk (k:=q) (l:=j) (by omega) (by omega) (Ne.symm e) (λc hc=>by rw[XD,W4 e]),jo]
theorem Good.two(g1:Good K N M b1)(g2:Good K N M b2){i q:Nat}(hi:i < N)(hq:q<=K) :
  b2.D * b1.R i q=sumN K (λj=>b2.R i j * b1.R (b2.h j) q)+b2.R i K * (if q=K then b1.D else 0):=by
 obtain⟨φ,h1,h2,h3,h4,h5,_⟩:=g1.lin hq;rw[h1 i hi,<- h4,<- h5,h3 _ (λc=>sumN (K+1) λj=>b2.R i j * Vh K M b2.h j c) λc hc=>(g2.cr i c hi hc).symm,h2]
 simp only[sumN];rw[Vh_K]
 congr 1
 exact ZZ λj hj=>by rw[Vh_lt hj,h1 _ (g2.hN j hj)]
theorem Good.head(g:Good K N M b){j q:Nat}(hj:j < K)(hq:q<=K):b.R (b.h j) q=if j=q then b.D else 0:=by
 obtain⟨φ,h1,h2,h3,h4,h5,h6⟩:=g.lin hq;rw[h1 _ (g.hN j hj),h6 j hj]
theorem Good.inj(g:Good K N M b){j l:Nat}(hj:j < K)(hl:l < K)(e:b.h j=b.h l):j=l:=by
 have h:=g.head hj (q:=l) (by omega)
 rw[e,g.head hl (by omega),if_pos rfl] at h
 have:=g.pos;by_cases q:j=l
 ·exact q
 ·rw[if_neg q] at h;omega
theorem Good.swap(g:Good K N M b)(ht:t < N)(hp:p < K)(hne:b.R t p ≠ 0) :
  Good K N M (swp b t p)/\∀i j,i < N->j<=K->j ≠ p->b.D * (swp b t p).R i j=iabs (b.R t p) * b.R i j - tk (b.R t p) (b.R i p) * b.R t j:=by
 obtain⟨σ,hs,hD,hR⟩:=g.dt;obtain⟨s,hs2,hab,htk⟩:∃s:Int,s * s=1/\iabs (b.R t p)=s * b.R t p/\∀y,tk (b.R t p) y=s * y:=by
  by_cases e:0 < b.R t p
  ·exact⟨1,rfl,by unfold iabs;rw[if_neg (by omega)];omega,λy=>by unfold tk;rw[if_pos e];omega⟩
  ·exact⟨-1,rfl,by unfold iabs;rw[if_pos (by omega)];omega,λy=>by unfold tk;rw[if_neg e];omega⟩
 have hV:=Vh_swp (K:=K) (M:=M) (b:=b) (t:=t) hp;have dR:∀i j,i < N->j<=K->det (K+1) (put (Vh K M b.h) j (M i))=σ * b.R i j:=λi j hi hj=>by
  rw[hR i j hi hj,<- yba,hs,yaq]
 have key:∀i j,i < N->j<=K->j ≠ p->b.D * det (K+1) (put (put (Vh K M b.h) p (M t)) j (M i))=σ * (b.R t p * b.R i j - b.R i p * b.R t j):=by
  intro i j hi hj hjp;rw[W5 (Ne.symm hjp),<- zdK _ _ _ (by omega),Wg (u:=put (put (Vh K M b.h) j (M i)) p λc=>sumN (K+1) λl=>b.R t l * Vh K M b.h l c),zfP _ (by omega),sum_two' (k:=p) (l:=j) (by omega) (by omega) (Ne.symm hjp) λl hl h1 h2=>?_]
  ·rw[W5 hjp,VJ,dR i j hi hj,det_anti (by omega) (by omega) hjp,VJ,dR i p hi (by omega)]
   grind
  ·rw[Uk (k:=p) (l:=l) (by omega) hl (Ne.symm h1) (λc hc=>by rw[XD,W4 h1,W4 h2]),jo]
  ·intro a c ha hc;unfold put;split
   ·exact(g.cr t c ht (by omega)).symm
   ·rfl
 have ex:∀i j,i < N->j<=K->j ≠ p->(swp b t p).R i j=s * σ * det (K+1) (put (put (Vh K M b.h) p (M t)) j (M i)):=by
  intro i j hi hj hjp;show swR b t p i j=_;unfold swR;rw[if_neg hjp,hab,htk];refine fdiv_of g.pos ?_;have k:=key i j hi hj hjp;have e:b.D * (s * σ * det (K+1) (put (put (Vh K M b.h) p (M t)) j (M i)))=s * σ * (b.D * det (K+1) (put (put (Vh K M b.h) p (M t)) j (M i))):=by rw[qJ]
  rw[e,k];have e2:s * σ * (σ * (b.R t p * b.R i j - b.R i p * b.R t j))=s * (σ * σ) * (b.R t p * b.R i j - b.R i p * b.R t j):=by grind
  rw[e2,hs]
  grind
 have exD:∀i j,i < N->j<=K->j ≠ p->b.D * (swp b t p).R i j=iabs (b.R t p) * b.R i j - tk (b.R t p) (b.R i p) * b.R t j:=by
  intro i j hi hj hjp;rw[ex i j hi hj hjp];have k:=key i j hi hj hjp;have e:b.D * (s * σ * det (K+1) (put (put (Vh K M b.h) p (M t)) j (M i)))=s * σ * (b.D * det (K+1) (put (put (Vh K M b.h) p (M t)) j (M i))):=by rw[qJ]
  rw[e,k,hab,htk];have e2:s * σ * (σ * (b.R t p * b.R i j - b.R i p * b.R t j))=s * (σ * σ) * (b.R t p * b.R i j - b.R i p * b.R t j):=by grind
  rw[e2,hs]
  grind
 have exp:∀i,(swp b t p).R i p=s * b.R i p:=λi=>by
  show swR b t p i p=_;unfold swR;rw[if_pos rfl,htk]
 refine⟨⟨iabs_pos hne,⟨s * σ,by grind,?_,λi j hi hj=>?_⟩,λi c hi hc=>?_,λj hj=>?_⟩,exD⟩
 ·show iabs _=_;rw[hV,dR t p ht (by omega),hab]
  have:s * σ * (σ * b.R t p)=s * (σ * σ) * b.R t p:=by grind
  rw[this,hs,qh]
 ·rw[hV];by_cases e:j=p
  ·subst e;rw[put_put,dR i j hi hj,exp];have:s * σ * (σ * b.R i j)=s * (σ * σ) * b.R i j:=by grind
   rw[this,hs,qh]
  ·exact ex i j hi hj e
 ·have hD0:b.D ≠ 0:=by have:=g.pos;omega
  refine Int.eq_of_mul_eq_mul_left hD0 ?_;rw[<- WN,hV];have:∀j,j < K+1->b.D * ((swp b t p).R i j * put (Vh K M b.h) p (M t) j c)=(s * b.R t p * (b.R i j * Vh K M b.h j c)+(-(s * b.R i p)) * (b.R t j * Vh K M b.h j c))+(if j=p then b.D * (s * b.R i p) * M t c else 0):=by
   intro j hj;by_cases e:j=p
   ·subst e;rw[exp,XD,if_pos rfl]
    grind
   ·rw[W4 e,if_neg e,<- yba,exD i j hi (by omega) e,hab,htk]
    grind
  rw[ZZ this,zcZ,zcZ,WN,WN,zid (by omega),g.cr i c hi hc,g.cr t c ht hc]
  show _=b.D * (iabs _ * _);rw[hab]
  grind
 ·show(if j=p then t else b.h j) < N
  split
  ·exact ht
  ·exact g.hN j hj
theorem Good.size(g:Good K N M b){B:Nat}(hB:1<=B)(hM:∀i c,i < N->c<=K->(M i c).natAbs<=B):b.D.natAbs<=fact (K+1) * B ^ (K+1)/\∀i j,i < N->j<=K->(b.R i j).natAbs<=fact (K+1) * B ^ (K+1):=by
 obtain⟨σ,hs,hD,hR⟩:=g.dt;have s1:σ.natAbs=1:=by
  have:σ.natAbs * σ.natAbs=1:=by rw[<- jw,hs];rfl
  exact Nat.eq_one_of_mul_eq_one_left this
 have hV:∀i c,i < K+1->c < K+1->(Vh K M b.h i c).natAbs<=B:=λi c hi hc=>by
  unfold Vh;split
  ·rename_i hj;exact hM _ c (g.hN i hj) (by omega)
  ·unfold eK;split <;> simp <;> omega
 constructor
 ·rw[hD,jw,s1,yap];exact zfR hV
 ·intro i j hi hj;rw[hR i j hi hj,jw,s1,yap];refine zfR λa c ha hc=>?_
  unfold put;split
  ·exact hM i c hi (by omega)
  ·exact hV a c ha hc
end
end Sx
namespace Sx
section
variable {K N:Nat}{M:Mat}
theorem Good.head0{b:Bd}(g:Good K N M b){j:Nat}(hj:j < K):b.R (b.h j) K=0:=by
 rw[g.head hj (yq K),if_neg (by omega)]
theorem zic{n k:Nat}{f:Nat->Int}(hk:k < n)(h:∀i,i < n->f i<=0)(h2:f k < 0):sumN n f < 0:=by
 induction n with
 | zero=>omega
 | succ n ih=>
  simp only[sumN];by_cases e:k=n
  ·subst e;have:=sum_le (n:=k) (f:=f) (g:=λ_=>0) λi hi=>h i (by omega)
   rw[zie] at this;omega
  ·have:=ih (by omega) λi hi=>h i (by omega)
   have:=h n (by omega)
   omega
theorem mul_np{a b:Int}(ha:a<=0)(hb:0<=b):a * b<=0:=by
 have:=qP (show 0 <= -a by omega) hb
 rw[Int.neg_mul] at this;omega
theorem zcl{a b:Int}(ha:0 < a)(hb:b < 0):a * b < 0:=by
 have:=Int.mul_pos ha (show 0 < -b by omega)
 rw[Int.mul_neg] at this;omega
theorem zhk{a b:Int}(ha:0 < a)(h:a * b < 0):b < 0:=by
 rcases(show b < 0\/0<=b by omega) with g | g
 ·exact g
 ·have:=qP (show 0<=a by omega) g;omega
theorem bland1{b1 b2:Bd}(g1:Good K N M b1)(g2:Good K N M b2){q t p:Nat}(hq:b1.R q K < 0)(hlow:∀i,K<=i->i < q->0<=b1.R i K)
  (hp:p < K) (hpq:b2.h p=q) (ht:t < N) (h0:b2.R t p > 0) (h1:b2.R t K < 0) (h2:∀j,j < K->b2.h j < q->b2.R t j<=0) (h3:∀j,j < K->b2.h j < K->b2.R t j=0) (htK:K<=t) (htq:t < q)
  (h4:∀j,j < K->q < b2.h j->∃l,l < K/\b1.h l=b2.h j):False:=by
 have e:=g1.two g2 ht (yq K);rw[if_pos rfl] at e;have s:sumN K (λj=>b2.R t j * b1.R (b2.h j) K) < 0:=by
  refine zic hp (λj hj=>?_) ?_
  ·rcases yb0 (b2.h j) q with z | z | z
   ·by_cases zk:b2.h j < K
    ·rw[h3 j hj zk,q9];exact jL 0
    ·exact mul_np (h2 j hj z) (hlow _ (by omega) z)
   ·have:j=p:=g2.inj hj hp (by rw[z,hpq])
    subst this;rw[z];exact qA (zcl h0 hq)
   ·obtain⟨l,hl,el⟩:=h4 j hj z;rw[<- el,g1.head0 hl,jo];exact jL 0
  ·show b2.R t p * b1.R (b2.h p) K < 0;rw[hpq];exact zcl h0 hq
 have s2:b2.R t K * b1.D < 0:=by rw[jY];exact zcl g1.pos h1
 have:=zhk g2.pos (show b2.D * b1.R t K < 0 by rw[e];omega)
 have:=hlow t htK htq;omega
theorem bland2{b1 b2:Bd}(g1:Good K N M b1)(g2:Good K N M b2){w q p1 p:Nat}(hw:w < N)(hp1:p1 < K)(hq1:b1.h p1=q)(h1:b1.R w p1 > 0)(h2:∀j,j < K->b1.h j < q->b1.R w j<=0)(h3:∀j,j < K->b1.h j < K->b1.R w j=0)
  (hp:p < K) (k1:b2.R w p > 0) (k2:b2.R q p < 0) (k3:0<=b2.R q K) (k4:∀i,K<=i->i < q->b2.R i p < 0->b2.R q K * -b2.R i p < b2.R i K * -b2.R q p)
  (same:∀i,i < N->b1.R i K * b2.D=b2.R i K * b1.D) (h4:∀j,j < K->q < b1.h j->∃l,l < K/\l ≠ p/\b2.h l=b1.h j):False:=by
 have e:=g2.two g1 hw (q:=p) (by omega)
 rw[if_neg (by omega),jo,yam] at e
 have s:sumN K (λj=>b1.R w j * b2.R (b1.h j) p) < 0:=by
  refine zic hp1 (λj hj=>?_) ?_
  ·rcases yb0 (b1.h j) q with z | z | z
   ·by_cases zk:b1.h j < K
    ·rw[h3 j hj zk,q9];exact jL 0
    ·rcases(show b2.R (b1.h j) p < 0\/0<=b2.R (b1.h j) p by omega) with n | n
     ·have k:=k4 _ (by omega) z n
      have s:=same _ (g1.hN j hj);rw[g1.head0 hj,q9] at s;have:b2.R (b1.h j) K=0:=by
       rcases ycb.mp s.symm with y | y
       ·exact y
       ·have:=g1.pos;omega
      rw[this,q9] at k;have:=qP k3 (show 0 <= -b2.R (b1.h j) p by omega)
      omega
     ·exact mul_np (h2 j hj z) n
   ·have:j=p1:=g1.inj hj hp1 (by rw[z,hq1])
    subst this;rw[z];exact qA (zcl h1 k2)
   ·obtain⟨l,hl,hlp,el⟩:=h4 j hj z;rw[<- el,g2.head hl (by omega),if_neg hlp,jo]
    exact jL 0
  ·show b1.R w p1 * b2.R (b1.h p1) p < 0;rw[hq1];exact zcl h1 k2
 have:=Int.mul_pos g1.pos k1;omega
structure Walk(K:Nat)(B:Nat->Nat->Nat)(T P:Nat->Nat)(x y:Nat):Prop where
 st:∀k,x<=k->k < y->B (k+1)=λj=>if j=P k then T k else B k j
 pl:∀k,x<=k->k < y->P k < K
 nh:∀k,x<=k->k < y->∀j,j < K->B k j ≠ T k
 ij:∀k,x<=k->k < y->∀i j,i < K->j < K->B k i=B k j->i=j
def Hd(K:Nat)(h:Nat->Nat)(s:Nat):Prop:=∃j,j < K/\h j=s
theorem Walk.stays{B:Nat->Nat->Nat}{T P:Nat->Nat}{x y:Nat}(w:Walk K B T P x y){s:Nat}(hs:∀k,x<=k->k < y->B k (P k) ≠ s):∀d a,x<=a->a+d<=y->Hd K (B a) s->Hd K (B (a+d)) s
 | 0,a,_,_,h=>h
 | d+1,a,ha,hd,h=>by
  obtain⟨j,hj,e⟩:=w.stays hs d a ha (by omega) h
  refine⟨j,hj,?_⟩;show B (a+d+1) j=s;rw[w.st (a+d) (by omega) (by omega)]
  show(if j=P (a+d) then T (a+d) else B (a+d) j)=s
  rw[if_neg (λz=>hs (a+d) (by omega) (by omega) (by rw[<- z];exact e)),e]
theorem Walk.stayn{B:Nat->Nat->Nat}{T P:Nat->Nat}{x y:Nat}(w:Walk K B T P x y){s:Nat}(hs:∀k,x<=k->k < y->T k ≠ s):∀d a,x<=a->a+d<=y->¬Hd K (B a) s->¬Hd K (B (a+d)) s
 | 0,a,_,_,h=>h
 | d+1,a,ha,hd,h=>by
  rintro⟨j,hj,e⟩
  have e':B (a+d+1) j=s:=e;rw[w.st (a+d) (by omega) (by omega)] at e'
  have e2:(if j=P (a+d) then T (a+d) else B (a+d) j)=s:=e'
  split at e2
  ·exact hs (a+d) (by omega) (by omega) e2
  ·exact w.stayn hs d a ha (by omega) h ⟨j,hj,e2⟩
theorem exmax{x:Nat}(T U:Nat->Nat):∀d,∃q,(∃k,x<=k/\k < x+d+1/\(T k=q\/U k=q))/\∀k,x<=k->k < x+d+1->T k<=q/\U k<=q
 | 0=>⟨max (T x) (U x),⟨x,yq x,by omega,by omega⟩,λk h1 h2=>by
  have e:k=x:=by omega
  subst e;omega⟩
 | d+1=>by
  obtain⟨q,⟨k,h1,h2,h3⟩,h4⟩:=exmax T U d;refine⟨max q (max (T (x+d+1)) (U (x+d+1))),?_,λk' a1 a2=>?_⟩
  ·by_cases z:max (T (x+d+1)) (U (x+d+1))<=q
   ·exact⟨k,h1,by omega,by omega⟩
   ·exact⟨x+d+1,by omega,by omega,by omega⟩
  ·by_cases z:k'=x+d+1
   ·subst z;omega
   ·have:=h4 k' a1 (by omega);omega
theorem Walk.round{B:Nat->Nat->Nat}{T P:Nat->Nat}{x y:Nat}(w:Walk K B T P x y)(hxy:x < y)(he:∀j,j < K->B x j=B y j) :
  ∃q k1 k2,x<=k1/\k1 < y/\x<=k2/\k2 < y/\T k1=q/\B k2 (P k2)=q/\(∀k,x<=k->k < y->T k<=q/\B k (P k)<=q)/\∀a c s,x<=a->a<=y->x<=c->c<=y->q < s->Hd K (B a) s->Hd K (B c) s:=by
 obtain⟨q,⟨k,h1,h2,h3⟩,h4⟩:=exmax (x:=x) T (λk=>B k (P k)) (y - x - 1)
 rw[show x+(y - x - 1)+1=y by omega] at h2 h4
 have hxy':∀s,Hd K (B x) s ↔ Hd K (B y) s:=λs=>⟨λ⟨j,hj,e⟩=>⟨j,hj,by rw[<- he j hj];exact e⟩,λ⟨j,hj,e⟩=>⟨j,hj,by rw[he j hj];exact e⟩⟩
 have inn:∃k1,x<=k1/\k1 < y/\T k1=q:=by
  rcases h3 with h3 | h3
  ·exact⟨k,h1,h2,h3⟩
  ·refine jx λno=>?_
   have nn:∀k',x<=k'->k' < y->T k' ≠ q:=λk' a1 a2 a3=>no ⟨k',a1,a2,a3⟩
   have out:¬Hd K (B (k+1)) q:=by
    rintro⟨j,hj,e⟩
    rw[w.st k h1 h2] at e;have e2:(if j=P k then T k else B k j)=q:=e
    have h3':B k (P k)=q:=h3;split at e2
    ·exact nn k h1 h2 e2
    ·rename_i ne;exact ne (w.ij k h1 h2 j (P k) hj (w.pl k h1 h2) (e2.trans h3'.symm))
   exact(by
    have:=w.stayn nn (y - (k+1)) (k+1) (by omega) (by omega) out
    rw[show k+1+(y - (k+1))=y by omega] at this
    have h0:¬Hd K (B x) q:=λz=>this ((hxy' q).mp z)
    have:=w.stayn nn (k - x) x (by omega) (by omega) h0
    rw[show x+(k - x)=k by omega] at this
    exact this ⟨P k,w.pl k h1 h2,h3⟩)
 have out:∃k2,x<=k2/\k2 < y/\B k2 (P k2)=q:=by
  obtain⟨k,h1,h2,h3⟩:=inn;refine jx λno=>?_
  have nn:∀k',x<=k'->k' < y->B k' (P k') ≠ q:=λk' a1 a2 a3=>no ⟨k',a1,a2,a3⟩
  have hin:Hd K (B (k+1)) q:=⟨P k,w.pl k h1 h2,by
   rw[w.st k h1 h2];show(if P k=P k then T k else _)=q
   rw[if_pos rfl,h3]⟩
  have a:=w.stays nn (y - (k+1)) (k+1) (by omega) (by omega) hin
  rw[show k+1+(y - (k+1))=y by omega] at a
  have a2:=w.stays nn (k - x) x (by omega) (by omega) ((hxy' q).mpr a)
  rw[show x+(k - x)=k by omega] at a2
  obtain⟨j,hj,e⟩:=a2;exact w.nh k h1 h2 j hj (by rw[e,h3])
 obtain⟨k1,a1,a2,a3⟩:=inn;obtain⟨k2,c1,c2,c3⟩:=out;refine⟨q,k1,k2,a1,a2,c1,c2,a3,c3,h4,λa c s ha1 ha2 hc1 hc2 hs h=>?_⟩
 have n1:∀k,x<=k->k < y->B k (P k) ≠ s:=λk h1 h2 e=>by have:=(h4 k h1 h2).2;omega
 have n2:∀k,x<=k->k < y->T k ≠ s:=λk h1 h2 e=>by have:=(h4 k h1 h2).1;omega
 have b0:Hd K (B y) s:=by
  have:=w.stays n1 (y - a) a ha1 (by omega) h
  rwa [show a+(y - a)=y by omega] at this
 have:=w.stays n1 (c - x) x (by omega) (by omega) ((hxy' s).mpr b0)
 rwa [show x+(c - x)=c by omega] at this
theorem ziP:∀(n:Nat) (f:Nat->Nat),(∀i,i<=n->f i < n)->∃i j,i < j/\j<=n/\f i=f j
 | 0,f,h=>absurd (h 0 (yq 0)) (by omega)
 | n+1,f,h=>by
  by_cases e:∃i,i<=n/\f i=f (n+1)
  ·obtain⟨i,hi,e⟩:=e;exact⟨i,n+1,by omega,yq _,e⟩
  ·-- the value of the last one is left out
   have hn:=h (n+1) (yq _);obtain⟨i,j,h1,h2,h3⟩:=ziP n (λi=>if f i < f (n+1) then f i else f i - 1) (λi hi=>by
    have a:=h i (by omega)
    have b:f i ≠ f (n+1):=λz=>e ⟨i,hi,z⟩
    show(if f i < f (n+1) then f i else f i - 1) < n
    split <;> omega)
   refine⟨i,j,h1,by omega,?_⟩
   have b1:f i ≠ f (n+1):=λz=>e ⟨i,by omega,z⟩
   have b2:f j ≠ f (n+1):=λz=>e ⟨j,h2,z⟩
   have h3':(if f i < f (n+1) then f i else f i - 1)=(if f j < f (n+1) then f j else f j - 1):=h3
   split at h3' <;> split at h3' <;> omega
def code(N:Nat):Nat->(Nat->Nat)->Nat
 | 0,_=>0
 | K+1,h=>code N K h+N ^ K * h K
theorem zbF{N:Nat}:∀{K:Nat}{h:Nat->Nat},(∀j,j < K->h j < N)->code N K h < N ^ K
 | 0,h,_=>by simp[code]
 | K+1,h,e=>by
  have a:=zbF (N:=N) (K:=K) (h:=h) λj hj=>e j (by omega)
  have b:=e K (by omega)
  simp only[code,ybb];have:N ^ K * (h K+1)<=N ^ K * N:=yaw _ (by omega)
  rw[Nat.mul_add] at this;omega
theorem zdT{N:Nat}:∀{K:Nat}{h h':Nat->Nat},(∀j,j < K->h j < N)->(∀j,j < K->h' j < N)->code N K h=code N K h'->∀j,j < K->h j=h' j
 | 0,h,h',_,_,_,j,hj=>by omega
 | K+1,h,h',a,b,e,j,hj=>by
  simp only[code] at e;have a1:=zbF (N:=N) (K:=K) (h:=h) λj hj=>a j (by omega)
  have b1:=zbF (N:=N) (K:=K) (h:=h') λj hj=>b j (by omega)
  have hp:0 < N ^ K:=by omega
  have e1:h K=h' K:=by
   have q1:(code N K h+N ^ K * h K) / N ^ K=h K:=by rw[Nat.add_mul_div_left _ _ hp,Nat.div_eq_of_lt a1,qR]
   have q2:(code N K h'+N ^ K * h' K) / N ^ K=h' K:=by rw[Nat.add_mul_div_left _ _ hp,Nat.div_eq_of_lt b1,qR]
   rw[<- q1,<- q2,e]
  have e2:code N K h=code N K h':=by rw[e1] at e;omega
  by_cases z:j=K
  ·rw[z];exact e1
  ·exact zdT (λj hj=>a j (by omega)) (λj hj=>b j (by omega)) e2 j (by omega)
structure Ch1(K N:Nat)(b:Bd)(t p:Nat):Prop where
 tK:K<=t
 tN:t < N
 pK:p < K
 sh:b.R t K < 0
 low:∀i,K<=i->i < t->0<=b.R i K
 hp:0 < b.R t p
 hj:∀j,j < K->b.h j < b.h p->b.R t j<=0
 am:∀j,j < K->b.h j < K->b.R t j=0
theorem zfb{B:Nat->Bd}{T P:Nat->Nat}{L:Nat}(g:∀k,k<=L->Good K N M (B k))(ch:∀k,k < L->Ch1 K N (B k) (T k) (P k))(st:∀k,k < L->B (k+1)=swp (B k) (T k) (P k)):L < N ^ K:=by
 refine jx λno=>?_
 obtain⟨x,y,h1,h2,h3⟩:=ziP (N ^ K) (λk=>code N K (B k).h) λi hi=>zbF (g i (by omega)).hN
 have he:=zdT (g x (by omega)).hN (g y (by omega)).hN h3
 have w:Walk K (λk=>(B k).h) T P x y:=by
  refine⟨λk a b=>?_,λk a b=>(ch k (by omega)).pK,λk a b j hj e=>?_,λk a b i j hi hj e=>(g k (by omega)).inj hi hj e⟩
  ·show(B (k+1)).h=_;rw[st k (by omega)];rfl
  ·have:=(g k (by omega)).head0 hj
   have e':(B k).h j=T k:=e;rw[e'] at this;have:=(ch k (by omega)).sh
   omega
 obtain⟨q,k1,k2,a1,a2,c1,c2,e1,e2,mx,sm⟩:=w.round h1 he;have c1':=ch k1 (by omega)
 have c2':=ch k2 (by omega)
 have hq:(B k2).h (P k2)=q:=e2;have tq:T k2 < q:=by
  have:=(mx k2 c1 c2).1;rcases Nat.lt_or_ge (T k2) q with z | z
  ·exact z
  ·exact absurd (show(B k2).h (P k2)=T k2 by omega) (w.nh k2 c1 c2 (P k2) c2'.pK)
 refine bland1 (g k1 (by omega)) (g k2 (by omega)) (q:=q) (t:=T k2) (p:=P k2) (by rw[<- e1];exact c1'.sh) (λi h1 h2=>c1'.low i h1 (by omega)) c2'.pK hq c2'.tN c2'.hp c2'.sh (λj hj z=>c2'.hj j hj (by omega)) c2'.am c2'.tK tq λj hj z=>?_
 exact sm k2 k1 _ c1 (by omega) a1 (by omega) z ⟨j,hj,rfl⟩
structure Ch2(K N w:Nat)(b:Bd)(t p:Nat):Prop where
 tK:K<=t
 tN:t < N
 pK:p < K
 hp:0 < b.R w p
 hj:∀j,j < K->b.h j < b.h p->b.R w j<=0
 am:∀j,j < K->b.h j < K->b.R w j=0
 ng:b.R t p < 0
 fe:0<=b.R t K
 lo:∀i,K<=i->i < t->b.R i p < 0->b.R t K * -b.R i p < b.R i K * -b.R t p
theorem zh8{b:Bd}{t p:Nat}(g:Good K N M b)(ht:t < N)(hp:p < K)(hn:b.R t p < 0){i j:Nat}(hi:i < N)(hj:j<=K)(hjp:j ≠ p) :
  (swp b t p).D=-b.R t p/\b.D * (swp b t p).R i j=-b.R t p * b.R i j+b.R i p * b.R t j:=by
 have e:=(g.swap ht hp (by omega)).2 i j hi hj hjp
 have e1:iabs (b.R t p)=-b.R t p:=by unfold iabs;rw[if_pos hn]
 have e2:tk (b.R t p) (b.R i p)=-b.R i p:=by unfold tk;rw[if_neg (by omega)]
 refine⟨e1,?_⟩;rw[e,e1,e2]
 grind
theorem zcQ{b:Bd}{w t p:Nat}(g:Good K N M b)(hw:w < N)(c:Ch2 K N w b t p) :
  b.R w K * (swp b t p).D<=(swp b t p).R w K * b.D/\(b.R w K * (swp b t p).D=(swp b t p).R w K * b.D->∀i,i < N->b.R i K * (swp b t p).D=(swp b t p).R i K * b.D):=by
 have f:=λi (hi:i < N)=>zh8 g c.tN c.pK c.ng hi (yq K) (by have:=c.pK;omega)
 have e:∀i,i < N->(swp b t p).R i K * b.D=b.R i K * (swp b t p).D+b.R i p * b.R t K:=λi hi=>by
  obtain⟨h1,h2⟩:=f i hi;rw[jY,h2,h1];grind
 rw[e w hw];refine⟨?_,λz i hi=>?_⟩
 ·have:=qP (qA c.hp) c.fe;omega
 ·have z0:b.R w p * b.R t K=0:=by omega
  rcases ycb.mp z0 with y | y
  ·have:=c.hp;omega
  ·rw[e i hi,y,jo,yam]
theorem VM{a b c x y z:Int}(hx:0 < x)(hy:0 < y)(hz:0 < z)(h1:a * y<=b * x)(h2:b * z<=c * y):a * z<=c * x:=by
 have h3:=ybg h1 (qA hz);have h4:=ybg h2 (qA hx);have h5:a * z * y<=c * x * y:=by
  have e1:a * y * z=a * z * y:=by grind
  have e2:b * x * z=b * z * x:=by grind
  have e3:c * y * x=c * x * y:=by grind
  rw[e1,e2] at h3;rw[e3] at h4;omega
 exact Int.le_of_mul_le_mul_right h5 hy
theorem zdI{a b c x y z:Int}(hy:0 < y)(h1:a * y=b * x)(h2:b * z=c * y):a * z=c * x:=by
 have h5:a * z * y=c * x * y:=by
  have e1:a * z * y=a * y * z:=by grind
  have e2:b * x * z=b * z * x:=by grind
  rw[e1,h1,e2,h2];grind
 exact Int.eq_of_mul_eq_mul_right (by omega) h5
theorem zhR{B:Nat->Bd}{T P:Nat->Nat}{L w:Nat}(hw:w < N)(g:∀k,k<=L->Good K N M (B k))(ch:∀k,k < L->Ch2 K N w (B k) (T k) (P k))(st:∀k,k < L->B (k+1)=swp (B k) (T k) (P k)):L < N ^ K:=by
 refine jx λno=>?_
 obtain⟨x,y,h1,h2,h3⟩:=ziP (N ^ K) (λk=>code N K (B k).h) λi hi=>zbF (g i (by omega)).hN
 have he:=zdT (g x (by omega)).hN (g y (by omega)).hN h3
 have wk:Walk K (λk=>(B k).h) T P x y:=by
  refine⟨λk a b=>?_,λk a b=>(ch k (by omega)).pK,λk a b j hj e=>?_,λk a b i j hi hj e=>(g k (by omega)).inj hi hj e⟩
  ·show(B (k+1)).h=_;rw[st k (by omega)];rfl
  ·have c:=ch k (by omega)
   have:=(g k (by omega)).head hj (q:=P k) (by have:=c.pK;omega)
   have e':(B k).h j=T k:=e;rw[e'] at this;have:=c.ng;have:=(g k (by omega)).pos
   split at * <;> omega
 -- worth does not fall from step to step
 have mono:∀d a,a+d<=L->(B a).R w K * (B (a+d)).D<=(B (a+d)).R w K * (B a).D:=by
  intro d
  induction d with
  | zero=>intro a _;exact jL _
  | succ d ih=>
   intro a hd;have s:=(zcQ (g (a+d) (by omega)) hw (ch (a+d) (by omega))).1
   rw[<- st (a+d) (by omega)] at s
   exact VM (g a (by omega)).pos (g (a+d) (by omega)).pos (g (a+d+1) (by omega)).pos (ih a (by omega)) s
 -- the board at the end of the round tells the same worth as at its start
 have fin:∀i,i < N->(B x).R i K * (B y).D=(B y).R i K * (B x).D:=by
  intro i hi;have e:=(g x (by omega)).two (g y (by omega)) hi (yq K)
  rw[if_pos rfl,zcY λj hj=>by rw[<- he j hj,(g x (by omega)).head0 hj,jo]] at e
  rw[jY,e];omega
 have flat:∀k,x<=k->k < y->(B k).R w K * (B (k+1)).D=(B (k+1)).R w K * (B k).D:=by
  intro k a b;have m1:=mono (k - x) x (by omega)
  rw[show x+(k - x)=k by omega] at m1
  have m2:=mono (y - (k+1)) (k+1) (by omega)
  rw[show k+1+(y - (k+1))=y by omega] at m2
  have m3:=mono 1 k (by omega)
  have e:(B (k+1)).R w K * (B k).D<=(B k).R w K * (B (k+1)).D:=by
   have s1:(B (k+1)).R w K * (B x).D<=(B x).R w K * (B (k+1)).D:=by
    have:=fin w hw;exact VM (g (k+1) (by omega)).pos (g y (by omega)).pos (g x (by omega)).pos m2 (by omega)
   exact VM (g (k+1) (by omega)).pos (g x (by omega)).pos (g k (by omega)).pos s1 m1
  omega
 have pts:∀d a,x<=a->a+d<=y->∀i,i < N->(B a).R i K * (B (a+d)).D=(B (a+d)).R i K * (B a).D:=by
  intro d
  induction d with
  | zero=>intro a _ _ i _;rfl
  | succ d ih=>
   intro a ha hd i hi;have s:=(zcQ (g (a+d) (by omega)) hw (ch (a+d) (by omega))).2
   rw[<- st (a+d) (by omega)] at s
   exact zdI (g (a+d) (by omega)).pos (ih a ha (by omega) i hi) (s (flat (a+d) (by omega) (by omega)) i hi)
 have pall:∀a c,x<=a->a<=y->x<=c->c<=y->∀i,i < N->(B a).R i K * (B c).D=(B c).R i K * (B a).D:=by
  intro a c h1 h2 h3 h4 i hi;rcases Nat.le_total a c with z | z
  ·have:=pts (c - a) a h1 (by omega) i hi
   rwa [show a+(c - a)=c by omega] at this
  ·have:=pts (a - c) c h3 (by omega) i hi
   rw[show c+(a - c)=a by omega] at this
   exact this.symm
 obtain⟨q,k1,k2,a1,a2,c1,c2,e1,e2,mx,sm⟩:=wk.round h1 he;have d1:=ch k1 (by omega)
 have d2:=ch k2 (by omega)
 have hq:(B k2).h (P k2)=q:=e2;refine bland2 (g k2 (by omega)) (g k1 (by omega)) (w:=w) (q:=q) (p1:=P k2) (p:=P k1) hw d2.pK hq d2.hp (λj hj z=>d2.hj j hj (by omega)) d2.am d1.pK d1.hp (by rw[<- e1];exact d1.ng) (by rw[<- e1];exact d1.fe) (λi h1 h2 h3=>by rw[<- e1];exact d1.lo i h1 (by omega) h3) (pall k2 k1 c1 (by omega) a1 (by omega)) λj hj z=>?_
 obtain⟨l,hl,el⟩:=sm k2 k1 _ c1 (by omega) a1 (by omega) z ⟨j,hj,rfl⟩
 refine⟨l,hl,λn=>?_,el⟩
 subst n;have:=(mx k1 a1 a2).2;have el':(B k1).h (P k1)=(B k2).h j:=el;have:(B k1).h (P k1)<=q:=this;omega
end
end Sx
namespace Sx
def idM:Mat:=λi c=>if c=i then 1 else 0
theorem zgM:∀n,det n idM * det n idM=1
 | 0=>rfl
 | n+1=>by
  have e:det (n+1) idM=sg n * det n idM:=by
   simp only[det];rw[Jf (k:=n) (by omega) λi hi hne=>by
    have:idM i n=0:=if_neg (λz=>hne z.symm)
    rw[this,jo,q9]]
   have h1:idM n n=1:=if_pos rfl;have h2:det n (skip n idM)=det n idM:=Wg λi c hi hc=>by unfold skip;rw[if_pos hi]
   rw[h1,h2,qh]
  have ih:=zgM n;have hs:sg n * sg n=1:=by rcases sg_abs n with h | h <;> rw[h] <;> rfl
  rw[e];have:sg n * det n idM * (sg n * det n idM)=(sg n * sg n) * (det n idM * det n idM):=by grind
  rw[this,hs,ih];rfl
theorem zhL{n j:Nat}(hj:j < n)(x:Vec):det n (put idM j x)=x j * det n idM:=by
 have e:det n (put idM j x)=det n (put idM j λc'=>sumN n λc=>x c * idM c c'):=by
  refine Wg λi c hi hc=>?_
  unfold put;split
  ·show x c=sumN n λa=>x a * idM a c
   rw[Jf (k:=c) hc λa ha hne=>by
    have:idM a c=0:=if_neg (λz=>hne z.symm)
    rw[this,jo]]
   have:idM c c=1:=if_pos rfl;rw[this,qh]
  ·rfl
 rw[e,zfP _ hj,Jf (k:=j) hj λa ha hne=>by
  rw[Uk (k:=j) (l:=a) hj ha (Ne.symm hne) (λc hc=>by rw[XD,W4 hne]),jo],VJ]
theorem zhF{K N:Nat}{M:Mat}{b:Bd}(hh:∀j,j < K->b.h j=j)(hD:b.D=1)(hR:∀i j,b.R i j=M i j)(hM:∀j c,j < K->c<=K->M j c=if c=j then 1 else 0)(hKN:K<=N):Good K N M b:=by
 have hV:∀i c,i < K+1->c < K+1->Vh K M b.h i c=idM i c:=λi c hi hc=>by
  unfold Vh idM;split
  ·rename_i h;rw[hh i h,hM i c h (by omega)]
  ·have:i=K:=by omega
   rw[this];rfl
 have dV:det (K+1) (Vh K M b.h)=det (K+1) idM:=Wg hV;refine⟨by rw[hD];decide,⟨det (K+1) idM,zgM _,?_,λi j hi hj=>?_⟩,λi c hi hc=>?_,λj hj=>by rw[hh j hj];omega⟩
 ·rw[hD,dV,zgM]
 ·have e:det (K+1) (put (Vh K M b.h) j (M i))=det (K+1) (put idM j (M i)):=Wg λa c ha hc=>by
   unfold put;split
   ·rfl
   ·exact hV a c ha hc
  rw[e,zhL (by omega),hR,qJ,zgM,qh]
 ·rw[hD,yaq,Jf (k:=c) (by omega) λa ha hne=>by
   rw[hV a c ha (by omega)]
   have:idM a c=0:=if_neg (λz=>hne z.symm)
   rw[this,jo],hV c c (by omega) (by omega),hR]
  have:idM c c=1:=if_pos rfl;rw[this,qh]
def Fr(K m:Nat)(b:Bd):Prop:=∀j,j < K->b.h j < K->∀t,K<=t->t < K+m->b.R t j=0
theorem zd3{K N m:Nat}{M:Mat}{b:Bd}{t p:Nat}(g:Good K N M b)(hN:N=K+m+1)(ht:K<=t)(ht2:t < K+m)(hp:p < K)(hne:b.R t p ≠ 0){j:Nat}(hj:j < K)(hjp:j ≠ p)(hz:∀i,K<=i->i < K+m->b.R i j=0):∀i,K<=i->i < K+m->(swp b t p).R i j=0:=λi h1 h2=>by
 have e:=(g.swap (by omega) hp hne).2 i j (by omega) (by omega) hjp
 rw[hz i h1 h2,hz t ht ht2,jo,jo,qS] at e;rcases ycb.mp e with z | z
 ·have:=g.pos;omega
 ·exact z
theorem zjG{K N m:Nat}{M:Mat}{b:Bd}{t p:Nat}(g:Good K N M b)(hN:N=K+m+1)(f:Fr K m b)(ht:K<=t)(ht2:t < K+m)(hp:p < K)(hne:b.R t p ≠ 0):Fr K m (swp b t p):=λj hj hh i h1 h2=>by
 by_cases e:j=p
 ·subst e;have:(if j=j then t else b.h j) < K:=hh
  rw[if_pos rfl] at this;omega
 ·have hh':(if j=p then t else b.h j) < K:=hh
  rw[if_neg e] at hh';exact zd3 g hN ht ht2 hp hne hj e (f j hj hh') i h1 h2
end Sx
namespace Lw
open PySem Fx
def Qh:List Sl->Nat:=λ_=>1000000000000
def zgP:DS:=
  (dRet (dVar 2))
def zgQ:DS:=
  dSeq (UF 2 [] (dVar 1) (dC (.int 1)))
  zgP
def d_unit:DS:=
  dSeq (zal 2 [] (oRep (oLst (Zc (dC (.int 0)) dNil)) (dVar 0)))
  zgQ
def zcq:DF:=runQ 3 2 d_unit
def zcy:DS:=
  (dRet (d2 fAdd (dL (YS 1 [] (Zu 0) (iSeq (d2 fIx (dVar 0) (dC (.int 0)))) tT (d1 fNeg (dVar 0)))) (dLst (Zc (d2 fIx (dVar 0) (dC (.int 1))) dNil))))
def WI:DF:=runQ 1 1 zcy
def UA:DS:=
  (dRet (dMk ["heads","divisor","rows"] (Zc (dL (zhu (iRng (dVar 2)))) (Zc (dC (.int 1)) (Zc (d2 fAdd (d2 fAdd (dVar 3) (dVar 4)) (dLst (Zc (d2 fAdd (dVar 1) (dLst (Zc (dC (.int 0)) dNil))) dNil))) dNil)))))
def UB:DS:=
  dSeq (dSet 4 [] (dL (YS 1 [] (Zu 0) (iSeq (d2 fIx (dVar 0) (dC (.int 1)))) tT (Zi WI (Zc (dVar 0) dNil)))))
  UA
def UC:DS:=
  dSeq (dSet 3 [] (dL (YS 1 [2] (Zu 0) (iRng (dVar 2)) tT (Zi zcq (Zc (d2 fAdd (dVar 1) (dC (.int 1))) (Zc (dVar 0) dNil))))))
  UB
def Q2:DS:=
  dSeq (dSet 2 [] (d2 fIx (dVar 0) (dC (.int 0))))
  UC
def Xf:DF:=runQ 5 2 Q2
def zcx:DS:=
  (dRet (dL (zhu (iRng2 (d1 fLen (d1 (fFld "heads") (dVar 0))) (d2 fSub (d1 fLen (d1 (fFld "rows") (dVar 0))) (dC (.int 1)))))))
def Yj:DF:=runQ 1 1 zcx
def Ul:DS:=
  (dRet (dVar 6))
def Um:DS:=
  dSeq (UF 6 [] (dVar 2) (dVar 5))
  Ul
def Uo:DS:=
  dSeq (zal 6 [] (YS 2 [4,5,3] (V6 0 1) (iZip (iSeq (dVar 0)) (iSeq (dVar 1))) tT (d2 fDiv (d2 fSub (d2 fMul (dVar 2) (dVar 0)) (d2 fMul (dVar 3) (dVar 1))) (dVar 4))))
  Um
def Up:DS:=
  dSeq (dSet 5 [] (dIfE (tV (d2 fGt (d2 fIx (dVar 1) (dVar 2)) (dC (.int 0)))) (d2 fIx (dVar 0) (dVar 2)) (d1 fNeg (d2 fIx (dVar 0) (dVar 2)))))
  Uo
def QS:DS:=
  dSeq (dSet 4 [] (d1 fAbs (d2 fIx (dVar 1) (dVar 2))))
  Up
def Xa:DF:=runQ 7 4 QS
def zbh:DS:=
  (dRet (dMk ["heads","divisor","rows"] (Zc (dVar 4) (Zc (d1 fAbs (d2 fIx (dVar 3) (dVar 2))) (Zc (dVar 5) dNil)))))
def zbi:DS:=
  dSeq (dSet 5 [] (dL (YS 1 [3,2,0] (Zu 0) (iSeq (d1 (fFld "rows") (dVar 0))) tT (Zi Xa (Zc (dVar 0) (Zc (dVar 1) (Zc (dVar 2) (Zc (d1 (fFld "divisor") (dVar 3)) dNil))))))))
  zbh
def zbj:DS:=
  dSeq (UF 4 [] (dVar 2) (dVar 1))
  zbi
def zbk:DS:=
  dSeq (zal 4 [] (zdp (d1 (fFld "heads") (dVar 0))))
  zbj
def zeK:DS:=
  dSeq (dSet 3 [] (d2 fIx (d1 (fFld "rows") (dVar 0)) (dVar 1)))
  zbk
def YE:DF:=runQ 6 3 zeK
def VB:DS:=
  (dRet (dC .none))
def WZ:DS:=
  dSeq (dFor (Zu 2) [] (iSeq (Zi Yj (Zc (dVar 0) dNil)))
  (dIf (tV (d2 fNe (d2 fIx (d2 fIx (d1 (fFld "rows") (dVar 0)) (dVar 2)) (dVar 1)) (dC (.int 0))))
  (dRet (dVar 2))
  ZD))
  VB
def Z4:DF:=runQ 3 2 WZ
def zbu:DS:=
  (dRet (dVar 0))
def zj7:DS:=
  dSeq (dFor (Zu 1) [] (iRng (d1 fLen (d1 (fFld "heads") (dVar 0))))
  (dSeq (dSet 2 [] (Zi Z4 (Zc (dVar 0) (Zc (dVar 1) dNil))))
  (dIf (tV (d1 JA (dVar 2)))
  (dSet 0 [] (Zi YE (Zc (dVar 0) (Zc (dVar 2) (Zc (dVar 1) dNil)))))
  ZD)))
  zbu
def za7:DF:=runQ 3 1 zj7
def zj5:DS:=
  (dRet (dOrV (d2 fGt (dVar 2) (dC (.int 0))) (zfU (d2 fLt (dVar 2) (dC (.int 0))) (d2 fLt (d2 fIx (d1 (fFld "heads") (dVar 0)) (dVar 1)) (d1 fLen (d1 (fFld "heads") (dVar 0)))))))
def Jz:DF:=runQ 3 3 zj5
def XN:DS:=
  (dRet (dMinK [0] (dVar 3) (d2 fIx (d1 (fFld "heads") (dVar 1)) (dVar 0))))
def XQ:DS:=
  dSeq (dSet 3 [] (dL (YS 1 [0,2] (Zu 0) (iRng (d1 fLen (d1 (fFld "heads") (dVar 0)))) (tV (Zi Jz (Zc (dVar 1) (Zc (dVar 0) (Zc (d2 fIx (dVar 2) (dVar 0)) dNil))))) (dVar 0))))
  XN
def Wj:DS:=
  dSeq (dSet 2 [] (d2 fIx (d1 (fFld "rows") (dVar 0)) (dVar 1)))
  XQ
def Zn:DF:=runQ 4 2 Wj
def U7:DS:=
  (dRet (dC .none))
def Uq:DS:=
  dSeq (dFor (Zu 1) [] (iSeq (Zi Yj (Zc (dVar 0) dNil)))
  (dIf (tV (d2 fLt (d2 fIx (d2 fIx (d1 (fFld "rows") (dVar 0)) (dVar 1)) (d1 fNeg (dC (.int 1)))) (dC (.int 0))))
  (dRet (dVar 1))
  ZD))
  U7
def ZI:DF:=runQ 2 1 Uq
def VT:DS:=
  (dRet (dTup (Zc (dVar 2) (Zc (dC .none) dNil))))
def zbm:DS:=
  dSeq (Qf Qh (tV (d1 JA (dVar 3)))
  (dSeq (dSet 4 [] (Zi Zn (Zc (dVar 2) (Zc (dVar 3) dNil))))
  (dSeq (dIf (tV (d1 fIsN (dVar 4)))
  (dRet (dTup (Zc (dVar 2) (Zc (dVar 3) dNil))))
  ZD)
  (dSeq (dSet 2 [] (Zi YE (Zc (dVar 2) (Zc (dVar 3) (Zc (dVar 4) dNil)))))
  (dSet 3 [] (Zi ZI (Zc (dVar 2) dNil)))))))
  VT
def Qw:DS:=
  dSeq (dSet 3 [] (Zi ZI (Zc (dVar 2) dNil)))
  zbm
def zbn:DS:=
  dSeq (dSet 2 [] (Zi za7 (Zc (Zi Xf (Zc (dVar 0) (Zc (dVar 1) dNil))) dNil)))
  Qw
def Yf:DF:=runQ 5 2 zbn
def zcz:DS:=
  (dRet (dL (YS 1 [0] (Zu 0) (iRng (d1 fLen (d1 (fFld "heads") (dVar 0)))) tT (Zi Yr (Zc (d2 fIx (d2 fIx (d1 (fFld "rows") (dVar 1)) (dVar 0)) (d1 fNeg (dC (.int 1)))) (Zc (d1 (fFld "divisor") (dVar 1)) dNil))))))
def Xb:DF:=runQ 1 1 zcz
def VS:DS:=
  (dRetO 3)
def QT:DS:=
  dSeq (dFor (V6 4 5) [] (iZip (iSeq (d1 (fFld "heads") (dVar 0))) (iSeq (d2 fIx (d1 (fFld "rows") (dVar 0)) (dVar 1))))
  (dIf (tV (d2 fGe (dVar 4) (dVar 2)))
  (UF 3 [] (d2 fSub (dVar 4) (dVar 2)) (Zi Yr (Zc (d1 fNeg (dVar 5)) (Zc (d1 (fFld "divisor") (dVar 0)) dNil))))
  ZD))
  VS
def QU:DS:=
  dSeq (zal 3 [] (oRep (oLst (Zc (dTup (Zc (dC (.int 0)) (Zc (dC (.int 1)) dNil))) dNil)) (d1 fLen (Zi Yj (Zc (dVar 0) dNil)))))
  QT
def zbl:DS:=
  dSeq (dSet 2 [] (d1 fLen (d1 (fFld "heads") (dVar 0))))
  QU
def Xo:DF:=runQ 6 2 zbl
def zac:DS:=
  (dRet (dVar 2))
def zad:DS:=
  dSeq (UF 2 [] (d2 fSub (dVar 1) (d1 fLen (d1 (fFld "heads") (dVar 0)))) (dTup (Zc (dC (.int 1)) (Zc (dC (.int 1)) dNil))))
  zac
def zcL:DS:=
  dSeq (zal 2 [] (oCall Xo (Zc (dVar 0) (Zc (dVar 1) dNil))))
  zad
def Xz:DF:=runQ 3 2 zcL
def zcE:DS:=
  (dRet (dTup (Zc (dC (.str (PySem.Str.ofString "clash"))) (Zc (Zi Xz (Zc (d2 fIx (dVar 1) (dC (.int 0))) (Zc (d2 fIx (dVar 1) (dC (.int 1))) dNil))) dNil))))
def JC:DS:=
  dSeq (dIf (tV (d1 fIsN (d2 fIx (dVar 1) (dC (.int 1)))))
  (dRet (dTup (Zc (dC (.str (PySem.Str.ofString "point"))) (Zc (Zi Xb (Zc (d2 fIx (dVar 1) (dC (.int 0))) dNil)) dNil))))
  ZD)
  zcE
def zdQ:DS:=
  dSeq (dSet 1 [] (Zi Yf (Zc (dVar 0) (Zc (dL (oRep (oLst (Zc (dC (.int 0)) dNil)) (d2 fIx (dVar 0) (dC (.int 0))))) dNil))))
  JC
def W8:DF:=runQ 2 1 zdQ
structure LB where
 heads:List Nat
 D:Int
 rows:List (List Int)
abbrev eI(xs:List Int):ya:=.list (xs.map .int)
abbrev eH(hs:List Nat):ya:=.list (hs.map λ(h:Nat)=>.int (h:Int))
def eB(b:LB):ya:=.dict [(.str "heads",eH b.heads),(.str "divisor",.int b.D),(.str "rows",.list (b.rows.map eI))]
def LB.bd(b:LB):Sx.Bd:=⟨λj=>b.heads.getD j 0,b.D,λi j=>(b.rows.getD i []).getD j 0⟩
@[simp] theorem bd_D (b : LB) : b.bd.D = b.D := rfl
@[simp] theorem bd_h (b : LB) (j : Nat) : b.bd.h j = b.heads.getD j 0 := rfl
theorem bd_R(b:LB)(i j:Nat):b.bd.R i j=(b.rows.getD i []).getD j 0:=rfl
structure WFb(K m:Nat)(b:LB):Prop where
 hl:b.heads.length=K
 rl:b.rows.length=K+m+1
 ll:∀r ∈ b.rows,r.length=K+1
 kk:K<=1000
 mm:m<=1000
structure Sm(b:LB):Prop where
 d0:b.D ≠ 0
 d:b.D.natAbs < 2 ^ 1000
 r:∀r ∈ b.rows,∀x ∈ r,x.natAbs < 2 ^ 1000
@[simp] theorem zjH (b : LB) : fFld "heads" (eB b) = .ok (eH b.heads) := rfl
@[simp] theorem fld_div (b : LB) : fFld "divisor" (eB b) = .ok (.int b.D) := rfl
@[simp] theorem fld_rows (b : LB) : fFld "rows" (eB b) = .ok (.list (b.rows.map eI)) := rfl
@[simp] theorem scalT_eB (b : LB) : XS (eB b) = false := rfl
theorem zkq{α:Type}{f:α->ya}{xs:List α}{i:Nat}(d:α)(h:i < xs.length):atP (xs.map f) (i:Int)=some (f (xs.getD i d)):=by
 rw[zbG h];simp[y8,h]
theorem at_last{α:Type}{f:α->ya}{xs:List α}{k:Nat}(d:α)(h:xs.length=k+1):atP (xs.map f) (-1)=some (f (xs.getD k d)):=by
 unfold atP ixP;rw[jm,h];rw[if_neg (by omega),if_pos (by omega)]
 have e:((-1:Int)+((k+1:Nat):Int)).toNat=k:=by omega
 rw[e];simp[y8,h]
section
variable {K m:Nat}{b:LB}
theorem WFb.row(w:WFb K m b){i:Nat}(h:i < K+m+1):(b.rows.getD i []).length=K+1:=by
 have hi:i < b.rows.length:=by rw[w.rl];exact h
 have e:b.rows.getD i []=b.rows[i]:=by simp[y8,hi]
 rw[e];exact w.ll _ (jr hi)
theorem WFb.mem(w:WFb K m b){i:Nat}(h:i < K+m+1):b.rows.getD i [] ∈ b.rows:=by
 have hi:i < b.rows.length:=by rw[w.rl];exact h
 have e:b.rows.getD i []=b.rows[i]:=by simp[y8,hi]
 rw[e];exact jr hi
theorem XH{α:Type}{xs:List α}{i:Nat}{d:α}(h:i < xs.length):xs.getD i d ∈ xs:=by
 have e:xs.getD i d=xs[i]:=by simp[y8,h]
 rw[e];exact jr h
theorem U4(w:WFb K m b){i:Nat}(h:i < K+m+1):fIx (.list (b.rows.map eI)) (.int (i:Int))=.ok (eI (b.rows.getD i [])):=by
 simp only[fIx];rw[zkq [] (by rw[w.rl];exact h)]
 rfl
theorem U5{row:List Int}{j:Nat}(h:j < row.length):fIx (eI row) (.int (j:Int))=.ok (.int (row.getD j 0)):=by
 simp only[eI,fIx];rw[zkq 0 h]
 rfl
theorem zdy{row:List Int}{k:Nat}(h:row.length=k+1):fIx (eI row) (.int (-1))=.ok (.int (row.getD k 0)):=by
 simp only[eI,fIx];rw[at_last 0 h]
 rfl
theorem zjv{hs:List Nat}{j:Nat}(h:j < hs.length):fIx (eH hs) (.int (j:Int))=.ok (.int ((hs.getD j 0:Nat):Int)):=by
 simp only[eH,fIx];rw[zkq 0 h]
 rfl
theorem zap(w:WFb K m b):Yj [eB b]=.ok (.list (rngT K m)):=by
 have e:((K+m+1:Nat):Int) - 1=((K+m:Nat):Int):=by omega
 have h1:Vv (K:Int)=true:=Yk (by have:=w.kk;omega)
 have h2:Vv ((K+m:Nat):Int)=true:=Yk (by have:=w.kk;have:=w.mm;omega)
 have e3:(((K+m:Nat):Int) - (K:Int)).toNat=m:=by omega
 have h3:(rngT (K:Int) m).length<=16777216:=by rw[Wq];have:=w.mm;omega
 have e':(K:Int)+(m:Int)+1 - 1=((K+m:Nat):Int):=by omega
 simp[Yj,zcx,runQ,runF,w.hl,w.rl,h1,e,e',h2,e3,h3,-jQ]
end
def Je(row line:List Int)(p:Nat)(D:Int):List Int:=
 ((row.zip line).map λq=>(Sx.iabs (line.getD p 0) * q.1 - Sx.tk (line.getD p 0) (row.getD p 0) * q.2).fdiv D).set p (Sx.tk (line.getD p 0) (row.getD p 0))
theorem iabs_sz{x:Int}{n:Nat}(h:x.natAbs < 2 ^ n):(Sx.iabs x).natAbs < 2 ^ n:=by unfold Sx.iabs;split <;> omega
theorem tk_sz{x y:Int}{n:Nat}(h:y.natAbs < 2 ^ n):(Sx.tk x y).natAbs < 2 ^ n:=by unfold Sx.tk;split <;> omega
theorem zbK{row line:List Int}{p:Nat}{D:Int}{K:Nat}(hr:row.length=K+1)(hl:line.length=K+1)(hp:p < K)(hK:K<=1000)(d0:D ≠ 0)(hD:D.natAbs < 2 ^ 1000)(h1:∀x ∈ row,x.natAbs < 2 ^ 1000)(h2:∀x ∈ line,x.natAbs < 2 ^ 1000) :
  Xa [eI row,eI line,.int p,.int D]=.ok (eI (Je row line p D)):=by
 have e1:fIx (eI line) (.int (p:Int))=.ok (.int (line.getD p 0)):=U5 (by omega)
 have e2:fIx (eI row) (.int (p:Int))=.ok (.int (row.getD p 0)):=U5 (by omega)
 have hdv:zbd D=true:=zat d0 hD (by omega)
 have hpv:=iabs_sz (h2 _ (XH (xs:=line) (i:=p) (d:=0) (by omega)))
 have htk:=tk_sz (x:=line.getD p 0) (h1 _ (XH (xs:=row) (i:=p) (d:=0) (by omega)))
 unfold Je;generalize line.getD p 0=lp at *
 generalize row.getD p 0=rp at *
 have ea:(if lp < 0 then -lp else lp)=Sx.iabs lp:=rfl
 have et:(if 0 < lp then(Res.ok (ya.int rp)) else .ok (.int (-rp)))=.ok (.int (Sx.tk lp rp)):=by unfold Sx.tk;split <;> rfl
 generalize Sx.iabs lp=pv at *
 generalize Sx.tk lp rp=tv at *
 have hlen:(zipT (row.map .int) (line.map .int)).length<=16777216:=by
  rw[Wn];simp;omega
 have hc:YF (V6 0 1) tT (d2 fDiv (d2 fSub (d2 fMul (dVar 2) (dVar 0)) (d2 fMul (dVar 3) (dVar 1))) (dVar 4)) [.emp,.emp,.val (.int pv),.val (.int tv),.val (.int D)] (zipT (row.map .int) (line.map .int))
   = .ok (((row.zip line).map λq=>(pv * q.1 - tv * q.2).fdiv D).map .int):=by
  rw[Wn,jf];refine Z6 (λ(q:Int × Int)=>ya.tuple [.int q.1,.int q.2]) _ _ λq hq=>?_
  have m1:=ZQ hpv (h1 _ (jW hq).1) (by omega)
  have m2:=ZQ htk (h2 _ (jW hq).2) (by omega)
  refine⟨_,rfl,?_⟩;simp[m1,m2,hdv]
 have es:ixP (((row.zip line).map λq=>(pv * q.1 - tv * q.2).fdiv D).map ya.int).length (p:Int)=some p:=by
  unfold ixP;rw[if_pos (by omega),if_pos (by simp;omega)]
  simp
 generalize hw:((row.zip line).map λq=>(pv * q.1 - tv * q.2).fdiv D)=ws at *
 have es':ixP ws.length (p:Int)=some p:=by simpa using es
 simp[Xa,QS,Up,Uo,Um,Ul,runQ,runF,e1,e2,ea,et,eI,hlen,hc,es',-fIx,List.map_set]
theorem zh9{row line:List Int}{p:Nat}{D:Int}{n:Nat}(hr:row.length=n)(hl:line.length=n):(Je row line p D).length=n:=by
 simp[Je,hr,hl]
def lsw(b:LB)(t p:Nat):LB:=⟨b.heads.set p t,Sx.iabs (b.bd.R t p),b.rows.map λrow=>Je row (b.rows.getD t []) p b.D⟩
section
variable {K m:Nat}{b:LB}{t p:Nat}
theorem lsw_wf(w:WFb K m b)(ht:t < K+m+1):WFb K m (lsw b t p):=by
 refine⟨by simp[lsw,w.hl],by simp[lsw,w.rl],λr hr=>?_,w.kk,w.mm⟩
 obtain⟨row,hrow,rfl⟩:=yD.mp hr;exact zh9 (w.ll row hrow) (w.row ht)
theorem zia{row line:List Int}{p j:Nat}{D:Int}{n:Nat}(hr:row.length=n)(hl:line.length=n)(hp:p < n) :
  (Je row line p D).getD j 0=if j=p then Sx.tk (line.getD p 0) (row.getD p 0) else(Sx.iabs (line.getD p 0) * row.getD j 0 - Sx.tk (line.getD p 0) (row.getD p 0) * line.getD j 0).fdiv D:=by
 unfold Je;rw[y8,ya2];by_cases e:j=p
 ·subst e;simp[hr,hl,hp]
 ·rw[if_neg (Ne.symm e),if_neg e];by_cases hj:j < n
  ·have ez:(row.zip line)[j]? = some (row.getD j 0,line.getD j 0):=by
    rw[ycm];constructor
    ·rw[j7 (by omega)];simp[y8,j7 (show j < row.length by omega)]
    ·rw[j7 (by omega)];simp[y8,j7 (show j < line.length by omega)]
   rw[jc,ez]
   rfl
  ·have ez:(row.zip line)[j]? = none:=by rw[ybh];simp[hr,hl];omega
   have e1:row.getD j 0=0:=by rw[y8,ybh.mpr (by omega)];rfl
   have e2:line.getD j 0=0:=by rw[y8,ybh.mpr (by omega)];rfl
   rw[jc,ez,e1,e2];simp
theorem Qg(w:WFb K m b)(ht:t < K+m+1)(hp:p < K):(lsw b t p).bd=Sx.swp b.bd t p:=by
 unfold LB.bd Sx.swp
 congr 1
 ·funext j
  show(b.heads.set p t).getD j 0=if j=p then t else b.heads.getD j 0
  rw[y8,ya2];by_cases e:j=p
  ·subst e;simp[w.hl,hp]
  ·rw[if_neg (Ne.symm e),if_neg e,y8]
 ·funext i j
  show((b.rows.map λrow=>Je row (b.rows.getD t []) p b.D).getD i []).getD j 0=Sx.swR b.bd t p i j
  by_cases hi:i < K+m+1
  ·have e:(b.rows.map λrow=>Je row (b.rows.getD t []) p b.D).getD i []=Je (b.rows.getD i []) (b.rows.getD t []) p b.D:=by
    have hi':i < b.rows.length:=by rw[w.rl];exact hi
    simp[y8,hi']
   rw[e,zia (w.row hi) (w.row ht) (by omega)]
   rfl
  ·have e:(b.rows.map λrow=>Je row (b.rows.getD t []) p b.D).getD i []=[]:=by
    have hi':¬i < b.rows.length:=by rw[w.rl];exact hi
    simp[y8,hi']
   have e2:∀j,b.bd.R i j=0:=λj=>by
    have hi':¬i < b.rows.length:=by rw[w.rl];exact hi
    simp[bd_R,y8,hi']
   rw[e];unfold Sx.swR;rw[e2,e2];have t0:Sx.tk (b.bd.R t p) 0=0:=by unfold Sx.tk;split <;> rfl
   rw[t0];simp
theorem Jd(w:WFb K m b)(s:Sm b)(ht:t < K+m+1)(hp:p < K):YE [eB b,.int t,.int p]=.ok (eB (lsw b t p)):=by
 have hr:=U4 w ht;have hlen:b.rows.length<=16777216:=by rw[w.rl];have:=w.kk;have:=w.mm;omega
 have hc:YF (Zu 0) tT (Zi Xa (Zc (dVar 0) (Zc (dVar 1) (Zc (dVar 2) (Zc (d1 (fFld "divisor") (dVar 3)) dNil))))) [.emp,.val (eI (b.rows.getD t [])),.val (.int p),.val (eB b)] (b.rows.map eI)=.ok (b.rows.map λrow=>eI (Je row (b.rows.getD t []) p b.D)):=by
  refine Z6 eI _ _ λrow hrow=>⟨_,rfl,?_⟩
  have:=zbK (w.ll row hrow) (w.row ht) hp w.kk s.d0 s.d (s.r row hrow) (s.r _ (w.mem ht));simp[this,-y8]
 have hp2:ixP b.heads.length (p:Int)=some p:=by
  unfold ixP;rw[if_pos (by omega),if_pos (by rw[w.hl];omega)]
  simp
 have e1:fIx (eI (b.rows.getD t [])) (.int (p:Int))=.ok (.int (b.bd.R t p)):=U5 (by rw[w.row ht];omega)
 have ea:(if b.bd.R t p < 0 then -b.bd.R t p else b.bd.R t p)=Sx.iabs (b.bd.R t p):=rfl
 generalize hline:b.rows.getD t []=line at *
 generalize hR:b.bd.R t p=rtp at *
 have el:lsw b t p=⟨b.heads.set p t,Sx.iabs rtp,b.rows.map λrow=>Je row line p b.D⟩:=by unfold lsw;rw[hline,hR]
 rw[el];simp[YE,zeK,zbk,zbj,zbi,zbh,runQ,runF,hr,hc,hp2,e1,ea,hlen,-fIx,zipK];simp[eB,List.map_set,Function.comp_def]
theorem ziz(lo:Int)(n:Nat):rngT lo (n+1)=.int lo::rngT (lo+1) n:=by
 unfold rngT;rw[ycw];simp only[yH,jf,Int.natCast_zero,yam]
 congr 1
 refine qq λk _=>?_
 simp only[Function.comp]
 congr 1
 omega
theorem zio{st:ya->List Sl->Res (List Sl)}{b:DS}{P:Nat->Bool}(Inv:List Sl->Prop):∀(n lo:Nat) (G:List Sl),Inv G ->
  (∀t G',lo<=t->t < lo+n->Inv G'->∃G1 G2,st (.int (t:Int)) G'=.ok G1/\b G1=(if P t=true then .ok (.rt (.int (t:Int))) else .ok (.nx G2))/\Inv G2) ->
  (∃t,lo<=t/\t < lo+n/\P t=true/\(∀t',lo<=t'->t' < t->P t'=false)/\forL st b (rngT (lo:Int) n) G=.ok (.rt (.int (t:Int)))) \/
  ((∀t,lo<=t->t < lo+n->P t=false)/\∃G',Inv G'/\forL st b (rngT (lo:Int) n) G=.ok (.nx G'))
 | 0,lo,G,hG,h=>.inr ⟨λt h1 h2=>by omega,G,hG,by simp[rngT,forL]⟩
 | n+1,lo,G,hG,h=>by
  obtain⟨G1,G2,e1,e2,h2⟩:=h lo G (yq _) (by omega) hG
  rw[ziz];have ec:(lo:Int)+1=((lo+1:Nat):Int):=by omega
  rw[ec];unfold forL;rw[e1,Res.bind_ok,e2];cases hp:P lo with
  | true=>exact .inl ⟨lo,yq _,by omega,hp,λt' a b=>by omega,by simp⟩
  | false=>
   simp only[yac,if_false,Res.bind_ok];rcases zio Inv n (lo+1) G2 h2 (λt G' a b c=>h t G' (by omega) (by omega) c) with ⟨t,a1,a2,a3,a4,a5⟩ | ⟨a1,G',a2,a3⟩
   ·refine .inl ⟨t,by omega,by omega,a3,λt' b1 b2=>?_,a5⟩
    by_cases z:t'=lo
    ·rw[z];exact hp
    ·exact a4 t' (by omega) b2
   ·refine .inr ⟨λt b1 b2=>?_,G',a2,a3⟩
    by_cases z:t=lo
    ·rw[z];exact hp
    ·exact a1 t (by omega) (by omega)
theorem JB(i j:Int):fNe (.int i) (.int j)=.ok (.bool (!decide (i=j))):=by simp[fNe]
theorem zdC(w:WFb K m b)(hp:p < K):(∃t,K<=t/\t < K+m/\b.bd.R t p ≠ 0/\Z4 [eB b,.int p]=.ok (.int t))\/((∀t,K<=t->t < K+m->b.bd.R t p=0)/\Z4 [eB b,.int p]=.ok .none):=by
 have hrm:=zap w;have hs:=zio (st:=Zu 2) (b:=(dIf (tV (d2 fNe (d2 fIx (d2 fIx (d1 (fFld "rows") (dVar 0)) (dVar 2)) (dVar 1)) (dC (.int 0)))) (dRet (dVar 2)) ZD)) (P:=λt=>!decide (b.bd.R t p=0))
  (λG=>∃s,G=[.val (eB b),.val (.int p),s]) m K [.val (eB b),.val (.int p),.emp] ⟨_,rfl⟩ λt G' h1 h2 ⟨s,hG⟩=>by
   subst hG;have e1:=U4 w (i:=t) (by omega)
   have e2:fIx (eI (b.rows.getD t [])) (.int (p:Int))=.ok (.int (b.bd.R t p)):=U5 (by rw[w.row (by omega)];omega)
   refine⟨_,[.val (eB b),.val (.int p),.val (.int t)],rfl,?_,⟨_,rfl⟩⟩;generalize b.bd.R t p=r at *
   by_cases hz:r=0 <;> simp[e1,e2,JB,hz,-fIx,-y8]
 rcases hs with ⟨t,a1,a2,a3,_,a5⟩ | ⟨a1,G',⟨s,hG⟩,a3⟩
 ·refine .inl ⟨t,a1,a2,by simpa using a3,?_⟩
  simp[Z4,WZ,runQ,runF,hrm,a5,-fIx,-dIf]
 ·refine .inr ⟨λt h1 h2=>by simpa using a1 t h1 h2,?_⟩
  simp[Z4,WZ,VB,runQ,runF,hrm,a3,-fIx,-dIf]
theorem zc2(w:WFb K m b):(∃t,K<=t/\t < K+m/\b.bd.R t K < 0/\(∀i,K<=i->i < t->0<=b.bd.R i K)/\ZI [eB b]=.ok (.int t))\/((∀t,K<=t->t < K+m->0<=b.bd.R t K)/\ZI [eB b]=.ok .none):=by
 have hrm:=zap w;have hs:=zio (st:=Zu 1) (b:=(dIf (tV (d2 fLt (d2 fIx (d2 fIx (d1 (fFld "rows") (dVar 0)) (dVar 1)) (d1 fNeg (dC (.int 1)))) (dC (.int 0)))) (dRet (dVar 1)) ZD)) (P:=λt=>decide (b.bd.R t K < 0))
  (λG=>∃s,G=[.val (eB b),s]) m K [.val (eB b),.emp] ⟨_,rfl⟩ λt G' h1 h2 ⟨s,hG⟩=>by
   subst hG;have e1:=U4 w (i:=t) (by omega)
   have e2:fIx (eI (b.rows.getD t [])) (.int (-1))=.ok (.int (b.bd.R t K)):=zdy (w.row (by omega))
   refine⟨_,[.val (eB b),.val (.int t)],rfl,?_,⟨_,rfl⟩⟩;generalize b.bd.R t K=r at *
   by_cases hz:r < 0 <;> simp[e1,e2,hz,-fIx,-y8]
 rcases hs with ⟨t,a1,a2,a3,a4,a5⟩ | ⟨a1,G',⟨s,hG⟩,a3⟩
 ·refine .inl ⟨t,a1,a2,by simpa using a3,λi h1 h2=>by have:=a4 i h1 h2;simp at this;omega,?_⟩
  simp[ZI,Uq,runQ,runF,hrm,a5,-fIx,-dIf]
 ·refine .inr ⟨λt h1 h2=>by have:=a1 t h1 h2;simp at this;omega,?_⟩
  simp[ZI,Uq,U7,runQ,runF,hrm,a3,-fIx,-dIf]
def hlp(b:LB)(K t j:Nat):Bool:=decide (0 < b.bd.R t j) || (decide (b.bd.R t j < 0) && decide (b.bd.h j < K))
theorem helps_ok(w:WFb K m b){j:Nat}(hj:j < K)(r:Int):Jz [eB b,.int j,.int r]=.ok (.bool (decide (0 < r) || (decide (r < 0) && decide (b.bd.h j < K)))):=by
 have e1:fIx (eH b.heads) (.int (j:Int))=.ok (.int ((b.heads.getD j 0:Nat):Int)):=zjv (by rw[w.hl];exact hj)
 rw[bd_h];generalize b.heads.getD j 0=hj' at *
 by_cases h1:0 < r <;> by_cases h2:r < 0 <;> simp[Jz,zj5,runQ,runF,e1,w.hl,h1,h2,-fIx]
theorem zdu{key:ya->Res ya}{g:Nat->Int}:∀(cs:List Nat) (j0:Nat),(∀j ∈ cs,key (.int (j:Int))=.ok (.int (g j)))->∃j,(j=j0\/j ∈ cs)/\g j<=g j0/\(∀j' ∈ cs,g j<=g j')/\minL key (.int (j0:Int)) (g j0) (cs.map λ(j:Nat)=>.int (j:Int))=.ok (.int (j:Int))
 | [],j0,_=>⟨j0,.inl rfl,jL _,λ_ h=>by simp at h,rfl⟩
 | c::cs,j0,h=>by
  simp only[yH,minL];rw[h c (by simp),Res.bind_ok]
  by_cases hlt:g c < g j0
  ·obtain⟨j,a1,a2,a3,a4⟩:=zdu cs c λj hj=>h j (by simp[hj])
   refine⟨j,?_,by omega,λj' hj'=>?_,by simp only[hlt,if_true];exact a4⟩
   ·rcases a1 with a1 | a1
    ·exact .inr (by simp[a1])
    ·exact .inr (by simp[a1])
   ·rcases yI.mp hj' with z | z
    ·rw[z];exact a2
    ·exact a3 j' z
  ·obtain⟨j,a1,a2,a3,a4⟩:=zdu cs j0 λj hj=>h j (by simp[hj])
   refine⟨j,?_,a2,λj' hj'=>?_,by simp only[hlt,if_false];exact a4⟩
   ·rcases a1 with a1 | a1
    ·exact .inl a1
    ·exact .inr (by simp[a1])
   ·rcases yI.mp hj' with z | z
    ·rw[z];omega
    ·exact a3 j' z
theorem minT_int{key:ya->Res ya}{g:Nat->Int}(cs:List Nat)(h:∀j ∈ cs,key (.int (j:Int))=.ok (.int (g j))):(cs=[]/\minT key (cs.map λ(j:Nat)=>.int (j:Int))=.ok .none)\/∃j,j ∈ cs/\(∀j' ∈ cs,g j<=g j')/\minT key (cs.map λ(j:Nat)=>.int (j:Int))=.ok (.int (j:Int)):=by
 cases cs with
 | nil=>exact .inl ⟨rfl,rfl⟩
 | cons c cs=>
  obtain⟨j,a1,a2,a3,a4⟩:=zdu cs c λj hj=>h j (by simp[hj])
  refine .inr ⟨j,?_,λj' hj'=>?_,?_⟩
  ·rcases a1 with a1 | a1
   ·simp[a1]
   ·simp[a1]
  ·rcases yI.mp hj' with z | z
   ·rw[z];exact a2
   ·exact a3 j' z
  ·simp only[yH,minT];rw[h c (by simp),Res.bind_ok]
   exact a4
theorem UR(w:WFb K m b)(ht:t < K+m+1):(∃p,p < K/\hlp b K t p=true/\(∀j,j < K->hlp b K t j=true->b.bd.h p<=b.bd.h j)/\Zn [eB b,.int t]=.ok (.int p))\/((∀j,j < K->hlp b K t j=false)/\Zn [eB b,.int t]=.ok .none):=by
 have e0:=U4 w ht;have hK:=w.kk;have hrg:Vv (K:Int)=true:=Yk (by omega)
 have hlen:(rngT 0 K).length<=16777216:=by rw[Wq];omega
 have hc:YF (Zu 0) (tV (Zi Jz (Zc (dVar 1) (Zc (dVar 0) (Zc (d2 fIx (dVar 2) (dVar 0)) dNil))))) (dVar 0) [.emp,.val (eB b),.val (eI (b.rows.getD t []))] (rngT 0 K)=.ok (((yF K).filter λj=>hlp b K t j).map λ(j:Nat)=>.int (j:Int)):=by
  rw[UP];refine zcO (λ(j:Nat)=>ya.int (j:Int)) (λ(j:Nat)=>ya.int (j:Int)) (λj=>hlp b K t j) (yF K) λj hj=>⟨_,rfl,?_,λ_=>rfl⟩
  have hj':=js.mp hj;have e1:fIx (eI (b.rows.getD t [])) (.int (j:Int))=.ok (.int (b.bd.R t j)):=U5 (by rw[w.row ht];omega)
  have e2:=helps_ok w hj' (b.bd.R t j);unfold hlp;generalize b.bd.R t j=r at *
  simp[e1,e2,-fIx,-y8]
 have hm:=minT_int (key:=λx=>noX ((d2 fIx (d1 (fFld "heads") (dVar 1)) (dVar 0)) (.val x::[.val (eB b)]))) (g:=λj=>(b.bd.h j:Int)) ((yF K).filter λj=>hlp b K t j) λj hj=>by
  have hj':=js.mp (yX.mp hj).1;have e1:fIx (eH b.heads) (.int (j:Int))=.ok (.int ((b.heads.getD j 0:Nat):Int)):=zjv (by rw[w.hl];exact hj')
  simp[e1,-fIx]
 rcases hm with ⟨a1,a2⟩ | ⟨p,a1,a2,a3⟩
 ·refine .inr ⟨λj hj=>?_,?_⟩
  ·have:=List.filter_eq_nil_iff.mp a1 j (js.mpr hj);simpa using this
  ·simp only[a1] at hc a2;simp[Zn,Wj,XQ,XN,runQ,runF,e0,w.hl,hrg,hlen,hc,minT,-fIx,-y8]
 ·obtain⟨b1,b2⟩:=yX.mp a1;refine .inl ⟨p,js.mp b1,b2,λj hj hh=>?_,?_⟩
  ·have:=a2 j (yX.mpr ⟨js.mpr hj,hh⟩);omega
  ·generalize ((yF K).filter λj=>hlp b K t j)=cs at *
   simp only[d2,d1,dVar,yaa,qF,Res.bind_ok,zjH,noX] at a3;simp[Zn,Wj,XQ,XN,runQ,runF,e0,w.hl,hrg,hlen,hc,a3,-fIx,-y8]
end
def zd2(n i:Nat):List Int:=(y0 n 0).set i 1
def zej(l:Lim):List Int:=l.1.map (λx=>-x)++[l.2]
def V7(K:Nat)(ls:List Lim)(goal:List Int):List (List Int):=(yF K).map (λi=>zd2 (K+1) i)++ls.map zej++[goal++[0]]
def lb0(K:Nat)(ls:List Lim)(goal:List Int):LB:=⟨yF K,1,V7 K ls goal⟩
theorem unit_ok{n i:Nat}(h:i < n)(hn:n<=1001):zcq [.int n,.int i]=.ok (eI (zd2 n i)):=by
 have h1:Vv (n:Int)=true:=Yk (by omega)
 have h2:ixP n (i:Int)=some i:=by
  unfold ixP;rw[if_pos (by omega),if_pos (by omega)]
  simp
 have h3:n<=16777216:=by omega
 have e:(y0 n [ya.int 0]).flatten=(y0 n (0:Int)).map .int:=by
  rw[List.map_replicate];clear h h1 h2 h3 hn
  induction n with
  | zero=>rfl
  | succ n ih=>rw[jU,qr,ih,jU];rfl
 simp[zcq,d_unit,zgQ,zgP,runQ,runF,h1,h3,e,h2,zd2,List.map_set]
theorem zfk{l:Lim}{k:Nat}(h:l.1.length=k)(hk:k<=1000):WI [limT l]=.ok (eI (zej l)):=by
 have hc:YF (Zu 0) tT (d1 fNeg (dVar 0)) [.emp] (l.1.map .int)=.ok ((l.1.map λx=>-x).map .int):=by
  rw[jf];exact Z6 ya.int _ _ λx _=>⟨_,rfl,rfl⟩
 have hl:l.1.length<=16777216:=by omega
 have hl2:l.1.length+1<=16777216:=by omega
 simp[WI,zcy,runQ,runF,limT,at0,at1,hc,hl,hl2,zej]
theorem zb3{K m:Nat}{ls:List Lim}{goal:List Int}(hK:K<=1000)(hm:ls.length=m)(hm2:m<=1000)(hw:∀l ∈ ls,l.1.length=K)(hg:goal.length=K):Xf [.tuple [.int K,.tuple (ls.map limT)],eI goal]=.ok (eB (lb0 K ls goal)):=by
 have h1:Vv (K:Int)=true:=Yk (by omega)
 have h2:(rngT 0 K).length<=16777216:=by rw[Wq];omega
 have c1:YF (Zu 0) tT (Zi zcq (Zc (d2 fAdd (dVar 1) (dC (.int 1))) (Zc (dVar 0) dNil))) [.emp,.val (.int K)] (rngT 0 K)=.ok ((yF K).map λi=>eI (zd2 (K+1) i)):=by
  rw[UP];refine Z6 (λ(k:Nat)=>ya.int (k:Int)) _ _ λi hi=>⟨_,rfl,?_⟩
  have:=unit_ok (n:=K+1) (i:=i) (by have:=js.mp hi;omega) (by omega)
  have e:((K+1:Nat):Int)=(K:Int)+1:=by omega
  rw[e] at this;simp[this]
 have c2:YF (Zu 0) tT (Zi WI (Zc (dVar 0) dNil)) [.emp] (ls.map limT)=.ok (ls.map λl=>eI (zej l)):=by
  refine Z6 limT _ _ λl hl=>⟨_,rfl,?_⟩
  simp[zfk (hw l hl) hK]
 have h3:ls.length<=16777216:=by omega
 have h4:K+ls.length<=16777216:=by omega
 have h5:K+ls.length+1<=16777216:=by omega
 have h6:goal.length+1<=16777216:=by omega
 simp[Xf,Q2,UC,UB,UA,runQ,runF,at0,at1,h1,h2,c1,c2,h3,h4,h5,h6,zipK];simp[eB,lb0,V7,UP,Function.comp_def]
section
variable {K m:Nat}{ls:List Lim}{goal:List Int}
theorem zix(hm:ls.length=m):(V7 K ls goal).length=K+m+1:=by simp[V7,hm];omega
theorem lb0_wf(hK:K<=1000)(hm:ls.length=m)(hm2:m<=1000)(hw:∀l ∈ ls,l.1.length=K)(hg:goal.length=K):WFb K m (lb0 K ls goal):=by
 refine⟨by simp[lb0],zix hm,λr hr=>?_,hK,hm2⟩
 have hr':r ∈ V7 K ls goal:=hr;unfold V7 at hr';rcases ju.mp hr' with h | h
 ·rcases ju.mp h with h | h
  ·obtain⟨i,_,rfl⟩:=yD.mp h;simp[zd2]
  ·obtain⟨l,hl,rfl⟩:=yD.mp h;simp[zej,hw l hl]
 ·rw[qd.mp h];simp[hg]
theorem ziy{i:Nat}(hi:i < K):(V7 K ls goal).getD i []=zd2 (K+1) i:=by
 unfold V7;rw[y8,ya1,jH (by simpa using hi)]
 simp[hi]
theorem zf7{i:Nat}(hi:i < ls.length):(V7 K ls goal).getD (K+i) []=zej (ls.getD i ([],0)):=by
 unfold V7;rw[y8,ya1,j6 (by simp)]
 simp[hi,y8,jH]
theorem zei:(V7 K ls goal).getD (K+ls.length) []=goal++[0]:=by
 unfold V7;rw[y8,j6 (by simp)]
 simp
def M0(K:Nat)(ls:List Lim)(goal:List Int):Sx.Mat:=(lb0 K ls goal).bd.R
theorem zgo(hm:ls.length=m):Sx.Good K (K+m+1) (M0 K ls goal) (lb0 K ls goal).bd:=by
 refine Sx.zhF (λj hj=>?_) rfl (λ_ _=>rfl) (λj c hj hc=>?_) (by omega)
 ·show(yF K).getD j 0=j;simp[hj]
 ·show((V7 K ls goal).getD j []).getD c 0=_;rw[ziy hj];unfold zd2;rw[y8,ya2];by_cases e:c=j
  ·subst e;rw[if_pos rfl,if_pos (by simp;omega),if_pos rfl];rfl
  ·rw[if_neg (Ne.symm e),if_neg e,ql];split <;> rfl
end
structure Bo(K m:Nat)(M:Sx.Mat)(b:LB):Prop where
 wf:WFb K m b
 g:Sx.Good K (K+m+1) M b.bd
 hw:∀j,j < K->b.bd.h j < K+m
structure Mz(K m:Nat)(M:Sx.Mat)(B:Nat):Prop where
 b1:1<=B
 le:∀i c,i < K+m+1->c<=K->(M i c).natAbs<=B
 z:Sx.fact (K+1) * B ^ (K+1) < 2 ^ 1000
section
variable {K m B:Nat}{M:Sx.Mat}{b:LB}{t p:Nat}
theorem Bo.sm(o:Bo K m M b)(z:Mz K m M B):Sm b:=by
 obtain⟨h1,h2⟩:=o.g.size z.b1 z.le;refine⟨by have:0 < b.D:=o.g.pos;omega,jh h1 z.z,λr hr x hx=>?_⟩
 obtain⟨i,hi,rfl⟩:=qI hr;obtain⟨j,hj,rfl⟩:=qI hx;rw[o.wf.rl] at hi;have hj':=hj;rw[o.wf.ll _ (jr _)] at hj';have:=h2 i j hi (by omega)
 have e:b.bd.R i j=b.rows[i][j]:=by
  rw[bd_R];have e1:b.rows.getD i []=b.rows[i]:=by simp[y8,show i < b.rows.length by rw[o.wf.rl];exact hi]
  rw[e1];simp[y8,hj]
 rw[e] at this;exact jh this z.z
theorem Bo.swap(o:Bo K m M b)(ht:K<=t)(ht2:t < K+m)(hp:p < K)(hne:b.bd.R t p ≠ 0):Bo K m M (lsw b t p):=by
 refine⟨lsw_wf o.wf (by omega),?_,λj hj=>?_⟩
 ·rw[Qg o.wf (by omega) hp]
  exact(o.g.swap (by omega) hp hne).1
 ·rw[Qg o.wf (by omega) hp]
  show(if j=p then t else b.bd.h j) < K+m
  split
  ·exact ht2
  ·exact o.hw j hj
def ze2:DS:=(dSeq (dSet 2 [] (Zi Z4 (Zc (dVar 0) (Zc (dVar 1) dNil))))
  (dIf (tV (d1 JA (dVar 2)))
  (dSet 0 [] (Zi YE (Zc (dVar 0) (Zc (dVar 2) (Zc (dVar 1) dNil)))))
  ZD))
theorem zhH(z:Mz K m M B)(o:Bo K m M b)(hp:p < K)(s2:Sl):∃b' s2',Bo K m M b'/\(∀j,j < K->j ≠ p->(∀i,K<=i->i < K+m->b.bd.R i j=0)->∀i,K<=i->i < K+m->b'.bd.R i j=0)/\(∀j,j < K->j ≠ p->b'.bd.h j=b.bd.h j)/\(b'.bd.h p < K->∀i,K<=i->i < K+m->b'.bd.R i p=0) /\
  ze2 [.val (eB b),.val (.int p),s2]=.ok (.nx [.val (eB b'),.val (.int p),s2']):=by
 rcases zdC o.wf hp with ⟨t,h1,h2,h3,h4⟩ | ⟨h1,h2⟩
 ·refine⟨lsw b t p,.val (.int t),o.swap h1 h2 hp h3,λj hj hjp hz=>?_,λj hj hjp=>?_,λhh=>?_,?_⟩
  ·rw[Qg o.wf (by omega) hp]
   exact Sx.zd3 o.g rfl h1 h2 hp h3 hj hjp hz
  ·rw[Qg o.wf (by omega) hp]
   exact if_neg hjp
  ·rw[Qg o.wf (by omega) hp] at hh
   have:(if p=p then t else b.bd.h p) < K:=hh
   rw[if_pos rfl] at this;omega
  ·have hs:=Jd o.wf (o.sm z) (t:=t) (by omega) hp
   simp[ze2,h4,hs]
 ·exact⟨b,.val .none,o,λj hj _ hz=>hz,λj hj _=>rfl,λ_=>h1,by simp[ze2,h2]⟩
theorem freed_ok(z:Mz K m M B)(o:Bo K m M b):∃b',Bo K m M b'/\Sx.Fr K m b'.bd/\za7 [eB b]=.ok (eB b'):=by
 have h1:Vv (K:Int)=true:=Yk (by have:=o.wf.kk;omega)
 obtain⟨G',e,b',s1,s2,hG,o',f'⟩:=zdA (st:=Zu 1) (b:=ze2) (n:=K) (G:=[.val (eB b),.emp,.emp])
  (λi G=>∃b' s1 s2,G=[.val (eB b'),s1,s2]/\Bo K m M b'/\∀j,j < i->j < K->b'.bd.h j < K->∀t,K<=t->t < K+m->b'.bd.R t j=0)
  ⟨b,.emp,.emp,rfl,o,λj hj=>by omega⟩ (λi G hi ⟨b1,s1,s2,hG,o1,f1⟩=>by
   subst hG;obtain⟨b2,s2',o2,k1,k2,k3,k4⟩:=zhH z o1 hi s2;refine⟨_,rfl,_,.inl k4,b2,_,_,rfl,o2,λj hj hjK hh=>?_⟩
   by_cases e:j=i
   ·subst e;exact k3 hh
   ·rw[k2 j hjK e] at hh;exact k1 j hjK e (f1 j (by omega) hjK hh))
 subst hG;refine⟨b',o',λj hj hh=>f' j hj hj hh,?_⟩
 have hd:zj7=dSeq (dFor (Zu 1) [] (iRng (d1 fLen (d1 (fFld "heads") (dVar 0)))) ze2) zbu:=rfl;simp[za7,hd,zbu,runQ,runF,o.wf.hl,h1,e]
end
def tOf(b:LB):Option Nat:=match ZI [eB b] with
 | .ok (.int t)=>some t.toNat
 | _=>none
def pOf(b:LB)(t:Nat):Option Nat:=match Zn [eB b,.int t] with
 | .ok (.int p)=>some p.toNat
 | _=>none
def nxt(b:LB):Option LB:=(tOf b).bind λt=>(pOf b t).map λp=>lsw b t p
def End:Nat->LB->Prop
 | 0,b=>nxt b=none
 | n+1,b=>nxt b=none\/∃b',nxt b=some b'/\End n b'
section
variable {K m B:Nat}{M:Sx.Mat}{b:LB}
theorem zgB(f:Sx.Fr K m b.bd){t j:Nat}(ht:K<=t)(ht2:t < K+m)(hj:j < K):hlp b K t j=decide (0 < b.bd.R t j):=by
 unfold hlp;by_cases hh:b.bd.h j < K
 ·rw[f j hj hh t ht ht2];rfl
 ·rw[decide_eq_false hh,Bool.and_false,Bool.or_false]
theorem Jh(o:Bo K m M b)(f:Sx.Fr K m b.bd) :
  ((∀t,K<=t->t < K+m->0<=b.bd.R t K)/\ZI [eB b]=.ok .none/\nxt b=none) \/
  (∃t,K<=t/\t < K+m/\b.bd.R t K < 0/\(∀j,j < K->hlp b K t j=false)/\ZI [eB b]=.ok (.int t)/\Zn [eB b,.int t]=.ok .none/\nxt b=none) \/
  ∃t p,t < K+m/\Sx.Ch1 K (K+m+1) b.bd t p/\ZI [eB b]=.ok (.int t)/\Zn [eB b,.int t]=.ok (.int p)/\nxt b=some (lsw b t p):=by
 rcases zc2 o.wf with ⟨t,h1,h2,h3,h4,h5⟩ | ⟨h1,h2⟩
 ·have e1:tOf b=some t:=by unfold tOf;rw[h5];simp
  rcases UR o.wf (t:=t) (by omega) with ⟨p,k1,k2,k3,k4⟩ | ⟨k1,k2⟩
  ·have e2:pOf b t=some p:=by unfold pOf;rw[k4];simp
   refine .inr (.inr ⟨t,p,h2,⟨h1,by omega,k1,h3,h4,?_,λj hj hlt=>?_,λj hj hh=>f j hj hh t h1 h2⟩,h5,k4,by unfold nxt;rw[e1];simp[e2]⟩)
   ·rw[zgB f h1 h2 k1] at k2;simpa using k2
   ·rcases(show b.bd.R t j<=0\/0 < b.bd.R t j by omega) with z | z
    ·exact z
    ·have:=k3 j hj (by rw[zgB f h1 h2 hj];simpa using z)
     omega
  ·have e2:pOf b t=none:=by unfold pOf;rw[k2]
   exact .inr (.inl ⟨t,h1,h2,h3,k1,h5,k2,by unfold nxt;rw[e1];simp[e2]⟩)
 ·exact .inl ⟨h1,h2,by unfold nxt tOf;rw[h2];rfl⟩
theorem zaG(o:Bo K m M b)(f:Sx.Fr K m b.bd){b':LB}(e:nxt b=some b'):∃t p,t < K+m/\Sx.Ch1 K (K+m+1) b.bd t p/\b'=lsw b t p/\Bo K m M b'/\Sx.Fr K m b'.bd:=by
 rcases Jh o f with ⟨_,_,h⟩ | ⟨_,_,_,_,_,_,_,h⟩ | ⟨t,p,h1,ch,_,_,h⟩
 ·rw[h] at e;cases e
 ·rw[h] at e;cases e
 ·rw[h] at e;cases e;have hne:b.bd.R t p ≠ 0:=by have:=ch.hp;omega
  refine⟨t,p,h1,ch,rfl,o.swap ch.tK h1 ch.pK hne,?_⟩;rw[Qg o.wf (by omega) ch.pK]
  exact Sx.zjG o.g rfl f ch.tK h1 ch.pK hne
theorem ends(o:Bo K m M b)(f:Sx.Fr K m b.bd):End ((K+m+1) ^ K) b:=by
 refine jx λno=>?_
 let it:Nat->LB:=λk=>Nat.rec b (λ_ x=>(nxt x).getD x) k
 have it1:∀k,it (k+1)=(nxt (it k)).getD (it k):=λk=>rfl
 have all:∀k,k<=(K+m+1) ^ K->¬End ((K+m+1) ^ K - k) (it k)/\Bo K m M (it k)/\Sx.Fr K m (it k).bd:=by
  intro k
  induction k with
  | zero=>exact λ_=>⟨no,o,f⟩
  | succ k ih=>
   intro hk;obtain⟨h1,h2,h3⟩:=ih (by omega)
   obtain⟨d,hd⟩:∃d,(K+m+1) ^ K - k=d+1:=⟨(K+m+1) ^ K - k - 1,by omega⟩
   rw[hd] at h1;cases e:nxt (it k) with
   | none=>exact absurd (.inl e) h1
   | some b'=>
    have e2:it (k+1)=b':=by rw[it1,e];rfl
    obtain⟨t,p,_,_,_,a5,a6⟩:=zaG h2 h3 e;rw[e2,show(K+m+1) ^ K - (k+1)=d by omega]
    exact⟨λz=>h1 (.inr ⟨b',e,z⟩),a5,a6⟩
 have step:∀k,∃q:Nat × Nat,k < (K+m+1) ^ K->Sx.Ch1 K (K+m+1) (it k).bd q.1 q.2/\(it (k+1)).bd=Sx.swp (it k).bd q.1 q.2:=by
  intro k;by_cases hk:k < (K+m+1) ^ K
  ·obtain⟨h1,h2,h3⟩:=all k (by omega)
   obtain⟨d,hd⟩:∃d,(K+m+1) ^ K - k=d+1:=⟨(K+m+1) ^ K - k - 1,by omega⟩
   rw[hd] at h1;cases e:nxt (it k) with
   | none=>exact absurd (.inl e) h1
   | some b'=>
    obtain⟨t,p,a1,a2,a3,_,_⟩:=zaG h2 h3 e;refine⟨(t,p),λ_=>⟨a2,?_⟩⟩
    have e2:it (k+1)=b':=by rw[it1,e];rfl
    rw[e2,a3,Qg h2.wf (by omega) a2.pK]
  ·exact⟨(0,0),λz=>absurd z hk⟩
 obtain⟨q,hq⟩:=yct step;exact absurd (Sx.zfb (K:=K) (N:=K+m+1) (M:=M) (B:=λk=>(it k).bd) (T:=λk=>(q k).1) (P:=λk=>(q k).2) (L:=(K+m+1) ^ K) (λk hk=>(all k hk).2.1.g) (λk hk=>(hq k hk).1) λk hk=>(hq k hk).2) (jS _)
def cS:DT:=tV (d1 JA (dVar 3))
def bS:DS:=(dSeq (dSet 4 [] (Zi Zn (Zc (dVar 2) (Zc (dVar 3) dNil))))
  (dSeq (dIf (tV (d1 fIsN (dVar 4)))
  (dRet (dTup (Zc (dVar 2) (Zc (dVar 3) dNil))))
  ZD)
  (dSeq (dSet 2 [] (Zi YE (Zc (dVar 2) (Zc (dVar 3) (Zc (dVar 4) dNil)))))
  (dSet 3 [] (Zi ZI (Zc (dVar 2) dNil))))))
theorem zfa(z:Mz K m M B)(tk tg:ya):∀(n:Nat) (b:LB),End n b->Bo K m M b->Sx.Fr K m b.bd->∀(fuel:Nat),n < fuel->∀(th:ya) (s4:Sl),ZI [eB b]=.ok th ->
  ∃b',Bo K m M b'/\Sx.Fr K m b'.bd/\(((∀t,K<=t->t < K+m->0<=b'.bd.R t K)/\∃s4',Yb cS bS fuel [.val tk,.val tg,.val (eB b),.val th,s4]=.ok (.nx [.val tk,.val tg,.val (eB b'),.val .none,s4'])) \/
   ∃t,K<=t/\t < K+m/\b'.bd.R t K < 0/\(∀j,j < K->hlp b' K t j=false)/\Yb cS bS fuel [.val tk,.val tg,.val (eB b),.val th,s4]=.ok (.rt (.tuple [eB b',.int t]))):=by
 intro n
 induction n with
 | zero=>
  intro b he o f fuel hf th s4 hth;obtain⟨fu,rfl⟩:∃fu,fuel=fu+1:=⟨fuel - 1,by omega⟩
  have he':nxt b=none:=he;rcases Jh o f with ⟨a1,a2,_⟩ | ⟨t,a1,a2,a3,a4,a5,a6,_⟩ | ⟨t,p,_,_,_,_,a5⟩
  ·rw[hth] at a2;cases a2;refine⟨b,o,f,.inl ⟨a1,s4,?_⟩⟩;simp[Yb,cS]
  ·rw[hth] at a5;cases a5;refine⟨b,o,f,.inr ⟨t,a1,a2,a3,a4,?_⟩⟩;simp[Yb,cS,bS,a6]
  ·rw[he'] at a5;cases a5
 | succ n ih=>
  intro b he o f fuel hf th s4 hth;obtain⟨fu,rfl⟩:∃fu,fuel=fu+1:=⟨fuel - 1,by omega⟩
  rcases Jh o f with ⟨a1,a2,_⟩ | ⟨t,a1,a2,a3,a4,a5,a6,_⟩ | ⟨t,p,a0,ch,a3,a4,a5⟩
  ·rw[hth] at a2;cases a2;refine⟨b,o,f,.inl ⟨a1,s4,?_⟩⟩;simp[Yb,cS]
  ·rw[hth] at a5;cases a5;refine⟨b,o,f,.inr ⟨t,a1,a2,a3,a4,?_⟩⟩;simp[Yb,cS,bS,a6]
  ·rw[hth] at a3;cases a3;have he2:End n (lsw b t p):=by
    have he':nxt b=none\/∃b',nxt b=some b'/\End n b':=he;rcases he' with h | ⟨b',h,h'⟩
    ·rw[a5] at h;cases h
    ·rw[a5] at h;cases h;exact h'
   obtain⟨_,_,_,_,_,o2,f2⟩:=zaG o f a5;obtain⟨th2,hth2⟩:∃th2,ZI [eB (lsw b t p)]=.ok th2:=by
    rcases zc2 o2.wf with ⟨t',_,_,_,_,h⟩ | ⟨_,h⟩
    ·exact⟨_,h⟩
    ·exact⟨_,h⟩
   have hs:=Jd o.wf (o.sm z) (t:=t) (p:=p) (by omega) ch.pK
   obtain⟨b',o',f',r⟩:=ih (lsw b t p) he2 o2 f2 fu (by omega) th2 (.val (.int p)) hth2
   have ew:Yb cS bS (fu+1) [.val tk,.val tg,.val (eB b),.val (.int t),s4]=Yb cS bS fu [.val tk,.val tg,.val (eB (lsw b t p)),.val th2,.val (.int p)]:=by
    have ec:cS (frzA [.val tk,.val tg,.val (eB b),.val (.int t),s4])=.ok true:=by simp[cS]
    have eb:bS [.val tk,.val tg,.val (eB b),.val (.int t),s4]=.ok (.nx [.val tk,.val tg,.val (eB (lsw b t p)),.val th2,.val (.int p)]):=by simp[bS,a4,hs,hth2]
    rw[Yb,ec,Res.bind_ok,if_pos rfl,eb]
    rfl
   rw[ew];exact⟨b',o',f',r⟩
theorem zhf(z:Mz K m M B){tk tg:ya}(o:Bo K m M b)(h0:Xf [tk,tg]=.ok (eB b))(hf:(K+m+1) ^ K < 1000000000000) :
  ∃b',Bo K m M b'/\Sx.Fr K m b'.bd/\(((∀t,K<=t->t < K+m->0<=b'.bd.R t K)/\Yf [tk,tg]=.ok (.tuple [eB b',.none])) \/
   ∃t,K<=t/\t < K+m/\b'.bd.R t K < 0/\(∀j,j < K->hlp b' K t j=false)/\Yf [tk,tg]=.ok (.tuple [eB b',.int t])):=by
 obtain⟨b1,o1,f1,e1⟩:=freed_ok z o;obtain⟨th,hth⟩:∃th,ZI [eB b1]=.ok th:=by
  rcases zc2 o1.wf with ⟨t',_,_,_,_,h⟩ | ⟨_,h⟩
  ·exact⟨_,h⟩
  ·exact⟨_,h⟩
 have hd:zbm=dSeq (Qf Qh cS bS) VT:=rfl;obtain⟨b',o',f',r⟩:=zfa z tk tg _ b1 (ends o1 f1) o1 f1 1000000000000 hf th .emp hth;refine⟨b',o',f',?_⟩;have hu:∀G,Qh G=1000000000000:=λ_=>rfl
 rcases r with ⟨r1,s4,r2⟩ | ⟨t,r1,r2,r3,r4,r5⟩
 ·refine .inl ⟨r1,?_⟩;simp[Yf,zbn,Qw,hd,VT,runQ,runF,h0,e1,hth,hu,r2]
 ·refine .inr ⟨t,r1,r2,r3,r4,?_⟩;simp[Yf,zbn,Qw,hd,VT,runQ,runF,h0,e1,hth,hu,r5]
end
theorem div_add{a b D:Int}(h:D ≠ 0):y4 a D+y4 b D=y4 (a+b) D:=by
 simp only[qt];have:(D:Rat) ≠ 0:=by exact_mod_cast h
 grind
theorem zdJ{a b D:Int}:(a:Rat) * y4 b D=y4 (a * b) D:=by
 simp only[qt,jX]
 grind
theorem div_le{a b D:Int}(h:0 < D)(hh:a<=b * D):y4 a D<=(b:Rat):=by
 rw[Rat.le_iff_sub_nonneg];have e:(b:Rat) - y4 a D=y4 (b * D - a) D:=by
  simp only[qt,jX,Rat.intCast_sub];have:(D:Rat) ≠ 0:=by exact_mod_cast (show D ≠ 0 by omega)
  grind
 rw[e];exact(ybf h).mpr (by omega)
theorem div_neg{a D:Int}(h:0 < D)(hh:a < 0):y4 a D < 0:=by
 rw[<- qV,ybf h];omega
theorem zjP{a D:Int}(h:0 < D)(hh:0<=a):0<=y4 a D:=(ybf h).mpr hh
theorem zgK{D:Int}:y4 0 D=0:=Rat.zero_divInt D
theorem zfN{D:Int}(h:D ≠ 0):y4 D D=1:=by
 rw[qt];have:(D:Rat) ≠ 0:=by exact_mod_cast h
 grind
theorem zd4:∀(n:Nat) (f:Nat->Int),Sx.sumN (n+1) f=f 0+Sx.sumN n (λi=>f (i+1))
 | 0,f=>by simp[Sx.sumN]
 | n+1,f=>by
  have:=zd4 n f;simp only[Sx.sumN] at this ⊢;omega
theorem Qu{α:Type}(d:α)(f:α->Int){D:Int}(hD:D ≠ 0):∀(ls:List α) (g:Nat->Int),dot (ls.map f) ((yF ls.length).map λi=>y4 (g i) D)=y4 (Sx.sumN ls.length λi=>f (ls.getD i d) * g i) D
 | [],g=>by simp[dot,Sx.sumN]
 | l::ls,g=>by
  have ih:=Qu d f hD ls (λi=>g (i+1))
  rw[jk,ycw,yH,yH,jf,zd4];simp only[dot];have e:((yF ls.length).map ((λi=>y4 (g i) D) ∘ Nat.succ))=(yF ls.length).map λi=>y4 (g (i+1)) D:=rfl
  rw[e,ih,zdJ,div_add hD]
  rfl
theorem UT{α:Type}{xs:List α}{n:Nat}{d:α}(h:n < xs.length):xs[n]=xs.getD n d:=by simp[y8,h]
def pt(K:Nat)(b:LB):List Rat:=(yF K).map λi=>y4 (b.bd.R i K) b.D
section
variable {K m B:Nat}{M:Sx.Mat}{b:LB}{t:Nat}
theorem VL(o:Bo K m M b)(s:Sm b):Xb [eB b]=.ok (.list ((pt K b).map fr)):=by
 have h1:Vv (K:Int)=true:=Yk (by have:=o.wf.kk;omega)
 have h2:(rngT 0 K).length<=16777216:=by rw[Wq];have:=o.wf.kk;omega
 have hc:YF (Zu 0) tT (Zi Yr (Zc (d2 fIx (d2 fIx (d1 (fFld "rows") (dVar 1)) (dVar 0)) (d1 fNeg (dC (.int 1)))) (Zc (d1 (fFld "divisor") (dVar 1)) dNil))) [.emp,.val (eB b)] (rngT 0 K)=.ok ((yF K).map λi=>fr (y4 (b.bd.R i K) b.D)):=by
  rw[UP];refine Z6 (λ(k:Nat)=>ya.int (k:Int)) _ _ λi hi=>⟨_,rfl,?_⟩
  have hi':=js.mp hi;have e1:=U4 o.wf (i:=i) (by omega)
  have e2:fIx (eI (b.rows.getD i [])) (.int (-1))=.ok (.int (b.bd.R i K)):=zdy (o.wf.row (by omega))
  have e3:=Ve (u:=b.bd.R i K) s.d0 s.d (by omega)
  generalize b.bd.R i K=r at *
  simp[e1,e2,e3,-fIx,-y8]
 simp[Xb,zcz,runQ,runF,o.wf.hl,h1,h2,hc,pt]
def shZ(b:LB)(K t:Nat):Nat->Nat->Int
 | 0,_=>0
 | c+1,i=>if b.bd.h c=K+i then -(b.bd.R t c) else shZ b K t c i
def JF:DS:=(dIf (tV (d2 fGe (dVar 4) (dVar 2)))
  (UF 3 [] (d2 fSub (dVar 4) (dVar 2)) (Zi Yr (Zc (d1 fNeg (dVar 5)) (Zc (d1 (fFld "divisor") (dVar 0)) dNil))))
  ZD)
def shL(b:LB)(K m t c:Nat):List Rat:=(yF m).map λi=>y4 (shZ b K t c i) b.D
theorem ze9(o:Bo K m M b)(s:Sm b){c:Nat}(hc:c < K)(ht:t < K+m+1)(s4 s5:Sl) :
  JF [.val (eB b),.val (.int t),.val (.int K),.own ((shL b K m t c).map fr),.val (.int (b.bd.h c:Int)),.val (.int (b.bd.R t c))]
   = .ok (.nx [.val (eB b),.val (.int t),.val (.int K),.own ((shL b K m t (c+1)).map fr),.val (.int (b.bd.h c:Int)),.val (.int (b.bd.R t c))]):=by
 have hw:=o.hw c hc;by_cases hh:K<=b.bd.h c
 ·have e3:=Ve (u:=-(b.bd.R t c)) s.d0 s.d (by omega)
  have e4:ixP m ((b.bd.h c:Int) - (K:Int))=some (b.bd.h c - K):=by
   unfold ixP;rw[if_pos (by omega),if_pos (by omega)]
   congr 1
   omega
  have e5:((shL b K m t c).map fr).set (b.bd.h c - K) (fr (y4 (-(b.bd.R t c)) b.D))=(shL b K m t (c+1)).map fr:=by
   unfold shL;rw[jf,jf,zel];refine qq λi hi=>?_
   simp only[Function.comp,shZ];by_cases e:i=b.bd.h c - K
   ·rw[if_pos e,if_pos (by omega)]
   ·rw[if_neg e,if_neg (by omega)]
  have e6:((shL b K m t c).map fr).length=m:=by simp[shL]
  generalize b.bd.R t c=r at *
  generalize b.bd.h c=hc' at *
  generalize (shL b K m t c).map fr=sl at *
  generalize (shL b K m t (c+1)).map fr=sl2 at *
  have hh':(K:Int)<=(hc':Int):=by omega
  simp[JF,hh',e3,e4,e5,e6]
 ·have e5:shL b K m t (c+1)=shL b K m t c:=by
   unfold shL;refine qq λi hi=>?_
   simp only[shZ];rw[if_neg (by omega)]
  rw[e5];generalize b.bd.R t c=r at *
  generalize b.bd.h c=hc' at *
  have hh':¬(K:Int)<=(hc':Int):=by omega
  simp[JF,hh']
theorem zd8(o:Bo K m M b)(s:Sm b)(ht:t < K+m+1):Xo [eB b,.int t]=.ok (.list ((shL b K m t K).map fr)):=by
 have hrm:=zap o.wf;have e1:=U4 o.wf ht;have hmk:=o.wf.mm;have hz:zipT (b.heads.map λ(h:Nat)=>ya.int (h:Int)) ((b.rows.getD t []).map ya.int)=(yF K).map λi=>.tuple [.int (b.bd.h i:Int),.int (b.bd.R t i)]:=by
  have er:=o.wf.row ht;have eh:=o.wf.hl;apply yb4
  ·rw[Wn];simp[eh,er,-y8]
  ·intro n h1 h2;simp only[Wn,List.getElem_map,List.getElem_zip,ybu];have hn:n < K:=by simpa using h2
   have a1:b.heads[n]'(by omega)=b.bd.h n:=by simp[y8,show n < b.heads.length by omega]
   have a2:(b.rows.getD t [])[n]'(by omega)=b.bd.R t n:=by
    rw[bd_R];exact UT _
   rw[a1,a2]
 have start:y0 m (ya.tuple [.int 0,.int 1])=(shL b K m t 0).map fr:=by
  rw[Jw];unfold shL;rw[jf];apply yb4
  ·simp
  ·intro n h1 h2;simp[shZ,zgK]
 have hm3:(m:Int)<=16777216:=by omega
 have loop:∃s4 s5,forL (V6 4 5) JF (zipT (b.heads.map λ(h:Nat)=>ya.int (h:Int)) ((b.rows.getD t []).map ya.int)) [.val (eB b),.val (.int t),.val (.int K),.own ((shL b K m t 0).map fr),.emp,.emp]=.ok (.nx [.val (eB b),.val (.int t),.val (.int K),.own ((shL b K m t K).map fr),s4,s5]):=by
  rw[hz];obtain⟨G',e,s4,s5,hG⟩:=VP (st:=V6 4 5) (b:=JF) (λc G=>∃s4 s5,G=[.val (eB b),.val (.int t),.val (.int K),.own ((shL b K m t c).map fr),s4,s5]) ((yF K).map λi=>ya.tuple [.int (b.bd.h i:Int),.int (b.bd.R t i)]) 0
   [.val (eB b),.val (.int t),.val (.int K),.own ((shL b K m t 0).map fr),.emp,.emp] ⟨.emp,.emp,rfl⟩ λi x G hx ⟨s4,s5,hG⟩=>by
    subst hG;rw[jc] at hx;cases ei:(yF K)[i]? with
    | none=>rw[ei] at hx;cases hx
    | some j=>
     rw[ei] at hx;obtain⟨hj,ej⟩:=jb.mp ei;rw[ybu] at ej;subst ej;cases hx;have hiK:i < K:=by simpa using hj
     have st:=ze9 o s hiK ht .emp .emp;have e0:0+i=i:=by omega
     have e1:0+i+1=i+1:=by omega
     rw[e0];exact⟨_,rfl,_,.inl st,_,_,rfl⟩
  have el:0+((yF K).map λi=>ya.tuple [.int (b.bd.h i:Int),.int (b.bd.R t i)]).length=K:=by simp
  rw[el] at hG;subst hG;exact⟨s4,s5,e⟩
 obtain⟨s4,s5,loop⟩:=loop;have hm1:Vv (m:Int)=true:=Yk (by omega)
 have hm2:m<=16777216:=by omega
 have hd:QT=dSeq (dFor (V6 4 5) [] (iZip (iSeq (d1 (fFld "heads") (dVar 0))) (iSeq (d2 fIx (d1 (fFld "rows") (dVar 0)) (dVar 1)))) JF) VS:=rfl;simp[Xo,zbl,QU,hd,VS,runQ,runF,o.wf.hl,hrm,Wq,hm1,hm2,hm3,start,e1,loop,-fIx,-y8]
end
section
variable {K m:Nat}{ls:List Lim}{goal:List Int}
theorem zdW(hw:∀l ∈ ls,l.1.length=K){i c:Nat}(hi:i < ls.length)(hc:c < K):M0 K ls goal (K+i) c=-(colN c (ls.getD i ([],0))):=by
 show((V7 K ls goal).getD (K+i) []).getD c 0=_;rw[zf7 hi];have hl:=hw _ (XH (xs:=ls) (d:=([],0)) hi);generalize ls.getD i ([],0)=l at *
 unfold zej colN;rw[y8,jH (by simpa[hl] using hc),jc,y8,j7 (by omega)]
 rfl
theorem zaD(hw:∀l ∈ ls,l.1.length=K){i:Nat}(hi:i < ls.length):M0 K ls goal (K+i) K=(ls.getD i ([],0)).2:=by
 show((V7 K ls goal).getD (K+i) []).getD K 0=_;rw[zf7 hi];have hl:=hw _ (XH (xs:=ls) (d:=([],0)) hi);generalize ls.getD i ([],0)=l at *
 unfold zej;rw[y8,j6 (by simp[hl])]
 simp[hl]
theorem zfX(hm:ls.length=m)(hg:goal.length=K){c:Nat}(hc:c < K):M0 K ls goal (K+m) c=goal.getD c 0:=by
 show((V7 K ls goal).getD (K+m) []).getD c 0=_;rw[<- hm,zei,y8,jH (by omega),y8]
theorem zdX(hm:ls.length=m)(hg:goal.length=K):M0 K ls goal (K+m) K=0:=by
 show((V7 K ls goal).getD (K+m) []).getD K 0=_;rw[<- hm,zei,y8,j6 (by omega)]
 simp[hg]
theorem M0_amt{i c:Nat}(hi:i < K)(hc:c<=K):M0 K ls goal i c=if c=i then 1 else 0:=by
 show((V7 K ls goal).getD i []).getD c 0=_;rw[ziy hi];unfold zd2;rw[y8,ya2];by_cases e:c=i
 ·subst e;rw[if_pos rfl,if_pos (by simp;omega),if_pos rfl];rfl
 ·rw[if_neg (Ne.symm e),if_neg e,ql];split <;> rfl
theorem Mz.of{B:Nat}(hb:1<=B)(hm:ls.length=m)(hw:∀l ∈ ls,l.1.length=K)(hg:goal.length=K)(h1:∀l ∈ ls,(∀x ∈ l.1,x.natAbs<=B)/\l.2.natAbs<=B)(h2:∀x ∈ goal,x.natAbs<=B)(hz:Sx.fact (K+1) * B ^ (K+1) < 2 ^ 1000):Mz K m (M0 K ls goal) B:=by
 refine⟨hb,λi c hi hc=>?_,hz⟩
 rcases(show i < K\/(K<=i/\i < K+m)\/i=K+m by omega) with h | h | h
 ·rw[M0_amt h hc];split <;> simp <;> omega
 ·obtain⟨j,rfl⟩:∃j,i=K+j:=⟨i - K,by omega⟩
  have hj:j < ls.length:=by omega
  have hmem:=XH (xs:=ls) (d:=([],0)) hj;by_cases e:c=K
  ·subst e;rw[zaD hw hj];exact(h1 _ hmem).2
  ·rw[zdW hw hj (by omega),qO]
   exact(h1 _ hmem).1 _ (XH (by rw[hw _ hmem];omega))
 ·subst h;by_cases e:c=K
  ·subst e;rw[zdX hm hg];simp
  ·rw[zfX hm hg (by omega)]
   exact h2 _ (XH (by omega))
end
section
variable {K m B:Nat}{ls:List Lim}{goal:List Int}{b:LB}{t:Nat}
theorem Bo.lin(o:Bo K m (M0 K ls goal) b)(hm:ls.length=m){i q:Nat}(hi:i < K+m+1)(hq:q<=K):b.bd.R i q=Sx.sumN K (λc=>M0 K ls goal i c * b.bd.R c q)+M0 K ls goal i K * (if q=K then b.D else 0):=by
 have e:=o.g.two (zgo (K:=K) (ls:=ls) (goal:=goal) hm) hi hq;have e1:(lb0 K ls goal).bd.D=1:=rfl;rw[e1,yaq] at e;rw[e]
 congr 1
 refine Sx.ZZ λc hc=>?_
 have e2:(lb0 K ls goal).bd.h c=c:=by show(yF K).getD c 0=c;simp[hc]
 rw[e2];rfl
theorem Bo.room(o:Bo K m (M0 K ls goal) b)(hm:ls.length=m)(hw:∀l ∈ ls,l.1.length=K){i q:Nat}(hi:i < m)(hq:q<=K) :
  Sx.sumN K (λc=>colN c (ls.getD i ([],0)) * b.bd.R c q)=(if q=K then(ls.getD i ([],0)).2 * b.D else 0) - b.bd.R (K+i) q:=by
 rw[o.lin hm (i:=K+i) (by omega) hq,zaD hw (by omega)]
 have e:Sx.sumN K (λc=>M0 K ls goal (K+i) c * b.bd.R c q)=Sx.sumN K (λc=>(-1) * (colN c (ls.getD i ([],0)) * b.bd.R c q)):=Sx.ZZ λc hc=>by
  rw[zdW hw (by omega) hc];grind
 rw[e,Sx.WN];by_cases h:q=K
 ·rw[if_pos h,if_pos h];omega
 ·rw[if_neg h,if_neg h];omega
theorem Bo.worth(o:Bo K m (M0 K ls goal) b)(hm:ls.length=m)(hg:goal.length=K){q:Nat}(hq:q<=K):Sx.sumN K (λc=>goal.getD c 0 * b.bd.R c q)=b.bd.R (K+m) q:=by
 rw[o.lin hm (i:=K+m) (by omega) hq,zdX hm hg,q9,yam]
 exact Sx.ZZ λc hc=>by rw[zfX hm hg hc]
theorem dot_pt{ws:List Int}(hl:ws.length=K)(hD:b.D ≠ 0):dot ws (pt K b)=y4 (Sx.sumN K λc=>ws.getD c 0 * b.bd.R c K) b.D:=by
 have:=Qu (0:Int) (λx=>x) hD ws (λi=>b.bd.R i K)
 rw[hl,List.map_id''] at this
 ·exact this
 ·intro x;rfl
theorem zim{i:Nat}:∀(c:Nat),(∀j,j < c->b.bd.h j ≠ K+i)->shZ b K t c i=0
 | 0,_=>rfl
 | c+1,h=>by
  unfold shZ;rw[if_neg (h c (by omega))]
  exact zim c λj hj=>h j (by omega)
theorem zin{i:Nat}:∀(c:Nat),c<=K->(∀j,j < K->b.bd.R t j<=0)->0<=shZ b K t c i
 | 0,_,_=>jL 0
 | c+1,hc,h=>by
  unfold shZ;split
  ·have:=h c (by omega);omega
  ·exact zin c (by omega) h
theorem zib{n a:Nat}{v:Int}(f g:Nat->Int)(ha:a < n):Sx.sumN n (λi=>f i * (if i=a then v else g i))=Sx.sumN n (λi=>f i * g i)+f a * (v - g a):=by
 have e:∀i,i < n->f i * (if i=a then v else g i)=f i * g i+(if i=a then f a * (v - g a) else 0):=λi _=>by
  split
  ·rename_i h;subst h;grind
  ·omega
 rw[Sx.ZZ e,Sx.zcZ,Sx.zid ha]
theorem sh_sum{M:Sx.Mat}(o:Bo K m M b)(F:Nat->Int):∀(c:Nat),c<=K->Sx.sumN m (λi=>F (K+i) * shZ b K t c i)=Sx.sumN c (λj=>if K<=b.bd.h j then F (b.bd.h j) * -(b.bd.R t j) else 0)
 | 0,_=>by simp only[shZ,jo,Sx.sumN];exact Sx.zcY λ_ _=>rfl
 | c+1,hc=>by
  have ih:=sh_sum o F c (by omega)
  have hw:=o.hw c (by omega)
  simp only[Sx.sumN,<- ih];by_cases h:K<=b.bd.h c
  ·rw[if_pos h];have e:∀i,i < m->F (K+i) * shZ b K t (c+1) i=F (K+i) * (if i=b.bd.h c - K then -(b.bd.R t c) else shZ b K t c i):=λi hi=>by
    congr 1
    simp only[shZ];by_cases z:i=b.bd.h c - K
    ·rw[if_pos z,if_pos (by omega)]
    ·rw[if_neg z,if_neg (by omega)]
   rw[Sx.ZZ e,zib (λi=>F (K+i)) (λi=>shZ b K t c i) (by omega)]
   have z0:shZ b K t c (b.bd.h c - K)=0:=zim c λj hj z=>by
    have:=o.g.inj (j:=j) (l:=c) (by omega) (by omega) (by omega)
    omega
   have z1:K+(b.bd.h c - K)=b.bd.h c:=by omega
   simp only[z0,z1,qS]
  ·rw[if_neg h,yam];refine Sx.ZZ λi hi=>?_
   congr 1
   simp only[shZ];rw[if_neg (by omega)]
theorem zik{M:Sx.Mat}(o:Bo K m M b)(ht:t < K+m+1)(hz:∀j,j < K->b.bd.h j < K->b.bd.R t j=0){c:Nat}(hc:c<=K):Sx.sumN m (λi=>M (K+i) c * shZ b K t K i)=(if c=K then b.bd.R t K else 0) - b.D * M t c:=by
 rw[sh_sum o (λi=>M i c) K (yq _)]
 have cr:=o.g.cr t c ht hc;simp only[Sx.sumN] at cr;rw[Sx.Vh_K] at cr;have e:Sx.sumN K (λj=>if K<=b.bd.h j then M (b.bd.h j) c * -(b.bd.R t j) else 0)=Sx.sumN K (λj=>(-1) * (b.bd.R t j * Sx.Vh K M b.bd.h j c)):=Sx.ZZ λj hj=>by
  rw[Sx.Vh_lt hj];by_cases h:K<=b.bd.h j
  ·rw[if_pos h];grind
  ·rw[if_neg h,hz j hj (by omega)];omega
 rw[e,Sx.WN];have ek:Sx.eK K c=if c=K then 1 else 0:=rfl
 rw[ek] at cr;rw[bd_D] at cr;by_cases h:c=K
 ·rw[if_pos h] at cr ⊢;omega
 ·rw[if_neg h] at cr ⊢;omega
def clZ(b:LB)(K t:Nat)(i:Nat):Int:=if i=t - K then b.D else shZ b K t K i
def clL(b:LB)(K m t:Nat):List Rat:=(yF m).map λi=>y4 (clZ b K t i) b.D
theorem zg2{M:Sx.Mat}(o:Bo K m M b)(s:Sm b)(ht:K<=t)(ht2:t < K+m):Xz [eB b,.int t]=.ok (.list ((clL b K m t).map fr)):=by
 have h1:=zd8 o s (t:=t) (by omega)
 have e4:ixP m ((t:Int) - (K:Int))=some (t - K):=by
  unfold ixP;rw[if_pos (by omega),if_pos (by omega)]
  congr 1
  omega
 have e6:((shL b K m t K).map fr).length=m:=by simp[shL]
 have e5:((shL b K m t K).map fr).set (t - K) (ya.tuple [.int 1,.int 1])=(clL b K m t).map fr:=by
  have e1:ya.tuple [.int 1,.int 1]=fr 1:=by simp[fr]
  unfold shL clL;rw[e1,jf,jf,zel];refine qq λi hi=>?_
  simp only[Function.comp,clZ];by_cases e:i=t - K
  ·rw[if_pos e,if_pos e,zfN s.d0]
  ·rw[if_neg e,if_neg e]
 generalize (shL b K m t K).map fr=sl at *
 generalize (clL b K m t).map fr=cl at *
 simp[Xz,zcL,zad,zac,runQ,runF,oCall,h1,o.wf.hl,e4,e6,e5]
theorem cl_rows{M:Sx.Mat}(o:Bo K m M b)(ht:K<=t)(ht2:t < K+m)(hsh:b.bd.R t K < 0)(hz:∀j,j < K->b.bd.h j < K->b.bd.R t j=0){c:Nat}(hc:c<=K):Sx.sumN m (λi=>M (K+i) c * clZ b K t i)=if c=K then b.bd.R t K else 0:=by
 unfold clZ;rw[zib (λi=>M (K+i) c) (λi=>shZ b K t K i) (by omega),zik o (by omega) hz hc]
 have z0:shZ b K t K (t - K)=0:=zim K λj hj z=>by
  have:=o.g.head0 hj;rw[z,show K+(t - K)=t by omega] at this
  omega
 have z1:K+(t - K)=t:=by omega
 simp only[z0,z1,qS];have:M t c * b.D=b.D * M t c:=jY _ _;omega
end
structure DK(K m B n0:Nat)(ls:List Lim):Prop where
 k:K<=1000
 m1:m<=1000
 len:ls.length=m
 w:∀l ∈ ls,l.1.length=K
 b1:1<=B
 sz:∀l ∈ ls,(∀x ∈ l.1,x.natAbs<=B)/\l.2.natAbs<=B
 z:Sx.fact (K+1) * B ^ (K+1) < 2 ^ n0
 n:n0<=1000
 fu:(K+m+1) ^ K < 1000000000000
abbrev Yq(K:Nat)(ls:List Lim):ya:=.tuple [.int K,.tuple (ls.map limT)]
structure SzB(K m n0:Nat)(b:LB):Prop where
 d:b.D.natAbs < 2 ^ n0
 r:∀i j,i < K+m+1->j<=K->(b.bd.R i j).natAbs < 2 ^ n0
section
variable {K m B n0:Nat}{ls:List Lim}{goal:List Int}{b:LB}{t:Nat}
theorem DK.mz(d:DK K m B n0 ls)(hg:goal.length=K)(h2:∀x ∈ goal,x.natAbs<=B):Mz K m (M0 K ls goal) B:=
 .of d.b1 d.len d.w hg d.sz h2 (yU d.z (QK d.n))
theorem DK.szb(d:DK K m B n0 ls)(hg:goal.length=K)(h2:∀x ∈ goal,x.natAbs<=B)(o:Bo K m (M0 K ls goal) b):SzB K m n0 b:=by
 obtain⟨h1,h3⟩:=o.g.size d.b1 (d.mz hg h2).le;exact⟨jh h1 d.z,λi j hi hj=>jh (h3 i j hi hj) d.z⟩
theorem DK.bo0(d:DK K m B n0 ls)(hg:goal.length=K):Bo K m (M0 K ls goal) (lb0 K ls goal):=by
 refine⟨lb0_wf d.k d.len d.m1 d.w hg,zgo d.len,λj hj=>?_⟩
 show(yF K).getD j 0 < K+m;simp[hj];omega
theorem DK.settled(d:DK K m B n0 ls)(hg:goal.length=K)(h2:∀x ∈ goal,x.natAbs<=B) :
  ∃b,Bo K m (M0 K ls goal) b/\Sx.Fr K m b.bd/\Sm b/\SzB K m n0 b/\(((∀t,K<=t->t < K+m->0<=b.bd.R t K)/\Yf [Yq K ls,eI goal]=.ok (.tuple [eB b,.none])) \/
   ∃t,K<=t/\t < K+m/\b.bd.R t K < 0/\(∀j,j < K->hlp b K t j=false)/\Yf [Yq K ls,eI goal]=.ok (.tuple [eB b,.int t])):=by
 obtain⟨b,o,f,r⟩:=zhf (d.mz hg h2) (d.bo0 hg) (zb3 d.k d.len d.m1 d.w hg) d.fu;exact⟨b,o,f,o.sm (d.mz hg h2),d.szb hg h2 o,r⟩
theorem pt_sz(o:SzB K m n0 b)(s:Sm b):∀q ∈ pt K b,Sz n0 q:=λq hq=>by
 obtain⟨i,hi,rfl⟩:=yD.mp hq;exact Yy s.d0 (o.r i K (by have:=js.mp hi;omega) (yq _)) o.d
theorem zil(o:SzB K m n0 b)(ht:t < K+m+1){i:Nat}:∀c,c<=K->(shZ b K t c i).natAbs < 2 ^ n0
 | 0,_=>by simp only[shZ];exact Nat.two_pow_pos n0
 | c+1,hc=>by
  unfold shZ;split
  ·rw[qO];exact o.r t c ht (by omega)
  ·exact zil o ht c (by omega)
theorem shL_sz(o:SzB K m n0 b)(s:Sm b)(ht:t < K+m+1):∀q ∈ shL b K m t K,Sz n0 q:=λq hq=>by
 obtain⟨i,hi,rfl⟩:=yD.mp hq;exact Yy s.d0 (zil o ht K (yq _)) o.d
theorem clL_sz(o:SzB K m n0 b)(s:Sm b)(ht:t < K+m+1):∀q ∈ clL b K m t,Sz n0 q:=λq hq=>by
 obtain⟨i,hi,rfl⟩:=yD.mp hq;refine Yy s.d0 ?_ o.d;unfold clZ;split
 ·exact o.d
 ·exact zil o ht K (yq _)
theorem zgm{j:Nat}(h:hlp b K t j=false):b.bd.R t j<=0/\(b.bd.h j < K->b.bd.R t j=0):=by
 unfold hlp at h;rw[Bool.or_eq_false_iff,Bool.and_eq_false_iff] at h;obtain⟨h1,h2⟩:=h;have h1':¬0 < b.bd.R t j:=of_decide_eq_false h1;refine⟨by omega,λhh=>?_⟩
 rcases h2 with h2 | h2
 ·have:=of_decide_eq_false h2;omega
 ·exact absurd hh (of_decide_eq_false h2)
theorem zgf(d:DK K m B n0 ls)(o:Bo K m (M0 K ls goal) b)(s:Sm b)(h:∀t,K<=t->t < K+m->0<=b.bd.R t K):∀l ∈ ls,dot l.1 (pt K b)<=(l.2:Rat):=λl hl=>by
 obtain⟨i,hi,rfl⟩:=qI hl;have hi':i < m:=by rw[<- d.len];exact hi
 rw[dot_pt (d.w _ hl) s.d0];refine div_le o.g.pos ?_;have e:=o.room d.len d.w hi' (yq K);rw[if_pos rfl] at e;have eg:ls.getD i ([],0)=ls[i]:=(UT hi).symm;rw[eg] at e;have:=h (K+i) (by omega) (by omega)
 have e2:Sx.sumN K (λc=>ls[i].1.getD c 0 * b.bd.R c K)=Sx.sumN K (λc=>colN c ls[i] * b.bd.R c K):=rfl
 rw[e2,e];show _<=ls[i].2 * b.D;omega
theorem zg3(d:DK K m B n0 ls)(o:Bo K m (M0 K ls goal) b)(s:Sm b)(ht:K<=t)(ht2:t < K+m)(hsh:b.bd.R t K < 0)(hn:∀j,j < K->hlp b K t j=false) :
  (∀q ∈ clL b K m t,0<=q)/\(∀j,j < K->dot (ls.map (colN j)) (clL b K m t)=0)/\WM ls (clL b K m t) < 0:=by
 have hD:0 < b.D:=o.g.pos;have rows:=λc hc=>cl_rows (c:=c) o ht ht2 hsh (λj hj hh=>(zgm (hn j hj)).2 hh) hc
 refine⟨λq hq=>?_,λj hj=>?_,?_⟩
 ·obtain⟨i,hi,rfl⟩:=yD.mp hq;refine zjP hD ?_;unfold clZ;split
  ·omega
  ·exact zin K (yq _) λj hj=>(zgm (hn j hj)).1
 ·have e:=Qu ([],(0:Int)) (colN j) s.d0 ls (clZ b K t);rw[d.len] at e;have e2:Sx.sumN m (λi=>colN j (ls.getD i ([],0)) * clZ b K t i)=0:=by
   have r:=rows j (by omega)
   rw[if_neg (by omega)] at r
   have e3:Sx.sumN m (λi=>M0 K ls goal (K+i) j * clZ b K t i)=Sx.sumN m (λi=>(-1) * (colN j (ls.getD i ([],0)) * clZ b K t i)):=Sx.ZZ λi hi=>by
    rw[zdW d.w (by rw[d.len];exact hi) hj];grind
   rw[e3,Sx.WN] at r;omega
  rw[e2,zgK] at e;exact e
 ·have e:=Qu ([],(0:Int)) (λl:Lim=>l.2) s.d0 ls (clZ b K t)
  rw[d.len] at e;have r:=rows K (yq _);rw[if_pos rfl] at r;have e3:Sx.sumN m (λi=>M0 K ls goal (K+i) K * clZ b K t i)=Sx.sumN m (λi=>(ls.getD i ([],0)).2 * clZ b K t i):=Sx.ZZ λi hi=>by
   rw[zaD d.w (by rw[d.len];exact hi)]
  rw[e3] at r;rw[r] at e;show dot (ls.map (·.2)) ((yF m).map λi=>y4 (clZ b K t i) b.D) < 0
  rw[e];exact div_neg hD hsh
theorem zjs(d:DK K m B n0 ls):(∃ps:List Rat,ps.length=K/\(∀q ∈ ps,Sz n0 q)/\(∀l ∈ ls,dot l.1 ps<=(l.2:Rat))/\W8 [Yq K ls]=.ok (.tuple [.str "point",.list (ps.map fr)])) \/
  ∃ss:List Rat,ss.length=m/\(∀q ∈ ss,Sz n0 q)/\(∀q ∈ ss,0<=q)/\(∀j,j < K->dot (ls.map (colN j)) ss=0)/\WM ls ss < 0/\W8 [Yq K ls]=.ok (.tuple [.str "clash",.list (ss.map fr)]):=by
 have hg:(y0 K (0:Int)).length=K:=by simp
 have h2:∀x ∈ y0 K (0:Int),x.natAbs<=B:=λx hx=>by rw[(List.mem_replicate.mp hx).2];simp
 obtain⟨b,o,f,s,sz,r⟩:=d.settled hg h2;have hK:=d.k;have k1:Vv (K:Int)=true:=Yk (by omega)
 have k2:(K:Int)<=16777216:=by omega
 have k3:K<=16777216:=by omega
 have er:y0 K (ya.int 0)=(y0 K (0:Int)).map .int:=by rw[List.map_replicate]
 rcases r with ⟨r1,r2⟩ | ⟨t,r1,r2,r3,r4,r5⟩
 ·refine .inl ⟨pt K b,by simp[pt],pt_sz sz s,zgf d o s r1,?_⟩
  have hp:=VL o s;generalize pt K b=ps at *
  have r2':Yf [Yq K ls,.list (y0 K (.int 0))]=.ok (.tuple [eB b,.none]):=by rw[er];exact r2
  simp[W8,zdQ,JC,runQ,runF,at0,at1,k1,k2,k3,r2',hp]
 ·obtain⟨c1,c2,c3⟩:=zg3 d o s r1 r2 r3 r4;refine .inr ⟨clL b K m t,by simp[clL],clL_sz sz s (by omega),c1,c2,c3,?_⟩
  have hp:=zg2 o s r1 r2;generalize clL b K m t=ss at *
  have r5':Yf [Yq K ls,.list (y0 K (.int 0))]=.ok (.tuple [eB b,.int t]):=by rw[er];exact r5
  simp[W8,zdQ,JC,zcE,runQ,runF,at0,at1,k1,k2,k3,r5',hp]
end
def Qi:List Sl->Nat:=λ_=>1000000000000
def zct:DS:=
  (dRet (d2 fSub (d1 fLen (d1 (fFld "rows") (dVar 0))) (dC (.int 1))))
def YL:DF:=runQ 1 1 zct
def zgR:DS:=
  (dRet (d2 fLt (d2 fMul (d2 fIx (dVar 0) (d1 fNeg (dC (.int 1)))) (d1 fNeg (d2 fIx (dVar 1) (dVar 2)))) (d2 fMul (d2 fIx (dVar 1) (d1 fNeg (dC (.int 1)))) (d1 fNeg (d2 fIx (dVar 0) (dVar 2))))))
def UV:DF:=runQ 3 3 zgR
def Vk:DS:=
  (dRet (dVar 2))
def Qc:DS:=
  dSeq (dFor (Zu 3) [] (iSeq (Zi Yj (Zc (dVar 0) dNil)))
  (dSeq (dSet 4 [] (d2 fIx (d1 (fFld "rows") (dVar 0)) (dVar 3)))
  (dIf (tAnd (tV (d2 fLt (d2 fIx (dVar 4) (dVar 1)) (dC (.int 0)))) (tOr (tV (d1 fIsN (dVar 2))) (tV (Zi UV (Zc (dVar 4) (Zc (d2 fIx (d1 (fFld "rows") (dVar 0)) (dVar 2)) (Zc (dVar 1) dNil)))))))
  (dSet 2 [] (dVar 3))
  ZD)))
  Vk
def zab:DS:=
  dSeq (dSet 2 [] (dC .none))
  Qc
def Z3:DF:=runQ 5 2 zab
def zcw:DS:=
  (dRet (dL (YS 1 [2,0,1] (Zu 0) (iRng (d1 fLen (d1 (fFld "heads") (dVar 0)))) tT (Zi Yr (Zc (d2 fMul (dVar 1) (d2 fIx (d2 fIx (d1 (fFld "rows") (dVar 2)) (dVar 0)) (dVar 3))) (Zc (d1 (fFld "divisor") (dVar 2)) dNil))))))
def zgO:DS:=
  dSeq (dSet 2 [] (dIfE (tV (d2 fGt (d2 fIx (d2 fIx (d1 (fFld "rows") (dVar 0)) (Zi YL (Zc (dVar 0) dNil))) (dVar 1)) (dC (.int 0)))) (dC (.int 1)) (d1 fNeg (dC (.int 1)))))
  zcw
def UU:DF:=runQ 3 2 zgO
def VU:DS:=
  (dRet (dTup (Zc (dC (.str (PySem.Str.ofString "best"))) (Zc (Zi Xb (Zc (dVar 0) dNil)) (Zc (Zi Xo (Zc (dVar 0) (Zc (Zi YL (Zc (dVar 0) dNil)) dNil))) dNil)))))
def zbB:DS:=
  dSeq (Qf Qi (tV (d1 JA (dVar 1)))
  (dSeq (dSet 2 [] (Zi Z3 (Zc (dVar 0) (Zc (dVar 1) dNil))))
  (dSeq (dIf (tV (d1 fIsN (dVar 2)))
  (dRet (dTup (Zc (dC (.str (PySem.Str.ofString "endless"))) (Zc (Zi Xb (Zc (dVar 0) dNil)) (Zc (Zi UU (Zc (dVar 0) (Zc (dVar 1) dNil))) dNil)))))
  ZD)
  (dSeq (dSet 0 [] (Zi YE (Zc (dVar 0) (Zc (dVar 2) (Zc (dVar 1) dNil)))))
  (dSet 1 [] (Zi Zn (Zc (dVar 0) (Zc (Zi YL (Zc (dVar 0) dNil)) dNil))))))))
  VU
def zbC:DS:=
  dSeq (dSet 1 [] (Zi Zn (Zc (dVar 0) (Zc (Zi YL (Zc (dVar 0) dNil)) dNil))))
  zbB
def We:DF:=runQ 3 1 zbC
end Lw
namespace Lq
open PySem Fx Lw
def Qe:DS:=
  (dIf (tNot (tV (d1 fAll (dL (YS 1 [] (Zu 0) (iSeq (dVar 1)) tT (Zi ZY (Zc (dVar 0) dNil)))))))
  dNev
  ZD)
def zae:DS:=
  dSeq (dIf (tOr (tNot (tV (d1 (fIs isList) (dVar 1)))) (tV (d2 fNe (d1 fLen (dVar 1)) (dVar 0))))
  dNev
  ZD)
  Qe
def Wf:DF:=runQ 2 2 zae
def zgZ:DS:=
  (dRet (Zi We (Zc (d2 fIx (dVar 2) (dC (.int 0))) dNil)))
def zdR:DS:=
  dSeq (dIf (tV (d1 JA (d2 fIx (dVar 2) (dC (.int 1)))))
  (dRet (dTup (Zc (dC (.str (PySem.Str.ofString "clash"))) (Zc (Zi Xz (Zc (d2 fIx (dVar 2) (dC (.int 0))) (Zc (d2 fIx (dVar 2) (dC (.int 1))) dNil))) dNil))))
  ZD)
  zgZ
def zdS:DS:=
  dSeq (dSet 2 [] (Zi Yf (Zc (dVar 0) (Zc (dVar 1) dNil))))
  zdR
def zj9:DS:=
  dSeq (zfT (Zi Wf (Zc (d2 fIx (dVar 0) (dC (.int 0))) (Zc (dVar 1) dNil))))
  zdS
def zcs:DF:=runQ 3 2 zj9
end Lq
namespace Lw
open PySem Fx
section
variable {K m B n0:Nat}{M:Sx.Mat}{b:LB}{t p:Nat}
theorem VF(w:WFb K m b):YL [eB b]=.ok (.int ((K+m:Nat):Int)):=by
 have e:((K+m+1:Nat):Int) - 1=((K+m:Nat):Int):=by omega
 simp[YL,zct,runQ,runF,w.rl,e,-jQ]
theorem zih{row oth:List Int}{K:Nat}(hr:row.length=K+1)(ho:oth.length=K+1)(hp:p < K)(h1:∀x ∈ row,x.natAbs < 2 ^ 1000)(h2:∀x ∈ oth,x.natAbs < 2 ^ 1000) :
  UV [eI row,eI oth,.int p]=.ok (.bool (decide (row.getD K 0 * -(oth.getD p 0) < oth.getD K 0 * -(row.getD p 0)))):=by
 have e1:fIx (eI row) (.int (-1))=.ok (.int (row.getD K 0)):=zdy hr;have e2:fIx (eI oth) (.int (-1))=.ok (.int (oth.getD K 0)):=zdy ho;have e3:fIx (eI row) (.int (p:Int))=.ok (.int (row.getD p 0)):=U5 (by omega)
 have e4:fIx (eI oth) (.int (p:Int))=.ok (.int (oth.getD p 0)):=U5 (by omega)
 have s1:=h1 _ (XH (xs:=row) (i:=K) (d:=0) (by omega))
 have s2:=h2 _ (XH (xs:=oth) (i:=K) (d:=0) (by omega))
 have s3:=h1 _ (XH (xs:=row) (i:=p) (d:=0) (by omega))
 have s4:=h2 _ (XH (xs:=oth) (i:=p) (d:=0) (by omega))
 generalize row.getD K 0=rK at *
 generalize oth.getD K 0=oK at *
 generalize row.getD p 0=rp at *
 generalize oth.getD p 0=op at *
 have m1:Yv rK (-op)=true:=ZQ s1 (by rw[qO];exact s4) (by omega)
 have m2:Yv oK (-rp)=true:=ZQ s2 (by rw[qO];exact s3) (by omega)
 simp[UV,zgR,runQ,runF,e1,e2,e3,e4,m1,m2,-fIx]
theorem lt_frac{a b c x y z:Int}(hx:0 < x)(hy:0 < y)(hz:0 < z)(h1:a * y < b * x)(h2:b * z<=c * y):a * z < c * x:=by
 have h3:=Int.mul_lt_mul_of_pos_right h1 hz;have h4:=ybg h2 (qA hx);have h5:a * z * y < c * x * y:=by
  have e1:a * y * z=a * z * y:=by grind
  have e2:b * x * z=b * z * x:=by grind
  have e3:c * y * x=c * x * y:=by grind
  rw[e1,e2] at h3;rw[e3] at h4;omega
 exact Int.lt_of_mul_lt_mul_right h5 (qA hy)
def Stop(b:LB)(K p n:Nat):Option Nat->Prop
 | none=>∀i,K<=i->i < K+n->0<=b.bd.R i p
 | some t=>K<=t/\t < K+n/\b.bd.R t p < 0/\∀i,K<=i->i < K+n->b.bd.R i p < 0->b.bd.R t K * -b.bd.R i p<=b.bd.R i K * -b.bd.R t p/\(i < t->b.bd.R t K * -b.bd.R i p < b.bd.R i K * -b.bd.R t p)
def eO:Option Nat->ya
 | none=>.none
 | some t=>.int (t:Int)
def ze1:DS:=(dSeq (dSet 4 [] (d2 fIx (d1 (fFld "rows") (dVar 0)) (dVar 3)))
  (dIf (tAnd (tV (d2 fLt (d2 fIx (dVar 4) (dVar 1)) (dC (.int 0)))) (tOr (tV (d1 fIsN (dVar 2))) (tV (Zi UV (Zc (dVar 4) (Zc (d2 fIx (d1 (fFld "rows") (dVar 0)) (dVar 2)) (Zc (dVar 1) dNil)))))))
  (dSet 2 [] (dVar 3))
  ZD))
theorem zif(w:WFb K m b)(s:Sm b)(hp:p < K){n:Nat}(hn:n < m)(f:Option Nat)(hf:Stop b K p n f)(s4:Sl):∃f' s4',Stop b K p (n+1) f' /\
  ze1 [.val (eB b),.val (.int p),.val (eO f),.val (.int ((K+n:Nat):Int)),s4]=.ok (.nx [.val (eB b),.val (.int p),.val (eO f'),.val (.int ((K+n:Nat):Int)),s4']):=by
 have e1:=U4 w (i:=K+n) (by omega)
 have e2:fIx (eI (b.rows.getD (K+n) [])) (.int (p:Int))=.ok (.int (b.bd.R (K+n) p)):=U5 (by rw[w.row (by omega)];omega)
 by_cases hneg:b.bd.R (K+n) p < 0
 ·cases f with
  | none=>
   refine⟨some (K+n),.val (eI (b.rows.getD (K+n) [])),⟨by omega,by omega,hneg,λi h1 h2 h3=>?_⟩,?_⟩
   ·by_cases z:i=K+n
    ·subst z;exact⟨jL _,λq=>by omega⟩
    ·have:=hf i h1 (by omega);omega
   ·generalize b.bd.R (K+n) p=r at *
    simp[ze1,e1,e2,hneg,eO,-fIx,-y8,-jQ]
  | some t=>
   obtain⟨t1,t2,t3,t4⟩:=hf;have e3:=U4 w (i:=t) (by omega)
   have e4:=zih (row:=b.rows.getD (K+n) []) (oth:=b.rows.getD t []) (p:=p) (K:=K) (w.row (by omega)) (w.row (by omega)) hp (s.r _ (w.mem (by omega))) (s.r _ (w.mem (by omega)))
   have e5:(b.rows.getD (K+n) []).getD K 0 * -(b.rows.getD t []).getD p 0=b.bd.R (K+n) K * -b.bd.R t p:=rfl;have e6:(b.rows.getD t []).getD K 0 * -(b.rows.getD (K+n) []).getD p 0=b.bd.R t K * -b.bd.R (K+n) p:=rfl;rw[e5,e6] at e4;by_cases hs:b.bd.R (K+n) K * -b.bd.R t p < b.bd.R t K * -b.bd.R (K+n) p
   ·refine⟨some (K+n),.val (eI (b.rows.getD (K+n) [])),⟨by omega,by omega,hneg,λi h1 h2 h3=>?_⟩,?_⟩
    ·by_cases z:i=K+n
     ·subst z;exact⟨jL _,λq=>by omega⟩
     ·have:=(t4 i h1 (by omega) h3).1
      have:=lt_frac (x:=-b.bd.R (K+n) p) (y:=-b.bd.R t p) (z:=-b.bd.R i p) (by omega) (by omega) (by omega) hs this
      exact⟨by omega,λ_=>this⟩
    ·rw[decide_eq_true hs] at e4;generalize b.bd.R (K+n) p=r at *
     simp[ze1,e1,e2,e3,e4,hneg,eO,-fIx,-y8,-jQ]
   ·refine⟨some t,.val (eI (b.rows.getD (K+n) [])),⟨by omega,by omega,t3,λi h1 h2 h3=>?_⟩,?_⟩
    ·by_cases z:i=K+n
     ·subst z;exact⟨by omega,λq=>by omega⟩
     ·exact t4 i h1 (by omega) h3
    ·rw[decide_eq_false hs] at e4;generalize b.bd.R (K+n) p=r at *
     simp[ze1,e1,e2,e3,e4,hneg,eO,-fIx,-y8,-jQ]
 ·refine⟨f,.val (eI (b.rows.getD (K+n) [])),?_,?_⟩
  ·cases f with
   | none=>
    intro i h1 h2;by_cases z:i=K+n
    ·subst z;omega
    ·exact hf i h1 (by omega)
   | some t=>
    obtain⟨t1,t2,t3,t4⟩:=hf;refine⟨t1,by omega,t3,λi h1 h2 h3=>?_⟩
    by_cases z:i=K+n
    ·subst z;omega
    ·exact t4 i h1 (by omega) h3
  ·generalize b.bd.R (K+n) p=r at *
   simp[ze1,e1,e2,hneg,-fIx,-y8,-jQ]
theorem zdB(w:WFb K m b)(s:Sm b)(hp:p < K):∃f,Stop b K p m f/\Z3 [eB b,.int p]=.ok (eO f):=by
 have hrm:=zap w;obtain⟨G',e,f,s3,s4,hG,hf⟩:=VP (st:=Zu 3) (b:=ze1) (λn G=>∃f s3 s4,G=[.val (eB b),.val (.int p),.val (eO f),s3,s4]/\Stop b K p n f) (rngT K m) 0
  [.val (eB b),.val (.int p),.val (eO none),.emp,.emp] ⟨none,.emp,.emp,rfl,λi h1 h2=>by omega⟩ λi x G hx ⟨f,s3,s4,hG,hf⟩=>by
   subst hG;obtain⟨hi,rfl⟩:=ziA hx;rw[qR] at hf ⊢;obtain⟨f',s4',h1,h2⟩:=zif w s hp hi f hf s4;have ec:(K:Int)+(i:Int)=((K+i:Nat):Int):=by omega
   rw[ec];exact⟨_,rfl,_,.inl h2,f',_,_,rfl,h1⟩
 rw[Wq,qR] at hf;subst hG;refine⟨f,hf,?_⟩;have hd:Qc=dSeq (dFor (Zu 3) [] (iSeq (Zi Yj (Zc (dVar 0) dNil))) ze1) Vk:=rfl;have e':forL (Zu 3) ze1 (rngT (K:Int) m) [.val (eB b),.val (.int p),.val .none,.emp,.emp]=.ok (.nx [.val (eB b),.val (.int p),.val (eO f),s3,s4]):=e;simp[Z3,zab,hd,Vk,runQ,runF,hrm,e']
end
def qOf(b:LB)(w:Nat):Option Nat:=match Zn [eB b,.int w] with
 | .ok (.int p)=>some p.toNat
 | _=>none
def sOf(b:LB)(p:Nat):Option Nat:=match Z3 [eB b,.int p] with
 | .ok (.int t)=>some t.toNat
 | _=>none
def nxc(w:Nat)(b:LB):Option LB:=(qOf b w).bind λp=>(sOf b p).map λt=>lsw b t p
def EndC(w:Nat):Nat->LB->Prop
 | 0,b=>nxc w b=none
 | n+1,b=>nxc w b=none\/∃b',nxc w b=some b'/\EndC w n b'
def Fe(K m:Nat)(b:Sx.Bd):Prop:=∀t,K<=t->t < K+m->0<=b.R t K
section
variable {K m B:Nat}{M:Sx.Mat}{b:LB}
theorem Qz(o:Bo K m M b)(s:Sm b)(f:Sx.Fr K m b.bd)(fe:Fe K m b.bd) :
  ((∀j,j < K->hlp b K (K+m) j=false)/\Zn [eB b,.int ((K+m:Nat):Int)]=.ok .none/\nxc (K+m) b=none) \/
  (∃p,p < K/\hlp b K (K+m) p=true/\(∀i,K<=i->i < K+m->0<=b.bd.R i p)/\Zn [eB b,.int ((K+m:Nat):Int)]=.ok (.int p)/\Z3 [eB b,.int p]=.ok .none/\nxc (K+m) b=none) \/
  ∃t p,t < K+m/\Sx.Ch2 K (K+m+1) (K+m) b.bd t p/\(∀i,K<=i->i < K+m->b.bd.R i p < 0->b.bd.R t K * -b.bd.R i p<=b.bd.R i K * -b.bd.R t p)/\Zn [eB b,.int ((K+m:Nat):Int)]=.ok (.int p)/\Z3 [eB b,.int p]=.ok (.int t)/\nxc (K+m) b=some (lsw b t p):=by
 rcases UR o.wf (t:=K+m) (by omega) with ⟨p,k1,k2,k3,k4⟩ | ⟨k1,k2⟩
 ·have e1:qOf b (K+m)=some p:=by unfold qOf;rw[k4];simp
  obtain⟨fd,h1,h2⟩:=zdB o.wf s k1;cases fd with
  | none=>
   have h2':Z3 [eB b,.int p]=.ok .none:=h2;have e2:sOf b p=none:=by unfold sOf;rw[h2']
   exact .inr (.inl ⟨p,k1,k2,h1,k4,h2',by unfold nxc;rw[e1];simp[e2]⟩)
  | some t=>
   have h2':Z3 [eB b,.int p]=.ok (.int t):=h2;have e2:sOf b p=some t:=by unfold sOf;rw[h2'];simp
   obtain⟨t1,t2,t3,t4⟩:=h1;have hpK:K<=b.bd.h p:=by
    rcases Nat.lt_or_ge (b.bd.h p) K with z | z
    ·have:=f p k1 z t t1 t2;omega
    ·exact z
   have hpos:0 < b.bd.R (K+m) p:=by
    unfold hlp at k2;rw[qx,jl] at k2;rcases k2 with z | z
    ·exact of_decide_eq_true z
    ·have:=of_decide_eq_true z.2;omega
   refine .inr (.inr ⟨t,p,t2,⟨t1,by omega,k1,hpos,λj hj hlt=>?_,λj hj hh=>?_,t3,fe t t1 t2,λi h1 h2 h3=>(t4 i h1 (by omega) h3).2 h2⟩,λi h1 h2 h3=>(t4 i h1 h2 h3).1,k4,h2',by unfold nxc;rw[e1];simp[e2]⟩)
   ·rcases(show b.bd.R (K+m) j<=0\/0 < b.bd.R (K+m) j by omega) with z | z
    ·exact z
    ·have:=k3 j hj (by unfold hlp;rw[decide_eq_true z];rfl)
     omega
   ·rcases(show b.bd.R (K+m) j=0\/b.bd.R (K+m) j < 0\/0 < b.bd.R (K+m) j by omega) with z | z | z
    ·exact z
    ·have:=k3 j hj (by unfold hlp;rw[decide_eq_true z,decide_eq_true hh];simp)
     omega
    ·have:=k3 j hj (by unfold hlp;rw[decide_eq_true z];rfl)
     omega
 ·have e1:qOf b (K+m)=none:=by unfold qOf;rw[k2]
  exact .inl ⟨k1,k2,by unfold nxc;rw[e1];rfl⟩
theorem JD(z:Mz K m M B)(o:Bo K m M b)(f:Sx.Fr K m b.bd)(fe:Fe K m b.bd){b':LB}(e:nxc (K+m) b=some b'):∃t p,t < K+m/\Sx.Ch2 K (K+m+1) (K+m) b.bd t p/\b'=lsw b t p/\Bo K m M b'/\Sx.Fr K m b'.bd/\Fe K m b'.bd:=by
 rcases Qz o (o.sm z) f fe with ⟨_,_,h⟩ | ⟨_,_,_,_,_,_,h⟩ | ⟨t,p,h1,ch,mn,_,_,h⟩
 ·rw[h] at e;cases e
 ·rw[h] at e;cases e
 ·rw[h] at e;cases e;have hne:b.bd.R t p ≠ 0:=by have:=ch.ng;omega
  refine⟨t,p,h1,ch,rfl,o.swap ch.tK h1 ch.pK hne,?_,?_⟩
  ·rw[Qg o.wf (by omega) ch.pK]
   exact Sx.zjG o.g rfl f ch.tK h1 ch.pK hne
  ·rw[Qg o.wf (by omega) ch.pK]
   intro i h2 h3;have e:=(Sx.zh8 o.g (by omega) ch.pK ch.ng (i:=i) (j:=K) (by omega) (yq K) (by have:=ch.pK;omega)).2
   have hpos:=o.g.pos;have ge:0 <= -b.bd.R t p * b.bd.R i K+b.bd.R i p * b.bd.R t K:=by
    have f1:=fe i h2 h3;have f2:=fe t ch.tK h1;have f3:=ch.ng;rcases(show b.bd.R i p < 0\/0<=b.bd.R i p by omega) with q | q
    ·have:=mn i h2 h3 q;have e1:b.bd.R t K * -b.bd.R i p=-(b.bd.R i p * b.bd.R t K):=by grind
     have e2:b.bd.R i K * -b.bd.R t p=-b.bd.R t p * b.bd.R i K:=by grind
     omega
    ·have a1:=qP (show 0 <= -b.bd.R t p by omega) f1
     have a2:=qP q f2;omega
   rw[<- e] at ge;rcases(show(Sx.swp b.bd t p).R i K < 0\/0<=(Sx.swp b.bd t p).R i K by omega) with q | q
   ·have:=Sx.zcl hpos q;omega
   ·exact q
theorem endsC(z:Mz K m M B)(o:Bo K m M b)(f:Sx.Fr K m b.bd)(fe:Fe K m b.bd):EndC (K+m) ((K+m+1) ^ K) b:=by
 refine jx λno=>?_
 let it:Nat->LB:=λk=>Nat.rec b (λ_ x=>(nxc (K+m) x).getD x) k
 have it1:∀k,it (k+1)=(nxc (K+m) (it k)).getD (it k):=λk=>rfl
 have all:∀k,k<=(K+m+1) ^ K->¬EndC (K+m) ((K+m+1) ^ K - k) (it k)/\Bo K m M (it k)/\Sx.Fr K m (it k).bd/\Fe K m (it k).bd:=by
  intro k
  induction k with
  | zero=>exact λ_=>⟨no,o,f,fe⟩
  | succ k ih=>
   intro hk;obtain⟨h1,h2,h3,h4⟩:=ih (by omega)
   obtain⟨d,hd⟩:∃d,(K+m+1) ^ K - k=d+1:=⟨(K+m+1) ^ K - k - 1,by omega⟩
   rw[hd] at h1;cases e:nxc (K+m) (it k) with
   | none=>exact absurd (.inl e) h1
   | some b'=>
    have e2:it (k+1)=b':=by rw[it1,e];rfl
    obtain⟨t,p,_,_,_,a5,a6,a7⟩:=JD z h2 h3 h4 e;rw[e2,show(K+m+1) ^ K - (k+1)=d by omega]
    exact⟨λz=>h1 (.inr ⟨b',e,z⟩),a5,a6,a7⟩
 have step:∀k,∃q:Nat × Nat,k < (K+m+1) ^ K->Sx.Ch2 K (K+m+1) (K+m) (it k).bd q.1 q.2/\(it (k+1)).bd=Sx.swp (it k).bd q.1 q.2:=by
  intro k;by_cases hk:k < (K+m+1) ^ K
  ·obtain⟨h1,h2,h3,h4⟩:=all k (by omega)
   obtain⟨d,hd⟩:∃d,(K+m+1) ^ K - k=d+1:=⟨(K+m+1) ^ K - k - 1,by omega⟩
   rw[hd] at h1;cases e:nxc (K+m) (it k) with
   | none=>exact absurd (.inl e) h1
   | some b'=>
    obtain⟨t,p,a1,a2,a3,_,_,_⟩:=JD z h2 h3 h4 e;refine⟨(t,p),λ_=>⟨a2,?_⟩⟩
    have e2:it (k+1)=b':=by rw[it1,e];rfl
    rw[e2,a3,Qg h2.wf (by omega) a2.pK]
  ·exact⟨(0,0),λz=>absurd z hk⟩
 obtain⟨q,hq⟩:=yct step;exact absurd (Sx.zhR (K:=K) (N:=K+m+1) (M:=M) (B:=λk=>(it k).bd) (T:=λk=>(q k).1) (P:=λk=>(q k).2) (L:=(K+m+1) ^ K) (w:=K+m) (by omega) (λk hk=>(all k hk).2.1.g) (λk hk=>(hq k hk).1) λk hk=>(hq k hk).2) (jS _)
def sgW(x:Int):Int:=if 0 < x then 1 else -1
def wayL(b:LB)(K m p:Nat):List Rat:=(yF K).map λi=>y4 (sgW (b.bd.R (K+m) p) * b.bd.R i p) b.D
theorem sgW_abs(x y:Int):(sgW x * y).natAbs=y.natAbs:=by unfold sgW;split <;> simp[jw]
theorem way_ok{p:Nat}(o:Bo K m M b)(s:Sm b)(hp:p < K):UU [eB b,.int p]=.ok (.list ((wayL b K m p).map fr)):=by
 have h1:Vv (K:Int)=true:=Yk (by have:=o.wf.kk;omega)
 have h2:(rngT 0 K).length<=16777216:=by rw[Wq];have:=o.wf.kk;omega
 have e1:=VF o.wf;have e2:=U4 o.wf (i:=K+m) (by omega)
 have e3:fIx (eI (b.rows.getD (K+m) [])) (.int (p:Int))=.ok (.int (b.bd.R (K+m) p)):=U5 (by rw[o.wf.row (by omega)];omega)
 have eg:(if 0 < b.bd.R (K+m) p then(Res.ok (ya.int 1)) else .ok (.int (-1)))=.ok (.int (sgW (b.bd.R (K+m) p))):=by unfold sgW;split <;> rfl
 have hsg:(sgW (b.bd.R (K+m) p)).natAbs < 18446744073709551616:=by unfold sgW;split <;> decide
 unfold wayL;generalize hsw:sgW (b.bd.R (K+m) p)=sw at *
 have hc:YF (Zu 0) tT (Zi Yr (Zc (d2 fMul (dVar 1) (d2 fIx (d2 fIx (d1 (fFld "rows") (dVar 2)) (dVar 0)) (dVar 3))) (Zc (d1 (fFld "divisor") (dVar 2)) dNil))) [.emp,.val (.int sw),.val (eB b),.val (.int p)] (rngT 0 K)=.ok ((yF K).map λi=>fr (y4 (sw * b.bd.R i p) b.D)):=by
  rw[UP];refine Z6 (λ(k:Nat)=>ya.int (k:Int)) _ _ λi hi=>⟨_,rfl,?_⟩
  have hi':=js.mp hi;have a1:=U4 o.wf (i:=i) (by omega)
  have a2:fIx (eI (b.rows.getD i [])) (.int (p:Int))=.ok (.int (b.bd.R i p)):=U5 (by rw[o.wf.row (by omega)];omega)
  have a3:=Ve (u:=sw * b.bd.R i p) s.d0 s.d (by omega)
  have a4:Yv sw (b.bd.R i p)=true:=Jv hsg;generalize b.bd.R i p=r at *
  simp[a1,a2,a3,a4,-fIx,-y8]
 generalize b.bd.R (K+m) p=rw' at *
 simp[UU,zgO,zcw,runQ,runF,o.wf.hl,h1,h2,e1,e2,e3,eg,hc,-fIx,-y8,-jQ]
def cC:DT:=tV (d1 JA (dVar 1))
def bC:DS:=(dSeq (dSet 2 [] (Zi Z3 (Zc (dVar 0) (Zc (dVar 1) dNil))))
  (dSeq (dIf (tV (d1 fIsN (dVar 2)))
  (dRet (dTup (Zc (dC (.str (PySem.Str.ofString "endless"))) (Zc (Zi Xb (Zc (dVar 0) dNil)) (Zc (Zi UU (Zc (dVar 0) (Zc (dVar 1) dNil))) dNil)))))
  ZD)
  (dSeq (dSet 0 [] (Zi YE (Zc (dVar 0) (Zc (dVar 2) (Zc (dVar 1) dNil)))))
  (dSet 1 [] (Zi Zn (Zc (dVar 0) (Zc (Zi YL (Zc (dVar 0) dNil)) dNil)))))))
theorem zhQ(z:Mz K m M B):∀(n:Nat) (b:LB),EndC (K+m) n b->Bo K m M b->Sx.Fr K m b.bd->Fe K m b.bd->∀(fuel:Nat),n < fuel->∀(cl:ya) (s2:Sl),Zn [eB b,.int ((K+m:Nat):Int)]=.ok cl ->
  ∃b',Bo K m M b'/\Sx.Fr K m b'.bd/\Fe K m b'.bd/\(((∀j,j < K->hlp b' K (K+m) j=false)/\∃s2',Yb cC bC fuel [.val (eB b),.val cl,s2]=.ok (.nx [.val (eB b'),.val .none,s2'])) \/
   ∃p,p < K/\hlp b' K (K+m) p=true/\(∀i,K<=i->i < K+m->0<=b'.bd.R i p)/\Yb cC bC fuel [.val (eB b),.val cl,s2]=.ok (.rt (.tuple [.str "endless",.list ((pt K b').map fr),.list ((wayL b' K m p).map fr)]))):=by
 intro n
 induction n with
 | zero=>
  intro b he o f fe fuel hf cl s2 hcl;obtain⟨fu,rfl⟩:∃fu,fuel=fu+1:=⟨fuel - 1,by omega⟩
  have he':nxc (K+m) b=none:=he;have s:=o.sm z;rcases Qz o s f fe with ⟨a1,a2,_⟩ | ⟨p,a1,a2,a3,a4,a5,_⟩ | ⟨t,p,_,_,_,_,_,a5⟩
  ·rw[hcl] at a2;cases a2;refine⟨b,o,f,fe,.inl ⟨a1,s2,?_⟩⟩;simp[Yb,cC]
  ·rw[hcl] at a4;cases a4;have h1:=VL o s;have h2:=way_ok o s a1;refine⟨b,o,f,fe,.inr ⟨p,a1,a2,a3,?_⟩⟩;generalize pt K b=ps at *
   generalize wayL b K m p=ws at *
   simp[Yb,cC,bC,a5,h1,h2]
  ·rw[he'] at a5;cases a5
 | succ n ih=>
  intro b he o f fe fuel hf cl s2 hcl;obtain⟨fu,rfl⟩:∃fu,fuel=fu+1:=⟨fuel - 1,by omega⟩
  have s:=o.sm z;rcases Qz o s f fe with ⟨a1,a2,_⟩ | ⟨p,a1,a2,a3,a4,a5,_⟩ | ⟨t,p,a0,ch,_,a3,a4,a5⟩
  ·rw[hcl] at a2;cases a2;refine⟨b,o,f,fe,.inl ⟨a1,s2,?_⟩⟩;simp[Yb,cC]
  ·rw[hcl] at a4;cases a4;have h1:=VL o s;have h2:=way_ok o s a1;refine⟨b,o,f,fe,.inr ⟨p,a1,a2,a3,?_⟩⟩;generalize pt K b=ps at *
   generalize wayL b K m p=ws at *
   simp[Yb,cC,bC,a5,h1,h2]
  ·rw[hcl] at a3;cases a3;have he2:EndC (K+m) n (lsw b t p):=by
    have he':nxc (K+m) b=none\/∃b',nxc (K+m) b=some b'/\EndC (K+m) n b':=he;rcases he' with h | ⟨b',h,h'⟩
    ·rw[a5] at h;cases h
    ·rw[a5] at h;cases h;exact h'
   obtain⟨_,_,_,_,_,o2,f2,fe2⟩:=JD z o f fe a5;obtain⟨cl2,hcl2⟩:∃cl2,Zn [eB (lsw b t p),.int ((K+m:Nat):Int)]=.ok cl2:=by
    rcases UR o2.wf (t:=K+m) (by omega) with ⟨_,_,_,_,h⟩ | ⟨_,h⟩
    ·exact⟨_,h⟩
    ·exact⟨_,h⟩
   have hs:=Jd o.wf s (t:=t) (p:=p) (by omega) ch.pK
   have hwo:=VF o2.wf;obtain⟨b',o',f',fe',r⟩:=ih (lsw b t p) he2 o2 f2 fe2 fu (by omega) cl2 (.val (.int t)) hcl2
   have ew:Yb cC bC (fu+1) [.val (eB b),.val (.int p),s2]=Yb cC bC fu [.val (eB (lsw b t p)),.val cl2,.val (.int t)]:=by
    have ec:cC (frzA [.val (eB b),.val (.int p),s2])=.ok true:=by simp[cC]
    have eb:bC [.val (eB b),.val (.int p),s2]=.ok (.nx [.val (eB (lsw b t p)),.val cl2,.val (.int t)]):=by simp[bC,a4,hs,hwo,hcl2,-jQ]
    rw[Yb,ec,Res.bind_ok,if_pos rfl,eb]
    rfl
   rw[ew];exact⟨b',o',f',fe',r⟩
theorem zhP(z:Mz K m M B)(o:Bo K m M b)(f:Sx.Fr K m b.bd)(fe:Fe K m b.bd)(hf:(K+m+1) ^ K < 1000000000000) :
  ∃b',Bo K m M b'/\Sx.Fr K m b'.bd/\Fe K m b'.bd/\(((∀j,j < K->hlp b' K (K+m) j=false)/\We [eB b]=.ok (.tuple [.str "best",.list ((pt K b').map fr),.list ((shL b' K m (K+m) K).map fr)])) \/
   ∃p,p < K/\hlp b' K (K+m) p=true/\(∀i,K<=i->i < K+m->0<=b'.bd.R i p)/\We [eB b]=.ok (.tuple [.str "endless",.list ((pt K b').map fr),.list ((wayL b' K m p).map fr)])):=by
 obtain⟨cl,hcl⟩:∃cl,Zn [eB b,.int ((K+m:Nat):Int)]=.ok cl:=by
  rcases UR o.wf (t:=K+m) (by omega) with ⟨_,_,_,_,h⟩ | ⟨_,h⟩
  ·exact⟨_,h⟩
  ·exact⟨_,h⟩
 have hwo:=VF o.wf;have hd:zbB=dSeq (Qf Qi cC bC) VU:=rfl;have hu:∀G,Qi G=1000000000000:=λ_=>rfl
 obtain⟨b',o',f',fe',r⟩:=zhQ z _ b (endsC z o f fe) o f fe 1000000000000 hf cl .emp hcl;refine⟨b',o',f',fe',?_⟩;rcases r with ⟨r1,s2,r2⟩ | ⟨p,r1,r2,r3,r4⟩
 ·refine .inl ⟨r1,?_⟩;have h1:=VL o' (o'.sm z);have h2:=zd8 o' (o'.sm z) (t:=K+m) (by omega)
  have h3:=VF o'.wf;generalize pt K b'=ps at *
  generalize shL b' K m (K+m) K=ss at *
  simp[We,zbC,hd,VU,runQ,runF,hwo,hcl,hu,r2,h1,h2,h3,-jQ]
 ·refine .inr ⟨p,r1,r2,r3,?_⟩;generalize pt K b'=ps at *
  generalize wayL b' K m p=ws at *
  simp[We,zbC,hd,VU,runQ,runF,hwo,hcl,hu,r4,-jQ]
end
structure Pt(K n0:Nat)(ls:List Lim)(ps:List Rat):Prop where
 len:ps.length=K
 sz:∀q ∈ ps,Sz n0 q
 kp:∀l ∈ ls,dot l.1 ps<=(l.2:Rat)
structure Cl(K n0:Nat)(ls:List Lim)(ss:List Rat):Prop where
 len:ss.length=ls.length
 sz:∀q ∈ ss,Sz n0 q
 nn:∀q ∈ ss,0<=q
 z:∀j,j < K->dot (ls.map (colN j)) ss=0
 b:WM ls ss < 0
structure Pr(K n0:Nat)(ls:List Lim)(goal:List Int)(ps ss:List Rat):Prop where
 len:ss.length=ls.length
 sz:∀q ∈ ss,Sz n0 q
 nn:∀q ∈ ss,0<=q
 w:∀j,j < K->dot (ls.map (colN j)) ss=((goal.getD j 0:Int):Rat)
 b:WM ls ss=dot goal ps
structure Wy(K n0:Nat)(ls:List Lim)(goal:List Int)(ws:List Rat):Prop where
 len:ws.length=K
 sz:∀q ∈ ws,Sz n0 q
 l:∀l ∈ ls,dot l.1 ws<=0
 g:0 < dot goal ws
inductive Best (K n0:Nat) (ls:List Lim) (goal:List Int):ya->Prop
 | clash {ss:List Rat}(c:Cl K n0 ls ss):Best K n0 ls goal (.tuple [.str "clash",.list (ss.map fr)])
 | best {ps ss:List Rat}(p:Pt K n0 ls ps) (r:Pr K n0 ls goal ps ss):Best K n0 ls goal (.tuple [.str "best",.list (ps.map fr),.list (ss.map fr)])
 | endless {ps ws:List Rat}(p:Pt K n0 ls ps) (w:Wy K n0 ls goal ws):Best K n0 ls goal (.tuple [.str "endless",.list (ps.map fr),.list (ws.map fr)])
section
variable {K m B n0:Nat}{ls:List Lim}{goal:List Int}{b:LB}
theorem zfV(d:DK K m B n0 ls)(hg:goal.length=K)(o:Bo K m (M0 K ls goal) b)(s:Sm b)(sz:SzB K m n0 b)(hn:∀j,j < K->hlp b K (K+m) j=false):Pr K n0 ls goal (pt K b) (shL b K m (K+m) K):=by
 have hD:0 < b.D:=o.g.pos;have rows:=λc hc=>zik (t:=K+m) (c:=c) o (by omega) (λj hj hh=>(zgm (hn j hj)).2 hh) hc
 refine⟨by simp[shL,d.len],shL_sz sz s (by omega),λq hq=>?_,λj hj=>?_,?_⟩
 ·obtain⟨i,hi,rfl⟩:=yD.mp hq;exact zjP hD (zin K (yq _) λj hj=>(zgm (hn j hj)).1)
 ·have e:=Qu ([],(0:Int)) (colN j) s.d0 ls (shZ b K (K+m) K);rw[d.len] at e;have e2:Sx.sumN m (λi=>colN j (ls.getD i ([],0)) * shZ b K (K+m) K i)=goal.getD j 0 * b.D:=by
   have r:=rows j (by omega)
   rw[if_neg (by omega),zfX d.len hg hj] at r
   have e3:Sx.sumN m (λi=>M0 K ls goal (K+i) j * shZ b K (K+m) K i)=Sx.sumN m (λi=>(-1) * (colN j (ls.getD i ([],0)) * shZ b K (K+m) K i)):=Sx.ZZ λi hi=>by
    rw[zdW d.w (by rw[d.len];exact hi) hj];grind
   rw[e3,Sx.WN] at r;have:b.D * goal.getD j 0=goal.getD j 0 * b.D:=jY _ _;omega
  rw[e2] at e;show dot (ls.map (colN j)) ((yF m).map λi=>y4 (shZ b K (K+m) K i) b.D)=_
  rw[e,<- zdJ,zfN s.d0,ybe]
 ·have e:=Qu ([],(0:Int)) (λl:Lim=>l.2) s.d0 ls (shZ b K (K+m) K)
  rw[d.len] at e;have r:=rows K (yq _);rw[if_pos rfl,zdX d.len hg,jo,qS] at r;have e3:Sx.sumN m (λi=>M0 K ls goal (K+i) K * shZ b K (K+m) K i)=Sx.sumN m (λi=>(ls.getD i ([],0)).2 * shZ b K (K+m) K i):=Sx.ZZ λi hi=>by
   rw[zaD d.w (by rw[d.len];exact hi)]
  rw[e3] at r;rw[r] at e;show dot (ls.map (·.2)) ((yF m).map λi=>y4 (shZ b K (K+m) K i) b.D)=_
  rw[e,dot_pt hg s.d0,o.worth d.len hg (yq K)]
theorem div_pos{a D:Int}(h:0 < D)(hh:0 < a):0 < y4 a D:=by
 rw[<- qV];intro z;have h3:y4 a D=0:=Rat.le_antisymm z (zjP h (by omega))
 have:=zhK (u:=a) (l:=D) (by omega) h3.symm
 simp at this;omega
theorem sgW_pos{x:Int}(h:x ≠ 0):0 < sgW x * x:=by unfold sgW;split <;> omega
theorem way_wy{p:Nat}(d:DK K m B n0 ls)(hg:goal.length=K)(o:Bo K m (M0 K ls goal) b)(f:Sx.Fr K m b.bd)(s:Sm b)(sz:SzB K m n0 b)(hp:p < K)(hh:hlp b K (K+m) p=true)(hr:∀i,K<=i->i < K+m->0<=b.bd.R i p):Wy K n0 ls goal (wayL b K m p):=by
 have hD:0 < b.D:=o.g.pos;have hne:b.bd.R (K+m) p ≠ 0:=by
  intro z;unfold hlp at hh;rw[z] at hh;simp at hh
 have dw:∀ws:List Int,ws.length=K->dot ws (wayL b K m p)=y4 (sgW (b.bd.R (K+m) p) * Sx.sumN K λc=>ws.getD c 0 * b.bd.R c p) b.D:=λws hl=>by
  have e:=Qu (0:Int) (λx=>x) s.d0 ws (λi=>sgW (b.bd.R (K+m) p) * b.bd.R i p)
  rw[hl,List.map_id''] at e
  ·show dot ws ((yF K).map λi=>y4 (sgW (b.bd.R (K+m) p) * b.bd.R i p) b.D)=_
   rw[e,<- Sx.WN]
   congr 1
   exact Sx.ZZ λc _=>by rw[qJ]
  ·intro x;rfl
 refine⟨by simp[wayL],λq hq=>?_,λl hl=>?_,?_⟩
 ·obtain⟨i,hi,rfl⟩:=yD.mp hq;have hi':=js.mp hi;exact Yy s.d0 (by rw[sgW_abs];exact sz.r i p (by omega) (by omega)) sz.d
 ·rw[dw _ (d.w l hl)];obtain⟨i,hi,rfl⟩:=qI hl;have hi':i < m:=by rw[<- d.len];exact hi
  have e:=o.room d.len d.w hi' (q:=p) (by omega)
  rw[if_neg (by omega)] at e
  have eg:ls.getD i ([],0)=ls[i]:=(UT hi).symm;rw[eg] at e;have e2:Sx.sumN K (λc=>ls[i].1.getD c 0 * b.bd.R c p)=Sx.sumN K (λc=>colN c ls[i] * b.bd.R c p):=rfl
  rw[e2,e];have h0:sgW (b.bd.R (K+m) p) * (0 - b.bd.R (K+i) p)<=0 * b.D:=by
   rw[q9];have h1:=hr (K+i) (by omega) (by omega)
   by_cases hk:b.bd.h p < K
   ·rw[f p hp hk (K+i) (by omega) (by omega)];simp
   ·have:0 < b.bd.R (K+m) p:=by
     unfold hlp at hh;rw[qx,jl] at hh;rcases hh with z | z
     ·exact of_decide_eq_true z
     ·exact absurd (of_decide_eq_true z.2) hk
    have e1:sgW (b.bd.R (K+m) p)=1:=if_pos this;rw[e1];omega
  have:=div_le (b:=0) hD h0;simpa using this
 ·rw[dw goal hg,o.worth d.len hg (by omega)]
  exact div_pos hD (sgW_pos hne)
theorem zkp(d:DK K m B n0 ls)(hg:goal.length=K)(h2:∀x ∈ goal,x.natAbs<=B) :
  (∃b t ss,Cl K n0 ls ss/\Yf [Yq K ls,eI goal]=.ok (.tuple [eB b,.int (t:Nat)])/\Xz [eB b,.int (t:Nat)]=.ok (.list (ss.map fr))) \/
  ∃b r,Best K n0 ls goal r/\Yf [Yq K ls,eI goal]=.ok (.tuple [eB b,.none])/\We [eB b]=.ok r:=by
 obtain⟨b,o,f,s,sz,r⟩:=d.settled hg h2;have z:=d.mz hg h2;rcases r with ⟨r1,r2⟩ | ⟨t,r1,r2,r3,r4,r5⟩
 ·obtain⟨b',o',f',fe',r⟩:=zhP z o f r1 d.fu;have s':=o'.sm z;have sz':=d.szb hg h2 o';have pp:Pt K n0 ls (pt K b'):=⟨by simp[pt],pt_sz sz' s',zgf d o' s' fe'⟩
  rcases r with ⟨q1,q2⟩ | ⟨p,q1,q2,q3,q4⟩
  ·exact .inr ⟨b,_,.best pp (zfV d hg o' s' sz' q1),r2,q2⟩
  ·exact .inr ⟨b,_,.endless pp (way_wy d hg o' f' s' sz' q1 q2 q3),r2,q4⟩
 ·obtain⟨c1,c2,c3⟩:=zg3 d o s r1 r2 r3 r4;exact .inl ⟨b,t,clL b K m t,⟨by simp[clL,d.len],clL_sz sz s (by omega),c1,c2,c3⟩,r5,zg2 o s r1 r2⟩
end
end Lw
namespace Lq
open PySem Fx Lw
variable {K m B n0:Nat}{ls:List Lim}{goal:List Int}
theorem zdU(hg:goal.length=K)(hK:K<=1000):Wf [.int K,eI goal]=.ok .none:=by
 have e:=Z6 (st:=Zu 0) (e:=(Zi ZY (Zc (dVar 0) dNil))) (C:=[.emp]) ya.int (λ_=>ya.bool true) goal λx hx=>⟨[.val (.int x)],rfl,by simp[V8]⟩
 have hl:K<=16777216:=by omega
 have a:=Jc goal;simp[Wf,zae,Qe,runQ,runF,hg,JB,e,hl,a]
theorem best_ok(d:DK K m B n0 ls)(hg:goal.length=K)(h2:∀x ∈ goal,x.natAbs<=B):∃r,Best K n0 ls goal r/\zcs [Yq K ls,eI goal]=.ok r:=by
 have hc:=zdU hg d.k;rcases zkp d hg h2 with ⟨b,t,ss,c,e1,e2⟩ | ⟨b,r,c,e1,e2⟩
 ·refine⟨_,.clash c,?_⟩;simp[zcs,zj9,zdS,zdR,runQ,runF,at0,at1,hc,e1,e2]
 ·refine⟨r,c,?_⟩;simp[zcs,zj9,zdS,zdR,zgZ,runQ,runF,at0,at1,hc,e1,e2]
end Lq
namespace Lw
open PySem Fx
section
variable {k n0:Nat}{ls:List Lim}{goal:List Int}{ps ss ws:List Rat}
end
theorem zbb{a b:Str}(ha:ya.strOk a=true)(hb:ya.strOk b=true):fEq (.str a) (.str b)=.ok (.bool (decide (a=b))):=by
 simp only[fEq,YT,ya.canLay0,ya.depth,ya.eqv,ha,hb];by_cases h:a=b <;> simp[h]
end Lw
namespace Lx
open PySem Fx Lw
variable {K m B n0:Nat}{ls:List Lim}{goal:List Int}
end Lx
namespace Lw
open PySem Fx
def sumR:Nat->(Nat->Rat)->Rat
 | 0,_=>0
 | n+1,f=>sumR n f+f n
theorem Jg:∀{n:Nat}{f g:Nat->Rat},(∀i,i < n->f i=g i)->sumR n f=sumR n g
 | 0,f,g,h=>rfl
 | n+1,f,g,h=>by
  simp only[sumR];rw[Jg (λi hi=>h i (by omega)),h n (by omega)]
theorem sumR_lin(n:Nat)(a:Rat)(f g:Nat->Rat):sumR n (λi=>a * f i+g i)=a * sumR n f+sumR n g:=by
 induction n with
 | zero=>simp only[sumR];grind
 | succ n ih=>simp only[sumR,ih];grind
theorem zaF{n:Nat}{f:Nat->Rat}(h:∀i,i < n->f i=0):sumR n f=0:=by
 induction n with
 | zero=>rfl
 | succ n ih=>simp only[sumR,ih (λi hi=>h i (by omega)),h n (by omega)];grind
theorem zb7:∀(n:Nat) (f:Nat->Rat),sumR (n+1) f=f 0+sumR n (λi=>f (i+1))
 | 0,f=>by simp only[sumR];grind
 | n+1,f=>by
  have:=zb7 n f;simp only[sumR] at this ⊢;rw[this];grind
theorem zfK:∀(ws:List Int) (ps:List Rat),ws.length=ps.length->dot ws ps=sumR ps.length (λj=>((ws.getD j 0:Int):Rat) * ps.getD j 0)
 | [],[],_=>rfl
 | [],_::_,h=>by simp at h
 | _::_,[],h=>by simp at h
 | w::ws,p::ps,h=>by
  rw[jk,zb7];simp only[dot];rw[zfK ws ps (by simpa using h)]
  rfl
def sumW(ps:List Rat):List Lim->List Rat->Rat
 | l::ls,s::ss=>s * dot l.1 ps+sumW ps ls ss
 | _,_=>0
theorem ze6{ps:List Rat}:∀(ls:List Lim) (ss:List Rat),ls.length=ss.length->(∀q ∈ ss,0<=q)->(∀l ∈ ls,dot l.1 ps<=(l.2:Rat))->sumW ps ls ss<=WM ls ss
 | [],[],_,_,_=>qC
 | [],_::_,h,_,_=>by simp at h
 | _::_,[],h,_,_=>by simp at h
 | l::ls,s::ss,h,hn,hk=>by
  have ih:=ze6 ls ss (by simpa using h) (λq hq=>hn q (by simp[hq])) (λl hl=>hk l (by simp[hl]))
  have h1:=hk l (by simp)
  have h2:=hn s (by simp)
  have h3:=jG h1 h2;have e:WM (l::ls) (s::ss)=(l.2:Rat) * s+WM ls ss:=rfl;have e2:sumW ps (l::ls) (s::ss)=s * dot l.1 ps+sumW ps ls ss:=rfl;rw[e,e2]
  grind
theorem ze7{ps:List Rat}:∀(ls:List Lim) (ss:List Rat),(∀l ∈ ls,l.1.length=ps.length)->sumW ps ls ss=sumR ps.length (λj=>ps.getD j 0 * dot (ls.map (colN j)) ss)
 | [],ss,_=>by
  have:∀j,dot (([]:List Lim).map (colN j)) ss=0:=λj=>by cases ss <;> rfl
  have e:sumW ps [] ss=0:=by cases ss <;> rfl
  rw[e,zaF λj _=>by rw[this,qT]]
 | _::_,[],_=>by
  rw[zaF λj _=>by rw[show dot _ ([]:List Rat)=0 from rfl,qT]]
  rfl
 | l::ls,s::ss,h=>by
  have ih:=ze7 (ps:=ps) ls ss (λl hl=>h l (by simp[hl]))
  have e2:sumW ps (l::ls) (s::ss)=s * dot l.1 ps+sumW ps ls ss:=rfl;rw[e2,ih,zfK _ _ (h l (by simp)),<- sumR_lin]
  refine Jg λj _=>?_
  have e3:dot ((l::ls).map (colN j)) (s::ss)=((colN j l:Int):Rat) * s+dot (ls.map (colN j)) ss:=rfl;rw[e3];have e4:((l.1.getD j 0:Int):Rat)=((colN j l:Int):Rat):=rfl;rw[e4]
  grind
theorem zgk{K n1 n2:Nat}{ls:List Lim}{ss ps:List Rat}(hw:∀l ∈ ls,l.1.length=K)(c:Cl K n1 ls ss)(p:Pt K n2 ls ps):False:=by
 have h1:=ze6 ls ss c.len.symm c.nn p.kp;have h2:=ze7 (ps:=ps) ls ss (λl hl=>by rw[hw l hl,p.len])
 rw[zaF λj hj=>by rw[c.z j (by rw[<- p.len];exact hj),qT]] at h2
 rw[h2] at h1;have h3:=c.b
 grind
end Lw
namespace Lq
open PySem Fx Lw
def Q8:DS:=
  (dIf (tOr (tNot (tV (Zi ZY (Zc (dVar 1) dNil)))) (tOr (tV (d2 fLt (dVar 1) (dC (.int 0)))) (tV (d2 fGe (dVar 1) (dVar 0)))))
  dNev
  ZD)
def Ya:DF:=runQ 2 2 Q8
def zeJ:DS:=
  (dRet (dTup (Zc (d2 fIx (dVar 0) (dC (.int 0))) (Zc (d2 fAddU (zeR (d2 fIx (dVar 0) (dC (.int 1))) pNo (pAt (dVar 1))) (zeR (d2 fIx (dVar 0) (dC (.int 1))) (pAt (d2 fAdd (dVar 1) (dC (.int 1)))) pNo)) dNil))))
def Wd:DF:=runQ 2 2 zeJ
def QQ:DS:=
  (dRet (d2 fAdd (d2 fAdd (dL (oCut (dVar 0) pNo (pAt (dVar 1)))) (dLst (Zc (dTup (Zc (dC (.int 0)) (Zc (dC (.int 1)) dNil))) dNil))) (dL (oCut (dVar 0) (pAt (dVar 1)) pNo))))
def Y8:DF:=runQ 2 2 QQ
def zjV:DS:=
  (dRet (dL (YS 2 [2] (V6 0 1) (iZip (iSeq (dVar 0)) (iSeq (dVar 1))) tT (Zi Ug (Zc (dVar 0) (Zc (Zi Jy (Zc (dVar 2) (Zc (dVar 1) dNil))) dNil))))))
def za5:DF:=runQ 3 3 zjV
def VZ:DS:=
  (dRet (Zi za5 (Zc (dVar 1) (Zc (dVar 2) (Zc (dVar 4) dNil)))))
def V0:DS:=
  dSeq (dSet 4 [] (Zi Ug (Zc (Zi zeG (Zc (dVar 3) (Zc (Zi X6 (Zc (d2 fIx (dVar 0) (dC (.int 0))) (Zc (dVar 2) dNil))) dNil))) (Zc (dTup (Zc (dC (.int 1)) (Zc (dC (.int 1)) dNil))) dNil))))
  VZ
def Wk:DS:=
  dSeq (dIf (tV (Zi WS (Zc (dVar 3) (Zc (dTup (Zc (dC (.int 0)) (Zc (dC (.int 1)) dNil))) dNil))))
  (dRet (dVar 1))
  ZD)
  V0
def Vf:DS:=
  dSeq (dSet 3 [] (Zi za6 (Zc (dTup (Zc (d2 fIx (dVar 0) (dC (.int 1))) (Zc (dC (.int 1)) dNil))) (Zc (Zi X6 (Zc (d2 fIx (dVar 0) (dC (.int 0))) (Zc (dVar 1) dNil))) dNil))))
  Wk
def YM:DF:=runQ 5 3 Vf
def zeO:DS:=
  (dRet (dTup (Zc (dC (.str (PySem.Str.ofString "shares"))) (Zc (Zi Y8 (Zc (d2 fIx (dVar 3) (dC (.int 2))) (Zc (dVar 1) dNil))) dNil))))
def zbA:DS:=
  dSeq (dIf (tV (Zi WS (Zc (dTup (Zc (d2 fIx (dVar 2) (dC (.int 1))) (Zc (dC (.int 1)) dNil))) (Zc (Zi X6 (Zc (d2 fIx (dVar 2) (dC (.int 0))) (Zc (d2 fIx (dVar 3) (dC (.int 1))) dNil))) dNil))))
  (dRet (dTup (Zc (dC (.str (PySem.Str.ofString "point"))) (Zc (d2 fIx (dVar 3) (dC (.int 1))) dNil))))
  ZD)
  zeO
def Q3:DS:=
  dSeq (dIf (tV (d2 fEq (d2 fIx (dVar 3) (dC (.int 0))) (dC (.str (PySem.Str.ofString "endless")))))
  (dRet (dTup (Zc (dC (.str (PySem.Str.ofString "point"))) (Zc (Zi YM (Zc (dVar 2) (Zc (d2 fIx (dVar 3) (dC (.int 1))) (Zc (d2 fIx (dVar 3) (dC (.int 2))) dNil)))) dNil))))
  ZD)
  zbA
def VC:DS:=
  dSeq (dIf (tV (d2 fEq (d2 fIx (dVar 3) (dC (.int 0))) (dC (.str (PySem.Str.ofString "clash")))))
  (dRet (dTup (Zc (dC (.str (PySem.Str.ofString "clash"))) (Zc (Zi Y8 (Zc (d2 fIx (dVar 3) (dC (.int 1))) (Zc (dVar 1) dNil))) dNil))))
  ZD)
  Q3
def zeP:DS:=
  dSeq (dSet 3 [] (Zi zcs (Zc (Zi Wd (Zc (dVar 0) (Zc (dVar 1) dNil))) (Zc (dL (zdp (d2 fIx (dVar 2) (dC (.int 0))))) dNil))))
  VC
def zeQ:DS:=
  dSeq (dSet 2 [] (d2 fIx (d2 fIx (dVar 0) (dC (.int 1))) (dVar 1)))
  zeP
def zj8:DS:=
  dSeq (zfT (Zi Ya (Zc (d1 fLen (d2 fIx (dVar 0) (dC (.int 1)))) (Zc (dVar 1) dNil))))
  zeQ
def Qs:DF:=runQ 4 2 zj8
def UZ:DS:=
  (dRet (d2 fNe (d2 fIx (Zi Qs (Zc (dVar 0) (Zc (dVar 1) dNil))) (dC (.int 0))) (dC (.str (PySem.Str.ofString "point")))))
def Xc:DF:=runQ 2 2 UZ
end Lq
namespace Lw
open PySem Fx
def oth{α:Type}(ls:List α)(p:Nat):List α:=ls.take p++ls.drop (p+1)
def insZ(ss:List Rat)(p:Nat):List Rat:=ss.take p++0::ss.drop p
def Sz.divS{m n:Nat}{a b:Rat}(ha:Sz m a)(hb:Sz n b)(hz:b ≠ 0):Sz (m+n) (a / b):=by
 have hz':b.num ≠ 0:=λz=>hz (Rat.num_eq_zero.mp z)
 have q:a / b=y4 (a.num * b.den) (a.den * b.num):=by
  have:=yau a.num b.den (d₁:=a.den) (d₂:=b.num);rw[ji,<- Rat.inv_def] at this;rw[qB];exact this
 rw[q];exact Yy (jA (Z8 a) hz') (Zv ha.num hb.denI) (Zv ha.denI hb.num)
theorem zcM{xs:List ya}{p:Nat}(h:p<=xs.length):cutT xs none (some (p:Int))=xs.take p:=by
 have h1:¬((p:Int) < 0):=by omega
 have h2:min p xs.length=p:=by omega
 simp[cutT,sIxT,h1,h2]
theorem zcN{xs:List ya}{p:Nat}(h:p<=xs.length):cutT xs (some (p:Int)) none=xs.drop p:=by
 have h1:¬((p:Int) < 0):=by omega
 have h2:min p xs.length=p:=by omega
 simp only[cutT,sIxT,if_neg h1,yad,h2];exact List.take_of_length_le (by simp)
theorem XG{α:Type}{ls:List α}{p:Nat}(h:p < ls.length):(oth ls p).length=ls.length - 1:=by
 simp[oth];omega
theorem Vd{α:Type}{ls:List α}{p:Nat}{l:α}(h:l ∈ oth ls p):l ∈ ls:=by
 rcases ju.mp h with h | h
 ·exact ybq h
 ·exact ybr h
theorem zgz{ss:List Rat}{p:Nat}(h:p<=ss.length):(insZ ss p).length=ss.length+1:=by
 simp[insZ];omega
theorem zgy{ss:List Rat}{p:Nat}{q:Rat}(h:q ∈ insZ ss p):q=0\/q ∈ ss:=by
 rcases ju.mp h with h | h
 ·exact .inr (ybq h)
 ·rcases yI.mp h with h | h
  ·exact .inl h
  ·exact .inr (ybr h)
theorem zgA{ss:List Rat}{p:Nat}(h:p<=ss.length):(insZ ss p)[p]? = some 0:=by
 unfold insZ;rw[j6 (by simp;omega)]
 simp[Nat.min_eq_left h]
theorem zfM:∀(a b:List Int) (c d:List Rat),a.length=c.length->dot (a++b) (c++d)=dot a c+dot b d
 | [],b,[],d,_=>by
  rw[qL,qL,show dot [] []=0 from rfl,Rat.zero_add]
 | [],b,_::_,d,h=>by simp at h
 | _::_,b,[],d,h=>by simp at h
 | x::a,b,y::c,d,h=>by
  have ih:=zfM a b c d (by simpa using h)
  show(x:Rat) * y+dot (a++b) (c++d)=((x:Rat) * y+dot a c)+dot b d;rw[ih,Rat.add_assoc]
theorem UY{α:Type}(f:α->Int){ls:List α}{ss:List Rat}{p:Nat}(hp:p < ls.length)(hl:ss.length+1=ls.length):dot (ls.map f) (insZ ss p)=dot ((oth ls p).map f) ss:=by
 have e1:ls=ls.take p++ls[p]::ls.drop (p+1):=by rw[ycx,ybo]
 have e2:dot (ls.map f) (insZ ss p)=dot ((ls.take p++ls[p]::ls.drop (p+1)).map f) (insZ ss p):=by rw[<- e1]
 have e3:dot ((oth ls p).map f) ss=dot ((oth ls p).map f) (ss.take p++ss.drop p):=by rw[ybo]
 rw[e2,e3];unfold insZ oth;rw[ya7,ya7,zfM _ _ _ _ (by simp;omega),zfM _ _ _ _ (by simp;omega),yH]
 congr 1
 show(f ls[p]:Rat) * 0+dot _ _=_;rw[qT,Rat.zero_add]
section
variable {K B n0 p:Nat}{ls ls':List Lim}
def mv(ps ws:List Rat)(t:Rat):List Rat:=(ps.zip ws).map λq=>q.1+t * q.2
theorem dot_mv{t:Rat}:∀(w:List Int) (ps ws:List Rat),ps.length=ws.length->dot w (mv ps ws t)=dot w ps+t * dot w ws
 | [],ps,ws,_=>by
  have h:∀x,dot [] x=0:=λx=>by cases x <;> rfl
  rw[h,h,h];grind
 | _::_,[],[],_=>by
  show(0:Rat)=0+t * 0
  grind
 | _::_,[],_::_,h=>by simp at h
 | _::_,_::_,[],h=>by simp at h
 | x::w,y::ps,z::ws,h=>by
  have ih:=dot_mv (t:=t) w ps ws (by simpa using h)
  show(x:Rat) * (y+t * z)+dot w (mv ps ws t)=((x:Rat) * y+dot w ps)+t * ((x:Rat) * z+dot w ws);rw[ih];grind
inductive Cov (K n0 N:Nat) (ls:List Lim) (p:Nat) (l:Lim):ya->Prop
 | clash {ss:List Rat}(c:Cl K n0 ls ss) (z:ss[p]? = some 0):Cov K n0 N ls p l (.tuple [.str "clash",.list (ss.map fr)])
 | shares {ss:List Rat}(len:ss.length=ls.length) (sz:∀q ∈ ss,Sz n0 q) (nn:∀q ∈ ss,0<=q) (z:ss[p]? = some 0) (w:∀j,j < K->dot (ls.map (colN j)) ss=((l.1.getD j 0:Int):Rat)) (b:WM ls ss<=(l.2:Rat)):Cov K n0 N ls p l (.tuple [.str "shares",.list (ss.map fr)])
 | point {ps:List Rat}(q:Pt K N (oth ls p) ps) (v:(l.2:Rat) < dot l.1 ps):Cov K n0 N ls p l (.tuple [.str "point",.list (ps.map fr)])
theorem sz_ins{n:Nat}{ss:List Rat}(h:∀q ∈ ss,Sz n q)(hn:1<=n):∀q ∈ insZ ss p,Sz n q:=λq hq=>by
 rcases zgy hq with rfl | hq
 ·exact Sz.zero.mono hn
 ·exact h q hq
theorem nn_ins{ss:List Rat}(h:∀q ∈ ss,0<=q):∀q ∈ insZ ss p,0<=q:=λq hq=>by
 rcases zgy hq with rfl | hq
 ·exact qC
 ·exact h q hq
theorem cl_ins{ss:List Rat}(hp:p < ls.length)(hn:1<=n0)(c:Cl K n0 (oth ls p) ss):Cl K n0 ls (insZ ss p)/\(insZ ss p)[p]? = some 0:=by
 have hl:ss.length+1=ls.length:=by rw[c.len,XG hp];omega
 refine⟨⟨by rw[zgz (by omega)];exact hl,sz_ins c.sz hn,nn_ins c.nn,λj hj=>?_,?_⟩,zgA (by omega)⟩
 ·rw[UY _ hp hl];exact c.z j hj
 ·unfold WM;rw[UY _ hp hl];exact c.b
theorem pr_ins{ss ps:List Rat}{l:Lim}(hp:p < ls.length)(hn:1<=n0)(c:Pr K n0 (oth ls p) l.1 ps ss)(hb:dot l.1 ps<=(l.2:Rat))(N:Nat):Cov K n0 N ls p l (.tuple [.str "shares",.list ((insZ ss p).map fr)]):=by
 have hl:ss.length+1=ls.length:=by rw[c.len,XG hp];omega
 refine .shares (by rw[zgz (by omega)];exact hl) (sz_ins c.sz hn) (nn_ins c.nn) (zgA (by omega)) (λj hj=>?_) ?_
 ·rw[UY _ hp hl];exact c.w j hj
 ·unfold WM;rw[UY _ hp hl];have:=c.b;unfold WM at this;rw[this];exact hb
end
end Lw
namespace Lq
open PySem Fx Lw
variable {K B n0 p:Nat}{ls:List Lim}
theorem Vl{n i:Nat}(h:i < n):Ya [.int n,.int i]=.ok .none:=by
 have h1:¬((i:Int) < 0):=by omega
 have h2:¬((n:Int)<=(i:Int)):=by omega
 simp[Ya,Q8,runQ,runF,V8,h1,h2]
theorem zb4(hp:p < ls.length)(hl:ls.length<=1000):Wd [Yq K ls,.int p]=.ok (Yq K (oth ls p)):=by
 have c1:=zcM (xs:=ls.map limT) (p:=p) (by simp;omega)
 have c2:=zcN (xs:=ls.map limT) (p:=p+1) (by simp;omega)
 rw[show((p+1:Nat):Int)=(p:Int)+1 by omega] at c2
 have n1:¬(sIxT ls.length 0 none=0/\sIxT ls.length ls.length (some (p:Int))=ls.length):=by
  have:¬((p:Int) < 0):=by omega
  simp only[sIxT,if_neg this];omega
 have n2:¬(sIxT ls.length 0 (some ((p:Int)+1))=0/\sIxT ls.length ls.length none=ls.length):=by
  have:¬((p:Int)+1 < 0):=by omega
  simp only[sIxT,if_neg this];omega
 have h3:min p ls.length+(ls.length - (p+1))<=16777216:=by omega
 simp only[Wd,zeJ,runQ,runF,dRet,dTup,Zc,dNil,d2,zeR,dVar,dC,pNo,pAt,fIx,frzA,qW,jk,yai,y0,jO];simp[at0,at1,n1,n2,c1,c2,h3,oth,-not_and]
theorem U2{ss:List Rat}(hp:p<=ss.length)(hl:ss.length<=1000):Y8 [.list (ss.map fr),.int p]=.ok (.list ((insZ ss p).map fr)):=by
 have c1:=zcM (xs:=ss.map fr) (p:=p) (by simpa using hp)
 have c2:=zcN (xs:=ss.map fr) (p:=p) (by simpa using hp)
 have hm:min p ss.length=p:=Nat.min_eq_left hp;have h3:p<=16777215:=by omega
 have h4:p+1+(ss.length - p)<=16777216:=by omega
 simp[Y8,QQ,runQ,runF,c1,c2,hm,h3,h4,insZ,Jw]
theorem moved_ok{ps ws:List Rat}{t:Rat}{a c:Nat}(hp:∀q ∈ ps,Sz a q)(hw:∀q ∈ ws,Sz a q)(ht:Sz c t)(hs:c+a+a < 8999)(hl:ps.length<=1000) :
  za5 [.list (ps.map fr),.list (ws.map fr),fr t]=.ok (.list ((mv ps ws t).map fr)):=by
 have e:=Z6 (st:=V6 0 1) (e:=(Zi Ug (Zc (dVar 0) (Zc (Zi Jy (Zc (dVar 2) (Zc (dVar 1) dNil))) dNil)))) (C:=[.emp,.emp,.val (fr t)]) (λp:Rat × Rat=>ya.tuple [fr p.1,fr p.2]) (λp=>fr (p.1+t * p.2)) (ps.zip ws) λp hm=>by
  have h1:=hp _ (jW hm).1;have h2:=hw _ (jW hm).2;have e1:=times_ok ht h2 (by omega)
  have e2:=zfo h1 (ht.mul h2) (by omega)
  exact⟨[.val (fr p.1),.val (fr p.2),.val (fr t)],rfl,by simp[e1,e2]⟩
 have hz:(zipT (ps.map fr) (ws.map fr)).length<=16777216:=by rw[Wn];simp;omega
 rw[<- Wn] at e;have e3:((ps.zip ws).map λp=>fr (p.1+t * p.2))=(mv ps ws t).map fr:=by simp[mv]
 rw[e3] at e;simp[za5,zjV,runQ,runF,hz,e]
theorem Uj{a g:Rat}(h:g ≠ 0):a / g * g=a:=by
 rw[qB,ycg,Rat.inv_mul_cancel g h,ybe]
theorem div_nn'{a g:Rat}(ha:0<=a)(hg:0 < g):0<=a / g:=by
 rw[<- jM];intro z;have h1:=Uj (a:=a) (g:=g) (by grind)
 have h2:=Rat.mul_lt_mul_of_pos_right z hg
 grind
end Lq
namespace Lw
open PySem Fx
theorem sp:∀{a b:Str},ya.strOk a=true->ya.strOk b=true->fNe (.str a) (.str b)=.ok (.bool (!decide (a=b))):=λ{a b} ha hb=>by
 simp only[fNe,YT,ya.canLay0,ya.depth,ya.eqv,ha,hb];by_cases h:a=b <;> simp[h]
theorem q_cc:fEq (.str "clash") (.str "clash")=.ok (.bool true):=by rw[zbb (by decide +kernel) (by decide +kernel)];rfl
theorem q_bc:fEq (.str "best") (.str "clash")=.ok (.bool false):=by rw[zbb (by decide +kernel) (by decide +kernel)];rfl
theorem q_be:fEq (.str "best") (.str "endless")=.ok (.bool false):=by rw[zbb (by decide +kernel) (by decide +kernel)];rfl
theorem q_ec:fEq (.str "endless") (.str "clash")=.ok (.bool false):=by rw[zbb (by decide +kernel) (by decide +kernel)];rfl
theorem q_ee:fEq (.str "endless") (.str "endless")=.ok (.bool true):=by rw[zbb (by decide +kernel) (by decide +kernel)];rfl
theorem n_pp:fNe (.str "point") (.str "point")=.ok (.bool false):=by rw[sp (by decide +kernel) (by decide +kernel)];rfl
theorem n_cp:fNe (.str "clash") (.str "point")=.ok (.bool true):=by rw[sp (by decide +kernel) (by decide +kernel)];rfl
theorem n_sp:fNe (.str "shares") (.str "point")=.ok (.bool true):=by rw[sp (by decide +kernel) (by decide +kernel)];rfl
theorem at20(x y:ya):atP [x,y] 0=some x:=rfl
theorem at3a(x y z:ya):atP [x,y,z] 0=some x:=rfl
theorem at3b(x y z:ya):atP [x,y,z] 1=some y:=rfl
theorem at3c(x y z:ya):atP [x,y,z] 2=some z:=rfl
def isPt:ya->Bool
 | .tuple (.str s::_)=>decide (s=("point" : Str))
 | _=>false
end Lw
namespace Lq
open PySem Fx Lw
variable {K B n0 p:Nat}{ls:List Lim}
theorem zfC{r:ya}{l:Lim}{N:Nat}(hr:Cov K n0 N ls p l r)(e:Qs [Yq K ls,.int p]=.ok r):Xc [Yq K ls,.int p]=.ok (.bool (!isPt r)):=by
 simp only[Yq] at e ⊢;cases hr with
 | clash c z=>simp[Xc,UZ,runQ,runF,e,at20,n_cp];rfl
 | shares _ _ _ _ _ _=>simp[Xc,UZ,runQ,runF,e,at20,n_sp];rfl
 | point q v=>simp[Xc,UZ,runQ,runF,e,at20,n_pp];rfl
end Lq
namespace Lw
open PySem Fx
theorem zgx{ss:List Rat}{p:Nat}(h:ss[p]? = some 0):insZ (oth ss p) p=ss:=by
 obtain⟨hp,h0⟩:=jb.mp h;unfold insZ oth;have hl:(ss.take p).length=p:=by rw[yaf];omega
 have e1:(ss.take p++ss.drop (p+1)).take p=ss.take p:=List.take_left' hl;have e2:(ss.take p++ss.drop (p+1)).drop p=ss.drop (p+1):=List.drop_left' hl;rw[e1,e2,<- h0,ycx,ybo]
section
variable {K B n0 N M p:Nat}{ls:List Lim}
theorem zkf{r:ya}(hp:p < ls.length)(hw:∀l ∈ ls,l.1.length=K)(hr:Cov K n0 N ls p ls[p] r){ps:List Rat}(q:Pt K M (oth ls p) ps)(v:(ls[p].2:Rat) < dot ls[p].1 ps):isPt r=true:=by
 cases hr with
 | point _ _=>simp[isPt]
 | @clash ss c z=>
  exfalso
  have hs:p < ss.length:=(jb.mp z).1;have l1:=XG hs;have l2:=XG hp;have cl:=c.len;have di:=λf:Lim->Int=>UY f (ss:=oth ss p) hp (by omega)
  rw[zgx z] at di;refine zgk (λl hl=>hw l (Vd hl)) (⟨by omega,λq hq=>c.sz q (Vd hq),λq hq=>c.nn q (Vd hq),λj hj=>?_,?_⟩:Cl K n0 (oth ls p) (oth ss p)) q
  ·rw[<- di];exact c.z j hj
  ·unfold WM;rw[<- di];exact c.b
 | @shares ss len sz nn z w b=>
  exfalso
  have hs:p < ss.length:=(jb.mp z).1;have l1:=XG hs;have l2:=XG hp;have di:=λf:Lim->Int=>UY f (ss:=oth ss p) hp (by omega)
  rw[zgx z] at di;have h1:=ze6 (ps:=ps) (oth ls p) (oth ss p) (by omega) (λq hq=>nn q (Vd hq)) q.kp
  have h2:=ze7 (ps:=ps) (oth ls p) (oth ss p) (λl hl=>by rw[hw l (Vd hl),q.len])
  have h3:WM (oth ls p) (oth ss p)=WM ls ss:=by unfold WM;rw[<- di]
  have h4:=zfK ls[p].1 ps (by rw[hw _ (jr hp),q.len])
  have h5:sumR ps.length (λj=>ps.getD j 0 * dot ((oth ls p).map (colN j)) (oth ss p))=sumR ps.length (λj=>((ls[p].1.getD j 0:Int):Rat) * ps.getD j 0):=Jg λj hj=>by
   rw[<- di,w j (by rw[<- q.len];exact hj),ybd]
  rw[h5,<- h4] at h2
  grind
end
theorem zfq{α:Type}{ls:List α}{p j:Nat}(h:p < ls.length):(oth ls p)[j]? = if j < p then ls[j]? else ls[j+1]?:=by
 unfold oth;have hl:(ls.take p).length=p:=by rw[yaf];omega
 by_cases c:j < p
 ·rw[jH (by omega),if_pos c,List.getElem?_take,if_pos c]
 ·rw[j6 (by omega),if_neg c,hl,List.getElem?_drop]
  congr 1;omega
theorem mem_oth{α:Type}{ls:List α}{p:Nat}{l:α}(h:p < ls.length):l ∈ oth ls p ↔ ∃j,j ≠ p/\ls[j]? = some l:=by
 rw[List.mem_iff_getElem?];constructor
 ·rintro⟨j,e⟩
  rw[zfq h] at e;split at e
  ·exact⟨j,by omega,e⟩
  ·exact⟨j+1,by omega,e⟩
 ·rintro⟨j,hj,e⟩
  by_cases c:j < p
  ·exact⟨j,by rw[zfq h,if_pos c];exact e⟩
  ·refine⟨j - 1,?_⟩;rw[zfq h,if_neg (by omega)]
   rw[show j - 1+1=j by omega];exact e
end Lw
namespace Fx
open PySem
def dHs:List ((Str->Bool) × (Str->Bool) × DS)->Str->DS
 | [],_=>λ_=>.stuck
 | (y,n,h)::r,c=>λG=>if y c then noX (h G) else if n c then dHs r c G else .stuck
@[simp] theorem dHs_cons (y n : Str -> Bool) (h : DS) (r : List ((Str -> Bool) × (Str -> Bool) × DS)) (c : Str) (G : List Sl) : dHs ((y, n, h) :: r) c G = if y c then noX (h G) else if n c then dHs r c G else .stuck := rfl
def za0:List ya->Option (List Int)
 | []=>some []
 | .int i::r=>(za0 r).map (i :: ·)
 | _=>none
def Vy:ya->Option (List Int)
 | .tuple xs=>za0 xs
 | _=>none
theorem zeD:∀{xs:List ya}{ns:List Int},za0 xs=some ns->xs=ns.map .int
 | [],ns,h=>by cases h;rfl
 | x::r,ns,h=>by
  cases x <;> try (cases h;done)
  rename_i i;simp only[za0] at h;cases e:za0 r with
  | none=>rw[e] at h;cases h
  | some ms=>
   rw[e] at h;cases h;rw[zeD e];rfl
theorem zhD(ns:List Int):za0 (ns.map .int)=some ns:=by
 induction ns with
 | nil=>rfl
 | cons n ns ih=>simp[za0,ih]
theorem keyIs_ok{k:ya}{ns:List Int}(h:Vy k=some ns):k=.tuple (ns.map .int):=by
 cases k <;> try (cases h;done)
 rw[zeD h]
@[simp] theorem Vx (ns : List Int) : Vy (.tuple (ns.map .int)) = some ns := zhD ns
def Qr(ns:List Int):List (ya × ya)->Option ya
 | []=>none
 | (k,t)::r=>if Vy k=some ns then some t else Qr ns r
def ziH(ns:List Int)(t:ya)(es:List (ya × ya)):List (ya × ya):=
 if(Qr ns es).isSome then es.map λe=>if Vy e.1=some ns then(e.1,t) else e else es++[(.tuple (ns.map .int),t)]
@[simp] def dNewD (i : Nat) : DS := λG => if i < G.length then .ok (.nx (G.set i (.dct []))) else .stuck
@[simp] def zbD (i : Nat) (k : DE) : DE := λG => (k G).bind λy => match G[i]?, Vy y with
 | some (.dct es),some ns=>.ok (.bool (!(Qr ns es).isSome))
 | _,_=>.stuck
@[simp] def zkd (i : Nat) (k : DE) : DE := λG => match G[i]? with
 | some (.dct es)=>(k G).bind λy=>match Vy y with
  | some ns=>ofO (Qr ns es)
  | none=>.stuck
 | _=>.stuck
@[simp] def ziG (i : Nat) (G : List Sl) (t y : ya) : Res Out :=
 match G[i]?,Vy y with
 | some (.dct es),some ns=>if es.length < 16777215 then .ok (.nx (G.set i (.dct (ziH ns t es)))) else .stuck
 | _,_=>.stuck
def isDct(G:List Sl)(i:Nat):Bool:=match G[i]? with
 | some (.dct _)=>true
 | _=>false
@[simp] def zkb (i : Nat) (k e : DE) : DS := λG => (e G).bind λt => if isDct G i then (k G).bind λy => ziG i G t y else .stuck
@[simp] def dRetD (i : Nat) : DS := λG => match G[i]? with
 | some (.dct es)=>.ok (.rt (.dict ((.none,.none)::es)))
 | _=>.stuck
@[simp] def dIfG (c : DT) (a b : DS) : DS := λG => (c G).bind λk => if k then a G else b G
@[simp] def fGetD : ya -> ya -> Res ya
 | .dict ((.none,.none)::es),y=>match Vy y with
  | some ns=>ofO (Qr ns es)
  | none=>.stuck
 | _,_=>.stuck
@[simp] def iKeys (a : DE) : DA := λG => (a G).bind λx => match x with
 | .dict ((.none,.none)::es)=>.ok (es.map (·.1))
 | _=>.stuck
@[simp] def dJ (a b : DE) : DE := λG => match a G with
 | .stuck=>b G
 | r=>r
@[simp] def extOwn (i : Nat) (G' : List Sl) (ts : List ya) : Res Out :=
 match G'[i]? with
 | some (.own xs)=>if xs.length+ts.length<=16777216 then .ok (.nx (G'.set i (.own (xs++ts)))) else .stuck
 | _=>.stuck
@[simp] def dExt (i : Nat) (e : DA) : DS := λG => if zb2 G i then (e G).bind λts => extOwn i G ts else .stuck
end Fx
namespace L2
open PySem PySem.Spec PyProof.Rows
section
variable {κ:Type}[DecidableEq κ]
def valV(kvs:List (κ × V))(k:κ):Option V:=(kvs.find? λkv=>decide (kv.1=k)).map (·.2)
def putK(kvs:List (κ × V))(k:κ)(v:V):List (κ × V):=
 if(kvs.any λkv=>decide (kv.1=k))=true then kvs.map (λkv=>if kv.1=k then(kv.1,v) else kv) else kvs++[(k,v)]
theorem valV_nil{k:κ}:valV ([]:List (κ × V)) k=none:=rfl
theorem zam{p:κ × V}{r:List (κ × V)}{k:κ}(e:p.1=k):valV (p::r) k=some p.2:=by simp[valV,qN,e]
theorem zan{p:κ × V}{r:List (κ × V)}{k:κ}(e:¬p.1=k):valV (p::r) k=valV r k:=by simp[valV,qN,e]
theorem zcU(k:κ):∀kvs:List (κ × V),(kvs.any λkv=>decide (kv.1=k))=(valV kvs k).isSome
 | []=>rfl
 | p::r=>by
  rw[ych];by_cases e:p.1=k
  ·simp only[zam e,decide_eq_true e,Bool.true_or,ybv]
  ·rw[zan e,decide_eq_false e,Bool.false_or];exact zcU k r
theorem zaU(kvs:List (κ × V))(k:κ)(v:V):(putK kvs k v).length<=kvs.length+1:=by
 unfold putK;split
 ·rw[jm];omega
 ·rw[qc,jk,yai];omega
theorem RelO.isSome_eq{o:Option V}{u:Option yb}(r:RelO o u):o.isSome=u.isSome:=by
 cases o with
 | none=>cases u with
  | none=>rfl
  | some _=>exact(show False from r).elim
 | some _=>cases u with
  | none=>exact(show False from r).elim
  | some _=>rfl
theorem KV.val{kvs:List (κ × V)}{vs:List (κ × yb)}(r:KV kvs vs)(k:κ):RelO (valV kvs k) (valueAt vs k):=by
 unfold KV at r
 induction r with
 | nil=>exact True.intro
 | @cons p q ps qs h t ih=>
  obtain⟨h1,h2⟩:=h;by_cases e:p.1=k
  ·have e':q.1=k:=h1.symm.trans e;have b:valueAt (q::qs) k=some q.2:=by simp[valueAt,qN,e']
   rw[zam e,b];exact h2
  ·have e':¬q.1=k:=λz=>e (h1.trans z)
   have b:valueAt (q::qs) k=valueAt qs k:=by simp[valueAt,qN,e']
   rw[zan e,b];exact ih
theorem KV.any{kvs:List (κ × V)}{vs:List (κ × yb)}(r:KV kvs vs)(k:κ):(kvs.any λkv=>decide (kv.1=k))=vs.any λkv=>decide (kv.1=k):=by
 unfold KV at r
 induction r with
 | nil=>rfl
 | cons h t ih=>rw[ych,ych,ih,h.1]
theorem KV.repl{kvs:List (κ × V)}{vs:List (κ × yb)}(r:KV kvs vs)(k:κ){y:V}{u:yb}(ry:RelV y u) :
  KV (kvs.map λkv=>if kv.1=k then(kv.1,y) else kv) (vs.map λkv=>if kv.1=k then(kv.1,u) else kv):=by
 unfold KV at r ⊢
 induction r with
 | nil=>exact .nil
 | @cons p q ps qs h t ih=>
  rw[yH,yH];refine .cons ?_ ih;obtain⟨h1,h2⟩:=h;by_cases e:p.1=k
  ·rw[if_pos e,if_pos (h1.symm.trans e)];exact⟨h1,ry⟩
  ·rw[if_neg e,if_neg (λz=>e (h1.trans z))];exact⟨h1,h2⟩
theorem KV.put{kvs:List (κ × V)}{vs:List (κ × yb)}(r:KV kvs vs)(k:κ){y:V}{u:yb}(ry:RelV y u):KV (putK kvs k y) (stored vs k u):=by
 unfold putK stored;rw[r.any k];by_cases e:(vs.any λkv=>decide (kv.1=k))=true
 ·rw[if_pos e,if_pos e];exact r.repl k ry
 ·rw[if_neg e,if_neg e];exact Paired.snoc r ⟨rfl,ry⟩
theorem KV.length{kvs:List (κ × V)}{vs:List (κ × yb)}(r:KV kvs vs):kvs.length=vs.length:=Paired.length r
end
theorem kV_is{P:y6}{w:y3}{k:Key}{u:yb}(r:RelV (kV k) u):(Xi P w).is k u=true:=by
 cases k with
 | inl i=>obtain⟨t,e⟩:=(show ∃t,u=yb.int i t from r);subst e;exact zfE P w i t
 | inr x=>obtain⟨t,e⟩:=(show ∃t,u=yb.str x t from r);subst e;exact zfD P w x t
theorem zeC{P:y6}{w:y3}:∀{ks:List Key}{us:List yb},Vals (ks.map kV) us->ItemsAre (Xi P w) ks us
 | [],_,r=>by rw[qQ] at r;cases r;exact .nil
 | k::ks,_,r=>by
  rw[yH] at r;cases r with
  | cons h t=>exact .cons (kV_is h) (zeC t)
abbrev KT(H:Hp):List (List Key × V)->List (List Key × yc × yb)->Prop:=Paired λp q=>p.1=q.1/\H q.2.1=some (.tup (p.1.map kV))/\RelV p.2 q.2.2
theorem KT.val{H:Hp}{kvs:List (List Key × V)}{xs:List (List Key × yc × yb)}(r:KT H kvs xs)(k:List Key):RelO (valV kvs k) ((atKey xs k).map (·.2)):=by
 induction r with
 | nil=>exact True.intro
 | @cons p q ps qs h t ih=>
  obtain⟨h1,_,h2⟩:=h;by_cases e:p.1=k
  ·have e':q.1=k:=h1.symm.trans e;have b:atKey (q::qs) k=some q.2:=by simp[atKey,qN,e']
   rw[zam e,b];exact h2
  ·have e':¬q.1=k:=λz=>e (h1.trans z)
   have b:atKey (q::qs) k=atKey qs k:=by simp[atKey,qN,e']
   rw[zan e,b];exact ih
theorem KT.repl{H:Hp}{kvs:List (List Key × V)}{xs:List (List Key × yc × yb)}(r:KT H kvs xs)(k:List Key){y:V}{u:yb}(ry:RelV y u) :
  KT H (kvs.map λkv=>if kv.1=k then(kv.1,y) else kv) (xs.map (putAt k u)):=by
 induction r with
 | nil=>exact .nil
 | @cons p q ps qs h t ih=>
  rw[yH,yH];refine .cons ?_ ih;obtain⟨h1,h2,h3⟩:=h;unfold putAt;by_cases e:p.1=k
  ·rw[if_pos e,if_pos (h1.symm.trans e)];exact⟨h1,h2,ry⟩
  ·rw[if_neg e,if_neg (λz=>e (h1.trans z))];exact⟨h1,h2,h3⟩
theorem KT.put{H:Hp}{kvs:List (List Key × V)}{xs:List (List Key × yc × yb)}(r:KT H kvs xs)(k:List Key){b:yc}{y:V}{u:yb}(hb:H b=some (.tup (k.map kV)))(ry:RelV y u) :
  KT H (putK kvs k y) (storedH xs k b u):=by
 have e:(kvs.any λkv=>decide (kv.1=k))=(atKey xs k).isSome:=by
  rw[zcU,(r.val k).isSome_eq,yb1]
 unfold putK storedH;rw[e];by_cases q:(atKey xs k).isSome=true
 ·rw[if_pos q,if_pos q];exact r.repl k ry
 ·rw[if_neg q,if_neg q];exact Paired.snoc r ⟨rfl,hb,ry⟩
theorem KT.keeps{H H':Hp}{kvs:List (List Key × V)}{xs:List (List Key × yc × yb)}(r:KT H kvs xs)(ht:∀b ys,H b=some (.tup ys)->H' b=some (.tup ys)):KT H' kvs xs:=
 Paired.mapP r λ_ _ z=>⟨z.1,ht _ _ z.2.1,z.2.2⟩
section
variable {P:y6}{w:y3}{H:Hp}{h:yd}{a:yc}
theorem rd_of{u:HO}(ok:HOk P w H h)(e:Rd H a u):X3 P w H h a u:=e.ok ok
theorem dk_rd{kvs:List (Key × V)}(ok:HOk P w H h)(e:Rd H a (.dK kvs)):kvs.length<=y7/\(a == jK)=false/\∃vs,KV kvs vs/\h.DictOf (Xi P w) a vs:=
 show X3 P w H h a (.dK kvs) from rd_of ok e
theorem dk_of{kvs:List (Key × V)}(ok:HOk P w H h)(e:H a=some (.dK kvs)):kvs.length<=y7/\(a == jK)=false/\∃vs,KV kvs vs/\h.DictOf (Xi P w) a vs:=dk_rd ok (.inl e)
theorem zgr{ks:List Key}(ok:HOk P w H h)(e:H a=some (.tup (ks.map kV))):(tupleKind (Xi P w)).is h ks a:=by
 obtain⟨_,its,r,o,h1,h2,n,h3⟩:=(show X3 P w H h a (.tup (ks.map kV)) from ok a _ e);exact⟨o,its.toArray,n,h1,h2,h3,by simpa using zeC r⟩
theorem dt_rd{kvs:List (List Key × V)}(ok:HOk P w H h)(e:Rd H a (.dT kvs)):kvs.length<=y7/\(a == jK)=false /\
  ∃xs,KT H kvs xs/\h.DictOfH (tupleKind (Xi P w)) a xs:=by
 obtain⟨z,y,xs,r,o,es,ep,h1,h2,h3,h4,h5⟩:=(show X3 P w H h a (.dT kvs) from rd_of ok e);refine⟨z,y,xs,r,o,es,ep,h1,h2,h3,h4,λx hx=>?_,h5⟩
 have all:∀{l:List (List Key × V)}{m:List (List Key × yc × yb)},KT H l m->∀x ∈ m,(tupleKind (Xi P w)).is h x.1 x.2.1:=by
  intro l m q
  induction q with
  | nil=>intro x hx;exact nomatch hx
  | @cons p q ps qs hq t ih=>
   intro x hx;rcases yI.mp hx with e | hx
   ·subst e;exact zgr ok (by rw[<- hq.1];exact hq.2.1)
   ·exact ih x hx
 exact all r x hx
theorem dt_of{kvs:List (List Key × V)}(ok:HOk P w H h)(e:H a=some (.dT kvs)):kvs.length<=y7/\(a == jK)=false /\
  ∃xs,KT H kvs xs/\h.DictOfH (tupleKind (Xi P w)) a xs:=dt_rd ok (.inl e)
end
def DGet(H:Hp)(a:yc)(y:V)(r:Option V):Prop:=
 (∃kvs k,Rd H a (.dK kvs)/\y=kV k/\r=valV kvs k)\/∃kvs k b,Rd H a (.dT kvs)/\y=.ref b/\H b=some (.tup (k.map kV))/\r=valV kvs k
def DPut(H:Hp)(a:yc)(y v:V)(H':Hp):Prop:=
 (∃kvs k,H a=some (.dK kvs)/\y=kV k/\kvs.length < y7/\H'=upd H a (.dK (putK kvs k v))) \/
 ∃kvs k b,H a=some (.dT kvs)/\y=.ref b/\H b=some (.tup (k.map kV))/\kvs.length < y7/\H'=upd H a (.dT (putK kvs k v))
theorem DGet.t{H:Hp}{a b:yc}{kvs:List (List Key × V)}{k:List Key}(e:H a=some (.dT kvs))(eb:H b=some (.tup (k.map kV))):DGet H a (.ref b) (valV kvs k):=.inr ⟨kvs,k,b,.inl e,rfl,eb,rfl⟩
theorem DPut.t{H:Hp}{a b:yc}{kvs:List (List Key × V)}{k:List Key}{v:V}(e:H a=some (.dT kvs))(eb:H b=some (.tup (k.map kV)))(hl:kvs.length < y7) :
  DPut H a (.ref b) v (upd H a (.dT (putK kvs k v))):=.inr ⟨kvs,k,b,e,rfl,eb,hl,rfl⟩
section
variable {X:Cx}{pins:List (yc × Obj)}{σ:St}{H:Hp}{s:ye}{a:yc}{y v:V}{u r:yb}{o:Option V}{A:yB}{E:yb->ye->Prop}
theorem Inv.big(I:Inv X pins σ H s):jK < s.heap.objs.size:=by
 have h:yn < s.heap.objs.size:=(I.mod.glob.keeps I.bk).lt;exact Nat.lt_trans (by decide) h
theorem zj6{Q:yb->ye->Prop}(hu:A.units+1 < cLine)(I:Inv X pins σ H s)(g:DGet H a y (some v))(ry:RelV y u)(h:∀w' s',Inv X pins σ H s'->RelV v w'->Q w' s') :
  yi (yk X.prog X.w) A (getItem (.ref a) u) Q E s:=by
 rcases g with ⟨kvs,k,e,ey,l⟩ | ⟨kvs,k,b,e,ey,eb,l⟩
 ·subst ey;obtain⟨z,hd,vs,rel,dd⟩:=dk_rd I.hok e;obtain⟨w',hw,rw'⟩:=RelO.some_of (v:=v) (o:=valueAt vs k) (by rw[l];exact rel.val k)
  exact wpAny_getItem_of (kV_is ry) dd.mapOf hw (h w' _ (I.tok _) rw')
 ·subst ey;cases(show u=yb.ref b from ry);obtain⟨z,hd,xs,rel,dd⟩:=dt_rd I.hok e;obtain⟨w',hw,rw'⟩:=RelO.some_of (v:=v) (o:=(atKey xs k).map (·.2)) (by rw[l];exact rel.val k)
  obtain⟨p,hp,hp2⟩:=Option.map_eq_some_iff.mp hw;refine wpAny_getItem_heap (tupleKind_room_in1 hu) (zgr I.hok eb) dd hp ?_;rw[hp2];exact h w' _ (I.tok _) rw'
theorem d_notIn{Q:yb->ye->Prop}(hu:A.units+1 < cLine)(I:Inv X pins σ H s)(g:DGet H a y o)(ry:RelV y u)(h:∀s',Inv X pins σ H s'->Q (.bool (!o.isSome)) s') :
  yi (yk X.prog X.w) A (jd .NotIn u (.ref a)) Q E s:=by
 rcases g with ⟨kvs,k,e,ey,l⟩ | ⟨kvs,k,b,e,ey,eb,l⟩
 ·subst ey;obtain⟨z,hd,vs,rel,dd⟩:=dk_rd I.hok e;refine wpAny_notIn_of (kV_is ry) hd dd.mapOf ?_;rw[<- (rel.val k).isSome_eq,<- l];exact h _ (I.tok _)
 ·subst ey;cases(show u=yb.ref b from ry);obtain⟨z,hd,xs,rel,dd⟩:=dt_rd I.hok e;refine wpAny_notIn_heap (tupleKind_room_in1 hu) (zgr I.hok eb) hd dd ?_;have q:=(rel.val k).isSome_eq;rw[yb1] at q;rw[<- q,<- l];exact h _ (I.tok _)
theorem zjS{h':yd}{t':Nat}{ob:HO}(I:Inv X pins σ H s)(mu:Mut (H a))(hs:qf a s.heap h')(he:∃q,h'.get? a=some q)(new:X3 X.prog X.w (upd H a ob) h' a ob) :
  Inv X pins σ (upd H a ob) { s with heap:=h',toks:=t' }:=
 I.write (x:=a) (e:=a) mu (.inl rfl) (λb q hb z=>(hs.2 b hb).trans z) he new
theorem dk_new{P:y6}{w:y3}{H':Hp}{h':yd}{kvs:List (Key × V)}{vs:List (Key × yb)}(z:kvs.length<=y7)(hd:(a == jK)=false)(rel:KV kvs vs)(dd:h'.DictOf (Xi P w) a vs) :
  X3 P w H' h' a (.dK kvs):=⟨z,hd,vs,rel,dd⟩
theorem zjU{H':Hp}{Q:Unit->ye->Prop}(hu:A.units+1 < cLine)(I:Inv X pins σ H s)(g:DPut H a y v H')(ry:RelV y u)(rv:RelV v r)(h:∀s',Inv X pins σ H' s'->Q () s') :
  yi (yk X.prog X.w) A (setItem (.ref a) u r) Q E s:=by
 rcases g with ⟨kvs,k,e,ey,l,eH⟩ | ⟨kvs,k,b,e,ey,eb,l,eH⟩
 ·subst ey eH;obtain⟨z,hd,vs,rel,dd⟩:=dk_of I.hok e;have hz:vs.length<=y7:=by rw[<- rel.length];exact z
  have hl:(putK kvs k v).length<=y7:=by have:=zaU kvs k v;omega
  refine wpAny_setItem_pairs (hsz:=hz) (kV_is ry) dd λh' dd' hs=>h _ ?_
  have he:∃q,h'.get? a=some q:=let⟨q,_,_,hq,_⟩:=dd';⟨q,hq⟩
  exact zjS I (by rw[e];exact True.intro) hs he (dk_new hl hd (rel.put k rv) dd')
 ·subst ey eH;cases(show u=yb.ref b from ry);obtain⟨z,hd,xs,rel,dd⟩:=dt_of I.hok e;have hz:xs.length<=y7:=by rw[<- Paired.length rel];exact z
  have hl:(putK kvs k v).length<=y7:=by have:=zaU kvs k v;omega
  refine wpAny_setItem_heap (hsz:=hz) (tupleKind_room_in1 hu) (zgr I.hok eb) dd λh' dd' hs=>h _ ?_
  obtain⟨q,es,ep,hq,h2,h3,h4,_,h5⟩:=dd';refine zjS I (by rw[e];exact True.intro) hs ⟨q,hq⟩ ⟨hl,hd,_,(rel.put k eb rv).keeps λc ys ec=>?_,q,es,ep,hq,h2,h3,h4,h5⟩
  rw[Zr (ne_of ec e (λz=>nomatch z))]
  exact ec
end
section
variable {X:Cx}{pins:List (yc × Obj)}{σ:St}{H:Hp}{s:ye}{a:yc}{kvs:List (Key × V)}{k:Key}{u:yb}{A:yB}{E:yb->ye->Prop}
end
def NoSl(i:yj):Prop:=∀ov iv,subscripted i false ov iv=operate [ov,iv] (getItem ov iv)
theorem subD_of{prog:y6}{w:y3}{A:yB}{E:yb->ye->Prop}{s:ye}{env:Env}{value slice:yj}{pos:Pos}{T id:String}{Q:yb->ye->Prop}
  (hl:typeLookup (.type T) "__getitem__" = pure (some (.builtin id))) (hs:NoSl slice)
  (h:yi (yk prog w) A (yz value env) (λo s₁=>yi (yk prog w) A (yz slice env) (λi s₂=>s₂.TypeIs o T/\yi (yk prog w) A (getItem o i) Q E s₂) E s₁) E s) :
  yi (yk prog w) A (yz (.Subscript value slice pos) env) Q E s:=by
 refine Subscript_ (yO h (λo s₁ h₁=>yO h₁ (λi s₂ h₂=>?_) λ_ _ x=>x) λ_ _ x=>x)
 obtain⟨hT,h₂⟩:=h₂;unfold subscriptTail;refine yf ?_;rw[getitemInPython_of_ne hT.not_modules];refine yf (wpAny_specialOf hT hl ?_);have fin:yi (yk prog w) A (subscripted slice false o i) (λr s₃=>yi (yk prog w) A (letTemporaryGo value o r >>= λ_=>pure r) Q E s₃) E s₂:=by
  rw[hs o i];exact wpAny_operating (yO h₂ (λr s₃ h₃=>yf (wpAny_letTemporaryGo (yt h₃))) λ_ _ x=>x)
 first
  | exact yt (yf fin)
  | exact yf (yt (yf fin))
  | exact yf fin
theorem zfO{X:Cx}{pins:List (yc × Obj)}{σ:St}{H:Hp}{s:ye}{a:yc}{y:V}{o:Option V}(I:Inv X pins σ H s)(g:DGet H a y o):s.TypeIs (.ref a) "dict":=by
 rcases g with ⟨kvs,k,e,_,_⟩ | ⟨kvs,k,b,e,_,_,_⟩
 ·obtain⟨_,_,vs,_,dd⟩:=dk_rd I.hok e;exact dd.typeIs
 ·obtain⟨_,_,xs,_,dd⟩:=dt_rd I.hok e;exact dd.typeIs
def tDGet(td ty:TE):TE:=λσ H Q=>td σ H λx H1=>ty σ H1 λy H2=>∃a v,x=.ref a/\DGet H2 a y (some v)/\Q v H2
def tDNotIn(ty td:TE):TE:=λσ H Q=>ty σ H λy H1=>td σ H1 λx H2=>∃a o,x=.ref a/\DGet H2 a y o/\Q (.bl (!o.isSome)) H2
def sDPut(td ty tv:TE):TS:=λD σ H=>tv σ H λv H1=>td σ H1 λx H2=>ty σ H2 λy H3=>∃a H4,x=.ref a/\DPut H3 a y v H4/\D.nx σ H4
section
variable {X:Cx}{o i e value:yj}{pos pos' tpos:Pos}{td ty tv:TE}
theorem ziR(hu:X.A.units+1 < cLine)(ho:PE X o td)(hi:PE X i ty)(hs:NoSl i):PE X (.Subscript o i pos) (tDGet td ty):=by
 intro pins s σ H Q I h;refine subD_of PySem.F.slot_dict_getitem.lookup hs (thn (ho pins s σ H _ I h) λu s1 ⟨x,H1,I1,rx,q1⟩=>thn (hi pins s1 σ H1 _ I1 q1) λiv s2 ⟨y,H2,I2,ry,a,v,ex,g,q2⟩=>?_)
 subst ex;obtain rfl:u=yb.ref a:=rx;exact⟨zfO I2 g,zj6 hu I2 g ry λw' s3 I3 rw'=>⟨v,H2,I3,rw',q2⟩⟩
theorem ziU(hu:X.A.units+1 < cLine)(hi:PE X i ty)(ho:PE X o td):PC X .NotIn i o (tDNotIn ty td):=by
 intro pins s σ H Q I h;refine thn (hi pins s σ H _ I h) λiv s1 ⟨y,H1,I1,ry,q1⟩=>thn (ho pins s1 σ H1 _ I1 q1) λu s2 ⟨x,H2,I2,rx,a,ov,ex,g,q2⟩=>?_
 subst ex;obtain rfl:u=yb.ref a:=rx;exact d_notIn hu I2 g ry λs3 I3=>⟨.bl (!ov.isSome),H2,I3,rfl,q2⟩
theorem ps_dput(hu:X.A.units+1 < cLine)(ho:PE X o td)(hi:PE X i ty)(hv:PE X value tv)(hs:jv value (some (.Subscript o i pos')) pos.line X.env=pure false) :
  PS X (.Assign [.Subscript o i pos'] value pos) (sDPut td ty tv):=by
 intro pins s σ H D I h;refine wpAny_Assign_Subscript (thn (hv pins s σ H _ I h) λr s1 ⟨v,H1,I1,rv,q1⟩=>thn (ho pins s1 σ H1 _ I1 q1) λu s2 ⟨x,H2,I2,rx,q2⟩=>thn (hi pins s2 σ H2 _ I2 q2) λiv s3 ⟨y,H3,I3,ry,a,H4,ex,g,q3⟩=>?_) hs
 subst ex;obtain rfl:u=yb.ref a:=rx;exact zjU hu I3 g ry rv λs4 I4=>⟨σ,H4,I4,q3⟩
end
theorem dt_empty{P:y6}{w:y3}{H:Hp}(h:yd)(hb:jK < h.objs.size):X3 P w H (h.push { cls:=.type "dict",data:=.dict #[] }) h.objs.size (.dT []):=
 ⟨jZ _,beq_eq_false_iff_ne.mpr (Ne.symm (yW hb)),[],.nil,_,#[],0,yN _ rfl,⟨rfl,rfl,rfl⟩,rfl,rfl,List.nodup_nil⟩
def tDNewT:TE:=λ_ H Q=>∀p,H p=none->Q (.ref p) (upd H p (.dT []))
section
variable {X:Cx}{pos:Pos}
theorem pe_dnewT:PE X (.Dict [] [] pos) tDNewT:=λpins s σ H Q I h=>
 wpAny_Dict_empty ⟨.ref s.heap.objs.size,_,I.laid (a:=s.heap.objs.size) (o:=.dT []) (t':=s.toks) (λ_ _ q=>yA _ q) (yq _) (dt_empty s.heap I.big),rfl,h _ (I.hok.fresh (yq _))⟩
end
end L2
namespace Fx
open PySem PySem.Spec PyProof.Rows L2
section
variable {X:Cx}{pins:List (yc × Obj)}{σ:L2.St}{H H':Hp}{s s':ye}{a:yc}{cl:Str->yb}{W:Str->Hp->Prop}{L:yc}{fl:Bool}
end
section
variable {X:Cx}{W:Str->Hp->Prop}{fl:Bool}{L:yc}{cl:Str->yb}{hs:List ExceptHandler}{h₀:ExceptHandler}{ds:List ((Str->Bool) × (Str->Bool) × DS)}{ex:yj}{es:List yj}{k nps:Nat}{x:Str}{f:DF}{d:DA}{p cpos epos pos:Pos}
end
abbrev Wc(ns:List Int):List Key:=ns.map Sum.inl
theorem zeA{a b:List Int}(h:Wc a=Wc b):a=b:=by
 induction a generalizing b with
 | nil=>cases b with
  | nil=>rfl
  | cons y b=>cases h
 | cons x a ih=>cases b with
  | nil=>cases h
  | cons y b=>
   simp only[Wc,yH,List.cons.injEq] at h;rw[Sum.inl.inj h.1,ih h.2]
theorem zgt(ns:List Int):(Wc ns).map kV=ns.map V.int:=by
 induction ns with
 | nil=>rfl
 | cons n ns ih=>simp only[Wc,yH] at ih ⊢;rw[ih];rfl
section
variable {K:yh}{H:Hp}{P:Pv}
theorem zaL(ns:List Int):∀{es:List (ya × ya)}{kvs:List (List Key × V)},Rlk K H P es kvs->(Qr ns es=none/\valV kvs (Wc ns)=none)\/∃t v,Qr ns es=some t/\valV kvs (Wc ns)=some v/\Rl K H P t v
 | [],kvs,r=>by rw[Qn.mp r];exact .inl ⟨rfl,rfl⟩
 | (k,t)::es,kvs,r=>by
  obtain⟨ms,v,r',rfl,rfl,rv,rr⟩:=Wr.mp r;by_cases e:ms=ns
  ·subst e;exact .inr ⟨t,v,by simp[Qr],zam (p:=(_,v)) rfl,rv⟩
  ·have e2:¬(Wc ms=Wc ns):=λz=>e (zeA z)
   have e3:Qr ns ((.tuple (ms.map .int),t)::es)=Qr ns es:=by simp[Qr,e]
   rw[e3,zan (p:=(Wc ms,v)) e2];exact zaL ns rr
theorem zfm:∀{es:List (ya × ya)}{kvs:List (List Key × V)},Rlk K H P es kvs->es.length=kvs.length
 | [],kvs,r=>by rw[Qn.mp r];rfl
 | (k,t)::es,kvs,r=>by
  obtain⟨ms,v,r',rfl,rfl,rv,rr⟩:=Wr.mp r;simp only[jk,zfm rr]
theorem zfl(ns:List Int){t:ya}{v:V}(rv:Rl K H P t v):∀{es:List (ya × ya)}{kvs:List (List Key × V)},Rlk K H P es kvs->Rlk K H P (es.map λe=>if Vy e.1=some ns then(e.1,t) else e) (kvs.map λkv=>if kv.1=Wc ns then(kv.1,v) else kv)
 | [],kvs,r=>by rw[Qn.mp r];exact Qn.mpr rfl
 | (k,t')::es,kvs,r=>by
  obtain⟨ms,v',r',rfl,rfl,rv',rr⟩:=Wr.mp r;rw[yH,yH];by_cases e:ms=ns
  ·subst e;rw[if_pos (Vx ms),if_pos rfl];exact Wr.mpr ⟨ms,v,_,rfl,rfl,rv,zfl ms rv rr⟩
  ·rw[if_neg (λz=>e (by rw[Vx] at z;exact ja.inj z)),if_neg (λz=>e (zeA z))]
   exact Wr.mpr ⟨ms,v',_,rfl,rfl,rv',zfl ns rv rr⟩
theorem zgc(ns:List Int){t:ya}{v:V}(rv:Rl K H P t v):∀{es:List (ya × ya)}{kvs:List (List Key × V)},Rlk K H P es kvs->Rlk K H P (es++[(.tuple (ns.map .int),t)]) (kvs++[(Wc ns,v)])
 | [],kvs,r=>by rw[Qn.mp r];exact Wr.mpr ⟨ns,v,[],rfl,rfl,rv,Qn.mpr rfl⟩
 | (k,t')::es,kvs,r=>by
  obtain⟨ms,v',r',rfl,rfl,rv',rr⟩:=Wr.mp r;exact Wr.mpr ⟨ms,v',_,rfl,rfl,rv',zgc ns rv rr⟩
theorem rlk_put(ns:List Int){t:ya}{v:V}{es:List (ya × ya)}{kvs:List (List Key × V)}(r:Rlk K H P es kvs)(rv:Rl K H P t v):Rlk K H P (ziH ns t es) (putK kvs (Wc ns) v):=by
 unfold ziH putK;rw[zcU];rcases zaL ns r with ⟨e1,e2⟩ | ⟨t',v',e1,e2,_⟩
 ·rw[e1,e2,if_neg (by decide),if_neg (by decide)]
  exact zgc ns rv r
 ·rw[e1,e2,if_pos ybv,if_pos ybv];exact zfl ns rv r
theorem zgs{y:ya}{ns:List Int}{u:V}(e:Vy y=some ns)(r:Rl K H P y u):∃b,u=.ref b/\H b=some (.tup ((Wc ns).map kV)):=by
 rw[keyIs_ok e] at r;obtain⟨b,vs,rfl,s,rs⟩:=ZN.mp r;refine⟨b,rfl,?_⟩;have:vs=ns.map V.int:=by
  clear s e r
  induction ns generalizing vs with
  | nil=>exact Z2.mp rs
  | cons n ns ih=>
   obtain⟨v,r',rfl,a,c⟩:=ZG.mp rs;rw[ih r' c,ZU.mp a];rfl
 rw[zgt,<- this];exact s.1
end
section
variable {K:yh}{H H':Hp}{P P':Pv}{σ:L2.St}{G:List Sl}
theorem Hol.setDct(h:Hol K H P σ G){i:Nat}(hi:i < G.length){p:yc}(hp:H p=none):Hol K (upd H p (.dT [])) (P.put i p) (σ.set i (some (.ref p))) (G.set i (.dct []))/\Go H P (upd H p (.dT [])) (P.put i p):=by
 have g0:Go H P (upd H p (.dT [])) (P.put i p):=(Go.put hp).trans (.same (Zz hp));have gg:=g0.tr;refine⟨⟨λj s q=>?_,λa b c h1 h2=>?_,λj a z=>?_,λa z=>?_,λj a z=>?_,?_,(Zz hp).tab K h.tab⟩,g0⟩
 ·by_cases e:j=i
  ·subst e;rw[jy hi] at q;cases q;exact⟨p,[],VN (by rw[h.len];exact hi),if_pos rfl,Zt,Qn.mpr rfl⟩
  ·rw[jg (Ne.symm e)] at q;have z:=h.sl j s q;rw[Qq e];cases s with
   | emp=>trivial
   | val t'=>obtain⟨v',e1,r'⟩:=z;exact⟨v',e1,Rl.go gg t' v' r'⟩
   | own xs'=>obtain⟨p',vs',e1,e2,e3,r'⟩:=z;exact⟨p',vs',e1,(by show(if j=i then some p else P.own j)=_;rw[if_neg e];exact e2),(Zz hp).kp _ _ e3 JK,Rls.go gg xs' vs' r'⟩
   | dct xs'=>obtain⟨p',vs',e1,e2,e3,r'⟩:=z;exact⟨p',vs',e1,(by show(if j=i then some p else P.own j)=_;rw[if_neg e];exact e2),(Zz hp).kp _ _ e3 nt_dT,Rlk.go gg xs' vs' r'⟩
 ·have h1':(if a=i then some p else P.own a)=some c:=h1
  have h2':(if b=i then some p else P.own b)=some c:=h2
  split at h1'
  ·split at h2'
   ·rename_i z1 z2;rw[z1,z2]
   ·cases h1';obtain⟨ws,q,_⟩:=h.dom h2';rw[hp] at q;cases q
  ·split at h2'
   ·cases h2';obtain⟨ws,q,_⟩:=h.dom h1';rw[hp] at q;cases q
   ·exact h.inj a b c h1' h2'
 ·have z':(if j=i then some p else P.own j)=some a:=z
  split at z'
  ·rename_i e;subst e;exact⟨_,jy hi,trivial⟩
  ·rename_i ne;obtain⟨xs,q,m⟩:=h.only j a z';exact⟨xs,by rw[jg (Ne.symm ne)];exact q,m⟩
 ·obtain⟨o,q,m⟩:=h.fbd a z;exact⟨o,(Zz hp).kp _ _ q m.nt,m⟩
 ·have z':(if j=i then some p else P.own j)=some a:=z
  split at z'
  ·cases z';exact h.nofb hp
  ·exact h.nfb j a z'
 ·rw[jP,jP];exact h.len
theorem go_up{i:Nat}{p:yc}{o:HO}(h:Hol K H P σ G)(hp:P.own i=some p):Go H P (upd H p o) P:=by
 have hpl:=h.dom hp;exact⟨λa o e _ q=>⟨by rw[Zr (λz=>q i (by rw[z];exact hp))];exact e,q⟩,rfl,λ{b} w=>by
  by_cases z:b=p
  ·rw[z,Zt] at w;cases w
  ·rw[Zr z] at w;exact w,λK t=>VE.mono t λb o e nl=>by
  rw[Zr (λz=>by obtain⟨us,w,m⟩:=hpl;rw[z,w] at e;cases e;exact nl m)];exact e,λb ps e=>⟨ps,by rw[Zr (λz=>by obtain⟨us,w,m⟩:=hpl;rw[z,w] at e;cases e;rcases m with ⟨_,m⟩ | ⟨_,m⟩ <;> cases m)];exact e⟩⟩
theorem Hol.upDct(h:Hol K H P σ G){i:Nat}{ys es:List (ya × ya)}{kvs:List (List Key × V)}{p:yc}(hi:G[i]? = some (.dct ys))(hp:P.own i=some p)(r:Rlk K H P es kvs):Hol K (upd H p (.dT kvs)) P σ (G.set i (.dct es)):=by
 have g0:Go H P (upd H p (.dT kvs)) P:=go_up h hp;have gg:=g0.tr;have hl:i < G.length:=(jb.mp hi).1;refine⟨λj s q=>?_,h.inj,λj a z=>?_,λa z=>?_,h.nfb,by rw[jP];exact h.len,g0.tab K h.tab⟩
 ·by_cases e:j=i
  ·subst e;rw[jy hl] at q;cases q;obtain⟨p',vs',e1,e2,_,_⟩:=h.sl j _ hi;rw[hp] at e2;cases e2;exact⟨p,kvs,e1,hp,Zt,Rlk.go gg es kvs r⟩
  ·rw[jg (Ne.symm e)] at q;have z:=h.sl j s q;cases s with
   | emp=>trivial
   | val t'=>obtain⟨v',e1,r'⟩:=z;exact⟨v',e1,Rl.go gg t' v' r'⟩
   | own xs'=>
    obtain⟨p',vs',e1,e2,e3,r'⟩:=z;exact⟨p',vs',e1,e2,by rw[Zr (λz=>e (h.inj j i p' e2 (by rw[z];exact hp)))];exact e3,Rls.go gg xs' vs' r'⟩
   | dct xs'=>
    obtain⟨p',vs',e1,e2,e3,r'⟩:=z;exact⟨p',vs',e1,e2,by rw[Zr (λz=>e (h.inj j i p' e2 (by rw[z];exact hp)))];exact e3,Rlk.go gg xs' vs' r'⟩
 ·by_cases e:j=i
  ·subst e;exact⟨_,jy hl,trivial⟩
  ·obtain⟨xs',q,m⟩:=h.only j a z;exact⟨xs',by rw[jg (Ne.symm e)];exact q,m⟩
 ·rw[Zr (λe=>h.nfb i p hp (by rw[<- e];exact z))]
  exact h.fbd a z
end
theorem Inv.freeze{X:Cx}{pins:List (yc × Obj)}{σ:L2.St}{H:Hp}{s:ye}{p:yc}{kvs:List (List Key × V)}(I:Inv X pins σ H s)(e:H p=some (.dT kvs)):∃ob,Inv X pins σ (upd H p (.frz ob (.dT kvs))) s:=by
 have ho:=I.hok p _ e;obtain⟨_,_,xs,_,ob,es,ep,h1,_⟩:=id ho;have ne:∀b,H b=none->b ≠ p:=λb n z=>by rw[z,e] at n;cases n
 have st:∀b (u:HO),X3 X.prog X.w H s.heap b u->X3 X.prog X.w (upd H p (.frz ob (.dT kvs))) s.heap b u:=λb u x=>x.stay (λ_ _ _ q=>q) (λc q=>by rw[Zr (λz=>by rw[z,e] at q;cases q)];exact q) (λc ys q=>by rw[Zr (λz=>by rw[z,e] at q;cases q)];exact q)
 refine⟨ob,I.ok,I.os,I.bare,⟨I.base.keep,I.base.slot,λb u q n hx=>?_,I.base.there,λb ys q=>?_,λb o u q=>?_,λb ps q=>?_⟩,I.loc,I.cell,?_,λx c q=>?_,λq hq=>?_,λb u q=>?_,I.len⟩
 ·have w:=I.base.free b u q n hx;rw[Zr (ne b w)];exact w
 ·have w:=I.base.tups b ys q;rw[Zr (λz=>by rw[z,e] at w;cases w)];exact w
 ·have w:=I.base.frzs b o u q;rw[Zr (λz=>by rw[z,e] at w;cases w)];exact w
 ·obtain⟨m,w⟩:=I.base.tbls b ps q;exact⟨m,by rw[Zr (λz=>by rw[z,e] at w;cases w)];exact w⟩
 ·rw[Zr (ne _ I.free)];exact I.free
 ·rw[Zr (ne _ (I.freeC x c q))];exact I.freeC x c q
 ·obtain⟨a1,a2,a3⟩:=I.pin q hq;exact⟨a1,by rw[Zr (ne _ a2)];exact a2,a3⟩
 ·by_cases z:b=p
  ·subst z;rw[Zt] at q;cases q;exact⟨h1,st _ _ ho⟩
  ·rw[Zr z] at q;exact st _ _ (I.hok b u q)
def tFrz(t:TE):TE:=λσ H Q=>t σ H λv H1=>∃p kvs,v=.ref p/\H1 p=some (.dT kvs)/\∀ob,Q v (upd H1 p (.frz ob (.dT kvs)))
theorem pe_frz{X:Cx}{e:yj}{t:TE}(h:PE X e t):PE X e (tFrz t):=λpins s σ H Q I q=>
 yO (h pins s σ H _ I q) (λu s1 ⟨v,H1,I1,rv,p,kvs,ev,ep,q1⟩=>let⟨ob,I2⟩:=Fx.Inv.freeze I1 ep;⟨v,_,I2,rv,q1 ob⟩) λ_ _ z=>z
section
variable {X:Cx}{W:Str->Hp->Prop}{fl:Bool}{a b c e k:yj}{da db dk:DE}{pos p:Pos}{i:Nat}{x:Str}
theorem ss_newD{pos':Pos}(hN:X.N.Nodup)(hi:X.N[i]? = some x)(hx:Loc X.env.scope x)(hs:jv (.Dict [] [] p) (some (.Name x pos')) pos.line X.env=pure false:=by rfl)
  (hf:X.fn x=true\/X.env.scope.names.lookup x=some .local:=by first | exact .inl rfl | exact .inr rfl | assumption):SV X W fl (.Assign [.Name x pos'] (.Dict [] [] p) pos) (dNewD i):=
 Xh (ziK hN hi hx pe_dnewT hs hf) λD σ H ⟨G,P,h,q⟩=>by
  unfold dNewD at q;split at q
  ·rename_i hl;intro p hp;obtain⟨h1,g1⟩:=h.setDct hl hp;exact q _ _ _ g1 h1
  ·exact q.elim
theorem zh3(hu:X.A.units+1 < cLine)(hk:EV X W k dk)(hi:X.N[i]? = some x)(hv:Vis X.env.scope x:=by first | exact yg rfl | exact yC (yg rfl) | exact yC (yC rfl))(hd:(x == ("__debug__" : Str))=false:=by decide)
  (hcd:(x == ("__classdict__" : Str))=false:=by decide) (hm:jJ .NotIn (.Name x p)=false:=by rfl):TV X W (.Compare k [.NotIn] [.Name x p] pos) (tV (zbD i dk)):=
 zdd (ziI (ziU hu hk (U3 hi hv hd hcd)) hm) λσ H Q ⟨G,P,h,q⟩=>by
  refine⟨G,P,h,?_⟩;unfold Fx.tV zbD at q;cases ek:dk G with
  | stuck=>rw[ek] at q;exact q
  | exc c=>rw[ek] at q;exact q
  | ok y=>
   rw[ek] at q;simp only[Res.bind_ok] at q;intro u H1 s1 ru;split at q
   ·rename_i es ns eg ey;have h1:=h.same s1;obtain⟨pp,kvs,ev,ep,eh,rk⟩:=h1.sl i _ eg;obtain⟨b,rfl,hb⟩:=zgs ey ru;refine⟨.ref pp,getD_some ev,pp,_,rfl,DGet.t eh hb,_,rfl,?_⟩;have ee:(valV kvs (Wc ns)).isSome=(Qr ns es).isSome:=by
     rcases zaL ns rk with ⟨e1,e2⟩ | ⟨_,_,e1,e2,_⟩ <;> rw[e1,e2] <;> rfl
    rw[ee];exact q H1 s1
   ·exact q.elim
theorem ev_getN(hu:X.A.units+1 < cLine)(hi:X.N[i]? = some x)(hk:EV X W k dk)(hs:NoSl k)(hv:Vis X.env.scope x:=by first | exact yg rfl | exact yC (yg rfl) | exact yC (yC rfl))(hd:(x == ("__debug__" : Str))=false:=by decide)
  (hcd:(x == ("__classdict__" : Str))=false:=by decide):EV X W (.Subscript (.Name x p) k pos) (zkd i dk):=
 ZF (ziR hu (U3 hi hv hd hcd) hk hs) λσ H Q ⟨G,P,h,q⟩=>by
  unfold zkd at q;split at q
  ·rename_i es eg;obtain⟨pp,kvs,ev,ep,eh,rk⟩:=h.sl i _ eg;refine⟨.ref pp,getD_some ev,G,P,h,?_⟩;cases ek:dk G with
   | stuck=>rw[ek] at q;exact q
   | exc c=>rw[ek] at q;exact q
   | ok y=>
    rw[ek,Res.bind_ok] at q;intro u H1 s1 ru;split at q
    ·rename_i ns ey;have h1:=h.same s1;obtain⟨pp',kvs',ev',ep',eh',rk'⟩:=h1.sl i _ eg;rw[ev] at ev';cases ev';obtain⟨b,rfl,hb⟩:=zgs ey ru;rcases zaL ns rk' with ⟨e1,e2⟩ | ⟨t,v,e1,e2,rv⟩
     ·rw[e1] at q;exact q.elim
     ·rw[e1] at q;exact⟨pp,v,rfl,by rw[<- e2];exact DGet.t eh' hb,q v H1 s1 rv⟩
    ·exact q.elim
  ·exact q.elim
theorem ss_putN{pos':Pos}(hu:X.A.units+1 < cLine)(hi:X.N[i]? = some x)(hk:EV X W k dk)(he:EV X W e da)(hv:Vis X.env.scope x:=by first | exact yg rfl | exact yC (yg rfl) | exact yC (yC rfl))(hd:(x == ("__debug__" : Str))=false:=by decide)
  (hcd:(x == ("__classdict__" : Str))=false:=by decide) (hs:jv e (some (.Subscript (.Name x p) k pos')) pos.line X.env=pure false:=by rfl):SV X W fl (.Assign [.Subscript (.Name x p) k pos'] e pos) (zkb i dk da):=
 Xh (ps_dput hu (U3 hi hv hd hcd) hk he hs) λD σ H ⟨G,P,h,q⟩=>by
  unfold zkb at q;obtain⟨q1,q2,q3⟩:=zaf q;refine ZE h (λc e H' s=>q1 c e H' P (.same s)) q2 λt v H1 et s1 h1 rt=>?_
  have q4:=q3 t et;split at q4
  ·rename_i hdc;obtain⟨es,eg⟩:∃es,G[i]? = some (.dct es):=by
    unfold isDct at hdc;split at hdc
    ·rename_i es eg;exact⟨es,eg⟩
    ·cases hdc
   obtain⟨pp,kvs,ev,ep,eh,rk⟩:=h1.sl i _ eg;refine⟨.ref pp,getD_some ev,?_⟩;obtain⟨q5,q6,q7⟩:=zaf q4;refine ZE h1 (λc e H' s=>q5 c e H' P ((Go.same s1).trans (.same s))) q6 λy u H2 ey s2 h2 ru=>?_
   have q8:=q7 y ey;unfold ziG at q8;rw[eg] at q8;cases en:Vy y with
   | none=>rw[en] at q8;exact q8.elim
   | some ns=>
    rw[en] at q8;simp only at q8;split at q8
    ·rename_i hl;obtain⟨pp',kvs',ev',ep',eh',rk'⟩:=h2.sl i _ eg;rw[ev] at ev';cases ev';obtain⟨b,rfl,hb⟩:=zgs en ru;have hlen:=zfm rk';refine⟨pp,_,rfl,DPut.t eh' hb (by rw[j9];omega),?_⟩
     exact q8 _ _ P (((Go.same s1).trans (.same s2)).trans (go_up h2 ep')) (h2.upDct eg ep' (rlk_put ns rk' (Rl.go (.same s2) t v rt)))
    ·exact q8.elim
  ·exact q4.elim
theorem ss_ifG{y z:List ym}{dc:DT}{dx dy:DS}(hc:TV X W c dc)(hx:SVs X W fl y dx)(hy:SVs X W fl z dy):SV X W fl (.If c y z pos) (dIfG dc dx dy):=
 Xh (ps_if hc hx hy) λD σ H ⟨G,P,h,q⟩=>by
  unfold dIfG at q;obtain⟨q1,q2,q3⟩:=zkm q;refine VG h (λc e H' s=>q1 c e H' P (.same s)) q2 λk H1 ek s1 _=>?_
  have q4:=q3 k ek;cases k with
  | true=>exact iteT ⟨G,P,h.same s1,W0.up q4 (.same s1)⟩
  | false=>exact iteF ⟨G,P,h.same s1,W0.up q4 (.same s1)⟩
theorem ss_retD(hi:X.N[i]? = some x)(hv:Vis X.env.scope x:=by first | exact yg rfl | exact yC (yg rfl) | exact yC (yC rfl))(hd:(x == ("__debug__" : Str))=false:=by decide)
  (hcd:(x == ("__classdict__" : Str))=false:=by decide):SV X W false (.Return (some (.Name x p)) pos) (dRetD i):=
 Xh (ziL (pe_frz (U3 hi hv hd hcd))) λD σ H ⟨G,P,h,q⟩=>by
  unfold dRetD at q;split at q
  ·rename_i es eg;obtain⟨pp,kvs,ev,ep,eh,rk⟩:=h.sl i _ eg;refine⟨.ref pp,getD_some ev,pp,kvs,rfl,eh,λob=>?_⟩
   have g1:Go H P (upd H pp (.frz ob (.dT kvs))) P:=go_up h ep;have g2:Go H P (upd H pp (.frz ob (.dT kvs))) (P.del i):=g1.trans .del;have off:Off (P.del i) pp:=⟨λj z=>by
    have z':(if j=i then none else P.own j)=some pp:=z
    split at z'
    ·cases z'
    ·rename_i ne;exact ne (h.inj j i pp z' ep),h.nfb i pp ep⟩
   exact q (.ref pp) _ (P.del i) g2 (zdc.mpr ⟨pp,ob,kvs,rfl,Zt,off,Rlk.go g2.tr es kvs rk⟩) λz=>by cases z
  ·exact q.elim
theorem ev_getD(hu:X.A.units+1 < cLine)(ha:EV X W a da)(hk:EV X W k dk)(hs:NoSl k):EV X W (.Subscript a k pos) (d2 fGetD da dk):=
 ZF (ziR hu ha hk hs) λσ H Q ⟨G,P,h,q⟩=>by
  unfold d2 at q;obtain⟨q1,q2,q3⟩:=VV q;refine ZE h q1 q2 λtx v H1 ex s1 h1 rx=>?_
  obtain⟨q4,q5,q6⟩:=VV (q3 tx ex);refine ZE h1 (λc e H' s=>q4 c e H' (s1.trans s)) q5 λty u H2 ey s2 h2 ru=>?_
  have q7:=q6 ty ey;unfold fGetD at q7;split at q7
  ·rename_i es;split at q7
   ·rename_i ns en;obtain⟨pp,ob,kvs,rfl,eh,off,rk⟩:=zdc.mp (Rl.go (.same s2) _ _ rx);obtain⟨b,rfl,hb⟩:=zgs en ru;rcases zaL ns rk with ⟨e1,e2⟩ | ⟨t,w,e1,e2,rw'⟩
    ·rw[e1] at q7;exact q7.elim
    ·rw[e1] at q7;exact⟨pp,w,rfl,.inr ⟨kvs,Wc ns,b,.inr ⟨ob,eh⟩,rfl,hb,e2.symm⟩,q7 w H2 (s1.trans s2) rw'⟩
   ·exact q7.elim
  ·exact q7.elim
theorem ev_join(ha:EV X W e da)(hb:EV X W e db):EV X W e (dJ da db):=λpins s σ H Q I ⟨G,P,h,q⟩=>by
 unfold dJ at q;cases ed:da G with
 | stuck=>rw[ed] at q;exact hb pins s σ H Q I ⟨G,P,h,q⟩
 | exc c=>rw[ed] at q;exact ha pins s σ H Q I ⟨G,P,h,by rw[ed];exact q⟩
 | ok t=>rw[ed] at q;exact ha pins s σ H Q I ⟨G,P,h,by rw[ed];exact q⟩
end
section
variable {prog:y6}{w:y3}{A:yB}{E:yb->ye->Prop}{s:ye}{d it:yc}{od:Obj}{es:Array DictEntry}{ep i:Nat}
theorem dit_new{Q:yb->ye->Prop}(hd:(d == jK)=false)(ho:s.heap.get? d=some od)(hc:od.ExactDict)(hes:od.data=.dict es ep)
  (q:Q (.ref s.heap.objs.size) { s with heap:=s.heap.push { cls:=.type "dict_keyiterator",data:=.fields #[.ref d,.int 0 0,.int es.size 0,.int ep 0] } }):yi (yk prog w) A (pyIter (.ref d)) Q E s:=by
 have ty:s.TypeIs (.ref d) "dict":=⟨od,ho,hc.1⟩;refine wpAny_pyIter_slot ty ycy (qb ycy ty PySem.F.entry_dict_iter ?_ (PySem.F.args_dict_iter_1 _));unfold y9.«dict.__iter__»;refine yf ?_;unfold y9.Dict.dictSlotNone;refine yf (wpAny_notOrdered_dict ty ?_);show yi _ _ (pure (yb.ref d)) _ _ s;refine yt ?_;show yi _ _ (y9.Dict.showsAll d >>= _) _ _ s;unfold y9.Dict.showsAll;rw[if_neg (by rw[hd];decide)];refine yf (yt ?_)
 refine yf (wpAny_dictEntries ho hes ?_);refine yf (wpAny_dictEpoch ho hes ?_);refine yf (jN (yt ⟨_,rfl,"dict_keyiterator",_,⟨_,yN _ rfl,rfl⟩,qX.lookup,?_⟩));simpa[rawInt] using q
theorem dit_item{e:DictEntry}{Q:Option yb->ye->Prop}(hi:s.heap.IsKeyIter it d i es.size ep)(hd:s.heap.get? d=some od)(hes:od.data=.dict es ep)(he:es[i]? = some e)
  (q:∀h',h'.IsKeyIter it d (i+1) es.size ep->qf it s.heap h'->Q (some e.key) { s with heap:=h' }):yi (yk prog w) A (pyNext (.ref it)) Q E s:=by
 obtain⟨oi,h1,h2,h3⟩:=id hi;have lt:i < es.size:=(ycl.mp he).1;have eq:es[i]=e:=(ycl.mp he).2;unfold pyNext;refine yf (wpAny_attempt (qj (name:=Str.ofString "__next__") hi.typeIs qX (qb qX hi.typeIs ycj ?_ (yci _))));refine yf (yt ?_);refine yf ?_;refine yf ?_
 first | refine yf (yar hi.typeIs (yt ?_)) | refine yf (yas hi.typeIs (yt ?_))
 refine yf (wpAny_fieldsOf h1 h3 ?_);have own:y9.Dict_items.ownsTuple "dict_keyiterator" = false:=by decide
 simp only[own,yac,if_false];show yi _ _ (if(yb.ref d == yb.none)=true then _ else _) _ _ s;rw[if_neg (show ¬((yb.ref d == yb.none)=true) from jz)]
 refine yf (yt ?_);refine yf (wpAny_dictEntries hd hes ?_);rw[if_neg (by simp)]
 refine yf (yt ?_);refine yf (wpAny_dictEpoch hd hes ?_);rw[if_neg (by simp)]
 refine yt ?_;simp only[show ¬((i:Int) < 0) from by omega,if_false,yad,Array.getElem?_eq_getElem lt,eq]
 refine yf ?_
 first | refine yf (yar hi.typeIs (yt ?_)) | refine yf (yas hi.typeIs (yt ?_))
 refine yf (wpAny_isOneOf_keyiter hi.typeIs ?_);show yi _ _ (setField (.ref it) 1 (rawInt ((i:Int)+1)) >>= _) _ _ s;refine yf (wpAny_setField h1 h3 (by simp) ?_)
 have nx:(s.heap.update it (Obj.mapFields (·.setIfInBounds 1 (rawInt ((i:Int)+1))))).IsKeyIter it d (i+1) es.size ep:=⟨_,ybm _ h1 (Obj.isFreed_of_fields (yay h3 _)),(Obj.cls_mapFields ..).trans h2,by rw[yay h3];simp[rawInt]⟩
 refine yf (jT ?_);refine yf (wpAny_isOneOf_keyiter (s:={ s with heap:=s.heap.update it (Obj.mapFields (·.setIfInBounds 1 (rawInt ((i:Int)+1)))) }) nx.typeIs ?_)
 show yi _ _ (pure e.key) _ _ _;exact yt (yt ⟨_,rfl,yt (q _ nx (yd.SameBut.update ..))⟩)
theorem dit_end{Q:Option yb->ye->Prop}(hh:A.handled=none)(hi:s.heap.IsKeyIter it d i es.size ep)(hd:s.heap.get? d=some od)(hes:od.data=.dict es ep)(ge:es.size<=i)
  (q:∀h',yd.ExtBut it s.heap h'->Q none { s with heap:=h' }):yi (yk prog w) A (pyNext (.ref it)) Q E s:=by
 obtain⟨oi,h1,h2,h3⟩:=id hi;unfold pyNext;refine yf (wpAny_attempt (qj (name:=Str.ofString "__next__") hi.typeIs qX (qb qX hi.typeIs ycj ?_ (yci _))));refine yf (yt ?_);refine yf ?_;refine yf ?_
 first | refine yf (yar hi.typeIs (yt ?_)) | refine yf (yas hi.typeIs (yt ?_))
 refine yf (wpAny_fieldsOf h1 h3 ?_);have own:y9.Dict_items.ownsTuple "dict_keyiterator" = false:=by decide
 simp only[own,yac,if_false];show yi _ _ (if(yb.ref d == yb.none)=true then _ else _) _ _ s;rw[if_neg (show ¬((yb.ref d == yb.none)=true) from jz)]
 refine yf (yt ?_);refine yf (wpAny_dictEntries hd hes ?_);rw[if_neg (by simp)]
 refine yf (yt ?_);refine yf (wpAny_dictEpoch hd hes ?_);rw[if_neg (by simp)]
 refine yt ?_;simp only[show ¬((i:Int) < 0) from by omega,if_false,yad,Array.getElem?_eq_none ge]
 refine yf ?_
 first | refine yf (yar hi.typeIs (yt ?_)) | refine yf (yas hi.typeIs (yt ?_))
 show yi _ _ (setField (.ref it) 0 .none >>= _) _ _ s;refine yf (wpAny_setField h1 h3 (by simp) ?_)
 show yi _ _ (newExc (.type "StopIteration") [] >>= _) _ _ _;refine yf ?_;simp only[newExc,newTuple];refine yf (jN ?_ (by size_fits))
 refine yf (m:=firstArgMember _ _) (wpAny_of_eq (a:=yb.none) (by first | rfl | (simp only[firstArgMember];rfl)) ?_);refine jN ?_ (by size_fits)
 simp only[raiseNew];refine yf (wpAny_handled ?_);rw[show A.in1.handled=none from hh];refine yf (yt (wpAny_throw ?_));refine yf (wpAny_isInstance (T:="StopIteration") (b:=true) ⟨_,yN _ rfl,rfl⟩ isSubtype_stop ?_);exact yt (q _ (((yd.SameBut.update ..).extBut.push _).push _))
end
def Itd(ob:Obj)(es:Array DictEntry)(a:yc):It:=
 ⟨λi H=>(∃kvs,H a=some (.frz ob (.dT kvs)))/\∃e b,es[i]? = some e/\e.key=.ref b,λi H x H'=>H'=H/\∃e b,es[i]? = some e/\e.key=.ref b/\x=.ref b,λi H=>(∃kvs,H a=some (.frz ob (.dT kvs)))/\es.size<=i⟩
theorem zh5{P:y6}{w:y3}{K:yh}{tg:yj}(a it:yc){ob:Obj}{es:Array DictEntry}{ep:Nat}(hob:ob.data=.dict es ep):Turn P w K tg (Itd ob es a) [it] it (λi h=>h.IsKeyIter it a i es.size ep) where
 mem:=by simp
 obj:=λi h st b hb=>by
  have e:b=it:=by simpa using hb
  subst e;obtain⟨o,e,c,d⟩:=st;exact⟨o,e,λv z=>by rw[d] at z;cases z⟩
 keep:=λi h h' st k=>st.at λo e=>k it (by simp) o e
 item:=by
  intro X hP hw hK hc i pins s σ H E I hf st hg;subst hP hw hK;obtain⟨⟨kvs,hq⟩,en,b,he,hk⟩:=hg;obtain⟨hp,_⟩:=I.hok a _ hq;obtain⟨f0,f1,f2,f3,f4,f5⟩:=hf it (by simp)
  refine dit_item st hp hob he λh' st' sb=>?_
  have I1:Inv X pins σ H { s with heap:=h' }:=I.turned (t':=s.toks) (λb o hb e=>(sb.2 b hb).trans e) f0 f1 f3 f4 f5
  obtain⟨o,e,c,d⟩:=id st';refine⟨en.key,rfl,go_of (s:={ s with heap:=h' }) e c d (by decide) ⟨.ref b,H,I1,?_,⟨rfl,en,b,he,hk,rfl⟩,st',λb hb=>(hf b hb).1⟩⟩
  rw[hk];rfl
 done:=by
  intro X hP hw hK hc i pins s σ H E I hf st hg;subst hP hw hK;obtain⟨⟨kvs,hq⟩,ge⟩:=hg;obtain⟨hp,_⟩:=I.hok a _ hq;obtain⟨f0,f1,f2,f3,f4,f5⟩:=hf it (by simp)
  exact dit_end (I.ok.hd hc) st hp hob ge λh' eb=>⟨rfl,I.turned (t':=s.toks) (λb o hb e=>eb b o hb e) f0 f1 f3 f4 f5⟩
 self:=λ_ _ _ _ _ st h=>wpAny_pyIter_keyiter st h
def KeysAt(H:Hp)(es:Array DictEntry)(kvs:List (List Key × V)):Prop:=es.size=kvs.length/\∀(i:Nat) (ks:List Key) (v:V),kvs[i]? = some (ks,v)->∃(e:DictEntry) (b:yc),es[i]? = some e/\e.key=.ref b/\H b=some (.tup (ks.map kV))
theorem zcj{α β:Type}{F:α->β->Prop}:∀{l₁:List α}{l₂:List β},Paired F l₁ l₂->∀(i:Nat) (a:α),l₁[i]? = some a->∃b,l₂[i]? = some b/\F a b
 | _,_,.nil,i,a,e=>by simp at e
 | _,_,.cons r t,0,a,e=>by simp at e;subst e;exact⟨_,rfl,r⟩
 | _,_,.cons r t,i+1,a,e=>by simpa using zcj t i a (by simpa using e)
def iDk(tl:TE):TI:=λσ H R=>tl σ H λx H1=>∃a ob kvs,x=.ref a/\H1 a=some (.frz ob (.dT kvs))/\∀es,KeysAt H1 es kvs->R (Itd ob es a) H1
section
variable {X:Cx}{W:Str->Hp->Prop}{fl:Bool}{tg a e:yj}{da:DE}{pos:Pos}{i:Nat}{x:Str}
theorem pi_dk{l:yj}{tl:TE}(hl:PE X l tl):PI X tg l (iDk tl):=by
 intro pins s σ H R I h;refine thn (hl pins s σ H _ I h) λv s1 ⟨u,H1,I1,r1,a,ob,kvs,eu,hq,q⟩=>?_
 subst eu;cases r1;obtain⟨hp,_,hsm,xs,pr,od,es,ep,h1,h2,h3,h4,_⟩:=I1.hok a _ hq;rw[hp] at h1;cases h1;have hk:KeysAt H1 es kvs:=by
  refine⟨by rw[<- yab,h4,jm,<- Paired.length pr],λi ks v e=>?_⟩
  obtain⟨p,hx,e1,e2,_⟩:=zcj pr i _ e;refine⟨entryOfKey (tupleKind (Xi X.prog X.w)) p,p.2.1,?_,rfl,e2⟩;rw[<- Array.getElem?_toList,h4,jc,hx];rfl
 refine dit_new hsm hp h2 h3 ?_;refine⟨s1.heap.objs.size,[s1.heap.objs.size],_,_,H1,rfl,I1.kept (t':=s1.toks) λb o e=>yA _ e,zh5 a _ h3,⟨_,yN _ rfl,rfl,rfl⟩,λb hb=>?_,q es hk⟩
 have e:b=s1.heap.objs.size:=by simpa using hb
 subst e;exact I1.fpOk (yq _) (I1.hok.fresh (yq _))
theorem rlk_at{K:yh}{H:Hp}{P:Pv}:∀{es:List (ya × ya)}{kvs:List (List Key × V)},Rlk K H P es kvs->∀(i:Nat) (k t:ya),es[i]? = some (k,t)->∃ns v,kvs[i]? = some (Wc ns,v)/\k=.tuple (ns.map .int)
 | [],kvs,r,i,k,t,e=>by simp at e
 | (k',t')::es,kvs,r,i,k,t,e=>by
  obtain⟨ms,v,r',rfl,rfl,rv,rr⟩:=Wr.mp r;cases i with
  | zero=>cases e;exact⟨ms,v,rfl,rfl⟩
  | succ i=>simpa using rlk_at rr i k t (by simpa using e)
theorem iv_keys(ha:EV X W a da):IV X W tg a (iKeys da):=
 zdg (pi_dk ha) λσ H R ⟨G,P,h,q⟩=>by
  unfold iKeys at q;obtain⟨q1,q2,q3⟩:=zkn q;refine ZE h q1 q2 λtx v H1 ex s1 h1 rx=>?_
  have q4:=q3 tx ex;split at q4
  ·rename_i es;obtain⟨l,ob,kvs,rfl,hl,off,rk⟩:=zdc.mp rx;refine⟨l,ob,kvs,rfl,hl,λds hk=>q4 _ H1 s1 λH' P' tr nf i=>⟨λt et=>?_,λhge=>?_⟩⟩
   ·rw[jc] at et;cases ee:es[i]? with
    | none=>rw[ee] at et;cases et
    | some kt=>
     rw[ee] at et;cases et;obtain⟨ns,v,ev,ek⟩:=rlk_at rk i kt.1 kt.2 ee;obtain⟨en,b,e1,e2,e3⟩:=hk.2 i _ v ev;have hb:=tr b _ e3 nt_tup (h1.tup_off e3);refine⟨⟨⟨kvs,(tr l _ hl zck off).1⟩,en,b,e1,e2⟩,λy H'' yy=>?_⟩
     obtain⟨rfl,en',b',e1',e2',rfl⟩:=yy;rw[e1] at e1';cases e1';rw[e2] at e2';cases e2';rw[zgt] at hb;exact⟨Same.refl _,by show Rl _ _ _ kt.1 _;rw[ek];exact ZN.mpr ⟨b,ns.map V.int,rfl,hb,zga ns⟩⟩
   ·exact⟨⟨kvs,(tr l _ hl zck off).1⟩,by rw[hk.1,<- zfm rk];simpa using hge⟩
  ·exact q4.elim
theorem ss_ext{o:DA}{p1 p2 p3:Pos}(hi:X.N[i]? = some x)(he:OV X W e o)(hv:Vis X.env.scope x:=by first | exact yg rfl | exact yC (yg rfl) | exact yC (yC rfl))(hd:(x == ("__debug__" : Str))=false:=by decide)
  (hcd:(x == ("__classdict__" : Str))=false:=by decide) (hsw:jv (.Call (.Attribute (.Name x p1) "extend" p2) [e] [] p3) none pos.line X.env=pure false:=by rfl)
  (hbase:attributeBase (.Name x p1) "extend" X.env (yz (.Name x p1) X.env)=yz (.Name x p1) X.env:=by rfl)
  (hfew:((backTo p3 (yp [e] X.env)).all (λx=>!x.1) && (backToKw p3 (keywordEach [] X.env)).all (λx=>x.1.isSome)
   && decide (([e]:List yj).length+([]:List Keyword).length+(if([]:List Keyword).isEmpty then 0 else 1) < 30))=true:=by rfl)
  (hline:(p2.endLine == p3.line)=true:=by rfl) (hs:yp [e] X.env=(false,yz e X.env)::yp [] X.env:=by rfl) :
  SV X W fl (.Expr (.Call (.Attribute (.Name x p1) "extend" p2) [e] [] p3) pos) (dExt i o):=
 Xh (zfn (pe_bm ycr PySem.F.slot_list_extend PySem.F.type_list_extend zjb (U3 hi hv hd hcd) (Yn he X9 hs) hbase hfew hline hs rfl) hsw) λD σ H ⟨G,P,h,q⟩=>by
  unfold dExt at q;split at q
  ·rename_i ho;obtain⟨xs0,e0⟩:=zdz ho;obtain⟨p,vs,ev,ep,eh,rs⟩:=h.sl i _ e0;refine⟨.ref p,getD_some ev,.inl ⟨rfl,vs,SqL.of eh⟩,G,P,h,?_⟩;cases eo:o G with
   | stuck=>rw[eo] at q;exact q.elim
   | exc c=>rw[eo] at q;exact λH' s=>q H' P (.same s)
   | ok ts=>
    rw[eo,Res.bind_ok] at q;intro b us H1 s1 hb hl rb;unfold extOwn at q;rw[e0] at q;simp only at q;split at q
    ·rename_i hz;have h1:=h.same s1;obtain⟨p',vs',ev',ep',eh',rs'⟩:=h1.sl i _ e0;rw[ev] at ev';cases ev';have l1:=rs'.length;have l2:=rb.length;obtain⟨h4,g4⟩:=h1.upOwn e0 ep' (rs'.append (Rls.go .fbd ts us rb));exact⟨p,b,vs',us,rfl,rfl,eh',hl,by rw[j9];omega,q σ _ P ((Go.same s1).trans g4) h4⟩
    ·exact q.elim
  ·exact q.elim
end
theorem u1{n c:Nat}(h:n+64 < c):n+1 < c:=by omega
section
variable {X:Cx}{pins:List (yc × Obj)}{σ:L2.St}{H:Hp}{l I S:yc}{R:Result->ye->Prop}{ks:List Int}{dv:yb}
end
section
variable {X:Cx}{W:Str->Hp->Prop}{a:yj}{da:DE}{pos:Pos}
end
end Fx
namespace K11
open PySem Fx Lw Lq
def zcV:List Sl->Nat:=λ_=>1000
def zdN:DS:=
  (dRet (dVar 0))
def zgS:DS:=
  dSeq (Qf zcV (tV (d2 fLt (dVar 1) (d1 fLen (d2 fIx (dVar 0) (dC (.int 1))))))
  (dIf (tV (Zi Xc (Zc (dVar 0) (Zc (dVar 1) dNil))))
  (dSet 0 [] (Zi Wd (Zc (dVar 0) (Zc (dVar 1) dNil))))
  (dSet 1 [] (d2 fAdd (dVar 1) (dC (.int 1))))))
  zdN
def d_lean:DS:=
  dSeq (dSet 1 [] (dC (.int 0)))
  zgS
def zcr:DF:=runQ 2 1 d_lean
def zdM:DS:=
  (dRet (dJ (d2 fAdd (dL (oCut (dVar 0) pNo (pAt (dVar 1)))) (dL (oCut (dVar 0) (pAt (d2 fAdd (dVar 1) (dC (.int 1)))) pNo))) (d2 fAddU (zeR (dVar 0) pNo (pAt (dVar 1))) (zeR (dVar 0) (pAt (d2 fAdd (dVar 1) (dC (.int 1)))) pNo))))
def Xn:DF:=runQ 2 2 zdM
def zcF:DS:=
  (dRet (dTup (Zc (Zi Xn (Zc (dVar 5) (Zc (dVar 2) dNil))) (Zc (d2 fAdd (d2 fMul (dVar 3) (d2 fIx (dVar 0) (dC (.int 1)))) (d2 fMul (dVar 4) (d2 fIx (dVar 1) (dC (.int 1))))) dNil))))
def zcG:DS:=
  dSeq (dSet 5 [] (dL (YS 2 [3,4] (V6 0 1) (iZip (iSeq (d2 fIx (dVar 0) (dC (.int 0)))) (iSeq (d2 fIx (dVar 1) (dC (.int 0))))) tT (d2 fAdd (d2 fMul (dVar 2) (dVar 0)) (d2 fMul (dVar 3) (dVar 1))))))
  zcF
def zcH:DS:=
  dSeq (dSet 4 [] (d2 fIx (d2 fIx (dVar 0) (dC (.int 0))) (dVar 2)))
  zcG
def zgW:DS:=
  dSeq (dSet 3 [] (d1 fNeg (d2 fIx (d2 fIx (dVar 1) (dC (.int 0))) (dVar 2))))
  zcH
def VQ:DF:=runQ 6 3 zgW
def WT:DS:=
  (dRet (dVar 2))
def Ur:DS:=
  dSeq (dFor (Zu 5) [] (iSeq (dVar 3))
  (dExt 2 (YS 1 [5,1] (Zu 0) (iSeq (dVar 4)) tT (Zi VQ (Zc (dVar 1) (Zc (dVar 0) (Zc (dVar 2) dNil)))))))
  WT
def Us:DS:=
  dSeq (dSet 4 [] (dL (YS 1 [1] (Zu 0) (iSeq (dVar 0)) (tV (d2 fLt (d2 fIx (d2 fIx (dVar 0) (dC (.int 0))) (dVar 1)) (dC (.int 0)))) (dVar 0))))
  Ur
def Ut:DS:=
  dSeq (dSet 3 [] (dL (YS 1 [1] (Zu 0) (iSeq (dVar 0)) (tV (d2 fGt (d2 fIx (d2 fIx (dVar 0) (dC (.int 0))) (dVar 1)) (dC (.int 0)))) (dVar 0))))
  Us
def QV:DS:=
  dSeq (zal 2 [] (YS 1 [1] (Zu 0) (iSeq (dVar 0)) (tV (d2 fEq (d2 fIx (d2 fIx (dVar 0) (dC (.int 0))) (dVar 1)) (dC (.int 0)))) (dTup (Zc (Zi Xn (Zc (d2 fIx (dVar 0) (dC (.int 0))) (Zc (dVar 1) dNil))) (Zc (d2 fIx (dVar 0) (dC (.int 1))) dNil)))))
  Ut
def XI:DF:=runQ 6 2 QV
def X7:DS:=
  (dRet (d2 fMax (dVar 1) (dC (.int 1))))
def Qd:DS:=
  dSeq (dFor (Zu 2) [] (iSeq (dVar 0))
  (dSet 1 [] (Zi ZR (Zc (dVar 1) (Zc (dVar 2) dNil)))))
  X7
def UD:DS:=
  dSeq (dSet 1 [] (dC (.int 0)))
  Qd
def YV:DF:=runQ 3 1 UD
def Wl:DS:=
  (dRetD 1)
def V2:DS:=
  dSeq (dFor (Zu 2) [] (iSeq (dVar 0))
  (dSeq (dSet 3 [] (Zi YV (Zc (d2 fIx (dVar 2) (dC (.int 0))) dNil)))
  (dSeq (dSet 4 [] (d1 U6 (dL (YS 1 [3] (Zu 0) (iSeq (d2 fIx (dVar 2) (dC (.int 0)))) tT (d2 fDiv (dVar 0) (dVar 1))))))
  (dSeq (dSet 5 [] (Zi Yr (Zc (d2 fIx (dVar 2) (dC (.int 1))) (Zc (dVar 3) dNil))))
  (dIfG (tOr (tV (zbD 1 (dVar 4))) (tV (Zi WS (Zc (dVar 5) (Zc (zkd 1 (dVar 4)) dNil)))))
  (zkb 1 (dVar 4) (dVar 5))
  ZD)))))
  Wl
def U9:DS:=
  dSeq (dNewD 1)
  V2
def Xl:DF:=runQ 6 1 U9
def QR:DS:=
  (dRet (dTup (Zc (d1 U6 (dL (YS 1 [1] (Zu 0) (iSeq (dVar 0)) tT (d2 fMul (dVar 0) (d2 fIx (dVar 1) (dC (.int 1))))))) (Zc (d2 fIx (dVar 1) (dC (.int 0))) dNil))))
def Y9:DF:=runQ 2 2 QR
def zbv:DS:=
  (dRet (Zi zcr (Zc (dTup (Zc (d2 fSub (d2 fIx (dVar 0) (dC (.int 0))) (dC (.int 1))) (Zc (d1 U6 (dL (YS 1 [2] (Zu 0) (iKeys (dVar 2)) tT (Zi Y9 (Zc (dVar 0) (Zc (d2 fGetD (dVar 1) (dVar 0)) dNil)))))) dNil))) dNil)))
def zbw:DS:=
  dSeq (dSet 2 [] (Zi Xl (Zc (Zi XI (Zc (d2 fIx (Zi zcr (Zc (dVar 0) dNil)) (dC (.int 1))) (Zc (dVar 1) dNil))) dNil)))
  zbv
def zbx:DS:=
  dSeq (dIf (tV (d2 fEq (d2 fIx (dVar 0) (dC (.int 0))) (dC (.int 1))))
  dNev
  ZD)
  zbw
def zeM:DS:=
  dSeq (zfT (Zi Ya (Zc (d2 fIx (dVar 0) (dC (.int 0))) (Zc (dVar 1) dNil))))
  zbx
def Uh:DF:=runQ 3 2 zeM
def V1:DS:=
  (dRet (dTup (Zc (dTup (Zc (d2 fMul (d2 fIx (d2 fIx (dVar 0) (dC (.int 0))) (dVar 1)) (d2 fIx (dVar 3) (dC (.int 1)))) dNil)) (Zc (d2 fIx (dVar 3) (dC (.int 0))) dNil))))
def U8:DS:=
  dSeq (dSet 3 [] (Zi za6 (Zc (dTup (Zc (d2 fIx (dVar 0) (dC (.int 1))) (Zc (dC (.int 1)) dNil))) (Zc (Zi X6 (Zc (Zi Xn (Zc (d2 fIx (dVar 0) (dC (.int 0))) (Zc (dVar 1) dNil))) (Zc (dVar 2) dNil))) dNil))))
  V1
def YN:DF:=runQ 4 3 U8
def U0:DS:=
  (dRet (dIfE (tV (d2 fEq (d2 fIx (dVar 3) (dC (.int 0))) (dC (.str (PySem.Str.ofString "point"))))) (d2 fIx (d2 fIx (dVar 3) (dC (.int 1))) (dC (.int 0))) (dC .none)))
def zcJ:DS:=
  dSeq (dSet 3 [] (Zi W8 (Zc (dTup (Zc (dC (.int 1)) (Zc (d1 U6 (dL (YS 1 [1,2] (Zu 0) (iSeq (d2 fIx (dVar 0) (dC (.int 1)))) tT (Zi YN (Zc (dVar 0) (Zc (dVar 1) (Zc (dVar 2) dNil))))))) dNil))) dNil)))
  U0
def zcK:DS:=
  dSeq (zfT (Zi XM (Zc (d2 fSub (d2 fIx (dVar 0) (dC (.int 0))) (dC (.int 1))) (Zc (dVar 2) dNil))))
  zcJ
def zgY:DS:=
  dSeq (zfT (Zi Ya (Zc (d2 fIx (dVar 0) (dC (.int 0))) (Zc (dVar 1) dNil))))
  zcK
def UW:DF:=runQ 4 3 zgY
def WX:DS:=
  (dRet (dC (.bool true)))
def Uv:DS:=
  dSeq (dFor (Zu 2) [] (iSeq (d2 fIx (dVar 0) (dC (.int 1))))
  (dSeq (dIf (tOr (tNot (tV (d1 (fIs Qp) (dVar 2)))) (tOr (tV (d2 fNe (d1 fLen (dVar 2)) (dC (.int 2)))) (tV (d2 fNe (d1 fLen (d2 fIx (dVar 2) (dC (.int 0)))) (dVar 1)))))
  (dRet (dC (.bool false)))
  ZD)
  (dFor (Zu 3) [] (iSeq (d2 fAdd (dL (zdp (d2 fIx (dVar 2) (dC (.int 0))))) (dLst (Zc (d2 fIx (dVar 2) (dC (.int 1))) dNil))))
  (dIf (tNot (tV (Zi Yg (Zc (dVar 3) dNil))))
  (dRet (dC (.bool false)))
  ZD))))
  WX
def Q0:DS:=
  dSeq (dIf (tOr (tNot (tV (d1 (fIs Qp) (dVar 0)))) (tOr (tV (d2 fNe (d1 fLen (dVar 0)) (dC (.int 2)))) (tV (d2 fNe (d2 fIx (dVar 0) (dC (.int 0))) (dVar 1)))))
  (dRet (dC (.bool false)))
  ZD)
  Uv
def XJ:DF:=runQ 4 2 Q0
def zcB:DS:=
  (dRet (Zi Yw (Zc (d2 fIx (dVar 0) (dC (.int 0))) (Zc (d2 fMul (d2 fIx (dVar 0) (dC (.int 1))) (dVar 1)) dNil))))
def ZX:DF:=runQ 2 2 zcB
def YO:DS:=
  (dRet (dOrV (d1 fIsN (dVar 3)) (dOrV (d1 fIsN (dVar 4)) (zkc (Zi ZW (Zc (dVar 4) (Zc (dVar 3) dNil)))))))
def Qb:DS:=
  dSeq (dFor (Zu 5) [] (iSeq (dVar 0))
  (dSeq (dSet 6 [] (d2 fAdd (dL (oCut (d2 fIx (dVar 5) (dC (.int 0))) pNo (pAt (dVar 1)))) (dL (oCut (d2 fIx (dVar 5) (dC (.int 0))) (pAt (d2 fAdd (dVar 1) (dC (.int 1)))) pNo))))
  (dSeq (dSet 7 [] (Zi XL (Zc (dTup (Zc (d2 fIx (dVar 5) (dC (.int 1))) (Zc (dC (.int 1)) dNil))) (Zc (Zi Yp (Zc (dVar 6) (Zc (dVar 2) dNil))) (Zc (dTup (Zc (d1 fNeg (dC (.int 1))) (Zc (dC (.int 1)) dNil))) dNil)))))
  (dSeq (dSet 8 [] (d2 fIx (d2 fIx (dVar 5) (dC (.int 0))) (dVar 1)))
  (dSeq (dIf (tAnd (tV (d2 fEq (dVar 8) (dC (.int 0)))) (tV (d2 fLt (d2 fIx (dVar 7) (dC (.int 0))) (dC (.int 0)))))
  (dRet (dC (.bool false)))
  ZD)
  (dSeq (dIf (tAnd (tV (d2 fGt (dVar 8) (dC (.int 0)))) (tOr (tV (d1 fIsN (dVar 4))) (tV (Zi ZW (Zc (Zi ZX (Zc (dVar 7) (Zc (dVar 8) dNil))) (Zc (dVar 4) dNil))))))
  (dSet 4 [] (Zi ZX (Zc (dVar 7) (Zc (dVar 8) dNil))))
  ZD)
  (dIf (tAnd (tV (d2 fLt (dVar 8) (dC (.int 0)))) (tOr (tV (d1 fIsN (dVar 3))) (tV (Zi ZW (Zc (dVar 3) (Zc (Zi ZX (Zc (dVar 7) (Zc (dVar 8) dNil))) dNil))))))
  (dSet 3 [] (Zi ZX (Zc (dVar 7) (Zc (dVar 8) dNil))))
  ZD)))))))
  YO
def Vj:DS:=
  dSeq (dSet 4 [] (dC .none))
  Qb
def Uw:DS:=
  dSeq (dSet 3 [] (dC .none))
  Vj
def YU:DF:=runQ 9 3 Uw
def zgT:DS:=
  (dRet (d2 fEq (Zi YC (Zc (d2 fIx (dVar 11) (dC (.int 1))) (Zc (dVar 6) dNil))) (dVar 7)))
def zgU:DS:=
  dSeq (dIf (tNot (tV (Zi XJ (Zc (dVar 11) (Zc (d2 fSub (dVar 2) (dC (.int 1))) dNil)))))
  (dRet (dC (.bool false)))
  ZD)
  zgT
def zgV:DS:=
  dSeq (dSet 11 [] (Zi Uh (Zc (dVar 4) (Zc (dVar 5) dNil))))
  zgU
def zau:DS:=
  dSeq (dIf (tV (d2 fEq (dVar 2) (dC (.int 1))))
  (dRet (dC (.bool true)))
  ZD)
  zgV
def zdP:DS:=
  dSeq (dIf (tV (dVar 7))
  (dSeq (dSet 10 [] (d2 fAdd (d2 fAdd (dL (oCut (dVar 6) pNo (pAt (dVar 5)))) (dLst (Zc (dVar 9) dNil))) (dL (oCut (dVar 6) (pAt (dVar 5)) pNo))))
  (dIf (tOr (tNot (tV (Zi Xm (Zc (dVar 10) (Zc (dVar 2) dNil))))) (tNot (tV (Zi YC (Zc (dVar 3) (Zc (dVar 10) dNil))))))
  (dRet (dC (.bool false)))
  ZD))
  ZD)
  zau
def zav:DS:=
  dSeq (dIf (tV (d2 fNe (d1 JA (dVar 9)) (dVar 7)))
  (dRet (dC (.bool false)))
  ZD)
  zdP
def zjW:DS:=
  dSeq (dIf (tV (d2 fNe (dVar 8) (dVar 6)))
  (dRet (dC (.bool false)))
  ZD)
  zav
def zjX:DS:=
  dSeq (dSet 9 [] (Zi UW (Zc (dVar 4) (Zc (dVar 5) (Zc (dVar 8) dNil)))))
  zjW
def zjY:DS:=
  dSeq (dSet 8 [] (dL (zdp (dVar 6))))
  zjX
def zjZ:DS:=
  dSeq (dSet 7 [] (Zi YU (Zc (dVar 3) (Zc (dVar 5) (Zc (dVar 6) dNil)))))
  zjY
def zj0:DS:=
  dSeq (dSet 6 [] (Zi WR (Zc (dVar 0) (Zc (d2 fSub (dVar 2) (dC (.int 1))) dNil))))
  zjZ
def zj1:DS:=
  dSeq (dSet 5 [] (d2 fMod (Zi Zp (Zc (dVar 0) (Zc (dC (.int 5)) dNil))) (dVar 2)))
  zj0
def zj2:DS:=
  dSeq (dSet 4 [] (Zi Ui (Zc (dVar 2) (Zc (Zi Xy (Zc (dVar 3) dNil)) dNil))))
  zj1
def zj3:DS:=
  dSeq (dSet 3 [] (Zi Xy (Zc (d2 fIx (dVar 1) (dC (.int 1))) dNil)))
  zj2
def zj4:DS:=
  dSeq (dSet 2 [] (d2 fIx (dVar 1) (dC (.int 0))))
  zj3
def d_law:DS:=
  dSeq (dSet 1 [] (Zi WK (Zc (dVar 0) dNil)))
  zj4
def zhI:DF:=runQ 12 1 d_law
abbrev nH(mb n0 K:Nat):Nat:=2 * wSz mb n0 K+2 * n0+(mb+4)
structure Dh(K B n0 mb:Nat)(ls:List Lim):Prop where
 k1:1<=K
 k4:K<=4
 len:ls.length<=200
 w:∀l ∈ ls,l.1.length=K
 b1:1<=B
 m0:0 < mb
 bm:B < 2 ^ mb
 sz:∀l ∈ ls,(∀x ∈ l.1,x.natAbs<=B)/\l.2.natAbs<=B
 z:Sx.fact (K+1) * B ^ (K+1) < 2 ^ n0
 n1:1<=n0
 n:n0<=1000
 cov:wSz mb (2 * wSz mb n0 K+2 * n0+(mb+4)) K+mb+(2 * wSz mb n0 K+2 * n0+(mb+4)) < 8000
section
variable {K B n0 mb p:Nat}{ls ls':List Lim}
theorem Dh.dk(d:Dh K B n0 mb ls):DK K ls.length B n0 ls:=by
 have h1:=d.k4;have h2:=d.len;have h3:=d.n;refine⟨by omega,by omega,rfl,d.w,d.b1,d.sz,d.z,by omega,?_⟩
 exact jh (yE (Nat.pow_le_pow_left (show K+ls.length+1<=205 by omega) K) (Nat.pow_le_pow_right (by decide) h1)) (by decide)
theorem Dh.sub(d:Dh K B n0 mb ls)(h:∀l ∈ ls',l ∈ ls)(hl:ls'.length<=ls.length):Dh K B n0 mb ls':=
 ⟨d.k1,d.k4,yE hl d.len,λl hm=>d.w l (h l hm),d.b1,d.m0,d.bm,λl hm=>d.sz l (h l hm),d.z,d.n1,d.n,d.cov⟩
theorem Dh.oth(d:Dh K B n0 mb ls)(hp:p < ls.length):Dh K B n0 mb (oth ls p):=d.sub (λl hm=>Vd hm) (by rw[XG hp];omega)
theorem Dh.w40(d:Dh K B n0 mb ls){l:Lim}(h:l ∈ ls):(∀x ∈ l.1,x.natAbs < 2 ^ mb)/\l.2.natAbs < 2 ^ mb:=
 ⟨λx hx=>jh ((d.sz l h).1 x hx) d.bm,jh (d.sz l h).2 d.bm⟩
end
section
variable {K B n0 mb p:Nat}{ls:List Lim}
theorem zko{l:Lim}{ps ws:List Rat}{os:List Lim}(w40:(∀x ∈ l.1,x.natAbs < 2 ^ mb)/\l.2.natAbs < 2 ^ mb)(hl:l.1.length=K)(hK:K<=4)(q:Pt K n0 os ps)(y:Wy K n0 os l.1 ws)
  (hn:n0<=1000) (m0:0 < mb) (hc:wSz mb (2 * wSz mb n0 K+2 * n0+(mb+4)) K+mb+(2 * wSz mb n0 K+2 * n0+(mb+4)) < 8000) :
  ∃qs,Pt K (2 * wSz mb n0 K+2 * n0+(mb+4)) os qs/\(l.2:Rat) < dot l.1 qs/\YM [limT l,.list (ps.map fr),.list (ws.map fr)]=.ok (.list (qs.map fr)):=by
 have lp:=q.len;have lw:=y.len;have wp:WP mb n0 l.1 ps:=⟨w40.1,q.sz,m0,by omega⟩
 have ww:WP mb n0 l.1 ws:=⟨w40.1,y.sz,m0,by omega⟩
 have s1:=wp.sz K (by omega)
 have s2:=ww.sz K (by omega)
 have t1:dot (l.1.take K) (ps.take K)=dot l.1 ps:=by rw[<- hl,jp,hl,<- lp,jp]
 have t2:dot (l.1.take K) (ws.take K)=dot l.1 ws:=by rw[<- hl,jp,hl,<- lw,jp]
 rw[t1] at s1;rw[t2] at s2;have X:wSz mb n0 K+mb+n0 < 8000:=by omega
 have e1:=QA (t:=.tuple (l.1.map .int)) (.inr rfl) wp (by rw[lp];exact X)
 have e2:=QA (t:=.tuple (l.1.map .int)) (.inr rfl) ww (by rw[lw];exact X)
 have sb:=Sz.ofInt w40.2 m0;have e3:=zjf sb s1 (by omega)
 have sr:=sb.sub s1;have e4:=zaC sr Sz.zero (by omega)
 by_cases hr:(l.2:Rat) - dot l.1 ps < 0
 ·refine⟨ps,⟨lp,λx hx=>(q.sz x hx).mono (by omega),q.kp⟩,by grind,?_⟩
  rw[decide_eq_true hr] at e4;simp[YM,Vf,Wk,runQ,runF,limT,at0,at1,e1,Uf,Jw,e3,e4]
 ·rw[decide_eq_false hr] at e4;have hg:=y.g;have hg0:dot l.1 ws ≠ 0:=by grind
  have e5:=zaM sr s2 (by omega) hg0
  have so:=Sz.divS sr s2 hg0;have s11:Sz 1 ((1:Int):Rat):=Sz.ofInt (by decide) (by decide)
  have e6:=zfo so s11 (by omega)
  have st:=so.add s11;have e7:=moved_ok q.sz y.sz st (by omega) (by omega)
  have dm:=λw:List Int=>dot_mv (t:=((l.2:Rat) - dot l.1 ps) / dot l.1 ws+((1:Int):Rat)) w ps ws (by omega)
  have hnn:=div_nn' (a:=(l.2:Rat) - dot l.1 ps) (by grind) hg
  have one:(((1:Int):Rat))=1:=rfl;refine⟨mv ps ws (((l.2:Rat) - dot l.1 ps) / dot l.1 ws+((1:Int):Rat)),⟨by simp[mv];omega,λx hx=>?_,λo ho=>?_⟩,?_,?_⟩
  ·obtain⟨z,hz,rfl⟩:=yD.mp hx;exact((q.sz _ (jW hz).1).add (st.mul (y.sz _ (jW hz).2))).mono (by omega)
  ·rw[dm];have h1:=q.kp o ho;have h2:=y.l o ho;have h3:=jG h2 (show 0<=((l.2:Rat) - dot l.1 ps) / dot l.1 ws+((1:Int):Rat) by rw[one];grind)
   rw[qT] at h3
   grind
  ·rw[dm];have h1:=Uj (a:=(l.2:Rat) - dot l.1 ps) hg0;rw[Rat.add_mul,h1,one,Rat.one_mul]
   grind
  ·simp only[YM,Vf,Wk,V0,VZ,runQ,runF,limT];simp[at0,at1,e1,e2,Uf,Jw,e3,e4,e5];simp only[show((1:Int):Rat)=1 from rfl] at e6 e7 ⊢;simp[e6,e7]
theorem cover_ok(d:Dh K B n0 mb ls)(h1:1<=n0)(hp:p < ls.length):∃r,Cov K n0 (nH mb n0 K) ls p ls[p] r/\Qs [Yq K ls,.int p]=.ok r:=by
 have hm:=jr hp;have hl:=d.len;have k4:=d.k4;have hn:=d.n;have e1:=Vl (n:=ls.length) hp;have e2:=zb4 (K:=K) hp (by omega)
 have i1:atP (ls.map limT) (p:Int)=some (limT ls[p]):=zbG hp;have hw:=d.w _ hm;have d':=(d.oth hp).dk;obtain⟨r,hr,e3⟩:=best_ok d' hw (d.sz _ hm).1;have lo:=XG hp;have top:∀t:ya,VC [.val (Yq K ls),.val (.int p),.val (limT ls[p]),.val r]=.ok (.rt t)->Qs [Yq K ls,.int p]=.ok t:=λt ht=>by
  have lt:limT ls[p]=.tuple [.tuple (ls[p].1.map .int),.int ls[p].2]:=rfl;rw[lt] at ht i1;simp only[eI,Yq] at e2 e3 ht ⊢;simp[Qs,zj8,zeQ,zeP,runQ,runF,at0,at1,e1,i1,e2,e3,ht]
 have w40:=d.w40 hm;have X:wSz mb n0 K+mb+n0 < 8000:=by have:=d.cov;omega
 have m0:=d.m0;cases hr with
 | @clash ss c=>
  obtain⟨c1,c2⟩:=cl_ins hp h1 c;have hl2:=c.len;have e4:=U2 (ss:=ss) (p:=p) (by omega) (by omega)
  exact⟨_,.clash c1 c2,top _ (by simp[VC,at0,at1,q_cc,e4])⟩
 | @best ps ss q r=>
  have hl2:=r.len;have lp:=q.len;have e4:=U2 (ss:=ss) (p:=p) (by omega) (by omega)
  have wp:WP mb n0 ls[p].1 ps:=⟨w40.1,q.sz,m0,by omega⟩
  have e5:=QA (t:=.tuple (ls[p].1.map .int)) (.inr rfl) wp (by rw[lp];exact X)
  have s1:=wp.sz K (by omega)
  have t1:dot (ls[p].1.take K) (ps.take K)=dot ls[p].1 ps:=by rw[<- hw,jp,hw,<- lp,jp]
  rw[t1] at s1;have e6:=zaC (Sz.ofInt w40.2 m0) s1 (by omega)
  by_cases hb:(ls[p].2:Rat) < dot ls[p].1 ps
  ·rw[decide_eq_true hb] at e6;exact⟨_,.point ⟨lp,λx hx=>(q.sz x hx).mono (by unfold nH;omega),q.kp⟩ hb,top _ (by simp[VC,Q3,zbA,at3a,at3b,at3c,at0,at1,q_bc,q_be,limT,e5,Uf,e6])⟩
  ·rw[decide_eq_false hb] at e6;exact⟨_,pr_ins hp h1 r (jM.mp hb) _,top _ (by simp[VC,Q3,zbA,zeO,at3a,at3b,at3c,at0,at1,q_bc,q_be,limT,e5,Uf,e6,e4])⟩
 | @endless ps ws q y=>
  obtain⟨qs,q1,q2,q3⟩:=zko w40 hw k4 q y hn d.m0 d.cov;exact⟨_,.point q1 q2,top _ (by simp[VC,Q3,at3a,at3b,at3c,q_ec,q_ee,q3])⟩
end
section
variable {K B n0 mb:Nat}{ls:List Lim}
theorem sz_any(q:Rat):∃n,Sz n q:=by
 refine⟨q.num.natAbs+q.den,?_,?_⟩
 ·exact jh (yag _ _) Nat.lt_two_pow_self
 ·exact jh (Nat.le_add_left _ _) Nat.lt_two_pow_self
theorem zh7:∀ps:List Rat,∃n,∀q ∈ ps,Sz n q
 | []=>⟨0,by simp⟩
 | p::ps=>by
  obtain⟨n,h⟩:=zh7 ps;obtain⟨k,hk⟩:=sz_any p;refine⟨max n k,λq hq=>?_⟩
  rcases yI.mp hq with rfl | hq
  ·exact hk.mono (Nat.le_max_right _ _)
  ·exact(h q hq).mono (Nat.le_max_left _ _)
def Kp(ls:List Lim)(ps:List Rat):Prop:=∀l ∈ ls,dot l.1 ps<=(l.2:Rat)
theorem zdq(d:Dh K B n0 mb ls){p:Nat}(hp:p < ls.length):∃b:Bool,Xc [Yq K ls,.int p]=.ok (.bool b)/\(b=true->∀ps:List Rat,ps.length=K->Kp (oth ls p) ps->Kp ls ps):=by
 obtain⟨r,hr,e⟩:=cover_ok d d.n1 hp;refine⟨!isPt r,zfC hr e,λhb ps hl hk l hm=>?_⟩
 by_cases hin:l ∈ oth ls p
 ·exact hk l hin
 ·have hl':l=ls[p]:=by
   obtain⟨j,hj⟩:=List.mem_iff_getElem?.mp hm;by_cases hjp:j=p
   ·subst hjp;rw[j7 hp] at hj;exact(ja.inj hj).symm
   ·exact absurd ((mem_oth hp).mpr ⟨j,hjp,hj⟩) hin
  subst hl';rw[<- jM];intro v;obtain⟨M,hM⟩:=zh7 ps;have z:=zkf hp d.w hr (⟨hl,hM,hk⟩:Pt K M (oth ls p) ps) v;rw[z] at hb;cases hb
def cLn:DT:=(tV (d2 fLt (dVar 1) (d1 fLen (d2 fIx (dVar 0) (dC (.int 1))))))
def bLn:DS:=(dIf (tV (Zi Xc (Zc (dVar 0) (Zc (dVar 1) dNil))))
  (dSet 0 [] (Zi Wd (Zc (dVar 0) (Zc (dVar 1) dNil))))
  (dSet 1 [] (d2 fAdd (dVar 1) (dC (.int 1)))))
theorem zaW:∀(n:Nat) (ls:List Lim) (p:Nat),Dh K B n0 mb ls->p<=ls.length->ls.length - p=n->∀fuel,n < fuel->∃ls':List Lim,(∀l ∈ ls',l ∈ ls)/\ls'.length<=ls.length/\(∀ps:List Rat,ps.length=K->Kp ls' ps->Kp ls ps)/\∃p',Yb cLn bLn fuel [.val (Yq K ls),.val (.int p)]=.ok (.nx [.val (Yq K ls'),.val p'])
 | 0,ls,p,d,hp,hn,fuel,hf=>by
  obtain⟨f,rfl⟩:∃f,fuel=f+1:=⟨fuel - 1,by omega⟩
  refine⟨ls,λl h=>h,yq _,λps _ h=>h,.int p,?_⟩
  have h1:¬((p:Int) < (ls.length:Int)):=by omega
  unfold Yb;simp[cLn,at1,h1]
 | n+1,ls,p,d,hp,hn,fuel,hf=>by
  obtain⟨f,rfl⟩:∃f,fuel=f+1:=⟨fuel - 1,by omega⟩
  have hlt:p < ls.length:=by omega
  have h1:(p:Int) < (ls.length:Int):=by omega
  have hl:=d.len;obtain⟨b,eb,hb⟩:=zdq d hlt;have ew:=zb4 (K:=K) hlt (by omega)
  have lo:=XG hlt;cases b with
  | true=>
   obtain⟨ls',s1,s2,s3,p',e⟩:=zaW n (oth ls p) p (d.oth hlt) (by omega) (by omega) f (by omega)
   refine⟨ls',λl h=>Vd (s1 l h),by omega,λps h k=>hb rfl ps h (s3 ps h k),p',?_⟩
   unfold Yb;simp only[Yq] at eb ew e ⊢;simp[cLn,bLn,at1,h1,eb,ew];exact e
  | false=>
   obtain⟨ls',s1,s2,s3,p',e⟩:=zaW n ls (p+1) d (by omega) (by omega) f (by omega)
   refine⟨ls',s1,s2,s3,p',?_⟩;rw[show((p+1:Nat):Int)=(p:Int)+1 by omega] at e
   unfold Yb;simp only[Yq] at eb e ⊢;simp[cLn,bLn,at1,h1,eb];exact e
theorem zjk(d:Dh K B n0 mb ls):∃ls':List Lim,(∀l ∈ ls',l ∈ ls)/\ls'.length<=ls.length/\(∀ps:List Rat,ps.length=K->(Kp ls' ps ↔ Kp ls ps))/\zcr [Yq K ls]=.ok (Yq K ls'):=by
 have hl:=d.len;obtain⟨ls',s1,s2,s3,p',e⟩:=zaW ls.length ls 0 d (jZ _) (Nat.sub_zero _) 1000 (by omega)
 refine⟨ls',s1,s2,λps h=>⟨s3 ps h,λk l hl=>k l (s1 l hl)⟩,?_⟩
 have hd:zgS=dSeq (Qf zcV cLn bLn) zdN:=rfl;simp only[Yq,Int.ofNat_zero,ybw] at e ⊢;simp[zcr,d_lean,hd,zdN,runQ,runF,zcV,e]
end
theorem Wi(i j:Int):fEq (.int i) (.int j)=.ok (.bool (decide (i=j))):=by simp[fEq]
theorem zaz{α:Type}{st:ya->List Sl->Res (List Sl)}{c:DT}{e:DE}{C:List Sl}(inj f:α->ya)(p:α->Bool):∀(xs:List α),(∀x ∈ xs,∃G1,st (inj x) C=.ok G1/\c G1=.ok (p x)/\(p x=true->e G1=.ok (f x)))->YF st c e C (xs.map inj)=.ok ((xs.filter p).map f)
 | [],_=>rfl
 | x::xs,h=>by
  obtain⟨G1,e1,e2,e3⟩:=h x yP;have ih:=zaz inj f p xs λx hx=>h x (yR _ hx)
  rw[yH];unfold YF;cases hp:p x with
  | true=>
   rw[hp] at e2;simp[e1,e2,e3 hp,ih,hp]
  | false=>
   rw[hp] at e2;simp[e1,e2,ih,hp]
theorem zgj{w:List Int}{k:Nat}(hk:k < w.length)(hl:w.length<=1000):Xn [.tuple (w.map .int),.int k]=.ok (.tuple ((oth w k).map .int)):=by
 have c1:=zcM (xs:=w.map .int) (p:=k) (by simp;omega)
 have c2:=zcN (xs:=w.map .int) (p:=k+1) (by simp;omega)
 rw[show((k+1:Nat):Int)=(k:Int)+1 by omega] at c2
 have n1:¬(sIxT w.length 0 none=0/\sIxT w.length w.length (some (k:Int))=w.length):=by
  have:¬((k:Int) < 0):=by omega
  simp only[sIxT,if_neg this];omega
 have n2:¬(sIxT w.length 0 (some ((k:Int)+1))=0/\sIxT w.length w.length none=w.length):=by
  have:¬((k:Int)+1 < 0):=by omega
  simp only[sIxT,if_neg this];omega
 have h3:min k w.length+(w.length - (k+1))<=16777216:=by omega
 simp only[Xn,zdM,runQ,runF,dRet,dJ,d2,dL,oCut,zeR,dVar,dC,pNo,pAt,fIx,fAdd,frzA,qW,jk,yai,y0,jO];simp[n1,n2,c1,c2,h3,oth,-not_and]
theorem others_l{w:List Int}{k:Nat}(hk:k < w.length)(hl:w.length<=1000):Xn [.list (w.map .int),.int k]=.ok (.list ((oth w k).map .int)):=by
 have c1:=zcM (xs:=w.map .int) (p:=k) (by simp;omega)
 have c2:=zcN (xs:=w.map .int) (p:=k+1) (by simp;omega)
 rw[show((k+1:Nat):Int)=(k:Int)+1 by omega] at c2
 have h3:min k w.length+(w.length - (k+1))<=16777216:=by omega
 simp[Xn,zdM,runQ,runF,c1,c2,h3,oth]
def cK(k:Nat)(l:Lim):Int:=l.1.getD k 0
def jn(k:Nat)(u l:Lim):Lim:=(oth (j4 (λa b=>(-cK k l) * a+cK k u * b) u.1 l.1) k,(-cK k l) * u.2+cK k u * l.2)
theorem at_k{l:Lim}{k:Nat}(h:k < l.1.length):atP (l.1.map .int) (k:Int)=some (.int (cK k l)):=by rw[zbG h,UT (d:=0) h];rfl
theorem zdZ(xs ys:List Int):zipT (xs.map .int) (ys.map .int)=(xs.zip ys).map λp=>ya.tuple [.int p.1,.int p.2]:=by
 induction xs generalizing ys with
 | nil=>rfl
 | cons x xs ih=>cases ys with
  | nil=>rfl
  | cons y ys=>simp only[yH,zipT,List.zip_cons_cons,ih]
theorem zjt{u l:Lim}{k K:Nat}(hk:k < K)(hK:K<=4)(hu:u.1.length=K)(hl:l.1.length=K)(su:(cK k u).natAbs < 18446744073709551616)(sl:(cK k l).natAbs < 18446744073709551616):VQ [limT u,limT l,.int k]=.ok (limL (jn k u l)):=by
 have i1:=at_k (l:=u) (k:=k) (by omega)
 have i2:=at_k (l:=l) (k:=k) (by omega)
 have o1:∀x:Int,Yv (-cK k l) x=true:=λx=>Jv (by omega)
 have o2:∀x:Int,Yv (cK k u) x=true:=λx=>Jv su
 have e:=Z6 (st:=V6 0 1) (e:=(d2 fAdd (d2 fMul (dVar 2) (dVar 0)) (d2 fMul (dVar 3) (dVar 1)))) (C:=[.emp,.emp,.val (.int (-cK k l)),.val (.int (cK k u))]) (λp:Int × Int=>ya.tuple [.int p.1,.int p.2]) (λp=>.int ((-cK k l) * p.1+cK k u * p.2)) (u.1.zip l.1) λp hm=>⟨[.val (.int p.1),.val (.int p.2),.val (.int (-cK k l)),.val (.int (cK k u))],rfl,by simp[o1,o2]⟩
 rw[<- zdZ] at e;have e2:((u.1.zip l.1).map λp=>ya.int ((-cK k l) * p.1+cK k u * p.2))=(j4 (λa b=>(-cK k l) * a+cK k u * b) u.1 l.1).map .int:=by
  rw[List.zip_eq_zipWith,List.map_zipWith,List.map_zipWith]
 rw[e2] at e;have hz:(zipT (u.1.map .int) (l.1.map .int)).length<=16777216:=by rw[zdZ];simp;omega
 have hw:(j4 (λa b=>(-cK k l) * a+cK k u * b) u.1 l.1).length=K:=by simp[hu,hl]
 have e3:=others_l (w:=j4 (λa b=>(-cK k l) * a+cK k u * b) u.1 l.1) (k:=k) (by omega) (by omega)
 have lj:limL (jn k u l)=.tuple [.list ((oth (j4 (λa b=>(-cK k l) * a+cK k u * b) u.1 l.1) k).map .int),.int ((-cK k l) * u.2+cK k u * l.2)]:=rfl
 rw[lj];generalize (j4 (λa b=>(-cK k l) * a+cK k u * b) u.1 l.1)=W at *
 simp only[limT];simp[VQ,zgW,zcH,zcG,zcF,runQ,runF,at0,at1,i1,i2,hz,e,e3,o1,o2]
def z0(k:Nat)(l:Lim):Bool:=decide (cK k l=0)
def zU(k:Nat)(l:Lim):Bool:=decide (0 < cK k l)
def zL(k:Nat)(l:Lim):Bool:=decide (cK k l < 0)
def lim0(k:Nat)(l:Lim):Lim:=(oth l.1 k,l.2)
def limX(x:Bool × Lim):ya:=if x.1 then limT x.2 else limL x.2
def Qo(k:Nat)(ls:List Lim):List (Bool × Lim):=((ls.filter (z0 k)).map λl=>(true,lim0 k l))++(ls.filter (zU k)).flatMap λu=>(ls.filter (zL k)).map λl=>(false,jn k u l)
def bL:DS:=(dExt 2 (YS 1 [5,1] (Zu 0) (iSeq (dVar 4)) tT (Zi VQ (Zc (dVar 1) (Zc (dVar 0) (Zc (dVar 2) dNil))))))
theorem zez{ls:List Lim}{k K:Nat}(hk:k < K)(hK:K<=4)(hl:ls.length<=40)(hw:∀l ∈ ls,l.1.length=K)(hs:∀l ∈ ls,(cK k l).natAbs < 18446744073709551616)(t0 t3:ya):∀(us:List Lim) (xs:List (Bool × Lim)) (s5:Sl),(∀u ∈ us,u ∈ ls)->xs.length+40 * us.length<=10000 ->
  ∃s5',forL (Zu 5) bL (us.map limT) [.val t0,.val (.int k),.own (xs.map limX),.val t3,.val (.list ((ls.filter (zL k)).map limT)),s5]=.ok (.nx [.val t0,.val (.int k),.own ((xs++us.flatMap λu=>(ls.filter (zL k)).map λl=>(false,jn k u l)).map limX),.val t3,.val (.list ((ls.filter (zL k)).map limT)),s5'])
 | [],xs,s5,_,_=>⟨s5,by simp[forL]⟩
 | u::us,xs,s5,hu,hx=>by
  have hm:=hu u yP;have e:=Z6 (st:=Zu 0) (e:=(Zi VQ (Zc (dVar 1) (Zc (dVar 0) (Zc (dVar 2) dNil))))) (C:=[.emp,.val (limT u),.val (.int k)]) limT (λl=>limX (false,jn k u l)) (ls.filter (zL k)) λl hl'=>by
   have hl2:=(yX.mp hl').1;have j:=zjt hk hK (hw u hm) (hw l hl2) (hs u hm) (hs l hl2);exact⟨[.val (limT l),.val (limT u),.val (.int k)],rfl,by simp[j,limX]⟩
  have hf:(ls.filter (zL k)).length<=40:=yE (qG _ _) hl;have hf2:((ls.filter (zL k)).map limT).length<=16777216:=by simp;omega
  rw[jk] at hx;obtain⟨s5',ih⟩:=zez hk hK hl hw hs t0 t3 us (xs++(ls.filter (zL k)).map λl=>(false,jn k u l)) (.val (limT u)) (λu h=>hu u (yR _ h)) (by simp;omega)
  refine⟨s5',?_⟩;have em:((ls.filter (zL k)).map λl=>limX (false,jn k u l))=((ls.filter (zL k)).map λl=>(false,jn k u l)).map limX:=by rw[jf];rfl
  rw[em] at e;have hz:(xs.map limX).length+(((ls.filter (zL k)).map λl=>(false,jn k u l)).map limX).length<=16777216:=by simp;omega
  have ef:((u::us).flatMap λu=>(ls.filter (zL k)).map λl=>(false,jn k u l))=((ls.filter (zL k)).map λl=>(false,jn k u l))++us.flatMap λu=>(ls.filter (zL k)).map λl=>(false,jn k u l):=by simp
  rw[ef,<- ya1,yH];generalize hF:(ls.filter (zL k)).map limT=F at *
  generalize ((ls.filter (zL k)).map λl=>(false,jn k u l))=J at *
  have eb:bL [.val t0,.val (.int k),.own (xs.map limX),.val t3,.val (.list F),.val (limT u)]=.ok (.nx [.val t0,.val (.int k),.own ((xs++J).map limX),.val t3,.val (.list F),.val (limT u)]):=by
   rw[ya7];generalize xs.map limX=A at *
   generalize J.map limX=Bx at *
   simp[bL,hf2,e,hz]
  unfold forL;simp only[Zu,jt,Res.bind_ok,eb,ih]
theorem left_ok{ls:List Lim}{k K:Nat}(hk:k < K)(hK:K<=4)(hl:ls.length<=40)(hw:∀l ∈ ls,l.1.length=K)(hs:∀l ∈ ls,(cK k l).natAbs < 18446744073709551616):XI [.tuple (ls.map limT),.int k]=.ok (.list ((Qo k ls).map limX)):=by
 have ix:∀l ∈ ls,atP (l.1.map .int) (k:Int)=some (.int (cK k l)):=λl hm=>at_k (by rw[hw l hm];exact hk)
 have hl2:ls.length<=16777216:=by omega
 have e0:=zaz (st:=Zu 0) (c:=(tV (d2 fEq (d2 fIx (d2 fIx (dVar 0) (dC (.int 0))) (dVar 1)) (dC (.int 0))))) (e:=(dTup (Zc (Zi Xn (Zc (d2 fIx (dVar 0) (dC (.int 0))) (Zc (dVar 1) dNil))) (Zc (d2 fIx (dVar 0) (dC (.int 1))) dNil)))) (C:=[.emp,.val (.int k)]) limT (λl=>limX (true,lim0 k l)) (z0 k) ls λl hm=>by
  have o:=zgj (w:=l.1) (k:=k) (by rw[hw l hm];exact hk) (by rw[hw l hm];omega)
  exact⟨[.val (limT l),.val (.int k)],rfl,by simp[limT,at0,ix l hm,Wi,z0],λ_=>by simp[limT,at0,at1,o,limX,lim0]⟩
 have e1:=zaz (st:=Zu 0) (c:=(tV (d2 fGt (d2 fIx (d2 fIx (dVar 0) (dC (.int 0))) (dVar 1)) (dC (.int 0))))) (e:=(dVar 0)) (C:=[.emp,.val (.int k)]) limT limT (zU k) ls λl hm=>⟨[.val (limT l),.val (.int k)],rfl,by simp[limT,at0,ix l hm,zU],λ_=>by simp⟩
 have e2:=zaz (st:=Zu 0) (c:=(tV (d2 fLt (d2 fIx (d2 fIx (dVar 0) (dC (.int 0))) (dVar 1)) (dC (.int 0))))) (e:=(dVar 0)) (C:=[.emp,.val (.int k)]) limT limT (zL k) ls λl hm=>⟨[.val (limT l),.val (.int k)],rfl,by simp[limT,at0,ix l hm,zL],λ_=>by simp⟩
 have em:((ls.filter (z0 k)).map λl=>limX (true,lim0 k l))=((ls.filter (z0 k)).map λl=>(true,lim0 k l)).map limX:=by rw[jf];rfl
 rw[em] at e0;have f0:(ls.filter (z0 k)).length<=40:=yE (qG _ _) hl;have f1:(ls.filter (zU k)).length<=40:=yE (qG _ _) hl;obtain⟨s5,e3⟩:=zez hk hK hl hw hs (.tuple (ls.map limT)) (.list ((ls.filter (zU k)).map limT)) (ls.filter (zU k)) ((ls.filter (z0 k)).map λl=>(true,lim0 k l)) .emp (λu h=>(yX.mp h).1) (by simp;omega)
 have hd:Ur=dSeq (dFor (Zu 5) [] (iSeq (dVar 3)) bL) WT:=rfl;have lx:Qo k ls=((ls.filter (z0 k)).map λl=>(true,lim0 k l))++(ls.filter (zU k)).flatMap λu=>(ls.filter (zL k)).map λl=>(false,jn k u l):=rfl
 rw[<- lx] at e3;have hls:(ls.map limT).length<=16777216:=by simpa using hl2
 generalize (Qo k ls).map limX=R at *
 generalize ((ls.filter (z0 k)).map λl=>(true,lim0 k l)).map limX=R0 at *
 generalize (ls.filter (zU k)).map limT=RU at *
 generalize (ls.filter (zL k)).map limT=RL at *
 generalize ls.map limT=LL at *
 simp[XI,QV,Ut,Us,hd,WT,runQ,runF,hls,e0,e1,e2,e3]
def gl(g:Nat)(w:List Int):Nat:=w.foldl (λg x=>yM g x) g
def dv(w:List Int):Nat:=max (gl 0 w) 1
theorem gl_dvd:∀(w:List Int) (g:Nat),((gl g w:Nat):Int) ∣ (g:Int)/\∀x ∈ w,((gl g w:Nat):Int) ∣ x
 | [],g=>⟨Int.dvd_refl _,by simp⟩
 | x::w,g=>by
  obtain⟨h1,h2⟩:=gl_dvd w (yM g x);have e:gl g (x::w)=gl (yM g x) w:=rfl;rw[e];refine⟨Int.dvd_trans h1 (Int.gcd_dvd_left ..),λy hy=>?_⟩
  rcases yI.mp hy with rfl | hy
  ·exact Int.dvd_trans h1 (ybz ..)
  ·exact h2 y hy
theorem zeI(w:List Int):1<=dv w:=Nat.le_max_right _ _
theorem zgJ{w:List Int}{x:Int}(h:x ∈ w):(dv w:Int) ∣ x:=by
 have:=(gl_dvd w 0).2 x h;unfold dv;by_cases z:1<=gl 0 w
 ·rw[Nat.max_eq_left z];exact this
 ·rw[Nat.max_eq_right (by omega)];exact⟨x,by simp⟩
theorem dv_le{w:List Int}{B:Nat}(h1:1<=B)(h:∀x ∈ w,x.natAbs<=B):dv w<=B:=by
 by_cases z:∃x ∈ w,x ≠ 0
 ·obtain⟨x,hx,h0⟩:=z;have d:=zgJ hx;have:=Int.natAbs_dvd_natAbs.mpr d;rw[j1] at this;exact yE (Nat.le_of_dvd (by omega) this) (h x hx)
 ·have a0:∀x ∈ w,x=0:=λx hx=>jx λq=>z ⟨x,hx,q⟩
  have:gl 0 w=0:=by
   clear h z
   induction w with
   | nil=>rfl
   | cons x w ih=>
    have e:gl 0 (x::w)=gl (yM 0 x) w:=rfl;rw[e,a0 x yP];exact ih λy hy=>a0 y (yR _ hy)
  unfold dv;rw[this];omega
def bD:DS:=(dSet 1 [] (Zi ZR (Zc (dVar 1) (Zc (dVar 2) dNil))))
theorem zjN(t:ya):∀(w:List Int) (g:Nat) (s:Sl),∃s',forL (Zu 2) bD (w.map .int) [.val t,.val (.int g),s]=.ok (.nx [.val t,.val (.int (gl g w)),s'])
 | [],g,s=>⟨s,rfl⟩
 | x::w,g,s=>by
  obtain⟨s',ih⟩:=zjN t w (yM g x) (.val (.int x));refine⟨s',?_⟩;have eb:bD [.val t,.val (.int g),.val (.int x)]=.ok (.nx [.val t,.val (.int (yM g x)),.val (.int x)]):=by simp[bD,zkj]
  have e:gl g (x::w)=gl (yM g x) w:=rfl;rw[yH,e];unfold forL;simp only[Zu,jt,Res.bind_ok,eb,ih]
theorem dv_ok{t:ya}{w:List Int}(ht:zhB t (w.map .int)):YV [t]=.ok (.int (dv w)):=by
 obtain⟨s',e⟩:=zjN t w 0 .emp;have hd:Qd=dSeq (dFor (Zu 2) [] (iSeq (dVar 0)) bD) X7:=rfl;have hm:(if(1:Int) < (gl 0 w:Int) then(gl 0 w:Int) else 1)=(dv w:Int):=by
  unfold dv;split <;> omega
 have hm2:max (gl 0 w:Int) 1=(dv w:Int):=by unfold dv;omega
 simp only[ybw] at e;rcases ht with rfl | rfl
 ·simp[YV,UD,hd,X7,runQ,runF,e];unfold dv;omega
 ·simp[YV,UD,hd,X7,runQ,runF,e];unfold dv;omega
abbrev Ent:=List Int × Rat
def enc(e:Ent):ya × ya:=(.tuple (e.1.map .int),fr e.2)
def look(ns:List Int):List Ent->Option Rat
 | []=>none
 | (k,q)::r=>if k=ns then some q else look ns r
def putE(ns:List Int)(q:Rat)(E:List Ent):List Ent:=if(look ns E).isSome then E.map (λe=>if e.1=ns then(e.1,q) else e) else E++[(ns,q)]
theorem zar(ns:List Int):∀E:List Ent,Qr ns (E.map enc)=(look ns E).map fr
 | []=>rfl
 | (k,q)::r=>by
  rw[yH];show Qr ns ((.tuple (k.map .int),fr q)::r.map enc)=_;unfold Qr look;rw[Vx];by_cases h:k=ns
  ·simp[h]
  ·simp[h,zar ns r]
theorem putD_enc(ns:List Int)(q:Rat)(E:List Ent):ziH ns (fr q) (E.map enc)=(putE ns q E).map enc:=by
 unfold ziH putE;rw[zar,yb1];cases(look ns E).isSome with
 | true=>
  simp only[if_true,jf];refine qq λe _=>?_
  show(if Vy (.tuple (e.1.map .int))=some ns then _ else _)=enc (if e.1=ns then(e.1,q) else e)
  rw[Vx];by_cases h:e.1=ns
  ·simp[h,enc]
  ·simp[h,enc]
 | false=>simp[enc]
theorem zdv{ns:List Int}{q:Rat}:∀{E:List Ent},look ns E=some q->(ns,q) ∈ E
 | [],h=>by cases h
 | (k,p)::r,h=>by
  unfold look at h;by_cases z:k=ns
  ·rw[if_pos z] at h;cases h;rw[z];exact yP
  ·rw[if_neg z] at h;exact yR _ (zdv h)
theorem zex{ns:List Int}:∀{E:List Ent},look ns E=none->∀e ∈ E,e.1 ≠ ns
 | [],_,e,he=>by cases he
 | (k,p)::r,h,e,he=>by
  unfold look at h;by_cases z:k=ns
  ·rw[if_pos z] at h;cases h
  ·rw[if_neg z] at h;rcases yI.mp he with rfl | he
   ·exact z
   ·exact zex h e he
theorem zfG{k:List Int}{q:Rat}:∀{E:List Ent},(E.map (·.1)).Nodup->(k,q) ∈ E->look k E=some q
 | [],_,h=>by cases h
 | (k',p)::r,nd,h=>by
  rw[yH,yah] at nd;unfold look;rcases yI.mp h with z | h
  ·cases z;rw[if_pos rfl]
  ·rw[if_neg (λz=>nd.1 (by rw[z];exact yD.mpr ⟨(k,q),h,rfl⟩))]
   exact zfG nd.2 h
theorem zem(ns:List Int)(q:Rat)(E:List Ent)(nd:(E.map (·.1)).Nodup):((putE ns q E).map (·.1)).Nodup:=by
 unfold putE;cases h:(look ns E).isSome with
 | true=>
  rw[if_pos rfl,jf];have:((λe:Ent=>e.1) ∘ λe:Ent=>if e.1=ns then(e.1,q) else e)=λe=>e.1:=by
   funext e
   by_cases z:e.1=ns <;> simp[z]
  rw[this];exact nd
 | false=>
  rw[if_neg (by decide),ya7]
  have hn:look ns E=none:=by simpa using h
  rw[List.nodup_append];refine⟨nd,by simp,λa ha b hb=>?_⟩
  simp at hb;subst hb;obtain⟨e,he,rfl⟩:=yD.mp ha;exact zex hn e he
theorem zgd{ns:List Int}{q:Rat}{E:List Ent}{e:Ent}(h:e ∈ putE ns q E):e ∈ E\/e=(ns,q):=by
 unfold putE at h;split at h
 ·obtain⟨e',he,rfl⟩:=yD.mp h;by_cases z:e'.1=ns
  ·right;simp[z]
  ·left;simp[z,he]
 ·rcases ju.mp h with h | h
  ·exact .inl h
  ·exact .inr (by simpa using h)
theorem zge(ns:List Int)(q:Rat)(E:List Ent):(putE ns q E).length<=E.length+1:=by
 unfold putE;split <;> simp
def ky(w:List Int):List Int:=w.map λx=>x / (dv w:Int)
def qv(l:Lim):Rat:=y4 l.2 (dv l.1)
def V5(E:List Ent)(l:Lim):List Ent:=match look (ky l.1) E with
 | none=>putE (ky l.1) (qv l) E
 | some q=>if qv l < q then putE (ky l.1) (qv l) E else E
def PE(E:List Ent)(ps:List Rat):Prop:=∀e ∈ E,dot e.1 ps<=e.2
theorem zbc(c:Int):∀(w:List Int) (ps:List Rat),dot (w.map (c * ·)) ps=(c:Rat) * dot w ps
 | [],ps=>by
  have h:∀q,dot [] q=0:=λq=>by cases q <;> rfl
  show dot [] ps=_;rw[h];grind
 | _::_,[]=>by
  show(0:Rat)=(c:Rat) * 0
  grind
 | x::w,p::ps=>by
  have ih:=zbc c w ps;show((c * x:Int):Rat) * p+dot (w.map (c * ·)) ps=(c:Rat) * ((x:Rat) * p+dot w ps)
  rw[ih,jX];grind
theorem ky_mul(w:List Int):(ky w).map ((dv w:Int) * ·)=w:=by
 unfold ky;rw[jf]
 conv=>rhs;rw[<- List.map_id w]
 refine qq λx hx=>?_
 exact Int.mul_ediv_cancel' (zgJ hx)
theorem keeps_ky{l:Lim}{ps:List Rat}:dot (ky l.1) ps<=qv l ↔ dot l.1 ps<=(l.2:Rat):=by
 have d0:(0:Rat) < ((dv l.1:Int):Rat):=by have:=zeI l.1;exact_mod_cast (show(0:Int) < (dv l.1:Int) by omega)
 have e1:dot l.1 ps=((dv l.1:Int):Rat) * dot (ky l.1) ps:=by rw[<- zbc,ky_mul]
 have e2:(l.2:Rat)=((dv l.1:Int):Rat) * qv l:=by
  unfold qv;rw[qt,ybd,qB,ycg,Rat.inv_mul_cancel _ (by grind),ybe]
 rw[e1,e2];exact⟨λh=>jG h (by grind),λh=>qD h d0⟩
theorem step_sem{E:List Ent}{l:Lim}{ps:List Rat}(nd:(E.map (·.1)).Nodup):PE (V5 E l) ps ↔ PE E ps/\dot l.1 ps<=(l.2:Rat):=by
 rw[<- keeps_ky];unfold V5;cases h:look (ky l.1) E with
 | none=>
  simp only;have e:putE (ky l.1) (qv l) E=E++[(ky l.1,qv l)]:=by unfold putE;rw[h];rfl
  rw[e];constructor
  ·exact λk=>⟨λe he=>k e (qH _ he),k _ (yT _ yP)⟩
  ·rintro⟨k1,k2⟩ e he
   rcases ju.mp he with he | he
   ·exact k1 e he
   ·simp at he;subst he;exact k2
 | some q=>
  simp only;have hm:=zdv h;split
  ·rename_i hq;have e:putE (ky l.1) (qv l) E=E.map (λe=>if e.1=ky l.1 then(e.1,qv l) else e):=by unfold putE;rw[h];rfl
   rw[e];constructor
   ·intro k;have k2:dot (ky l.1) ps<=qv l:=by
     have:=k (ky l.1,qv l) (yD.mpr ⟨(ky l.1,q),hm,by simp⟩)
     exact this
    refine⟨λe he=>?_,k2⟩
    by_cases z:e.1=ky l.1
    ·have e2:e.2=q:=by
      have:=zfG (k:=e.1) (q:=e.2) nd he;rw[z,h] at this;exact(ja.inj this).symm
     rw[z,e2];exact qg k2 (qU hq)
    ·have:=k e (yD.mpr ⟨e,he,by simp[z]⟩)
     exact this
   ·rintro⟨k1,k2⟩ e he
    obtain⟨e',he',rfl⟩:=yD.mp he;by_cases z:e'.1=ky l.1
    ·simp[z];exact k2
    ·simp[z];exact k1 e' he'
  ·rename_i hq;refine⟨λk=>⟨k,?_⟩,λk=>k.1⟩
   have:=k _ hm;exact qg this (jM.mp hq)
theorem zd6{E:List Ent}{l:Lim}(nd:(E.map (·.1)).Nodup):((V5 E l).map (·.1)).Nodup:=by
 unfold V5;split
 ·exact zem _ _ _ nd
 ·split
  ·exact zem _ _ _ nd
  ·exact nd
theorem zf4{E:List Ent}{l:Lim}{e:Ent}(h:e ∈ V5 E l):e ∈ E\/e=(ky l.1,qv l):=by
 unfold V5 at h;split at h
 ·exact zgd h
 ·split at h
  ·exact zgd h
  ·exact .inl h
theorem zf5(E:List Ent)(l:Lim):(V5 E l).length<=E.length+1:=by
 unfold V5;split
 ·exact zge _ _ _
 ·split
  ·exact zge _ _ _
  ·omega
def bB:DS:=(dSeq (dSet 3 [] (Zi YV (Zc (d2 fIx (dVar 2) (dC (.int 0))) dNil)))
  (dSeq (dSet 4 [] (d1 U6 (dL (YS 1 [3] (Zu 0) (iSeq (d2 fIx (dVar 2) (dC (.int 0)))) tT (d2 fDiv (dVar 0) (dVar 1))))))
  (dSeq (dSet 5 [] (Zi Yr (Zc (d2 fIx (dVar 2) (dC (.int 1))) (Zc (dVar 3) dNil))))
  (dIfG (tOr (tV (zbD 1 (dVar 4))) (tV (Zi WS (Zc (dVar 5) (Zc (zkd 1 (dVar 4)) dNil)))))
  (zkb 1 (dVar 4) (dVar 5))
  ZD))))
theorem limX_seq(x:Bool × Lim):∃t,limX x=.tuple [t,.int x.2.2]/\zhB t (x.2.1.map .int):=by
 obtain⟨b,l⟩:=x;cases b
 ·exact⟨_,rfl,.inl rfl⟩
 ·exact⟨_,rfl,.inr rfl⟩
theorem bB_ok{n:Nat}(hn:n < 4000){t0:ya}{x:Bool × Lim}{E:List Ent}(hE:∀e ∈ E,Sz n e.2)(hlen:E.length < 10000)(hw:x.2.1.length<=1000)(hb:x.2.2.natAbs < 2 ^ n)(hd:dv x.2.1 < 2 ^ n)(s3 s4 s5:Sl) :
  ∃s3' s4' s5',bB [.val t0,.dct (E.map enc),.val (limX x),s3,s4,s5]=.ok (.nx [.val t0,.dct ((V5 E x.2).map enc),.val (limX x),s3',s4',s5']):=by
 obtain⟨t,et,ht⟩:=limX_seq x;have e1:=dv_ok ht;have d0:(dv x.2.1:Int) ≠ 0:=by have:=zeI x.2.1;omega
 have dk:zbd (dv x.2.1:Int)=true:=zat (m:=n) d0 (by rw[j1];exact hd) (by omega)
 have e2:=Z6 (st:=Zu 0) (e:=(d2 fDiv (dVar 0) (dVar 1))) (C:=[.emp,.val (.int (dv x.2.1))]) ya.int (λy=>.int (y / (dv x.2.1:Int))) x.2.1 λy hy=>⟨[.val (.int y),.val (.int (dv x.2.1))],rfl,by simp[dk,zdD]⟩
 have ek:(x.2.1.map λy=>ya.int (y / (dv x.2.1:Int)))=(ky x.2.1).map .int:=by unfold ky;rw[jf];rfl
 rw[ek] at e2;have e3:=Ve (u:=x.2.2) (l:=(dv x.2.1:Int)) (n:=n) d0 (by rw[j1];exact hd) (by omega)
 have sq:Sz n (qv x.2):=Yy d0 hb (by rw[j1];exact hd)
 have hw2:(x.2.1.map ya.int).length<=16777216:=by simp;omega
 have g:=zar (ky x.2.1) E;have pu:=putD_enc (ky x.2.1) (qv x.2) E;have hl2:E.length < 16777215:=by omega
 refine⟨.val (.int (dv x.2.1)),.val (.tuple ((ky x.2.1).map .int)),.val (fr (qv x.2)),?_⟩;have top:∀o,(dIfG (tOr (tV (zbD 1 (dVar 4))) (tV (Zi WS (Zc (dVar 5) (Zc (zkd 1 (dVar 4)) dNil))))) (zkb 1 (dVar 4) (dVar 5)) ZD) [.val t0,.dct (E.map enc),.val (limX x),.val (.int (dv x.2.1)),.val (.tuple ((ky x.2.1).map .int)),.val (fr (qv x.2))]=.ok o ->
   bB [.val t0,.dct (E.map enc),.val (limX x),s3,s4,s5]=.ok o:=λo ho=>by
  have q:fr (qv x.2)=fr (y4 x.2.2 (dv x.2.1)):=rfl;rw[q] at ho;rw[et] at ho ⊢;generalize (ky x.2.1).map ya.int=KK at *
  generalize fr (y4 x.2.2 (dv x.2.1))=FF at *
  generalize x.2.1.map ya.int=WW at *
  unfold bB;rcases ht with rfl | rfl
  ·simp only[dSeq,Q9,d2,d1,dC,dVar,Res.bind_ok,dL,YS,iSeq,capS,yH,qQ,Zi,Zc,dNil,fIx];simp only[qF,yaa,at0,at1,ofO,Res.bind_ok,e1,jt,hw2,if_true,y0,jO,ya4,qL,e2,U6,e3];exact ho
  ·simp only[dSeq,Q9,d2,d1,dC,dVar,Res.bind_ok,dL,YS,iSeq,capS,yH,qQ,Zi,Zc,dNil,fIx];simp only[qF,yaa,at0,at1,ofO,Res.bind_ok,e1,jt,hw2,if_true,y0,jO,ya4,qL,e2,U6,e3];exact ho
 refine top _ ?_;have km:=Vx (ky x.2.1);unfold V5;cases hL:look (ky x.2.1) E with
 | none=>
  rw[hL] at g;simp only[Option.map_none] at g;generalize (ky x.2.1).map ya.int=KK at *
  simp[km,g,isDct,pu,hl2]
 | some q=>
  have sz:=hE _ (zdv hL);have e4:=zaC sq sz (by omega)
  rw[hL] at g;simp only[yb9] at g;generalize (ky x.2.1).map ya.int=KK at *
  simp only;by_cases hq:qv x.2 < q
  ·rw[decide_eq_true hq] at e4;rw[if_pos hq];simp[km,g,isDct,pu,hl2,e4]
  ·rw[decide_eq_false hq] at e4;rw[if_neg hq];simp[km,g,e4]
def Jx(E:List Ent)(ls:List Lim):List Ent:=ls.foldl V5 E
theorem zeF:∀(ls:List Lim) (E:List Ent),(E.map (·.1)).Nodup->((Jx E ls).map (·.1)).Nodup
 | [],E,h=>h
 | l::ls,E,h=>zeF ls (V5 E l) (zd6 h)
theorem zgE{ps:List Rat}:∀(ls:List Lim) (E:List Ent),(E.map (·.1)).Nodup->(PE (Jx E ls) ps ↔ PE E ps/\Kp ls ps)
 | [],E,h=>⟨λk=>⟨k,λl hl=>by cases hl⟩,λk=>k.1⟩
 | l::ls,E,h=>by
  have ih:=zgE (ps:=ps) ls (V5 E l) (zd6 h);have e:Jx E (l::ls)=Jx (V5 E l) ls:=rfl;rw[e,ih,step_sem h];constructor
  ·rintro⟨⟨k1,k2⟩,k3⟩
   refine⟨k1,λx hx=>?_⟩
   rcases yI.mp hx with rfl | hx
   ·exact k2
   ·exact k3 x hx
  ·rintro⟨k1,k2⟩
   exact⟨⟨k1,k2 l yP⟩,λx hx=>k2 x (yR _ hx)⟩
theorem zgF:∀(ls:List Lim) (E:List Ent) (e:Ent),e ∈ Jx E ls->e ∈ E\/∃l ∈ ls,e=(ky l.1,qv l)
 | [],E,e,h=>.inl h
 | l::ls,E,e,h=>by
  rcases zgF ls (V5 E l) e h with h | ⟨l',hl,he⟩
  ·rcases zf4 h with h | h
   ·exact .inl h
   ·exact .inr ⟨l,yP,h⟩
  ·exact .inr ⟨l',yR _ hl,he⟩
theorem zgG:∀(ls:List Lim) (E:List Ent),(Jx E ls).length<=E.length+ls.length
 | [],E=>by simp[Jx]
 | l::ls,E=>by
  have h1:=zgG ls (V5 E l);have h2:=zf5 E l;have e:Jx E (l::ls)=Jx (V5 E l) ls:=rfl;rw[e];simp only[jk];omega
theorem zcm{n:Nat}(hn:n < 4000)(t0:ya):∀(xs:List (Bool × Lim)) (E:List Ent) (s2 s3 s4 s5:Sl),(∀e ∈ E,Sz n e.2)->E.length+xs.length < 10000->(∀x ∈ xs,x.2.1.length<=1000/\x.2.2.natAbs < 2 ^ n/\dv x.2.1 < 2 ^ n) ->
  ∃s2' s3' s4' s5',forL (Zu 2) bB (xs.map limX) [.val t0,.dct (E.map enc),s2,s3,s4,s5]=.ok (.nx [.val t0,.dct ((Jx E (xs.map (·.2))).map enc),s2',s3',s4',s5'])
 | [],E,s2,s3,s4,s5,_,_,_=>⟨s2,s3,s4,s5,rfl⟩
 | x::xs,E,s2,s3,s4,s5,hE,hl,hx=>by
  obtain⟨h1,h2,h3⟩:=hx x yP;rw[jk] at hl;obtain⟨u3,u4,u5,e⟩:=bB_ok hn (t0:=t0) hE (by omega) h1 h2 h3 s3 s4 s5
  have hs:=zf5 E x.2;obtain⟨v2,v3,v4,v5,ih⟩:=zcm hn t0 xs (V5 E x.2) (.val (limX x)) u3 u4 u5 (λe he=>by
   rcases zf4 he with he | rfl
   ·exact hE e he
   ·show Sz n (y4 x.2.2 (dv x.2.1));have d0:(dv x.2.1:Int) ≠ 0:=by have:=zeI x.2.1;omega
    exact Yy d0 h2 (by rw[j1];exact h3)) (by omega) λy hy=>hx y (yR _ hy)
  refine⟨v2,v3,v4,v5,?_⟩;rw[yH];unfold forL;simp only[Zu,jt,Res.bind_ok,e];exact ih
theorem least_ok{n:Nat}(hn:n < 4000){xs:List (Bool × Lim)}(hl:xs.length < 10000)(hx:∀x ∈ xs,x.2.1.length<=1000/\x.2.2.natAbs < 2 ^ n/\dv x.2.1 < 2 ^ n):Xl [.list (xs.map limX)]=.ok (.dict ((.none,.none)::(Jx [] (xs.map (·.2))).map enc)):=by
 obtain⟨s2,s3,s4,s5,e⟩:=zcm hn (.list (xs.map limX)) xs [] .emp .emp .emp .emp (by simp) (by simpa using hl) hx
 have hd:V2=dSeq (dFor (Zu 2) [] (iSeq (dVar 0)) bB) Wl:=rfl;rw[qQ] at e;generalize (Jx [] (xs.map (·.2))).map enc=R at *
 simp[Xl,U9,hd,Wl,runQ,runF,e]
def wl(e:Ent):Lim:=(e.1.map λx=>x * (e.2.den:Int),e.2.num)
theorem zcS{n:Nat}(hn:n < 4000){e:Ent}(hk:e.1.length<=1000)(h1:∀x ∈ e.1,x.natAbs < 2 ^ n)(h2:Sz n e.2):Y9 [.tuple (e.1.map .int),fr e.2]=.ok (limT (wl e)):=by
 have c:=Z6 (st:=Zu 0) (e:=(d2 fMul (dVar 0) (d2 fIx (dVar 1) (dC (.int 1))))) (C:=[.emp,.val (fr e.2)]) ya.int (λx=>.int (x * (e.2.den:Int))) e.1 λx hx=>by
  have m:Yv x (e.2.den:Int)=true:=ZQ (h1 x hx) h2.denI (by omega)
  exact⟨[.val (.int x),.val (fr e.2)],rfl,by simp[fr,at1,m]⟩
 have hl:(e.1.map ya.int).length<=16777216:=by simp;omega
 have ek:(e.1.map λx=>ya.int (x * (e.2.den:Int)))=(e.1.map λx=>x * (e.2.den:Int)).map .int:=by rw[jf];rfl
 rw[ek] at c;show _=Res.ok (ya.tuple [ya.tuple ((e.1.map λx=>x * (e.2.den:Int)).map .int),.int e.2.num])
 generalize (e.1.map λx=>x * (e.2.den:Int)).map ya.int=R at *
 generalize e.1.map ya.int=W at *
 simp only[fr] at c ⊢;simp[Y9,QR,runQ,runF,hl,c,at0,at1]
theorem zjR(q:Rat):((q.den:Int):Rat) * q=((q.num:Int):Rat):=by
 conv=>lhs;rhs;rw[<- ji q]
 rw[zdJ,jY,<- zdJ,zfN (Z8 q),ybe]
theorem zgu{e:Ent}{ps:List Rat}:dot (wl e).1 ps<=((wl e).2:Rat) ↔ dot e.1 ps<=e.2:=by
 have d0:(0:Rat) < ((e.2.den:Int):Rat):=by have:=e.2.den_pos;exact_mod_cast (show(0:Int) < (e.2.den:Int) by omega)
 have e1:dot (wl e).1 ps=((e.2.den:Int):Rat) * dot e.1 ps:=by
  rw[<- zbc];show dot (e.1.map λx=>x * (e.2.den:Int)) ps=_
  congr 1
  exact qq λx _=>jY _ _
 have e2:((wl e).2:Rat)=((e.2.den:Int):Rat) * e.2:=by
  exact(zjR e.2).symm
 rw[e1,e2];exact⟨λh=>qD h d0,λh=>jG h (by grind)⟩
theorem wl_sz{l:Lim}{B:Nat}(h:(∀x ∈ l.1,x.natAbs<=B)/\l.2.natAbs<=B):(∀x ∈ (wl (ky l.1,qv l)).1,x.natAbs<=B)/\(wl (ky l.1,qv l)).2.natAbs<=B:=by
 have d1:=zeI l.1;have hden:(qv l).den<=dv l.1:=by
  unfold qv;rw[ya9,if_neg (by omega)]
  exact yE (ya5 _ _) (by rw[j1];exact yq _)
 refine⟨λx hx=>?_,?_⟩
 ·obtain⟨y,hy,rfl⟩:=yD.mp hx;obtain⟨z,hz,rfl⟩:=yD.mp hy;obtain⟨c,hc⟩:=zgJ hz;have h1:=h.1 z hz;show(z / (dv l.1:Int) * ((qv l).den:Int)).natAbs<=B;have e:z / (dv l.1:Int)=c:=by rw[hc];exact qZ c (by omega)
  rw[e,jw,j1];rw[hc,jw,j1] at h1;exact yE (yaw _ hden) (by rw[Nat.mul_comm];exact h1)
 ·show(qv l).num.natAbs<=B;refine yE ?_ h.2;unfold qv;rw[ya8,Int.natAbs_ediv_of_dvd,jw]
  ·have hs:(Int.sign (dv l.1:Int)).natAbs=1:=by rw[Int.sign_eq_one_of_pos (by omega)];rfl
   rw[hs,yap];exact ya5 _ _
  ·exact Int.dvd_mul_of_dvd_right (ybz ..)
structure Nm(K B n0 mb:Nat):Prop where
 k1:1<=K
 k4:K<=4
 b1:1<=B
 m0:0 < mb
 bm:B < 2 ^ mb
 z:Sx.fact (K+1) * B ^ (K+1) < 2 ^ n0
 n1:1<=n0
 n:n0<=1000
 cov:wSz mb (2 * wSz mb n0 K+2 * n0+(mb+4)) K+mb+(2 * wSz mb n0 K+2 * n0+(mb+4)) < 8000
theorem Nm.dh{K B n0 mb:Nat}{ls:List Lim}(h:Nm K B n0 mb)(hl:ls.length<=200)(hw:∀l ∈ ls,l.1.length=K)(hs:∀l ∈ ls,(∀x ∈ l.1,x.natAbs<=B)/\l.2.natAbs<=B):Dh K B n0 mb ls:=⟨h.k1,h.k4,hl,hw,h.b1,h.m0,h.bm,hs,h.z,h.n1,h.n,h.cov⟩
theorem Nm.mb4{K B n0 mb:Nat}(h:Nm K B n0 mb):mb < 4000:=by have:=h.cov;omega
section
variable {K B n0 mb k:Nat}{ls:List Lim}
theorem cK_le{l:Lim}(hk:k < l.1.length)(h:∀x ∈ l.1,x.natAbs<=B):(cK k l).natAbs<=B:=by
 unfold cK;rw[<- UT (d:=0) hk];exact h _ (jr hk)
theorem zja{a b c d:Int}{B:Nat}(ha:a.natAbs<=B)(hb:b.natAbs<=B)(hc:c.natAbs<=B)(hd:d.natAbs<=B):(a * b+c * d).natAbs<=2 * B * B:=by
 have h1:=yak ha hb;have h2:=yak hc hd;have h3:=Int.natAbs_add_le (a * b) (c * d);rw[jw,jw] at h3;have h4:2 * B * B=B * B+B * B:=by rw[ycf,Nat.two_mul]
 omega
theorem left_sz(hk:k < K)(hb1:1<=B)(hw:∀l ∈ ls,l.1.length=K)(hs:∀l ∈ ls,(∀x ∈ l.1,x.natAbs<=B)/\l.2.natAbs<=B):∀x ∈ Qo k ls,x.2.1.length=K - 1/\(∀y ∈ x.2.1,y.natAbs<=2 * B * B)/\x.2.2.natAbs<=2 * B * B:=λx hx=>by
 have hB:B<=2 * B * B:=by
  have:=yaw B hb1;rw[Nat.mul_one] at this;have h4:2 * B * B=B * B+B * B:=by rw[ycf,Nat.two_mul]
  omega
 rcases ju.mp hx with hx | hx
 ·obtain⟨l,hl,rfl⟩:=yD.mp hx;have hm:=(yX.mp hl).1;refine⟨?_,λy hy=>yE ((hs l hm).1 y (Vd hy)) hB,yE (hs l hm).2 hB⟩
  show(oth l.1 k).length=_;rw[XG (by rw[hw l hm];exact hk),hw l hm]
 ·obtain⟨u,hu,hx⟩:=yb5.mp hx;obtain⟨l,hl,rfl⟩:=yD.mp hx;have hmu:=(yX.mp hu).1;have hml:=(yX.mp hl).1;have cu:=cK_le (k:=k) (by rw[hw u hmu];exact hk) (hs u hmu).1
  have cl:=cK_le (k:=k) (by rw[hw l hml];exact hk) (hs l hml).1
  have cl':(-cK k l).natAbs<=B:=by rw[qO];exact cl
  refine⟨?_,λy hy=>?_,zja cl' (hs u hmu).2 cu (hs l hml).2⟩
  ·show(oth (j4 _ u.1 l.1) k).length=_;have:(j4 (λa b=>(-cK k l) * a+cK k u * b) u.1 l.1).length=K:=by simp[hw u hmu,hw l hml]
   rw[XG (by omega),this]
  ·have hy':=Vd hy;obtain⟨i,hi,rfl⟩:=qI hy';simp only[List.getElem_zipWith];have hi':i < K:=by simpa[hw u hmu,hw l hml] using hi
   exact zja cl' ((hs u hmu).1 _ (jr (by rw[hw u hmu];exact hi'))) cu ((hs l hml).1 _ (jr (by rw[hw l hml];exact hi')))
theorem left_len(hl:ls.length<=10):(Qo k ls).length<=110:=by
 unfold Qo;rw[qc,jm];have h0:(ls.filter (z0 k)).length<=10:=yE (qG _ _) hl;have h1:(ls.filter (zU k)).length<=10:=yE (qG _ _) hl;have h2:(ls.filter (zL k)).length<=10:=yE (qG _ _) hl;have h3:((ls.filter (zU k)).flatMap λu=>(ls.filter (zL k)).map λl=>(false,jn k u l)).length=(ls.filter (zU k)).length * (ls.filter (zL k)).length:=by
  rw[List.length_flatMap];simp only[jm];rw[List.map_const',List.sum_replicate_nat]
 rw[h3];have:=yak h1 h2;omega
theorem zhJ{B' n' mb':Nat}(d:Dh K B n0 mb ls)(h2:2<=K)(hk:k < K)(hlen:ls.length<=10)(hB:B<=999999999999)(nm:Nm (K - 1) B' n' mb')(hb:2 * B * B<=B') :
  ∃os ls':List Lim,Dh (K - 1) B' n' mb' os/\Uh [Yq K ls,.int k]=.ok (Yq (K - 1) os)/\(∀l ∈ ls',l ∈ ls)/\(∀ps:List Rat,ps.length=K->(Kp ls' ps ↔ Kp ls ps))/\∀ps:List Rat,ps.length=K - 1->(Kp os ps ↔ Kp ((Qo k ls').map (·.2)) ps):=by
 obtain⟨ls',s1,s2,s3,e1⟩:=zjk d;have k4:=d.k4;have hmb:=nm.mb4;have hl10:ls'.length<=10:=by omega
 have hw':∀l ∈ ls',l.1.length=K:=λl h=>d.w l (s1 l h)
 have hs':∀l ∈ ls',(∀x ∈ l.1,x.natAbs<=B)/\l.2.natAbs<=B:=λl h=>d.sz l (s1 l h)
 have hc:∀l ∈ ls',(cK k l).natAbs < 18446744073709551616:=λl h=>by
  have:=cK_le (k:=k) (by rw[hw' l h];exact hk) (hs' l h).1
  omega
 have e2:=left_ok hk k4 (by omega) hw' hc
 have lsz:=left_sz hk d.b1 hw' hs';have llen:=left_len (k:=k) hl10;have e3:=least_ok (n:=mb') hmb (xs:=Qo k ls') (by omega) λx hx=>by
  obtain⟨a1,a2,a3⟩:=lsz x hx;refine⟨by omega,jh (yE a3 hb) nm.bm,jh (dv_le nm.b1 λy hy=>yE (a2 y hy) hb) nm.bm⟩
 have nd:=zeF ((Qo k ls').map (·.2)) [] (by simp)
 have fl:=zgG ((Qo k ls').map (·.2)) []
 have fm:=zgF ((Qo k ls').map (·.2)) []
 have fs:=λps=>zgE (ps:=ps) ((Qo k ls').map (·.2)) [] (by simp)
 generalize hE:Jx [] ((Qo k ls').map (·.2))=E at *
 have ent:∀e ∈ E,∃l:Lim,l.1.length=K - 1/\((∀y ∈ l.1,y.natAbs<=B')/\l.2.natAbs<=B')/\e=(ky l.1,qv l):=λe he=>by
  rcases fm e he with h | ⟨l,hl,rfl⟩
  ·cases h
  ·obtain⟨x,hx,rfl⟩:=yD.mp hl;obtain⟨a1,a2,a3⟩:=lsz x hx;exact⟨x.2,a1,⟨λy hy=>yE (a2 y hy) hb,yE a3 hb⟩,rfl⟩
 have dw:Dh (K - 1) B' n' mb' (E.map wl):=by
  refine nm.dh (by simp at fl ⊢;omega) (λl hl=>?_) λl hl=>?_
  ·obtain⟨e,he,rfl⟩:=yD.mp hl;obtain⟨l,a1,a2,rfl⟩:=ent e he;show((ky l.1).map _).length=_;rw[jm];unfold ky;rw[jm,a1]
  ·obtain⟨e,he,rfl⟩:=yD.mp hl;obtain⟨l,a1,a2,rfl⟩:=ent e he;exact wl_sz a2
 obtain⟨os,t1,t2,t3,e5⟩:=zjk dw;refine⟨os,ls',dw.sub t1 t2,?_,s1,s3,λps hp=>?_⟩
 ·have e4:=Z6 (st:=Zu 0) (e:=(Zi Y9 (Zc (dVar 0) (Zc (d2 fGetD (dVar 1) (dVar 0)) dNil)))) (C:=[.emp,.val (.dict ((.none,.none)::E.map enc))]) (λe:Ent=>ya.tuple (e.1.map .int)) (λe=>limT (wl e)) E λe he=>by
   obtain⟨l,a1,a2,el⟩:=ent e he;have lk:=zfG (k:=e.1) (q:=e.2) nd he;have g:=zar e.1 E;rw[lk] at g;have km:=Vx e.1;have d1:=zeI l.1;have wo:=zcS (n:=mb') hmb (e:=e) (by rw[el];unfold ky;rw[jm,a1];omega) (λx hx=>by
    rw[el] at hx;obtain⟨z,hz,rfl⟩:=yD.mp hx;refine jh ?_ nm.bm;refine yE ?_ (a2.1 z hz);rw[Int.natAbs_ediv_of_dvd (zgJ hz)];exact ya5 _ _) (by
    rw[el];show Sz mb' (y4 l.2 (dv l.1));have d0:(dv l.1:Int) ≠ 0:=by omega
    exact Yy d0 (jh a2.2 nm.bm) (by rw[j1];exact jh (dv_le nm.b1 a2.1) nm.bm))
   refine⟨[.val (.tuple (e.1.map .int)),.val (.dict ((.none,.none)::E.map enc))],rfl,?_⟩;generalize e.1.map ya.int=KK at *
   generalize E.map enc=ES at *
   simp[km,g,wo]
  have em:(E.map λe=>limT (wl e))=(E.map wl).map limT:=by rw[jf];rfl
  have ek:(E.map λe:Ent=>ya.tuple (e.1.map .int))=(E.map enc).map (·.1):=by rw[jf];rfl
  rw[em,ek] at e4;have hl1:((E.map enc).map (·.1)).length<=16777216:=by simp at fl ⊢;omega
  have ec:=Vl (n:=K) hk;have n1:¬((K:Int)=1):=by omega
  have kk:((K - 1:Nat):Int)=(K:Int) - 1:=by omega
  simp only[Yq,kk] at e1 e5 ⊢;generalize (E.map wl).map limT=WL at *
  generalize E.map enc=ES at *
  generalize (Qo k ls').map limX=LX at *
  simp[Uh,zeM,zbx,zbw,zbv,runQ,runF,at0,at1,ec,Wi,n1,e1,e2,e3];have hl3:ES.length<=16777216:=by simpa using hl1
  simp[hl3,e4,e5]
 ·rw[t3 ps hp];have:=fs ps;constructor
  ·intro h;refine(this.mp λe he=>?_).2
   exact zgu.mp (h _ (yD.mpr ⟨e,he,rfl⟩))
  ·intro h l hl;obtain⟨e,he,rfl⟩:=yD.mp hl;exact zgu.mpr (this.mpr ⟨(λe he=>absurd he (by simp)),h⟩ e he)
end
def ins(ps:List Rat)(k:Nat)(a:Rat):List Rat:=ps.take k++a::ps.drop k
theorem zjB{ps:List Rat}{k:Nat}{a:Rat}(h:k<=ps.length):(ins ps k a).length=ps.length+1:=by
 unfold ins;simp;omega
theorem dot_nil'(ps:List Rat):dot [] ps=0:=by cases ps <;> rfl
theorem zfL:∀(w:List Int) (ps:List Rat) (k:Nat) (a:Rat),w.length=ps.length+1->k<=ps.length->dot w (ins ps k a)=((w.getD k 0:Int):Rat) * a+dot (oth w k) ps
 | [],ps,k,a,h,hk=>by simp at h
 | x::w,ps,0,a,h,hk=>by
  show(x:Rat) * a+dot w ps=(x:Rat) * a+dot w ps
  rfl
 | x::w,[],k+1,a,h,hk=>by simp at hk
 | x::w,p::ps,k+1,a,h,hk=>by
  have ih:=zfL w ps k a (by simpa using h) (by simpa using hk)
  show(x:Rat) * p+dot w (ins ps k a)=(((x::w).getD (k+1) 0:Int):Rat) * a+((x:Rat) * p+dot (oth w k) ps);rw[ih];have e:(x::w).getD (k+1) 0=w.getD k 0:=by simp
  rw[e];grind
def room(k:Nat)(ps:List Rat)(l:Lim):Rat:=(l.2:Rat) - dot (oth l.1 k) ps
theorem zco{ls:List Lim}{ps:List Rat}{k:Nat}{a:Rat}(hw:∀l ∈ ls,l.1.length=ps.length+1)(hk:k<=ps.length):Kp ls (ins ps k a) ↔ ∀l ∈ ls,((cK k l:Int):Rat) * a<=room k ps l:=by
 constructor
 ·intro h l hl;have:=h l hl;rw[zfL _ _ _ _ (hw l hl) hk] at this;unfold room cK
  grind
 ·intro h l hl;have:=h l hl;rw[zfL _ _ _ _ (hw l hl) hk];unfold room cK at this
  grind
theorem ziX(f:Int->Int->Int):∀(u l:List Int) (k:Nat),u.length=l.length->oth (j4 f u l) k=j4 f (oth u k) (oth l k)
 | [],[],k,_=>by simp[oth]
 | [],_::_,_,h=>by simp at h
 | _::_,[],_,h=>by simp at h
 | x::u,y::l,0,h=>by simp[oth]
 | x::u,y::l,k+1,h=>by
  have ih:=ziX f u l k (by simpa using h)
  unfold oth at ih ⊢;simp only[List.zipWith_cons_cons,List.take_succ_cons,List.drop_succ_cons,ya4];rw[ih]
theorem zjO(a b:Int):∀(x y:List Int) (ps:List Rat),x.length=y.length->dot (j4 (λu v=>a * u+b * v) x y) ps=(a:Rat) * dot x ps+(b:Rat) * dot y ps
 | [],[],ps,_=>by
  show dot [] ps=_;rw[dot_nil'];grind
 | [],_::_,_,h=>by simp at h
 | _::_,[],_,h=>by simp at h
 | u::x,v::y,[],_=>by
  show(0:Rat)=(a:Rat) * 0+(b:Rat) * 0
  grind
 | u::x,v::y,p::ps,h=>by
  have ih:=zjO a b x y ps (by simpa using h)
  show((a * u+b * v:Int):Rat) * p+dot (j4 (λu v=>a * u+b * v) x y) ps=(a:Rat) * ((u:Rat) * p+dot x ps)+(b:Rat) * ((v:Rat) * p+dot y ps)
  rw[ih,Rat.intCast_add,jX,jX]
  grind
theorem zju{u l:Lim}{k:Nat}{ps:List Rat}(h:u.1.length=l.1.length)(hk:k < u.1.length):dot (jn k u l).1 ps<=((jn k u l).2:Rat) ↔ 0<=(-((cK k l:Int):Rat)) * room k ps u+((cK k u:Int):Rat) * room k ps l:=by
 have e:dot (jn k u l).1 ps=((-cK k l:Int):Rat) * dot (oth u.1 k) ps+((cK k u:Int):Rat) * dot (oth l.1 k) ps:=by
  show dot (oth (j4 (λa b=>(-cK k l) * a+cK k u * b) u.1 l.1) k) ps=_
  rw[ziX _ _ _ _ h,zjO];rw[XG hk,XG (by omega),h]
 have e2:((jn k u l).2:Rat)=((-cK k l:Int):Rat) * (u.2:Rat)+((cK k u:Int):Rat) * (l.2:Rat):=by
  show(((-cK k l) * u.2+cK k u * l.2:Int):Rat)=_;rw[Rat.intCast_add,jX,jX]
 rw[e,e2];unfold room;rw[Rat.intCast_neg];constructor <;> intro h <;> grind
theorem zdE{α:Type}(f:α->Rat):∀(xs:List α),xs ≠ []->∃x ∈ xs,∀y ∈ xs,f x<=f y
 | [],h=>absurd rfl h
 | [x],_=>⟨x,yP,λy hy=>by simp at hy;rw[hy];exact qC⟩
 | x::z::xs,_=>by
  obtain⟨w,hw,h⟩:=zdE f (z::xs) (by simp)
  by_cases c:f x<=f w
  ·refine⟨x,yP,λy hy=>?_⟩
   rcases yI.mp hy with rfl | hy
   ·exact qC
   ·exact qg c (h y hy)
  ·refine⟨w,yR _ hw,λy hy=>?_⟩
   rcases yI.mp hy with rfl | hy
   ·exact qU (qV.mp c)
   ·exact h y hy
theorem zaA{c:Int}(h:0 < c):(0:Rat) < (c:Rat):=by exact_mod_cast h
theorem zaB{c:Int}(h:c < 0):(c:Rat) < 0:=by exact_mod_cast h
theorem Uc{s c:Rat}(h:c ≠ 0):c * (s / c)=s:=by rw[ybd];exact Uj h
theorem fm_ex(xs:List (Int × Rat))(h0:∀x ∈ xs,x.1=0->0<=x.2)(h1:∀u ∈ xs,∀l ∈ xs,0 < u.1->l.1 < 0->0<=(-(l.1:Rat)) * u.2+(u.1:Rat) * l.2):∃a:Rat,∀x ∈ xs,(x.1:Rat) * a<=x.2:=by
 by_cases hL:(xs.filter λx=>decide (x.1 < 0))=[]
 ·by_cases hU:(xs.filter λx=>decide (0 < x.1))=[]
  ·refine⟨0,λx hx=>?_⟩
   have n1:¬x.1 < 0:=λz=>by have:x ∈ xs.filter (λx=>decide (x.1 < 0)):=yX.mpr ⟨hx,by simpa using z⟩;rw[hL] at this;cases this
   have n2:¬0 < x.1:=λz=>by have:x ∈ xs.filter (λx=>decide (0 < x.1)):=yX.mpr ⟨hx,by simpa using z⟩;rw[hU] at this;cases this
   rw[qT];exact h0 x hx (by omega)
  ·obtain⟨u,hu,hm⟩:=zdE (λx:Int × Rat=>x.2 / (x.1:Rat)) _ hU
   refine⟨u.2 / (u.1:Rat),λx hx=>?_⟩
   by_cases c:0 < x.1
   ·have hx':=hm x (yX.mpr ⟨hx,by simpa using c⟩)
    have p:=zaA c;have:=jG hx' (qU p);rw[Uc (s:=x.2) (by grind)] at this
    exact this
   ·have n1:¬x.1 < 0:=λz=>by have:x ∈ xs.filter (λx=>decide (x.1 < 0)):=yX.mpr ⟨hx,by simpa using z⟩;rw[hL] at this;cases this
    have e:x.1=0:=by omega
    rw[e];have:=h0 x hx e;show((0:Int):Rat) * _<=_;have z:((0:Int):Rat)=0:=rfl;rw[z,yan];exact this
 ·obtain⟨l,hl,hm⟩:=zdE (λx:Int × Rat=>-(x.2 / (x.1:Rat))) _ hL
  obtain⟨hl1,hl2⟩:=yX.mp hl;have hl2:l.1 < 0:=by simpa using hl2
  have nl:=zaB hl2;refine⟨l.2 / (l.1:Rat),λx hx=>?_⟩
  have ml:=Uc (s:=l.2) (c:=(l.1:Rat)) (by grind)
  by_cases c:x.1 < 0
  ·have hx':=hm x (yX.mpr ⟨hx,by simpa using c⟩)
   have p:=zaB c;have q:x.2 / (x.1:Rat)<=l.2 / (l.1:Rat):=by grind
   have:=jG q (show 0 <= -(x.1:Rat) by grind)
   have mx:=Uc (s:=x.2) (c:=(x.1:Rat)) (by grind)
   grind
  ·by_cases c2:0 < x.1
   ·have hh:=h1 x hx l hl1 c2 hl2;have p:=zaA c2;have key:(-(l.1:Rat)) * ((x.1:Rat) * (l.2 / (l.1:Rat)))<=(-(l.1:Rat)) * x.2:=by
     have e:(-(l.1:Rat)) * ((x.1:Rat) * (l.2 / (l.1:Rat)))=-((x.1:Rat) * ((l.1:Rat) * (l.2 / (l.1:Rat)))):=by grind
     rw[e,ml]
     grind
    exact qD key (by grind)
   ·have e:x.1=0:=by omega
    rw[e];have:=h0 x hx e;show((0:Int):Rat) * _<=_;have z:((0:Int):Rat)=0:=rfl;rw[z,yan];exact this
theorem fm{ls:List Lim}{ps:List Rat}{k:Nat}(hw:∀l ∈ ls,l.1.length=ps.length+1)(hk:k<=ps.length):(∃a,Kp ls (ins ps k a)) ↔ Kp ((Qo k ls).map (·.2)) ps:=by
 constructor
 ·rintro⟨a,h⟩ l0 hl0
  rw[zco hw hk] at h;obtain⟨x,hx,rfl⟩:=yD.mp hl0;rcases ju.mp hx with hx | hx
  ·obtain⟨l,hl,rfl⟩:=yD.mp hx;obtain⟨hm,hz⟩:=yX.mp hl;have hz:cK k l=0:=by simpa[z0] using hz
   have:=h l hm;rw[hz] at this;have z:((0:Int):Rat)=0:=rfl;rw[z,yan] at this;show dot (oth l.1 k) ps<=(l.2:Rat);unfold room at this
   grind
  ·obtain⟨u,hu,hx⟩:=yb5.mp hx;obtain⟨l,hl,rfl⟩:=yD.mp hx;obtain⟨hmu,hzu⟩:=yX.mp hu;obtain⟨hml,hzl⟩:=yX.mp hl;have hzu:0 < cK k u:=by simpa[zU] using hzu
   have hzl:cK k l < 0:=by simpa[zL] using hzl
   show dot (jn k u l).1 ps<=((jn k u l).2:Rat);rw[zju (by rw[hw u hmu,hw l hml]) (by rw[hw u hmu];omega)]
   have p1:=jG (h u hmu) (show 0 <= -((cK k l:Int):Rat) by have:=zaB hzl;grind)
   have p2:=jG (h l hml) (show 0<=((cK k u:Int):Rat) by have:=zaA hzu;grind)
   grind
 ·intro h;obtain⟨a,ha⟩:=fm_ex (ls.map λl=>(cK k l,room k ps l)) (λx hx hz=>by
   obtain⟨l,hl,rfl⟩:=yD.mp hx;have:=h _ (yD.mpr ⟨(true,lim0 k l),qH _ (yD.mpr ⟨l,yX.mpr ⟨hl,by simpa[z0] using hz⟩,rfl⟩),rfl⟩)
   have this:dot (oth l.1 k) ps<=(l.2:Rat):=this;show 0<=room k ps l;unfold room
   grind) (λx hx y hy hu hl=>by
   obtain⟨u,hmu,rfl⟩:=yD.mp hx;obtain⟨l,hml,rfl⟩:=yD.mp hy;have:=h _ (yD.mpr ⟨(false,jn k u l),yT _ (yb5.mpr ⟨u,yX.mpr ⟨hmu,by simpa[zU] using hu⟩,yD.mpr ⟨l,yX.mpr ⟨hml,by simpa[zL] using hl⟩,rfl⟩⟩),rfl⟩)
   exact(zju (by rw[hw u hmu,hw l hml]) (by rw[hw u hmu];omega)).mp this)
  exact⟨a,(zco hw hk).mpr λl hl=>ha _ (yD.mpr ⟨l,hl,rfl⟩)⟩
section
variable {K k:Nat}{ls:List Lim}{ps:List Rat}
structure Dr(K k:Nat)(ls:List Lim)(ps:List Rat):Prop where
 k4:K<=4
 hk:k < K
 len:ls.length<=10
 w:∀l ∈ ls,l.1.length=K
 s:∀l ∈ ls,(∀x ∈ l.1,x.natAbs < 2 ^ 40)/\l.2.natAbs < 2 ^ 40
 pl:ps.length=K - 1
 psz:∀q ∈ ps,Sz 4 q
theorem Dr.wp(d:Dr K k ls ps){l:Lim}(h:l ∈ ls):WP 40 4 (oth l.1 k) ps:=by
 refine⟨λx hx=>(d.s l h).1 x (Vd hx),d.psz,by decide,?_⟩
 have:=d.hk;rw[XG (by rw[d.w l h];exact d.hk),d.w l h,d.pl]
theorem Dr.dsz(d:Dr K k ls ps){l:Lim}(h:l ∈ ls):Sz 140 (dot (oth l.1 k) ps)/\wSz 40 4 ps.length+40+4 < 8000:=by
 have w:=d.wp h;have k4:=d.k4;have pl:=d.pl;have s1:=w.sz ps.length (yq _);have e1:dot ((oth l.1 k).take ps.length) (ps.take ps.length)=dot (oth l.1 k) ps:=by rw[jp,<- w.len,jp]
 rw[e1] at s1;have hz:wSz 40 4 ps.length<=136:=by
  unfold wSz;have:=ybp (40+4+1) (show ps.length<=3 by omega)
  omega
 exact⟨s1.mono (by omega),by omega⟩
theorem Dr.rsz(d:Dr K k ls ps){l:Lim}(h:l ∈ ls):Sz 181 (room k ps l):=(Sz.ofInt (d.s l h).2 (by decide)).sub (d.dsz h).1
theorem Dr.ck(d:Dr K k ls ps){l:Lim}(h:l ∈ ls):(cK k l).natAbs < 2 ^ 40:=by
 have hk:k < l.1.length:=by rw[d.w l h];exact d.hk
 unfold cK;rw[<- UT (d:=0) hk];exact(d.s l h).1 _ (jr hk)
theorem p64:(2:Nat) ^ 40 < 18446744073709551616:=by decide
def lk(k:Nat)(ps:List Rat)(l:Lim):Lim:=([cK k l * ((room k ps l).den:Int)],(room k ps l).num)
theorem ltk_ok(d:Dr K k ls ps){l:Lim}(h:l ∈ ls):YN [limT l,.int k,.list (ps.map fr)]=.ok (limT (lk k ps l)):=by
 have hk:k < l.1.length:=by rw[d.w l h];exact d.hk
 have k4:=d.k4;have o:=zgj hk (by rw[d.w l h];omega)
 have w:=QA (t:=.tuple ((oth l.1 k).map .int)) (.inr rfl) (d.wp h) (d.dsz h).2;have s:=zjf (Sz.ofInt (d.s l h).2 (by decide:0 < 40)) (d.dsz h).1 (by decide)
 have i1:=at_k hk;have m:Yv (cK k l) ((room k ps l).den:Int)=true:=Jv (Nat.lt_trans (d.ck h) p64);have er:fr ((l.2:Rat) - dot (oth l.1 k) ps)=.tuple [.int (room k ps l).num,.int ((room k ps l).den:Int)]:=rfl;show _=Res.ok (ya.tuple [ya.tuple [ya.int (cK k l * ((room k ps l).den:Int))],ya.int (room k ps l).num]);simp only[limT];simp[YN,U8,V1,runQ,runF,at0,at1,Uf,o,w,s,i1];simp[er,at0,at1,m]
theorem zgv{l:Lim}{a:Rat}:dot (lk k ps l).1 [a]<=((lk k ps l).2:Rat) ↔ ((cK k l:Int):Rat) * a<=room k ps l:=by
 have d0:(0:Rat) < (((room k ps l).den:Int):Rat):=by have:=(room k ps l).den_pos;exact_mod_cast (show(0:Int) < ((room k ps l).den:Int) by omega)
 have e1:dot (lk k ps l).1 [a]=(((room k ps l).den:Int):Rat) * (((cK k l:Int):Rat) * a):=by
  show((cK k l * ((room k ps l).den:Int):Int):Rat) * a+0=_;rw[jX];grind
 have e2:((lk k ps l).2:Rat)=(((room k ps l).den:Int):Rat) * room k ps l:=(zjR _).symm;rw[e1,e2];exact⟨λh=>qD h d0,λh=>jG h (by grind)⟩
set_option exponentiation.threshold 2000 in
theorem big1:Sx.fact (1+1) * (2 ^ 221) ^ (1+1) < 2 ^ 444:=by decide
theorem Dr.dk(d:Dr K k ls ps):DK 1 (ls.map (lk k ps)).length (2 ^ 221) 444 (ls.map (lk k ps)):=by
 have hl:=d.len;refine⟨by decide,by simp;omega,rfl,λl hl=>?_,by decide,λl hl=>?_,big1,by decide,?_⟩
 ·obtain⟨l,_,rfl⟩:=yD.mp hl;rfl
 ·obtain⟨l,h,rfl⟩:=yD.mp hl;have r:=d.rsz h;refine⟨λx hx=>?_,jD (yU r.num (QK (by decide)))⟩
  have hx:x=cK k l * ((room k ps l).den:Int):=by simpa[lk] using hx
  rw[hx,jw,j1];refine yE (yak (jD (d.ck h)) (jD r.den)) ?_;rw[<- Nat.pow_add];exact QK (by decide)
 ·simp;omega
def oR:Option Rat->ya
 | none=>.none
 | some q=>fr q
theorem q_pp:fEq (.str "point") (.str "point")=.ok (.bool true):=by rw[zbb (by decide +kernel) (by decide +kernel)];rfl
theorem q_cp:fEq (.str "clash") (.str "point")=.ok (.bool false):=by rw[zbb (by decide +kernel) (by decide +kernel)];rfl
theorem Dr.w1(d:Dr K k ls ps):(∀l ∈ ls,l.1.length=ps.length+1)/\k<=ps.length:=by
 have h1:=d.pl;have h2:=d.hk;exact⟨λl h=>by rw[d.w l h];omega,by omega⟩
theorem zjI(d:Dr K k ls ps):∃r:Option Rat,UW [Yq K ls,.int k,.list (ps.map fr)]=.ok (oR r)/\(∀a,r=some a->Kp ls (ins ps k a)/\Sz 444 a)/\(r=none->¬∃a,Kp ls (ins ps k a)):=by
 have k4:=d.k4;have hk:=d.hk;have hl:=d.len;have e1:=Vl (n:=K) hk;have e2:=check_ok (k:=K - 1) (ps:=ps) d.pl (by omega)
 rw[show((K - 1:Nat):Int)=(K:Int) - 1 by omega] at e2
 have e3:=Z6 (st:=Zu 0) (e:=(Zi YN (Zc (dVar 0) (Zc (dVar 1) (Zc (dVar 2) dNil))))) (C:=[.emp,.val (.int k),.val (.list (ps.map fr))]) limT (λl=>limT (lk k ps l)) ls λl h=>⟨[.val (limT l),.val (.int k),.val (.list (ps.map fr))],rfl,by simp[ltk_ok d h]⟩
 have em:(ls.map λl=>limT (lk k ps l))=(ls.map (lk k ps)).map limT:=by rw[jf];rfl
 rw[em] at e3;have hls:(ls.map limT).length<=16777216:=by simp;omega
 have top:∀(r t:ya),W8 [Yq 1 (ls.map (lk k ps))]=.ok r->U0 [.val (Yq K ls),.val (.int k),.val (.list (ps.map fr)),.val r]=.ok (.rt t)->UW [Yq K ls,.int k,.list (ps.map fr)]=.ok t:=λr t hj ht=>by
  simp only[Yq,ybw] at hj ht ⊢;generalize (ls.map (lk k ps)).map limT=LK at *
  generalize ls.map limT=LT at *
  simp[UW,zgY,zcK,zcJ,runQ,runF,at0,at1,e1,e2,hls,e3,hj,ht]
 rcases zjs d.dk with ⟨qs,h1,h2,h3,ej⟩ | ⟨ss,h1,h2,h3,h4,h5,ej⟩
 ·match qs,h1 with
  | [a],_=>
   refine⟨some a,top _ _ ej (by simp[U0,at0,at1,q_pp];rfl),λb hb=>?_,λz=>by cases z⟩
   cases hb;refine⟨(zco d.w1.1 d.w1.2).mpr λl hl=>zgv.mp (h3 _ (yD.mpr ⟨l,hl,rfl⟩)),h2 a yP⟩
 ·refine⟨none,top _ _ ej (by simp[U0,at0,q_cp,oR]),λa z=>(by cases z),λ_ ⟨a,ha⟩=>?_⟩
  rw[zco d.w1.1 d.w1.2] at ha;obtain⟨n,hn⟩:=sz_any a;refine zgk (K:=1) (ls:=ls.map (lk k ps)) (ss:=ss) (ps:=[a]) (n2:=n) (λl hl=>?_) (⟨h1,h2,h3,h4,h5⟩:Cl 1 444 _ ss) ⟨rfl,λq hq=>by simp at hq;rw[hq];exact hn,λl hl=>?_⟩
  ·obtain⟨l,_,rfl⟩:=yD.mp hl;rfl
  ·obtain⟨l,h,rfl⟩:=yD.mp hl;exact zgv.mpr (ha l h)
def Bd(lo hi:Option Rat)(a:Rat):Prop:=(∀x,lo=some x->x<=a)/\∀x,hi=some x->a<=x
def hi1(c:Int)(s:Rat)(hi:Option Rat):Option Rat:=if 0 < c then(match hi with
 | none=>some (s / (c:Rat))
 | some h=>if s / (c:Rat) < h then some (s / (c:Rat)) else some h) else hi
def lo1(c:Int)(s:Rat)(lo:Option Rat):Option Rat:=if c < 0 then(match lo with
 | none=>some (s / (c:Rat))
 | some h=>if h < s / (c:Rat) then some (s / (c:Rat)) else some h) else lo
theorem le_div{c:Int}{s a:Rat}(h:0 < c):(c:Rat) * a<=s ↔ a<=s / (c:Rat):=by
 have p:=zaA h;have e:=Uc (s:=s) (c:=(c:Rat)) (by grind)
 constructor
 ·intro q;rw[<- e] at q;exact qD q p
 ·intro q;have:=jG q (qU p);rw[e] at this;exact this
theorem ge_div{c:Int}{s a:Rat}(h:c < 0):(c:Rat) * a<=s ↔ s / (c:Rat)<=a:=by
 have p:=zaB h;have e:=Uc (s:=s) (c:=(c:Rat)) (by grind)
 constructor
 ·intro q;rw[<- e] at q;have q':(-(c:Rat)) * (s / (c:Rat))<=(-(c:Rat)) * a:=by grind
  exact qD q' (by grind)
 ·intro q;have:=jG q (show 0 <= -(c:Rat) by grind)
  grind
theorem bd_step{c:Int}{s a:Rat}{lo hi:Option Rat}(h0:¬(c=0/\s < 0)):Bd (lo1 c s lo) (hi1 c s hi) a ↔ Bd lo hi a/\(c:Rat) * a<=s:=by
 unfold Bd lo1 hi1;by_cases c1:0 < c
 ·have c2:¬c < 0:=by omega
  rw[if_pos c1,if_neg c2,le_div c1];cases hi with
  | none=>simp
  | some x=>
   simp only[ja.injEq,forall_eq'];split
   ·rename_i q;simp only[ja.injEq,forall_eq'];constructor
    ·rintro⟨k1,k2⟩;exact⟨⟨k1,qg k2 (qU q)⟩,k2⟩
    ·rintro⟨⟨k1,k2⟩,k3⟩;exact⟨k1,k3⟩
   ·rename_i q;simp only[ja.injEq,forall_eq'];constructor
    ·rintro⟨k1,k2⟩;exact⟨⟨k1,k2⟩,qg k2 (jM.mp q)⟩
    ·rintro⟨⟨k1,k2⟩,k3⟩;exact⟨k1,k2⟩
 ·rw[if_neg c1];by_cases c2:c < 0
  ·rw[if_pos c2,ge_div c2];cases lo with
   | none=>simp;exact And.comm
   | some x=>
    simp only[ja.injEq,forall_eq'];split
    ·rename_i q;simp only[ja.injEq,forall_eq'];constructor
     ·rintro⟨k1,k2⟩;exact⟨⟨qg (qU q) k1,k2⟩,k1⟩
     ·rintro⟨⟨k1,k2⟩,k3⟩;exact⟨k3,k2⟩
    ·rename_i q;simp only[ja.injEq,forall_eq'];constructor
     ·rintro⟨k1,k2⟩;exact⟨⟨k1,k2⟩,qg (jM.mp q) k1⟩
     ·rintro⟨⟨k1,k2⟩,k3⟩;exact⟨k1,k2⟩
  ·rw[if_neg c2];have e:c=0:=by omega
   have hs:0<=s:=jM.mp λz=>h0 ⟨e,z⟩
   rw[e];have z:((0:Int):Rat)=0:=rfl;rw[z,yan];exact⟨λk=>⟨k,hs⟩,λk=>k.1⟩
end
section
variable {K k:Nat}{ls:List Lim}{ps:List Rat}
def bE:DS:=(dSeq (dSet 6 [] (d2 fAdd (dL (oCut (d2 fIx (dVar 5) (dC (.int 0))) pNo (pAt (dVar 1)))) (dL (oCut (d2 fIx (dVar 5) (dC (.int 0))) (pAt (d2 fAdd (dVar 1) (dC (.int 1)))) pNo))))
  (dSeq (dSet 7 [] (Zi XL (Zc (dTup (Zc (d2 fIx (dVar 5) (dC (.int 1))) (Zc (dC (.int 1)) dNil))) (Zc (Zi Yp (Zc (dVar 6) (Zc (dVar 2) dNil))) (Zc (dTup (Zc (d1 fNeg (dC (.int 1))) (Zc (dC (.int 1)) dNil))) dNil)))))
  (dSeq (dSet 8 [] (d2 fIx (d2 fIx (dVar 5) (dC (.int 0))) (dVar 1)))
  (dSeq (dIf (tAnd (tV (d2 fEq (dVar 8) (dC (.int 0)))) (tV (d2 fLt (d2 fIx (dVar 7) (dC (.int 0))) (dC (.int 0)))))
  (dRet (dC (.bool false)))
  ZD)
  (dSeq (dIf (tAnd (tV (d2 fGt (dVar 8) (dC (.int 0)))) (tOr (tV (d1 fIsN (dVar 4))) (tV (Zi ZW (Zc (Zi ZX (Zc (dVar 7) (Zc (dVar 8) dNil))) (Zc (dVar 4) dNil))))))
  (dSet 4 [] (Zi ZX (Zc (dVar 7) (Zc (dVar 8) dNil))))
  ZD)
  (dIf (tAnd (tV (d2 fLt (dVar 8) (dC (.int 0)))) (tOr (tV (d1 fIsN (dVar 3))) (tV (Zi ZW (Zc (dVar 3) (Zc (Zi ZX (Zc (dVar 7) (Zc (dVar 8) dNil))) dNil))))))
  (dSet 3 [] (Zi ZX (Zc (dVar 7) (Zc (dVar 8) dNil))))
  ZD))))))
theorem zaM{q:Rat}{c:Int}(hq:Sz 181 q)(hc:c.natAbs < 2 ^ 40)(h0:c ≠ 0):ZX [fr q,.int c]=.ok (fr (q / (c:Rat)))/\Sz 221 (q / (c:Rat)):=by
 have m:Yv (q.den:Int) c=true:=ZQ hq.denI hc (by decide)
 have z:(q.den:Int) * c ≠ 0:=jA (Z8 q) h0;have sz:((q.den:Int) * c).natAbs < 2 ^ 221:=Zv (m:=181) (n:=40) hq.denI hc;have e:=zdw (u:=q.num) z sz (by decide)
 have ed:y4 q.num ((q.den:Int) * c)=q / (c:Rat):=by
  have h1:(c:Rat) ≠ 0:=by
   intro h;exact h0 (by exact_mod_cast h)
  have h2:=ji q
  conv=>rhs;rw[<- h2]
  rw[qt,qt,jX];have hd:((q.den:Int):Rat) ≠ 0:=by
   intro h;exact Z8 q (by exact_mod_cast h)
  rw[qB,qB,qB,Rat.inv_mul_rev,ycg]
  congr 1
  exact ybd _ _
 rw[ed] at e;refine⟨?_,by rw[<- ed];exact Yy z (yU hq.num (QK (by decide))) sz⟩
 simp only[fr] at e ⊢;simp[ZX,zcB,runQ,runF,at0,at1,m,e]
theorem zi8{q:Rat}:q.num < 0 ↔ q < 0:=by
 constructor
 ·intro h;exact qV.mp λz=>by have:=Rat.num_nonneg.mpr z;omega
 ·intro h;exact Int.not_le.mp λz=>absurd (Rat.num_nonneg.mp z) (qV.mpr h)
theorem bE_ok(d:Dr K k ls ps){l:Lim}(h:l ∈ ls)(t0:ya)(lo hi:Option Rat)(slo:∀x,lo=some x->Sz 221 x)(shi:∀x,hi=some x->Sz 221 x)(s6 s7 s8:Sl) :
  (cK k l=0/\room k ps l < 0/\bE [.val t0,.val (.int k),.val (.list (ps.map fr)),.val (oR lo),.val (oR hi),.val (limL l),s6,s7,s8]=.ok (.rt (.bool false))) \/
  (¬(cK k l=0/\room k ps l < 0)/\(∀x,lo1 (cK k l) (room k ps l) lo=some x->Sz 221 x)/\(∀x,hi1 (cK k l) (room k ps l) hi=some x->Sz 221 x) /\
   ∃s6' s7' s8',bE [.val t0,.val (.int k),.val (.list (ps.map fr)),.val (oR lo),.val (oR hi),.val (limL l),s6,s7,s8]=.ok (.nx [.val t0,.val (.int k),.val (.list (ps.map fr)),.val (oR (lo1 (cK k l) (room k ps l) lo)),.val (oR (hi1 (cK k l) (room k ps l) hi)),.val (limL l),s6',s7',s8'])):=by
 have hkl:k < l.1.length:=by rw[d.w l h];exact d.hk
 have k4:=d.k4;have pl:=d.pl;have c1:=zcM (xs:=l.1.map .int) (p:=k) (by simp;omega)
 have c2:=zcN (xs:=l.1.map .int) (p:=k+1) (by simp;omega)
 rw[show((k+1:Nat):Int)=(k:Int)+1 by omega] at c2
 have ec:(l.1.map ya.int).take k++(l.1.map ya.int).drop (k+1)=(oth l.1 k).map .int:=by simp[oth]
 have h3:((l.1.map ya.int).take k).length+((l.1.map ya.int).drop (k+1)).length<=16777216:=by simp;have:=d.w l h;omega
 have w:=zcT (t:=.list ((oth l.1 k).map .int)) (.inl rfl) (d.wp h) (d.dsz h).2 (by omega)
 have ad:=add_ok (Sz.ofInt (d.s l h).2 (by decide:0 < 40)) (d.dsz h).1 (Sz.ofInt (i:=-1) (n:=1) (by decide) (by decide)) (by decide)
 have er:(l.2:Rat)+((-1:Int):Rat) * dot (oth l.1 k) ps=room k ps l:=by
  unfold room;have:((-1:Int):Rat)=-1:=rfl;rw[this];grind
 rw[er] at ad;have i1:=at_k hkl;have rs:=d.rsz h;have ck:=d.ck h;have top:∀(o:Out),(dSeq (dIf (tAnd (tV (d2 fEq (dVar 8) (dC (.int 0)))) (tV (d2 fLt (d2 fIx (dVar 7) (dC (.int 0))) (dC (.int 0))))) (dRet (dC (.bool false))) ZD)
  (dSeq (dIf (tAnd (tV (d2 fGt (dVar 8) (dC (.int 0)))) (tOr (tV (d1 fIsN (dVar 4))) (tV (Zi ZW (Zc (Zi ZX (Zc (dVar 7) (Zc (dVar 8) dNil))) (Zc (dVar 4) dNil)))))) (dSet 4 [] (Zi ZX (Zc (dVar 7) (Zc (dVar 8) dNil)))) ZD)
  (dIf (tAnd (tV (d2 fLt (dVar 8) (dC (.int 0)))) (tOr (tV (d1 fIsN (dVar 3))) (tV (Zi ZW (Zc (dVar 3) (Zc (Zi ZX (Zc (dVar 7) (Zc (dVar 8) dNil))) dNil)))))) (dSet 3 [] (Zi ZX (Zc (dVar 7) (Zc (dVar 8) dNil)))) ZD)))
   [.val t0,.val (.int k),.val (.list (ps.map fr)),.val (oR lo),.val (oR hi),.val (limL l),.val (.list ((oth l.1 k).map .int)),.val (fr (room k ps l)),.val (.int (cK k l))]=.ok o->bE [.val t0,.val (.int k),.val (.list (ps.map fr)),.val (oR lo),.val (oR hi),.val (limL l),s6,s7,s8]=.ok o:=λo ho=>by
  rw[<- ec] at w ho;have lt:limL l=.tuple [.list (l.1.map .int),.int l.2]:=rfl;rw[lt] at ho ⊢;generalize l.1.map ya.int=W at *
  generalize fr (room k ps l)=FR at *
  generalize cK k l=CC at *
  unfold bE;simp only[dSeq] at ho;have f1:=Uf l.2;have f2:=Uf (-1);simp only[dSeq,Q9,d2,d1,dC,dVar,Res.bind_ok,dL,oCut,pNo,pAt,Zi,Zc,dNil,dTup,fIx,fAdd,fNeg,zhz,qF,yaa,at0,at1,ofO,jt,c1,c2,h3,if_true,jk,yai,decide_true,f1,f2,w,ad,i1,Nat.reduceAdd,Nat.reduceLeDiff];exact ho
 by_cases hz:cK k l=0/\room k ps l < 0
 ·refine .inl ⟨hz.1,hz.2,top _ ?_⟩;have n:=zi8.mpr hz.2;simp only[fr];simp[hz.1,Wi,at0,n]
 ·refine .inr ⟨hz,λx hx=>?_,λx hx=>?_,.val (.list ((oth l.1 k).map .int)),.val (fr (room k ps l)),.val (.int (cK k l)),top _ ?_⟩
  ·unfold lo1 at hx;split at hx
   ·rename_i c;have o:=(zaM rs ck (by omega)).2
    cases lo with
    | none=>cases hx;exact o
    | some y=>
     simp only at hx;split at hx
     ·cases hx;exact o
     ·cases hx;exact slo _ rfl
   ·exact slo x hx
  ·unfold hi1 at hx;split at hx
   ·rename_i c;have o:=(zaM rs ck (by omega)).2
    cases hi with
    | none=>cases hx;exact o
    | some y=>
     simp only at hx;split at hx
     ·cases hx;exact o
     ·cases hx;exact shi _ rfl
   ·exact shi x hx
  ·by_cases e0:cK k l=0
   ·have hn:¬(room k ps l).num < 0:=λz=>hz ⟨e0,zi8.mp z⟩
    have l1:lo1 (cK k l) (room k ps l) lo=lo:=by unfold lo1;rw[if_neg (by omega)]
    have l2:hi1 (cK k l) (room k ps l) hi=hi:=by unfold hi1;rw[if_neg (by omega)]
    rw[l1,l2];have er2:fr (room k ps l)=.tuple [.int (room k ps l).num,.int ((room k ps l).den:Int)]:=rfl;rw[er2];simp[e0,Wi,at0,hn]
   ·obtain⟨o1,o2⟩:=zaM rs ck e0;by_cases cp:0 < cK k l
    ·have cn:¬cK k l < 0:=by omega
     have l1:lo1 (cK k l) (room k ps l) lo=lo:=by unfold lo1;rw[if_neg cn]
     rw[l1];unfold hi1;rw[if_pos cp];cases hi with
     | none=>simp[oR,e0,Wi,cp,cn,o1]
     | some y=>
      have b:=Ud o2 (shi y rfl) (by decide)
      simp only[oR];by_cases q:room k ps l / ((cK k l:Int):Rat) < y
      ·rw[decide_eq_true q] at b;rw[if_pos q];have nf:fIsN (fr y)=.ok (.bool false):=rfl;simp[e0,Wi,cp,cn,o1,nf,b,-fIsN]
      ·rw[decide_eq_false q] at b;rw[if_neg q];have nf:fIsN (fr y)=.ok (.bool false):=rfl;simp[e0,Wi,cp,cn,o1,nf,b,-fIsN]
    ·have cn:cK k l < 0:=by omega
     have l2:hi1 (cK k l) (room k ps l) hi=hi:=by unfold hi1;rw[if_neg cp]
     rw[l2];unfold lo1;rw[if_pos cn];cases lo with
     | none=>simp[oR,e0,Wi,cp,cn,o1]
     | some y=>
      have b:=Ud (slo y rfl) o2 (by decide)
      simp only[oR];by_cases q:y < room k ps l / ((cK k l:Int):Rat)
      ·rw[decide_eq_true q] at b;rw[if_pos q];have nf:fIsN (fr y)=.ok (.bool false):=rfl;simp[e0,Wi,cp,cn,o1,nf,b,-fIsN]
      ·rw[decide_eq_false q] at b;rw[if_neg q];have nf:fIsN (fr y)=.ok (.bool false):=rfl;simp[e0,Wi,cp,cn,o1,nf,b,-fIsN]
theorem za8(t0:ya):∀(rs:List Lim) (lo hi:Option Rat) (s5 s6 s7 s8:Sl),Dr K k ls ps->(∀l ∈ rs,l ∈ ls)->(∀x,lo=some x->Sz 221 x)->(∀x,hi=some x->Sz 221 x) ->
  ((forL (Zu 5) bE (rs.map limL) [.val t0,.val (.int k),.val (.list (ps.map fr)),.val (oR lo),.val (oR hi),s5,s6,s7,s8]=.ok (.rt (.bool false)))/\¬∃a,Bd lo hi a/\∀l ∈ rs,((cK k l:Int):Rat) * a<=room k ps l) \/
  ∃lo' hi' s5' s6' s7' s8',forL (Zu 5) bE (rs.map limL) [.val t0,.val (.int k),.val (.list (ps.map fr)),.val (oR lo),.val (oR hi),s5,s6,s7,s8]=.ok (.nx [.val t0,.val (.int k),.val (.list (ps.map fr)),.val (oR lo'),.val (oR hi'),s5',s6',s7',s8'])/\(∀x,lo'=some x->Sz 221 x)/\(∀x,hi'=some x->Sz 221 x)/\∀a,Bd lo' hi' a ↔ Bd lo hi a/\∀l ∈ rs,((cK k l:Int):Rat) * a<=room k ps l
 | [],lo,hi,s5,s6,s7,s8,d,hr,h1,h2=>.inr ⟨lo,hi,s5,s6,s7,s8,rfl,h1,h2,λa=>⟨λb=>⟨b,λl hl=>by cases hl⟩,λb=>b.1⟩⟩
 | l::rs,lo,hi,s5,s6,s7,s8,d,hr,h1,h2=>by
  have hm:=hr l yP;rw[yH];rcases bE_ok d hm t0 lo hi h1 h2 s6 s7 s8 with ⟨c1,c2,e⟩ | ⟨c1,c2,c3,v6,v7,v8,e⟩
  ·refine .inl ⟨?_,λ⟨a,_,ha⟩=>?_⟩
   ·unfold forL;simp only[Zu,jt,Res.bind_ok,e]
   ·have:=ha l yP;rw[c1] at this;have z:((0:Int):Rat)=0:=rfl;rw[z,yan] at this
    grind
  ·have st:=λa=>bd_step (a:=a) (lo:=lo) (hi:=hi) c1
   have ex:∀a,(Bd (lo1 (cK k l) (room k ps l) lo) (hi1 (cK k l) (room k ps l) hi) a/\∀l ∈ rs,((cK k l:Int):Rat) * a<=room k ps l) ↔ (Bd lo hi a/\∀x ∈ l::rs,((cK k x:Int):Rat) * a<=room k ps x):=λa=>by
    rw[st a];constructor
    ·rintro⟨⟨k1,k2⟩,k3⟩
     refine⟨k1,λx hx=>?_⟩
     rcases yI.mp hx with rfl | hx
     ·exact k2
     ·exact k3 x hx
    ·rintro⟨k1,k2⟩
     exact⟨⟨k1,k2 l yP⟩,λx hx=>k2 x (yR _ hx)⟩
   rcases za8 t0 rs _ _ (.val (limL l)) v6 v7 v8 d (λx hx=>hr x (yR _ hx)) c2 c3 with ⟨e2,no⟩ | ⟨lo',hi',u5,u6,u7,u8,e2,g1,g2,g3⟩
   ·refine .inl ⟨?_,λ⟨a,ha⟩=>no ⟨a,(ex a).mpr ha⟩⟩
    unfold forL;simp only[Zu,jt,Res.bind_ok,e];exact e2
   ·refine .inr ⟨lo',hi',u5,u6,u7,u8,?_,g1,g2,λa=>(g3 a).trans (ex a)⟩
    unfold forL;simp only[Zu,jt,Res.bind_ok,e];exact e2
theorem zjJ(d:Dr K k ls ps):∃e:Bool,YU [.list (ls.map limL),.int k,.list (ps.map fr)]=.ok (.bool e)/\(e=true ↔ ∃a,Kp ls (ins ps k a)):=by
 have hd:Qb=dSeq (dFor (Zu 5) [] (iSeq (dVar 0)) bE) YO:=rfl;have eqv:(∃a,Kp ls (ins ps k a)) ↔ ∃a,Bd none none a/\∀l ∈ ls,((cK k l:Int):Rat) * a<=room k ps l:=by
  constructor
  ·rintro⟨a,ha⟩;exact⟨a,⟨λx z=>(by cases z),λx z=>(by cases z)⟩,(zco d.w1.1 d.w1.2).mp ha⟩
  ·rintro⟨a,_,ha⟩;exact⟨a,(zco d.w1.1 d.w1.2).mpr ha⟩
 rcases za8 (.list (ls.map limL)) ls none none .emp .emp .emp .emp d (λl h=>h) (λx z=>by cases z) (λx z=>by cases z) with ⟨e,no⟩ | ⟨lo,hi,s5,s6,s7,s8,e,g1,g2,g3⟩
 ·refine⟨false,?_,by rw[eqv];exact⟨λz=>(by cases z),λz=>absurd z no⟩⟩
  rw[show oR none=ya.none from rfl] at e;simp[YU,Uw,Vj,hd,runQ,runF,e]
 ·have top:∀b:Bool,YO [.val (.list (ls.map limL)),.val (.int k),.val (.list (ps.map fr)),.val (oR lo),.val (oR hi),s5,s6,s7,s8]=.ok (.rt (.bool b))->YU [.list (ls.map limL),.int k,.list (ps.map fr)]=.ok (.bool b):=λb hb=>by
   rw[show oR none=ya.none from rfl] at e;simp[YU,Uw,Vj,hd,runQ,runF,e,hb]
  have eqv2:(∃a,Kp ls (ins ps k a)) ↔ ∃a,Bd lo hi a:=by
   rw[eqv];exact⟨λ⟨a,ha⟩=>⟨a,(g3 a).mpr ha⟩,λ⟨a,ha⟩=>⟨a,(g3 a).mp ha⟩⟩
  cases lo with
  | none=>
   have ex:∃a,Bd none hi a:=by
    cases hi with
    | none=>exact⟨0,λx z=>(by cases z),λx z=>(by cases z)⟩
    | some h=>exact⟨h,λx z=>(by cases z),λx z=>(by cases z;exact qC)⟩
   exact⟨true,top _ (by simp[YO,oR]),λ_=>eqv2.mpr ex,λ_=>rfl⟩
  | some x=>
   have nx:fIsN (fr x)=.ok (.bool false):=rfl;have o1:oR (some x)=fr x:=rfl;cases hi with
   | none=>
    have ex:∃a,Bd (some x) none a:=⟨x,λy z=>(by cases z;exact qC),λy z=>(by cases z)⟩
    have o2:fIsN (oR none)=.ok (.bool true):=rfl;exact⟨true,top _ (by simp[YO,o1,nx,o2,-fIsN]),λ_=>eqv2.mpr ex,λ_=>rfl⟩
   | some h=>
    have nh:fIsN (fr h)=.ok (.bool false):=rfl;have o2:oR (some h)=fr h:=rfl;have b:=Ud (g2 h rfl) (g1 x rfl) (by decide)
    refine⟨!decide (h < x),top _ (by simp[YO,o1,o2,nx,nh,b,-fIsN]),?_⟩
    rw[eqv2];constructor
    ·intro q;have q:¬h < x:=by simpa using q
     exact⟨x,λy z=>(by cases z;exact qC),λy z=>(by cases z;exact jM.mp q)⟩
    ·rintro⟨a,k1,k2⟩
     have:=qg (k1 x rfl) (k2 h rfl);have:¬h < x:=jM.mpr this;simp[this]
def bI:DS:=(dIf (tNot (tV (Zi Yg (Zc (dVar 3) dNil))))
  (dRet (dC (.bool false)))
  ZD)
def bJ:DS:=(dSeq (dIf (tOr (tNot (tV (d1 (fIs Qp) (dVar 2)))) (tOr (tV (d2 fNe (d1 fLen (dVar 2)) (dC (.int 2)))) (tV (d2 fNe (d1 fLen (d2 fIx (dVar 2) (dC (.int 0)))) (dVar 1)))))
  (dRet (dC (.bool false)))
  ZD)
  (dFor (Zu 3) [] (iSeq (d2 fAdd (dL (zdp (d2 fIx (dVar 2) (dC (.int 0))))) (dLst (Zc (d2 fIx (dVar 2) (dC (.int 1))) dNil))))
  bI))
theorem zb5(t0 t1 t2:ya):∀(xs:List Int) (s:Sl),∃s',forL (Zu 3) bI (xs.map .int) [.val t0,.val t1,.val t2,s]=.ok (.nx [.val t0,.val t1,.val t2,s'])
 | [],s=>⟨s,rfl⟩
 | x::xs,s=>by
  obtain⟨s',ih⟩:=zb5 t0 t1 t2 xs (.val (.int x));refine⟨s',?_⟩;have w:=zjd (.int x) rfl;have eb:bI [.val t0,.val t1,.val t2,.val (.int x)]=.ok (.nx [.val t0,.val t1,.val t2,.val (.int x)]):=by simp[bI,w]
  rw[yH];unfold forL;simp only[Zu,jt,Res.bind_ok,eb,ih]
theorem QP(t0:ya){M:Nat}(hM:M<=1000):∀(os:List Lim) (s2 s3:Sl),(∀l ∈ os,l.1.length=M)->∃s2' s3',forL (Zu 2) bJ (os.map limT) [.val t0,.val (.int M),s2,s3]=.ok (.nx [.val t0,.val (.int M),s2',s3'])
 | [],s2,s3,_=>⟨s2,s3,rfl⟩
 | l::os,s2,s3,h=>by
  have hl:=h l yP;obtain⟨v3,e⟩:=zb5 t0 (.int M) (limT l) (l.1++[l.2]) s3;obtain⟨u2,u3,ih⟩:=QP t0 hM os (.val (limT l)) v3 λl hl=>h l (yR _ hl)
  refine⟨u2,u3,?_⟩;have hs:l.1.length+1<=16777216:=by omega
  have hs2:l.1.length<=16777215:=by omega
  have n1:=JB 2 2;have n2:=JB M M;have em:(l.1++[l.2]).map ya.int=l.1.map .int++[.int l.2]:=by simp
  rw[em] at e;have eb:bJ [.val t0,.val (.int M),.val (limT l),s3]=.ok (.nx [.val t0,.val (.int M),.val (limT l),v3]):=by
   simp only[limT] at e ⊢;have hlm:((l.1.map ya.int).length:Int)=(M:Int):=by simp[hl]
   generalize hW:l.1.map ya.int=W at *
   have hWl:W.length=M:=by omega
   have hs3:W.length+1<=16777216:=by omega
   have hs4:W.length<=16777215:=by omega
   simp[bJ,at0,at1,n1,hlm,n2,hs4,e]
  rw[yH];unfold forL;simp only[Zu,jt,Res.bind_ok,eb,ih]
theorem zhA{M:Nat}(hM:M<=1000){os:List Lim}(h:∀l ∈ os,l.1.length=M):XJ [Yq M os,.int M]=.ok (.bool true):=by
 obtain⟨s2,s3,e⟩:=QP (Yq M os) hM os .emp .emp h;have hd:Uv=dSeq (dFor (Zu 2) [] (iSeq (d2 fIx (dVar 0) (dC (.int 1)))) bJ) WX:=rfl;have n1:=JB 2 2;have n2:=JB M M;simp only[Yq] at e ⊢;simp[XJ,Q0,hd,WX,runQ,runF,at0,at1,n1,n2,e]
def bKp:DS:=(dIf (tV (Zi ZW (Zc (dTup (Zc (d2 fIx (dVar 2) (dC (.int 1))) (Zc (dC (.int 1)) dNil))) (Zc (Zi Yp (Zc (d2 fIx (dVar 2) (dC (.int 0))) (Zc (dVar 1) dNil))) dNil))))
  (dRet (dC (.bool false)))
  ZD)
theorem zjo{m n:Nat}{qs:List Rat}(t:ya):∀(os:List Lim) (s:Sl),(∀l ∈ os,WP m n l.1 qs/\l.2.natAbs < 2 ^ m)->0 < m->wSz m n qs.length+m+n < 8000->qs.length < 1000 ->
  (Kp os qs/\∃s',forL (Zu 2) bKp (os.map limT) [.val t,.val (.list (qs.map fr)),s]=.ok (.nx [.val t,.val (.list (qs.map fr)),s']))\/(¬Kp os qs/\forL (Zu 2) bKp (os.map limT) [.val t,.val (.list (qs.map fr)),s]=.ok (.rt (.bool false)))
 | [],s,_,_,_,_=>.inl ⟨λl hl=>(by cases hl),s,rfl⟩
 | l::os,s,h,m0,hb,hl=>by
  obtain⟨h1,hs⟩:=h l yP;have w:=zcT (t:=.tuple (l.1.map .int)) (.inr rfl) h1 hb hl;have s1:=h1.sz qs.length (yq _);have e1:dot (l.1.take qs.length) (qs.take qs.length)=dot l.1 qs:=by rw[jp,<- h1.len,jp]
  rw[e1] at s1;have b:=Ud (Sz.ofInt hs m0) s1 (by omega)
  rw[yH];by_cases c:(l.2:Rat) < dot l.1 qs
  ·rw[decide_eq_true c] at b;have eb:bKp [.val t,.val (.list (qs.map fr)),.val (limT l)]=.ok (.rt (.bool false)):=by simp[bKp,limT,at0,at1,w,Uf,b]
   refine .inr ⟨λk=>absurd (k l yP) (qV.mpr c),?_⟩
   unfold forL;simp only[Zu,jt,Res.bind_ok,eb]
  ·rw[decide_eq_false c] at b;have eb:bKp [.val t,.val (.list (qs.map fr)),.val (limT l)]=.ok (.nx [.val t,.val (.list (qs.map fr)),.val (limT l)]):=by simp[bKp,limT,at0,at1,w,Uf,b]
   rcases zjo t os (.val (limT l)) (λl hl=>h l (yR _ hl)) m0 hb hl with ⟨k,s',e⟩ | ⟨k,e⟩
   ·refine .inl ⟨λx hx=>?_,s',?_⟩
    ·rcases yI.mp hx with rfl | hx
     ·exact jM.mp c
     ·exact k x hx
    ·unfold forL;simp only[Zu,jt,Res.bind_ok,eb,e]
   ·refine .inr ⟨λq=>k λx hx=>q x (yR _ hx),?_⟩
    unfold forL;simp only[Zu,jt,Res.bind_ok,eb,e]
theorem kp_ok{m n:Nat}{qs:List Rat}{os:List Lim}(h:∀l ∈ os,WP m n l.1 qs/\l.2.natAbs < 2 ^ m)(m0:0 < m)(hb:wSz m n qs.length+m+n < 8000)(hl:qs.length < 1000):∃b:Bool,YC [.tuple (os.map limT),.list (qs.map fr)]=.ok (.bool b)/\(b=true ↔ Kp os qs):=by
 have hd:Qy=dSeq (dFor (Zu 2) [] (iSeq (dVar 0)) bKp) Wt:=rfl;rcases zjo (.tuple (os.map limT)) os .emp h m0 hb hl with ⟨k,s',e⟩ | ⟨k,e⟩
 ·exact⟨true,by simp[YC,hd,Wt,runQ,runF,e],⟨λ_=>k,λ_=>rfl⟩⟩
 ·exact⟨false,by simp[YC,hd,runQ,runF,e],⟨λz=>(by cases z),λz=>absurd z k⟩⟩
end
theorem nm1:Nm 4 2 12 2:=⟨by decide,by decide,by decide,by decide,by decide,by decide,by decide,by decide,by decide⟩
theorem nm2:Nm 3 8 17 4:=⟨by decide,by decide,by decide,by decide,by decide,by decide,by decide,by decide,by decide⟩
theorem nm3:Nm 3 9 18 4:=⟨by decide,by decide,by decide,by decide,by decide,by decide,by decide,by decide,by decide⟩
theorem nm4:Nm 2 9 18 4:=⟨by decide,by decide,by decide,by decide,by decide,by decide,by decide,by decide,by decide⟩
theorem nm5:Nm 2 162 25 8:=⟨by decide,by decide,by decide,by decide,by decide,by decide,by decide,by decide,by decide⟩
theorem nm6:Nm 1 162 25 8:=⟨by decide,by decide,by decide,by decide,by decide,by decide,by decide,by decide,by decide⟩
theorem nm7:Nm 2 999999999999 125 40:=⟨by decide,by decide,by decide,by decide,by decide,by decide,by decide,by decide,by decide⟩
theorem nm8:Nm 1 1999999999996000000000002 163 81:=⟨by decide,by decide,by decide,by decide,by decide,by decide,by decide,by decide,by decide⟩
theorem sizes{K w:Nat}{ls:List Lim}(h:DeskOk K w ls)(h2:2<=K):∃B n0 mb B' n' mb',Dh K B n0 mb ls/\B<=999999999999/\Nm (K - 1) B' n' mb'/\2 * B * B<=B':=by
 have hl:=h.len;have mk:∀{B n0 mb:Nat},Nm K B n0 mb->w<=B->Dh K B n0 mb ls:=λnm hw=>nm.dh (by omega) (λl hl=>(h.ws l hl).1) λl hl=>⟨λx hx=>yE ((h.ws l hl).2.1 x hx) hw,yE (h.ws l hl).2.2 hw⟩
 rcases h.small with ⟨a,b,c⟩ | ⟨a,b,c⟩ | ⟨a,b,c⟩
 ·subst a;exact⟨2,12,2,8,17,4,mk nm1 (by omega),by decide,nm2,by decide⟩
 ·rcases(show K=2\/K=3 by omega) with e | e
  ·subst e;exact⟨9,18,4,162,25,8,mk nm4 (by omega),by decide,nm6,by decide⟩
  ·subst e;exact⟨9,18,4,162,25,8,mk nm3 (by omega),by decide,nm5,by decide⟩
 ·have e:K=2:=by omega
  subst e;exact⟨999999999999,125,40,1999999999996000000000002,163,81,mk nm7 (by omega),by decide,nm8,by decide⟩
theorem fEq_bb(b c:Bool):fEq (.bool b) (.bool c)=.ok (.bool (b == c)):=by
 cases b <;> cases c <;> simp[fEq,YT,ya.canLay0,ya.depth,ya.eqv] <;> decide
theorem fNe_bb(b c:Bool):fNe (.bool b) (.bool c)=.ok (.bool (b != c)):=by
 cases b <;> cases c <;> simp[fNe,YT,ya.canLay0,ya.depth,ya.eqv] <;> decide
theorem law_ok(ns:List Int)(_hl:ns.length<=63):zhI [.list (ns.map .int)]=.ok (.bool true):=by
 obtain⟨K,w,ls,h,e1⟩:=desk_ok ns;have hlen:=h.len;have k4:=h.k4;have k1:=h.k1;have hwb:=h.wb;have e2:=zkg ls (by omega)
 have e3:=zhM (λl hl=>(⟨(h.ws l hl).1,(h.ws l hl).2.1,(h.ws l hl).2.2⟩:LimOk K w l)) h.wb ⟨h.k1,h.k4⟩ h.len
 obtain⟨c5,e5⟩:=Vm ns 5 (by omega)
 obtain⟨k,mk,hk⟩:=JL (c:=c5) (n:=K) (by omega)
 obtain⟨ps,pl,psz,e6⟩:=point_ok ns (K - 1) (by omega)
 rw[show((K - 1:Nat):Int)=(K:Int) - 1 by omega] at e6
 have d:Dr K k ls ps:=⟨k4,hk,hlen,λl hl=>(h.ws l hl).1,λl hl=>⟨λx hx=>jh (yE ((h.ws l hl).2.1 x hx) hwb) pow40,jh (yE (h.ws l hl).2.2 hwb) pow40⟩,pl,psz⟩
 obtain⟨ex,e7,hex⟩:=zjJ d;obtain⟨r,e8,hr1,hr2⟩:=zjI d;have n1:fNe (.list (ps.map fr)) (.list (ps.map fr))=.ok (.bool false):=fNe_refl (shp_list λq _=>shp_fr q) (by decide)
 have zK:¬((K:Int)=0):=by omega
 have zK2:¬K=0:=by omega
 have kk:((K - 1:Nat):Int)=(K:Int) - 1:=by omega
 have top:∀t:ya,zav [.val (.list (ns.map .int)),.val (.tuple [.int K,.list (ls.map limL)]),.val (.int K),.val (.list (ls.map limL)),.val (Yq K ls),.val (.int k),.val (.list (ps.map fr)),.val (.bool ex),.val (.list (ps.map fr)),.val (oR r),.emp,.emp]=.ok (.rt t)->zhI [.list (ns.map .int)]=.ok t:=λt ht=>by
  simp only[Yq] at ht e8;simp[zhI,d_law,zj4,zj3,zj2,zj1,zj0,zjZ,zjY,zjX,zjW,runQ,runF,e1,at0,at1,e2,e3,e5,mk,zK2,e6,e7,e8,n1,ht]
 refine top _ ?_;have tail:∀s10:Sl,zau [.val (.list (ns.map .int)),.val (.tuple [.int K,.list (ls.map limL)]),.val (.int K),.val (.list (ls.map limL)),.val (Yq K ls),.val (.int k),.val (.list (ps.map fr)),.val (.bool ex),.val (.list (ps.map fr)),.val (oR r),s10,.emp]=.ok (.rt (.bool true)):=λs10=>by
  by_cases c1:K=1
  ·subst c1;simp[zau,Wi]
  ·have c2:¬((K:Int)=1):=by omega
   obtain⟨B,n0,mb,B',n',mb',dh,hB,nm,hb⟩:=sizes h (by omega)
   obtain⟨os,ls',do',e9,s1,s2,s3⟩:=zhJ dh (by omega) hk hlen hB nm hb
   have e10:=zhA (M:=K - 1) (by omega) do'.w
   have wz:wSz mb' 4 ps.length+mb'+4 < 8000:=by
    have:=nm.cov;unfold wSz at this ⊢;rw[pl];have h1:(K - 1) * (mb'+4+1)<=(K - 1) * (mb'+(2 * (1+(K - 1) * (mb'+n'+1))+2 * n'+(mb'+4))+1):=yaw _ (by omega)
    omega
   obtain⟨b,e11,hb2⟩:=kp_ok (m:=mb') (n:=4) (qs:=ps) (os:=os) (λl hl=>⟨⟨(do'.w40 hl).1,psz,do'.m0,by rw[do'.w l hl,pl]⟩,(do'.w40 hl).2⟩) do'.m0 wz (by omega)
   have hw':∀l ∈ ls',l.1.length=ps.length+1:=λl hl=>d.w1.1 l (s1 l hl)
   have key:b=ex:=by
    have q1:(b=true) ↔ (ex=true):=by
     rw[hb2,hex,s3 ps pl,<- fm hw' d.w1.2];have lk:∀a,(ins ps k a).length=K:=λa=>by rw[zjB d.w1.2,pl];omega
     constructor
     ·rintro⟨a,ha⟩;exact⟨a,(s2 _ (lk a)).mp ha⟩
     ·rintro⟨a,ha⟩;exact⟨a,(s2 _ (lk a)).mpr ha⟩
    cases b <;> cases ex <;> simp at q1 ⊢
   subst key;have bb:=fEq_bb b b;simp only[Yq,kk] at e9 e10 ⊢;simp[zau,zgV,zgU,zgT,Wi,c2,e9,e10,at1,e11,bb]
 cases r with
 | none=>
  have hf:ex=false:=by
   cases ex with
   | false=>rfl
   | true=>exact absurd (hex.mp rfl) (hr2 rfl)
  subst hf;have bb:=fNe_bb false false;have tl:=tail .emp;simp only[Yq,oR] at tl ⊢;simp[zav,zdP,bb,tl]
 | some a=>
  obtain⟨ha,sa⟩:=hr1 a rfl;have hf:ex=true:=hex.mpr ⟨a,ha⟩;subst hf;have bb:=fNe_bb true true;have hk2:k<=ps.length:=d.w1.2;have li:=zjB (a:=a) hk2;have c1:=zcM (xs:=ps.map fr) (p:=k) (by simp;omega)
  have c2:=zcN (xs:=ps.map fr) (p:=k) (by simp;omega)
  have em:(ps.map fr).take k++[fr a]++(ps.map fr).drop k=(ins ps k a).map fr:=by simp[ins]
  have h3:((ps.map fr).take k).length + [fr a].length<=16777216:=by simp;omega
  have h3b:((ps.map fr).take k).length<=16777215:=by simp;omega
  have h4:((ps.map fr).take k++[fr a]).length+((ps.map fr).drop k).length<=16777216:=by simp;omega
  have ip:=zfJ (ps:=ins ps k a) (k:=K) (by omega)
  have isz:∀q ∈ ins ps k a,Sz 444 q:=λq hq=>by
   unfold ins at hq;rcases ju.mp hq with hq | hq
   ·exact(psz q (ybq hq)).mono (by decide)
   ·rcases yI.mp hq with rfl | hq
    ·exact sa
    ·exact(psz q (ybr hq)).mono (by decide)
  have kp:=keeps_ok (m:=40) (n:=444) (k:=K) (ls:=ls) (ps:=ins ps k a) (λl hl=>⟨(d.s l hl).1,isz,by decide,by rw[d.w l hl];omega⟩) (λl hl=>(d.s l hl).2) (by
   unfold wSz;have:=ybp (40+444+1) (show(ins ps k a).length<=4 by omega)
   omega) (by omega) ha
  have tl:=tail (.val (.list ((ins ps k a).map fr)));rw[<- em] at ip kp tl;have nf:JA (fr a)=.ok (.bool true):=rfl;have or1:oR (some a)=fr a:=rfl;simp only[Yq,or1] at tl ⊢;generalize fr a=FA at *
  generalize ps.map fr=PP at *
  simp only[zav,zdP,dSeq,dIf,Q9,d2,d1,dC,dVar,Res.bind_ok,dL,oCut,pNo,pAt,Zi,Zc,dNil,dLst,zhz,tV,tOr,tNot,frzA,fAdd,qF,yaa,jt,nf,bb,c1,c2,h3,h3b,h4,if_true,jk,yai,decide_true,Nat.reduceAdd,Nat.reduceLeDiff,truth,ip,kp,ZD,bne_self_eq_false,yac,if_false,Bool.not_true];exact tl
end K11
namespace K11
open PySem PySem.Spec PyProof.Rows L2 Fx Lw Lq
variable {P:y6}{w:y3}{K:yh}{mg:Str->Option yb}{base:yd}{k:Nat}{fa:yc}{fd:yQ}
set_option maxHeartbeats 0
def top(i:Nat):ym:=PySem.Challenge.pw_limitdesk_k11_whole_dropped.main.body.getD i (.Pass ⟨0,0,0,0⟩)
def inClass(st:ym)(i:Nat):ym:=match st with | .ClassDef _ _ _ body _ _ _ _ _ _ _=>body.getD i (.Pass ⟨0,0,0,0⟩) | st=>st
abbrev Xx:ym:=inClass (top 27) 0
theorem zc7:FnScope ["self","heads","divisor","rows"] ["self","heads","divisor","rows"] (Zd Xx):=⟨rfl,rfl,rfl,by decide +kernel,rfl,by decide +kernel,by decide +kernel⟩
theorem zdo{P:y6}{w:y3}{K:yh}{mg:Str->Option yb}{base:yd}{f C:yc}{fd:yQ}(F:Fun K "__init__" "Board.__init__" Xx f fd)(cl:Cls K C)(n0:Vb K C "heads")(n1:Vb K C "divisor")(n2:Vb K C "rows"):FnOk P w K mg base CX0 1 f fd ["self","heads","divisor","rows"] (Fx.spI C ["heads","divisor","rows"]):=by
 refine F.ok zc7 (λvs H Q E h=>Fx.spI_len h) λcdv A outer s H vs Q E hr h=>⟨_,zde (ziM (pv 0) (pv 1) rfl) (zde (ziM (pv 0) (pv 2) rfl) (ziJ (ziM (pv 0) (pv 3) rfl))),?_⟩
 obtain⟨x,dx,u1,u2,u3,rfl,hp,k⟩:=Fx.spI3 h;refine⟨_,rfl,_,rfl,x,C,dx,[],rfl,hp,cl,n0,(by show 0 < 1000;decide),_,rfl,_,rfl,x,C,dx,_,rfl,Zt,cl,n1,(by show 1 < 1000;decide),_,rfl,_,rfl,x,C,dx,_,rfl,Zt,cl,n2,(by show 2 < 1000;decide),?_⟩
 rw[zh2,zh2,Fx.putF3 (by decide +kernel) (by decide +kernel) (by decide +kernel)]
 exact k
abbrev WG:ym:=top 7
theorem zfi:FnScope ["value"] ["value"] (Zd WG):=⟨rfl,rfl,rfl,by decide +kernel,rfl,by decide +kernel,by decide +kernel⟩
theorem zfA(F:Fun K "is_whole" "is_whole" WG fa fd)(hm:mg "is_whole" = some (.ref fa))(b:ZA K fd ["value"] [])(z_isinstance:mg "isinstance" = none)(z_int:mg "int" = none)(z_bool:mg "bool" = none) :
  Fx.Cle P w K mg base (k+1) "is_whole" 1 ZY:=by
 exact Zx F hm b zfi rfl rfl λcdv A outer s H E hr=>
  (Zj (Zo (zeH (Yl zjp (show yK "int" = some (.type "int") by decide +kernel) rfl z_isinstance rfl z_int (Za 0)) (za9 (zjK (Yl zgq (show yK "bool" = some (.type "bool") by decide +kernel) rfl z_isinstance rfl z_bool (Za 0)))))))
abbrev Yi:ym:=top 8
theorem Yc:FnScope ["a","b","rest"] ["a","b"] (Zd Yi):=⟨rfl,rfl,rfl,by decide +kernel,rfl,by decide +kernel,by decide +kernel⟩
theorem Jt(F:Fun K "common_divisor" "common_divisor" Yi fa fd)(hm:mg "common_divisor" = some (.ref fa))(b:ZA K fd ["a","b"] [])(z_abs:mg "abs" = none) :
  Fx.Cle P w K mg base (k+1) "common_divisor" 2 ZR:=by
 exact Zx F hm b Yc rfl rfl λcdv A outer s H E hr=>
  (Zf (Zq (i:=0) Yc.nd rfl (yg rfl) (JN rfl z_abs (Za 0)))
  (Zf (Zq (i:=1) Yc.nd rfl (yg rfl) (JN rfl z_abs (Za 1)))
  (Zf (QC yS.never (ZK (Wa hr.units) (Za 1) Ze (Zy _))
  (Zf (Zq (i:=2) Yc.nd rfl (yg rfl) (Zw X2 (Za 0) (Za 1)))
  (Zf (Zq (i:=0) Yc.nd rfl (yg rfl) (Za 1))
  (Zj (Zq (i:=1) Yc.nd rfl (yg rfl) (Za 2))))))
  (Zj (Zo (Za 0))))))
abbrev Y4:ym:=top 9
theorem zbO:FnScope ["value"] ["value"] (Zd Y4):=⟨rfl,rfl,rfl,by decide +kernel,rfl,by decide +kernel,by decide +kernel⟩
theorem zbY(F:Fun K "is_fraction" "is_fraction" Y4 fa fd)(hm:mg "is_fraction" = some (.ref fa))(b:ZA K fd ["value"] [])(z_isinstance:mg "isinstance" = none)(z_tuple:mg "tuple" = none)(z_len:mg "len" = none)(C_is_whole:Fx.Cle P w K mg base k "is_whole" 1 ZY)(C_common_divisor:Fx.Cle P w K mg base k "common_divisor" 2 ZR) :
  Fx.Cle P w K mg base (k+1) "is_fraction" 1 Xe:=by
 exact Zx F hm b zbO rfl rfl λcdv A outer s H E hr=>
  (Zf (Z0 (Fx.tv_w (Wo (YD (Z1 (Yl Ue (show yK "tuple" = some (.type "tuple") by decide +kernel) rfl z_isinstance rfl z_tuple (Za 0)) (λ_=>rfl))) (XA (ZK (Wa hr.units) (Yx rfl z_len (Za 0)) Ze (Zy _)))))
  (Zj (Zo VR))
  ZC)
  (Zf (Z0 (Fx.tv_w (Wo (YD (Z1 (Zh (Fx.Cle.cal C_is_whole) hr rfl (Zb (Zk (Za 0) Ze (λ_ _=>rfl)) Zg)) (λ_=>rfl))) (XA (YD (Z1 (Zh (Fx.Cle.cal C_is_whole) hr rfl (Zb (Zk (Za 0) Ze (λ_ _=>rfl)) Zg)) (λ_=>rfl))))))
  (Zj (Zo VR))
  ZC)
  (Zj (Zo (zeH (VY ziY (Zk (Za 0) Ze (λ_ _=>rfl)) Ze (Zy _)) (za9 (VY (W6 hr.units) (Zh (Fx.Cle.cal C_common_divisor) hr rfl (Zb (Zk (Za 0) Ze (λ_ _=>rfl)) (Zb (Zk (Za 0) Ze (λ_ _=>rfl)) Zg))) Ze (Zy _))))))))
abbrev zch:ym:=top 10
theorem zfj:FnScope ["upper","lower","divisor"] ["upper","lower"] (Zd zch):=⟨rfl,rfl,rfl,by decide +kernel,rfl,by decide +kernel,by decide +kernel⟩
theorem ok_frac(F:Fun K "frac" "frac" zch fa fd)(hm:mg "frac" = some (.ref fa))(b:ZA K fd ["upper","lower"] [])(C_common_divisor:Fx.Cle P w K mg base k "common_divisor" 2 ZR) :
  Fx.Cle P w K mg base (k+1) "frac" 2 Yr:=by
 exact Zx F hm b zfj rfl rfl λcdv A outer s H E hr=>
  (Zf (Z0 (ZK (W6 hr.units) (Za 1) Ze (Zy _))
  (Zj YW)
  ZC)
  (Zf (Zq (i:=2) zfj.nd rfl (yg rfl) (Zh (Fx.Cle.cal C_common_divisor) hr rfl (Zb (Za 0) (Zb (Za 1) Zg))))
  (Zf (Z0 (ZK Wb (Za 1) Ze (Zy _))
  (Zj (Zq (i:=2) zfj.nd rfl (yg rfl) (W9 (Za 2))))
  ZC)
  (Zj (Zo (ZV (Zb (Zw Jr (Za 0) (Za 2)) (Zb (Zw Jr (Za 1) (Za 2)) Zg))))))))
abbrev zcd:ym:=top 11
theorem sc_plus:FnScope ["a","b"] ["a","b"] (Zd zcd):=⟨rfl,rfl,rfl,by decide +kernel,rfl,by decide +kernel,by decide +kernel⟩
theorem ok_plus(F:Fun K "plus" "plus" zcd fa fd)(hm:mg "plus" = some (.ref fa))(b:ZA K fd ["a","b"] [])(C_frac:Fx.Cle P w K mg base k "frac" 2 Yr) :
  Fx.Cle P w K mg base (k+1) "plus" 2 Ug:=by
 exact Zx F hm b sc_plus rfl rfl λcdv A outer s H E hr=>
  (Zj (Zo (Zh (Fx.Cle.cal C_frac) hr rfl (Zb (Zw ZO (Zw ZJ (Zk (Za 0) Ze (λ_ _=>rfl)) (Zk (Za 1) Ze (λ_ _=>rfl))) (Zw ZJ (Zk (Za 1) Ze (λ_ _=>rfl)) (Zk (Za 0) Ze (λ_ _=>rfl)))) (Zb (Zw ZJ (Zk (Za 0) Ze (λ_ _=>rfl)) (Zk (Za 1) Ze (λ_ _=>rfl))) Zg)))))
abbrev zcf:ym:=top 12
theorem sc_less:FnScope ["a","b"] ["a","b"] (Zd zcf):=⟨rfl,rfl,rfl,by decide +kernel,rfl,by decide +kernel,by decide +kernel⟩
theorem ok_less(F:Fun K "less" "less" zcf fa fd)(hm:mg "less" = some (.ref fa))(b:ZA K fd ["a","b"] [])(C_frac:Fx.Cle P w K mg base k "frac" 2 Yr) :
  Fx.Cle P w K mg base (k+1) "less" 2 za6:=by
 exact Zx F hm b sc_less rfl rfl λcdv A outer s H E hr=>
  (Zj (Zo (Zh (Fx.Cle.cal C_frac) hr rfl (Zb (Zw X1 (Zw ZJ (Zk (Za 0) Ze (λ_ _=>rfl)) (Zk (Za 1) Ze (λ_ _=>rfl))) (Zw ZJ (Zk (Za 1) Ze (λ_ _=>rfl)) (Zk (Za 0) Ze (λ_ _=>rfl)))) (Zb (Zw ZJ (Zk (Za 0) Ze (λ_ _=>rfl)) (Zk (Za 1) Ze (λ_ _=>rfl))) Zg)))))
abbrev Jk:ym:=top 13
theorem sc_times:FnScope ["a","b"] ["a","b"] (Zd Jk):=⟨rfl,rfl,rfl,by decide +kernel,rfl,by decide +kernel,by decide +kernel⟩
theorem ok_times(F:Fun K "times" "times" Jk fa fd)(hm:mg "times" = some (.ref fa))(b:ZA K fd ["a","b"] [])(C_frac:Fx.Cle P w K mg base k "frac" 2 Yr) :
  Fx.Cle P w K mg base (k+1) "times" 2 Jy:=by
 exact Zx F hm b sc_times rfl rfl λcdv A outer s H E hr=>
  (Zj (Zo (Zh (Fx.Cle.cal C_frac) hr rfl (Zb (Zw ZJ (Zk (Za 0) Ze (λ_ _=>rfl)) (Zk (Za 1) Ze (λ_ _=>rfl))) (Zb (Zw ZJ (Zk (Za 0) Ze (λ_ _=>rfl)) (Zk (Za 1) Ze (λ_ _=>rfl))) Zg)))))
abbrev zce:ym:=top 14
theorem sc_over:FnScope ["a","b"] ["a","b"] (Zd zce):=⟨rfl,rfl,rfl,by decide +kernel,rfl,by decide +kernel,by decide +kernel⟩
theorem ok_over(F:Fun K "over" "over" zce fa fd)(hm:mg "over" = some (.ref fa))(b:ZA K fd ["a","b"] [])(C_frac:Fx.Cle P w K mg base k "frac" 2 Yr) :
  Fx.Cle P w K mg base (k+1) "over" 2 zeG:=by
 exact Zx F hm b sc_over rfl rfl λcdv A outer s H E hr=>
  (Zj (Zo (Zh (Fx.Cle.cal C_frac) hr rfl (Zb (Zw ZJ (Zk (Za 0) Ze (λ_ _=>rfl)) (Zk (Za 1) Ze (λ_ _=>rfl))) (Zb (Zw ZJ (Zk (Za 0) Ze (λ_ _=>rfl)) (Zk (Za 1) Ze (λ_ _=>rfl))) Zg)))))
abbrev Jp:ym:=top 15
theorem sc_below:FnScope ["a","b"] ["a","b"] (Zd Jp):=⟨rfl,rfl,rfl,by decide +kernel,rfl,by decide +kernel,by decide +kernel⟩
theorem ok_below(F:Fun K "below" "below" Jp fa fd)(hm:mg "below" = some (.ref fa))(b:ZA K fd ["a","b"] []) :
  Fx.Cle P w K mg base (k+1) "below" 2 WS:=by
 exact Zx F hm b sc_below rfl rfl λcdv A outer s H E hr=>
  (Zj (Zo (VY Wb (Zw ZJ (Zk (Za 0) Ze (λ_ _=>rfl)) (Zk (Za 1) Ze (λ_ _=>rfl))) (Zw ZJ (Zk (Za 1) Ze (λ_ _=>rfl)) (Zk (Za 0) Ze (λ_ _=>rfl))) (Zy _))))
abbrev X0:ym:=top 20
theorem zeg:FnScope ["value"] ["value"] (Zd X0):=⟨rfl,rfl,rfl,by decide +kernel,rfl,by decide +kernel,by decide +kernel⟩
theorem zeu(F:Fun K "is_number" "is_number" X0 fa fd)(hm:mg "is_number" = some (.ref fa))(b:ZA K fd ["value"] [])(z_abs:mg "abs" = none)(g_GREATEST_NUMBER:∃t,mg "GREATEST_NUMBER" = some (.int 999999999999 t))(C_is_whole:Fx.Cle P w K mg base k "is_whole" 1 ZY) :
  Fx.Cle P w K mg base (k+1) "is_number" 1 Xp:=by
 obtain⟨t_GREATEST_NUMBER,g_GREATEST_NUMBER⟩:=g_GREATEST_NUMBER;exact Zx F hm b zeg rfl rfl λcdv A outer s H E hr=>
  (Zj (Zo (zeH (Zh (Fx.Cle.cal C_is_whole) hr rfl (Zb (Za 0) Zg)) (za9 (VY Fx.op_leF (JN rfl z_abs (Za 0)) (zdG rfl g_GREATEST_NUMBER) (Zy _))))))
abbrev WC:ym:=top 21
theorem Ql:FnScope ["kinds","limit","weights","bound"] ["kinds","limit"] (Zd WC):=⟨rfl,rfl,rfl,by decide +kernel,rfl,by decide +kernel,by decide +kernel⟩
theorem zfw(F:Fun K "limit_of" "limit_of" WC fa fd)(hm:mg "limit_of" = some (.ref fa))(b:ZA K fd ["kinds","limit"] [])(z_isinstance:mg "isinstance" = none)(z_tuple:mg "tuple" = none)(z_len:mg "len" = none)(z_list:mg "list" = none)(z_all:mg "all" = none)(C_is_number:Fx.Cle P w K mg base k "is_number" 1 Xp) :
  Fx.Cle P w K mg base (k+1) "limit_of" 2 WJ:=by
 exact Zx F hm b Ql rfl rfl λcdv A outer s H E hr=>
  (Zf (Z0 (Fx.tv_w (Wo (YD (Z1 (Yl Ue (show yK "tuple" = some (.type "tuple") by decide +kernel) rfl z_isinstance rfl z_tuple (Za 1)) (λ_=>rfl))) (XA (ZK (Wa hr.units) (Yx rfl z_len (Za 1)) Ze (Zy _)))))
  (Zj YW)
  ZC)
  (Zf (Zq (i:=2) Ql.nd rfl (yg rfl) (Zk (Za 1) Ze (λ_ _=>rfl)))
  (Zf (Zq (i:=3) Ql.nd rfl (yg rfl) (Zk (Za 1) Ze (λ_ _=>rfl)))
  (Zf (Z0 (Fx.tv_w (Wo (YD (Z1 (Yl QO (show yK "list" = some (.type "list") by decide +kernel) rfl z_isinstance rfl z_list (Za 2)) (λ_=>rfl))) (XA (ZK (Wa hr.units) (Yx rfl z_len (Za 2)) (Za 0) (Zy _)))))
  (Zj YW)
  ZC)
  (Zf (Z0 (YD (Z1 (zjM rfl z_all (Ys (XF (N:=["number"]) (nv:=1) (cap:=[]) (YR rfl) rfl (ZP (by decide)) (YA (Za 2)) ZT (λ_ _ _ _=>(ZL (i:=0) (show yV (["number"]:List Str) from by decide +kernel) rfl (yg rfl))) (λ_ _ _ _ _=>Yz) (λ_ _ _ _ _=>(Zh (Fx.Cle.cal C_is_number) hr rfl (Zb (Za 0) Zg)))))) (λ_=>rfl)))
  (Zj YW)
  ZC)
  (Zf (Z0 (YD (Z1 (Zh (Fx.Cle.cal C_is_number) hr rfl (Zb (Za 3) Zg)) (λ_=>rfl)))
  (Zj YW)
  ZC)
  (Zj (Zo (ZV (Zb (UX rfl z_tuple (Za 2)) (Zb (Za 3) Zg)))))))))))
abbrev Vt:ym:=top 22
theorem zhj:FnScope ["kinds","limits"] ["kinds","limits"] (Zd Vt):=⟨rfl,rfl,rfl,by decide +kernel,rfl,by decide +kernel,by decide +kernel⟩
theorem zhs(F:Fun K "desk_of" "desk_of" Vt fa fd)(hm:mg "desk_of" = some (.ref fa))(b:ZA K fd ["kinds","limits"] [])(z_isinstance:mg "isinstance" = none)(z_list:mg "list" = none)(z_len:mg "len" = none)(z_tuple:mg "tuple" = none)(g_MOST_KINDS:∃t,mg "MOST_KINDS" = some (.int 4 t))(g_MOST_LIMITS:∃t,mg "MOST_LIMITS" = some (.int 10 t))(C_is_whole:Fx.Cle P w K mg base k "is_whole" 1 ZY)(C_limit_of:Fx.Cle P w K mg base k "limit_of" 2 WJ) :
  Fx.Cle P w K mg base (k+1) "desk_of" 2 Ui:=by
 obtain⟨t_MOST_KINDS,g_MOST_KINDS⟩:=g_MOST_KINDS;obtain⟨t_MOST_LIMITS,g_MOST_LIMITS⟩:=g_MOST_LIMITS;exact Zx F hm b zhj rfl rfl λcdv A outer s H E hr=>
  (Zf (Z0 (Fx.tv_w (Wo (YD (Z1 (Zh (Fx.Cle.cal C_is_whole) hr rfl (Zb (Za 0) Zg)) (λ_=>rfl))) (Wo (ZK Wb (Za 0) Ze (Zy _)) (XA (ZK QM (Za 0) (zdG rfl g_MOST_KINDS) (Zy _))))))
  (Zj YW)
  ZC)
  (Zf (Z0 (Fx.tv_w (Wo (YD (Z1 (Yl QO (show yK "list" = some (.type "list") by decide +kernel) rfl z_isinstance rfl z_list (Za 1)) (λ_=>rfl))) (XA (ZK QM (Yx rfl z_len (Za 1)) (zdG rfl g_MOST_LIMITS) (Zy _)))))
  (Zj YW)
  ZC)
  (Zj (Zo (ZV (Zb (Za 0) (Zb (UX rfl z_tuple (Ys (XF (N:=["limit","kinds"]) (nv:=1) (cap:=[0]) (YR rfl) rfl (ZP (by decide)) (YA (Za 1)) ZT (λ_ _ _ _=>(ZL (i:=0) (show yV (["limit","kinds"]:List Str) from by decide +kernel) rfl (yg rfl))) (λ_ _ _ _ _=>Yz) (λ_ _ _ _ _=>(Zh (Fx.Cle.cal C_limit_of) hr rfl (Zb (Za 1) (Zb (Za 0) Zg))))))) Zg)))))))
abbrev Y6:ym:=top 23
theorem zbP:FnScope ["kinds","point"] ["kinds","point"] (Zd Y6):=⟨rfl,rfl,rfl,by decide +kernel,rfl,by decide +kernel,by decide +kernel⟩
theorem zb0(F:Fun K "check_point" "check_point" Y6 fa fd)(hm:mg "check_point" = some (.ref fa))(b:ZA K fd ["kinds","point"] [])(z_isinstance:mg "isinstance" = none)(z_list:mg "list" = none)(z_len:mg "len" = none)(z_all:mg "all" = none)(C_is_fraction:Fx.Cle P w K mg base k "is_fraction" 1 Xe) :
  Fx.Cle P w K mg base (k+1) "check_point" 2 XM:=by
 exact Zx F hm b zbP rfl rfl λcdv A outer s H E hr=>
  (Zf (Z0 (Fx.tv_w (Wo (YD (Z1 (Yl QO (show yK "list" = some (.type "list") by decide +kernel) rfl z_isinstance rfl z_list (Za 1)) (λ_=>rfl))) (XA (ZK (Wa hr.units) (Yx rfl z_len (Za 1)) (Za 0) (Zy _)))))
  (Zj YW)
  ZC)
  (Zj (Z0 (YD (Z1 (zjM rfl z_all (Ys (XF (N:=["amount"]) (nv:=1) (cap:=[]) (YR rfl) rfl (ZP (by decide)) (YA (Za 1)) ZT (λ_ _ _ _=>(ZL (i:=0) (show yV (["amount"]:List Str) from by decide +kernel) rfl (yg rfl))) (λ_ _ _ _ _=>Yz) (λ_ _ _ _ _=>(Zh (Fx.Cle.cal C_is_fraction) hr rfl (Zb (Za 0) Zg)))))) (λ_=>rfl)))
  (Zj YW)
  ZC)))
abbrev Y7:ym:=top 24
theorem zbQ:FnScope ["count","place"] ["count","place"] (Zd Y7):=⟨rfl,rfl,rfl,by decide +kernel,rfl,by decide +kernel,by decide +kernel⟩
theorem zb1(F:Fun K "check_place" "check_place" Y7 fa fd)(hm:mg "check_place" = some (.ref fa))(b:ZA K fd ["count","place"] [])(C_is_whole:Fx.Cle P w K mg base k "is_whole" 1 ZY) :
  Fx.Cle P w K mg base (k+1) "check_place" 2 Ya:=by
 exact Zx F hm b zbQ rfl rfl λcdv A outer s H E hr=>
  (Zj (Z0 (Fx.tv_w (Wo (YD (Z1 (Zh (Fx.Cle.cal C_is_whole) hr rfl (Zb (Za 1) Zg)) (λ_=>rfl))) (Wo (ZK Wb (Za 1) Ze (Zy _)) (XA (ZK ziY (Za 1) (Za 0) (Zy _))))))
  (Zj YW)
  ZC))
abbrev UI:ym:=top 25
theorem QE:FnScope ["weights","point","total","number","amount"] ["weights","point"] (Zd UI):=⟨rfl,rfl,rfl,by decide +kernel,rfl,by decide +kernel,by decide +kernel⟩
theorem zi0(F:Fun K "weight" "weight" UI fa fd)(hm:mg "weight" = some (.ref fa))(b:ZA K fd ["weights","point"] [])(z_zip:mg "zip" = none)(C_frac:Fx.Cle P w K mg base k "frac" 2 Yr)(C_plus:Fx.Cle P w K mg base k "plus" 2 Ug) :
  Fx.Cle P w K mg base (k+1) "weight" 2 X6:=by
 exact Zx F hm b QE rfl rfl λcdv A outer s H E hr=>
  (Zf (Zq (i:=2) QE.nd rfl (yg rfl) (ZV (Zb Ze (Zb Ze Zg))))
  (Zf (X8 yS.never rfl (zeB rfl z_zip (Za 0) (Za 1)) (za2 (i:=3) (j:=4) rfl QE.nd rfl (yg rfl) rfl (yg rfl))
  (Zj (Zq (i:=2) QE.nd rfl (yg rfl) (Zh (Fx.Cle.cal C_plus) hr rfl (Zb (Za 2) (Zb (Zh (Fx.Cle.cal C_frac) hr rfl (Zb (Zw ZJ (Za 3) (Zk (Za 4) Ze (λ_ _=>rfl))) (Zb (Zk (Za 4) Ze (λ_ _=>rfl)) Zg))) Zg))))))
  (Zj (Zo (Za 2)))))
abbrev zcc:ym:=top 28
theorem zir:FnScope ["length","place","numbers"] ["length","place"] (Zd zcc):=⟨rfl,rfl,rfl,by decide +kernel,rfl,by decide +kernel,by decide +kernel⟩
theorem ok_unit(F:Fun K "unit" "unit" zcc fa fd)(hm:mg "unit" = some (.ref fa))(b:ZA K fd ["length","place"] []) :
  Fx.Cle P w K mg base (k+1) "unit" 2 zcq:=by
 exact Zx F hm b zir rfl rfl λcdv A outer s H E hr=>
  (Zf (Jj (i:=2) zir.nd rfl (yg rfl) (ziW (zen (Zb Ze Zg)) (Za 0)))
  (Zf (QD (i:=2) rfl (Za 1) Ze)
  (Zj (Zo (Za 2)))))
abbrev Wz:ym:=top 29
theorem zfe:FnScope ["limit"] ["limit"] (Zd Wz):=⟨rfl,rfl,rfl,by decide +kernel,rfl,by decide +kernel,by decide +kernel⟩
theorem zft(F:Fun K "room_row" "room_row" Wz fa fd)(hm:mg "room_row" = some (.ref fa))(b:ZA K fd ["limit"] []) :
  Fx.Cle P w K mg base (k+1) "room_row" 1 WI:=by
 exact Zx F hm b zfe rfl rfl λcdv A outer s H E hr=>
  (Zj (Zo (Zw ZO (Ys (XF (N:=["number"]) (nv:=1) (cap:=[]) (YR rfl) rfl (ZP (by decide)) (YA (Zk (Za 0) Ze (λ_ _=>rfl))) ZT (λ_ _ _ _=>(ZL (i:=0) (show yV (["number"]:List Str) from by decide +kernel) rfl (yg rfl))) (λ_ _ _ _ _=>Yz) (λ_ _ _ _ _=>(W9 (Za 0))))) (JM (Zb (Zk (Za 0) Ze (λ_ _=>rfl)) Zg)))))
abbrev Y5:ym:=top 30
theorem X5:FnScope ["desk","goal","kinds","amounts","rooms"] ["desk","goal"] (Zd Y5):=⟨rfl,rfl,rfl,by decide +kernel,rfl,by decide +kernel,by decide +kernel⟩
theorem zbZ(F:Fun K "first_board" "first_board" Y5 fa fd)(hm:mg "first_board" = some (.ref fa))(b:ZA K fd ["desk","goal"] [])(z_range:mg "range" = none)(z_list:mg "list" = none)(C_unit:Fx.Cle P w K mg base (k+2) "unit" 2 zcq)(C_room_row:Fx.Cle P w K mg base (k+2) "room_row" 1 WI)(M_Board:Fx.Mko P w K mg base (k+1) "Board" ["heads","divisor","rows"]) :
  Fx.Cle P w K mg base (k+2+1) "first_board" 2 Xf:=by
 exact Zx F hm b X5 rfl rfl λcdv A outer s H E hr=>
  (Zf (Zq (i:=2) X5.nd rfl (yC rfl) (Zk (Za 0) Ze (λ_ _=>rfl)))
  (Zf (V9 (N:=["kind","kinds"]) (nv:=1) (cap:=[2]) (i:=3) (YR rfl) rfl (ZP (by decide)) (Ws rfl z_range (Za 2)) ZT (λ_ _ _ _=>(ZL (i:=0) (show yV (["kind","kinds"]:List Str) from by decide +kernel) rfl (yg rfl))) (λ_ _ _ _ _=>Yz) (λ_ _ _ _ _=>(Zh (Fx.Cle.cal C_unit) hr rfl (Zb (Zw ZO (Za 1) Ze) (Zb (Za 0) Zg)))) X5.nd rfl (yg rfl))
  (Zf (V9 (N:=["limit"]) (nv:=1) (cap:=[]) (i:=4) (YR rfl) rfl (ZP (by decide)) (YA (Zk (Za 0) Ze (λ_ _=>rfl))) ZT (λ_ _ _ _=>(ZL (i:=0) (show yV (["limit"]:List Str) from by decide +kernel) rfl (yg rfl))) (λ_ _ _ _ _=>Yz) (λ_ _ _ _ _=>(Zh (Fx.Cle.cal C_room_row) hr rfl (Zb (Za 0) Zg))) X5.nd rfl (yg rfl))
  (Zj (Zo (zjL M_Board hr rfl (Zb (Ys (Fx.ov_rng1 rfl z_list rfl z_range (Za 2))) (Zb Ze (Zb (Zw ZO (Zw ZO (Za 3) (Za 4)) (JM (Zb (Zw ZO (Za 1) (JM (Zb Ze Zg))) Zg))) Zg)))))))))
abbrev Wx:ym:=top 31
theorem zfd:FnScope ["board"] ["board"] (Zd Wx):=⟨rfl,rfl,rfl,by decide +kernel,rfl,by decide +kernel,by decide +kernel⟩
theorem zfs(F:Fun K "rooms_of" "rooms_of" Wx fa fd)(hm:mg "rooms_of" = some (.ref fa))(b:ZA K fd ["board"] [])(z_list:mg "list" = none)(z_range:mg "range" = none)(z_len:mg "len" = none) :
  Fx.Cle P w K mg base (k+1) "rooms_of" 1 Yj:=by
 exact Zx F hm b zfd rfl rfl λcdv A outer s H E hr=>
  (Zj (Zo (Ys (Fx.ov_rng2 rfl z_list rfl z_range (Yx rfl z_len (Ym (Za 0))) (Zw X1 (Yx rfl z_len (Ym (Za 0))) Ze)))))
abbrev Ww:ym:=top 32
theorem zfc:FnScope ["board"] ["board"] (Zd Ww):=⟨rfl,rfl,rfl,by decide +kernel,rfl,by decide +kernel,by decide +kernel⟩
theorem zfr(F:Fun K "worth_of" "worth_of" Ww fa fd)(hm:mg "worth_of" = some (.ref fa))(b:ZA K fd ["board"] [])(z_len:mg "len" = none) :
  Fx.Cle P w K mg base (k+1) "worth_of" 1 YL:=by
 exact Zx F hm b zfc rfl rfl λcdv A outer s H E hr=>
  (Zj (Zo (Zw X1 (Yx rfl z_len (Ym (Za 0))) Ze)))
abbrev YZ:ym:=top 33
theorem X4:FnScope ["row","line","column","divisor","pivot","taken","told"] ["row","line","column","divisor"] (Zd YZ):=⟨rfl,rfl,rfl,by decide +kernel,rfl,by decide +kernel,by decide +kernel⟩
theorem zbT(F:Fun K "swapped_row" "swapped_row" YZ fa fd)(hm:mg "swapped_row" = some (.ref fa))(b:ZA K fd ["row","line","column","divisor"] [])(z_abs:mg "abs" = none)(z_zip:mg "zip" = none) :
  Fx.Cle P w K mg base (k+1) "swapped_row" 4 Xa:=by
 exact Zx F hm b X4 rfl rfl λcdv A outer s H E hr=>
  (Zf (Zq (i:=4) X4.nd rfl (yC rfl) (JN rfl z_abs (Zk (Za 1) (Za 2) (λ_ _=>rfl))))
  (Zf (Zq (i:=5) X4.nd rfl (yC rfl) (zdF (ZK QM (Zk (Za 1) (Za 2) (λ_ _=>rfl)) Ze (Zy _)) (Zk (Za 0) (Za 2) (λ_ _=>rfl)) (W9 (Zk (Za 0) (Za 2) (λ_ _=>rfl)))))
  (Zf (zf6 (N:=["number","other","pivot","taken","divisor"]) (nv:=2) (cap:=[4,5,3]) (i:=6) (YR rfl) rfl (zaY (by decide) (by decide)) (zeB rfl z_zip (Za 0) (Za 1)) ZT (λ_ _ _ _=>(za2 (i:=0) (j:=1) rfl (show yV (["number","other","pivot","taken","divisor"]:List Str) from by decide +kernel) rfl (yg rfl) rfl (yg rfl))) (λ_ _ _ _ _=>Yz) (λ_ _ _ _ _=>(Zw Jr (Zw X1 (Zw ZJ (Za 2) (Za 0)) (Zw ZJ (Za 3) (Za 1))) (Za 4))) X4.nd rfl (yg rfl))
  (Zf (QD (i:=6) rfl (Za 2) (Za 5))
  (Zj (Zo (Za 6)))))))
abbrev Vp:ym:=top 34
theorem UH:FnScope ["board","thing","column","line","heads","rows"] ["board","thing","column"] (Zd Vp):=⟨rfl,rfl,rfl,by decide +kernel,rfl,by decide +kernel,by decide +kernel⟩
theorem zho(F:Fun K "swapped" "swapped" Vp fa fd)(hm:mg "swapped" = some (.ref fa))(b:ZA K fd ["board","thing","column"] [])(z_list:mg "list" = none)(z_abs:mg "abs" = none)(C_swapped_row:Fx.Cle P w K mg base (k+2) "swapped_row" 4 Xa)(M_Board:Fx.Mko P w K mg base (k+1) "Board" ["heads","divisor","rows"]) :
  Fx.Cle P w K mg base (k+2+1) "swapped" 3 YE:=by
 exact Zx F hm b UH rfl rfl λcdv A outer s H E hr=>
  (Zf (Zq (i:=3) UH.nd rfl (yC rfl) (Zk (Ym (Za 0)) (Za 1) (λ_ _=>rfl)))
  (Zf (Jj (i:=4) UH.nd rfl (yg rfl) (zaN rfl z_list (Ym (Za 0))))
  (Zf (QD (i:=4) rfl (Za 2) (Za 1))
  (Zf (V9 (N:=["row","line","column","board"]) (nv:=1) (cap:=[3,2,0]) (i:=5) (YR rfl) rfl (ZP (by decide)) (YA (Ym (Za 0))) ZT (λ_ _ _ _=>(ZL (i:=0) (show yV (["row","line","column","board"]:List Str) from by decide +kernel) rfl (yg rfl))) (λ_ _ _ _ _=>Yz) (λ_ _ _ _ _=>(Zh (Fx.Cle.cal C_swapped_row) hr rfl (Zb (Za 0) (Zb (Za 1) (Zb (Za 2) (Zb (Ym (Za 3)) Zg)))))) UH.nd rfl (yg rfl))
  (Zj (Zo (zjL M_Board hr rfl (Zb (Za 4) (Zb (JN rfl z_abs (Zk (Za 3) (Za 2) (λ_ _=>rfl))) (Zb (Za 5) Zg))))))))))
abbrev Yu:ym:=top 35
theorem VX:FnScope ["board","column","thing"] ["board","column"] (Zd Yu):=⟨rfl,rfl,rfl,by decide +kernel,rfl,by decide +kernel,by decide +kernel⟩
theorem zaj(F:Fun K "first_room_on" "first_room_on" Yu fa fd)(hm:mg "first_room_on" = some (.ref fa))(b:ZA K fd ["board","column"] [])(C_rooms_of:Fx.Cle P w K mg base k "rooms_of" 1 Yj) :
  Fx.Cle P w K mg base (k+1) "first_room_on" 2 Z4:=by
 exact Zx F hm b VX rfl rfl λcdv A outer s H E hr=>
  (Zf (X8 yS.never rfl (YA (Zh (Fx.Cle.cal C_rooms_of) hr rfl (Zb (Za 0) Zg))) (ZL (i:=2) VX.nd rfl (yg rfl))
  (Zj (Z0 (ZK (Wa hr.units) (Zk (Zk (Ym (Za 0)) (Za 2) (λ_ _=>rfl)) (Za 1) (λ_ _=>rfl)) Ze (Zy _))
  (Zj (Zo (Za 2)))
  ZC)))
  (Zj (Zo zba)))
abbrev Jn:ym:=top 36
theorem zao:FnScope ["board","column","thing"] ["board"] (Zd Jn):=⟨rfl,rfl,rfl,by decide +kernel,rfl,by decide +kernel,by decide +kernel⟩
theorem ok_freed(F:Fun K "freed" "freed" Jn fa fd)(hm:mg "freed" = some (.ref fa))(b:ZA K fd ["board"] [])(z_range:mg "range" = none)(z_len:mg "len" = none)(C_first_room_on:Fx.Cle P w K mg base k "first_room_on" 2 Z4)(C_swapped:Fx.Cle P w K mg base k "swapped" 3 YE) :
  Fx.Cle P w K mg base (k+1) "freed" 1 za7:=by
 exact Zx F hm b zao rfl rfl λcdv A outer s H E hr=>
  (Zf (X8 yS.never rfl (Ws rfl z_range (Yx rfl z_len (Ym (Za 0)))) (ZL (i:=1) zao.nd rfl (yg rfl))
  (Zf (Zq (i:=2) zao.nd rfl (yg rfl) (Zh (Fx.Cle.cal C_first_room_on) hr rfl (Zb (Za 0) (Zb (Za 1) Zg))))
  (Zj (Z0 (zcX (Za 2))
  (Zj (Zq (i:=0) zao.nd rfl (yg rfl) (Zh (Fx.Cle.cal C_swapped) hr rfl (Zb (Za 0) (Zb (Za 2) (Zb (Za 1) Zg))))))
  ZC))))
  (Zj (Zo (Za 0))))
abbrev Jm:ym:=top 37
theorem sc_helps:FnScope ["board","column","number"] ["board","column","number"] (Zd Jm):=⟨rfl,rfl,rfl,by decide +kernel,rfl,by decide +kernel,by decide +kernel⟩
theorem ok_helps(F:Fun K "helps" "helps" Jm fa fd)(hm:mg "helps" = some (.ref fa))(b:ZA K fd ["board","column","number"] [])(z_len:mg "len" = none) :
  Fx.Cle P w K mg base (k+1) "helps" 3 Jz:=by
 exact Zx F hm b sc_helps rfl rfl λcdv A outer s H E hr=>
  (Zj (Zo (Fx.ev_or (VY QM (Za 2) Ze (Zy _)) (za9 (zeH (VY Wb (Za 2) Ze (Zy _)) (za9 (VY Wb (Zk (Ym (Za 0)) (Za 1) (λ_ _=>rfl)) (Yx rfl z_len (Ym (Za 0))) (Zy _))))))))
abbrev Yh:ym:=top 38
theorem XT:FnScope ["board","thing","row","columns"] ["board","thing"] (Zd Yh):=⟨rfl,rfl,rfl,by decide +kernel,rfl,by decide +kernel,by decide +kernel⟩
theorem Js{cL TL:yc}(F:Fun K "raising_column" "raising_column" Yh fa fd)(hm:mg "raising_column" = some (.ref fa))(b:ZA K fd ["board","thing"] [])(z_range:mg "range" = none)(z_len:mg "len" = none)(z_min:mg "min" = none)(C_helps:Fx.Cle P w K mg base (k+2) "helps" 3 Jz)(L_raising_column:Fx.LamHyp K mg base "raising_column" cL TL)(hcode:fd.code=.ref cL) :
  Fx.Cle P w K mg base (k+2+1) "raising_column" 2 Zn:=by
 exact Fx.cle_ofC F hcode hm b XT rfl rfl λA outer s H E hr=>
  (Zf (Zq (i:=2) XT.nd rfl (yC rfl) (Zk (Ym (Za 0)) (Za 1) (λ_ _=>rfl)))
  (Zf (V9 (N:=["column","board","row"]) (nv:=1) (cap:=[0,2]) (i:=3) (YR rfl) rfl (ZP (by decide)) (Ws rfl z_range (Yx rfl z_len (Ym (Za 0)))) ZT (λ_ _ _ _=>(ZL (i:=0) (show yV (["column","board","row"]:List Str) from by decide +kernel) rfl (yg rfl))) (λ_ _ _ _ _=>(zg0 (Z1 (Zh (Fx.Cle.cal C_helps) hr rfl (Zb (Za 1) (Zb (Za 0) (Zb (Zk (Za 2) (Za 0) (λ_ _=>rfl)) Zg)))) (λ_=>rfl)))) (λ_ _ _ _ _=>(Za 0)) XT.nd rfl (yg rfl))
  (Zj (Zo (Fx.ev_minK (k:=k) (y:="column") (N:=["column","board"]) (cap:=[0]) (Fx.lam_at L_raising_column (qd.mpr rfl)) (Fx.lamok rfl) hr rfl z_min (Za 3) (λ_ _ _ _=>(Zk (Ym (Za 1)) (Za 0) (λ_ _=>rfl))))))))
abbrev Xq:ym:=top 39
theorem QF:FnScope ["board","thing"] ["board"] (Zd Xq):=⟨rfl,rfl,rfl,by decide +kernel,rfl,by decide +kernel,by decide +kernel⟩
theorem zdh(F:Fun K "short_room" "short_room" Xq fa fd)(hm:mg "short_room" = some (.ref fa))(b:ZA K fd ["board"] [])(C_rooms_of:Fx.Cle P w K mg base k "rooms_of" 1 Yj) :
  Fx.Cle P w K mg base (k+1) "short_room" 1 ZI:=by
 exact Zx F hm b QF rfl rfl λcdv A outer s H E hr=>
  (Zf (X8 yS.never rfl (YA (Zh (Fx.Cle.cal C_rooms_of) hr rfl (Zb (Za 0) Zg))) (ZL (i:=1) QF.nd rfl (yg rfl))
  (Zj (Z0 (ZK Wb (Zk (Zk (Ym (Za 0)) (Za 1) (λ_ _=>rfl)) (W9 Ze) (λ_ _=>rfl)) Ze (Zy _))
  (Zj (Zo (Za 1)))
  ZC)))
  (Zj (Zo zba)))
abbrev Vq:ym:=top 40
theorem Wv:FnScope ["desk","goal","board","thing","column"] ["desk","goal"] (Zd Vq):=⟨rfl,rfl,rfl,by decide +kernel,rfl,by decide +kernel,by decide +kernel⟩
theorem zhp(F:Fun K "settled" "settled" Vq fa fd)(hm:mg "settled" = some (.ref fa))(b:ZA K fd ["desk","goal"] [])(C_first_board:Fx.Cle P w K mg base k "first_board" 2 Xf)(C_freed:Fx.Cle P w K mg base k "freed" 1 za7)(C_short_room:Fx.Cle P w K mg base k "short_room" 1 ZI)(C_raising_column:Fx.Cle P w K mg base k "raising_column" 2 Zn)(C_swapped:Fx.Cle P w K mg base k "swapped" 3 YE) :
  Fx.Cle P w K mg base (k+1) "settled" 2 Yf:=by
 exact Zx F hm b Wv rfl rfl λcdv A outer s H E hr=>
  (Zf (Zq (i:=2) Wv.nd rfl (yg rfl) (Zh (Fx.Cle.cal C_freed) hr rfl (Zb (Zh (Fx.Cle.cal C_first_board) hr rfl (Zb (Za 0) (Zb (Za 1) Zg))) Zg)))
  (Zf (Zq (i:=3) Wv.nd rfl (yg rfl) (Zh (Fx.Cle.cal C_short_room) hr rfl (Zb (Za 2) Zg)))
  (Zf (QC yS.never (zcX (Za 3))
  (Zf (Zq (i:=4) Wv.nd rfl (yg rfl) (Zh (Fx.Cle.cal C_raising_column) hr rfl (Zb (Za 2) (Zb (Za 3) Zg))))
  (Zf (Z0 (zb6 (Za 4))
  (Zj (Zo (ZV (Zb (Za 2) (Zb (Za 3) Zg)))))
  ZC)
  (Zf (Zq (i:=2) Wv.nd rfl (yg rfl) (Zh (Fx.Cle.cal C_swapped) hr rfl (Zb (Za 2) (Zb (Za 3) (Zb (Za 4) Zg)))))
  (Zj (Zq (i:=3) Wv.nd rfl (yg rfl) (Zh (Fx.Cle.cal C_short_room) hr rfl (Zb (Za 2) Zg))))))))
  (Zj (Zo (ZV (Zb (Za 2) (Zb zba Zg))))))))
abbrev WA:ym:=top 41
theorem zff:FnScope ["board"] ["board"] (Zd WA):=⟨rfl,rfl,rfl,by decide +kernel,rfl,by decide +kernel,by decide +kernel⟩
theorem zfu(F:Fun K "point_of" "point_of" WA fa fd)(hm:mg "point_of" = some (.ref fa))(b:ZA K fd ["board"] [])(z_range:mg "range" = none)(z_len:mg "len" = none)(C_frac:Fx.Cle P w K mg base k "frac" 2 Yr) :
  Fx.Cle P w K mg base (k+1) "point_of" 1 Xb:=by
 exact Zx F hm b zff rfl rfl λcdv A outer s H E hr=>
  (Zj (Zo (Ys (XF (N:=["kind","board"]) (nv:=1) (cap:=[0]) (YR rfl) rfl (ZP (by decide)) (Ws rfl z_range (Yx rfl z_len (Ym (Za 0)))) ZT (λ_ _ _ _=>(ZL (i:=0) (show yV (["kind","board"]:List Str) from by decide +kernel) rfl (yg rfl))) (λ_ _ _ _ _=>Yz) (λ_ _ _ _ _=>(Zh (Fx.Cle.cal C_frac) hr rfl (Zb (Zk (Zk (Ym (Za 1)) (Za 0) (λ_ _=>rfl)) (W9 Ze) (λ_ _=>rfl)) (Zb (Ym (Za 1)) Zg))))))))
abbrev XU:ym:=top 42
theorem W1:FnScope ["board","thing","kinds","shares","head","number"] ["board","thing"] (Zd XU):=⟨rfl,rfl,rfl,by decide +kernel,rfl,by decide +kernel,by decide +kernel⟩
theorem zeo(F:Fun K "shares_of" "shares_of" XU fa fd)(hm:mg "shares_of" = some (.ref fa))(b:ZA K fd ["board","thing"] [])(z_len:mg "len" = none)(z_zip:mg "zip" = none)(C_rooms_of:Fx.Cle P w K mg base k "rooms_of" 1 Yj)(C_frac:Fx.Cle P w K mg base k "frac" 2 Yr) :
  Fx.Cln P w K mg base (k+1) "shares_of" 2 Xo:=by
 exact Fx.cln_of F hm b W1 rfl rfl λcdv A outer s H E hr=>
  (Zf (Zq (i:=2) W1.nd rfl (yg rfl) (Yx rfl z_len (Ym (Za 0))))
  (Zf (Jj (i:=3) W1.nd rfl (yg rfl) (ziW (zen (Zb (ZV (Zb Ze (Zb Ze Zg))) Zg)) (Yx rfl z_len (Zh (Fx.Cle.cal C_rooms_of) hr rfl (Zb (Za 0) Zg)))))
  (Zf (X8 yS.never rfl (zeB rfl z_zip (Ym (Za 0)) (Zk (Ym (Za 0)) (Za 1) (λ_ _=>rfl))) (za2 (i:=4) (j:=5) rfl W1.nd rfl (yg rfl) rfl (yg rfl))
  (Zj (Z0 (ZK ziY (Za 4) (Za 2) (Zy _))
  (Zj (QD (i:=3) rfl (Zw X1 (Za 4) (Za 2)) (Zh (Fx.Cle.cal C_frac) hr rfl (Zb (W9 (Za 5)) (Zb (Ym (Za 0)) Zg)))))
  ZC)))
  (Zj (Fx.ss_retO 3)))))
abbrev WH:ym:=top 43
theorem zaJ:FnScope ["board","thing","shares"] ["board","thing"] (Zd WH):=⟨rfl,rfl,rfl,by decide +kernel,rfl,by decide +kernel,by decide +kernel⟩
theorem zfB(F:Fun K "clash_of" "clash_of" WH fa fd)(hm:mg "clash_of" = some (.ref fa))(b:ZA K fd ["board","thing"] [])(z_len:mg "len" = none)(C_shares_of:Fx.Cln P w K mg base k "shares_of" 2 Xo) :
  Fx.Cle P w K mg base (k+1) "clash_of" 2 Xz:=by
 exact Zx F hm b zaJ rfl rfl λcdv A outer s H E hr=>
  (Zf (Jj (i:=2) zaJ.nd rfl (yg rfl) (Fx.ov_call (Fx.Cln.cal C_shares_of) hr rfl (Zb (Za 0) (Zb (Za 1) Zg))))
  (Zf (QD (i:=2) rfl (Zw X1 (Za 1) (Yx rfl z_len (Ym (Za 0)))) (ZV (Zb Ze (Zb Ze Zg))))
  (Zj (Zo (Za 2)))))
abbrev UM:ym:=top 45
theorem zef:FnScope ["desk","told"] ["desk"] (Zd UM):=⟨rfl,rfl,rfl,by decide +kernel,rfl,by decide +kernel,by decide +kernel⟩
theorem zi4(F:Fun K "judged" "judged" UM fa fd)(hm:mg "judged" = some (.ref fa))(b:ZA K fd ["desk"] [])(C_settled:Fx.Cle P w K mg base k "settled" 2 Yf)(C_point_of:Fx.Cle P w K mg base k "point_of" 1 Xb)(C_clash_of:Fx.Cle P w K mg base k "clash_of" 2 Xz) :
  Fx.Cle P w K mg base (k+1) "judged" 1 W8:=by
 exact Zx F hm b zef rfl rfl λcdv A outer s H E hr=>
  (Zf (Zq (i:=1) zef.nd rfl (yg rfl) (Zh (Fx.Cle.cal C_settled) hr rfl (Zb (Za 0) (Zb (Ys (ziW (zen (Zb Ze Zg)) (Zk (Za 0) Ze (λ_ _=>rfl)))) Zg))))
  (Zf (Z0 (zb6 (Zk (Za 1) Ze (λ_ _=>rfl)))
  (Zj (Zo (ZV (Zb Vz (Zb (Zh (Fx.Cle.cal C_point_of) hr rfl (Zb (Zk (Za 1) Ze (λ_ _=>rfl)) Zg)) Zg)))))
  ZC)
  (Zj (Zo (ZV (Zb Vz (Zb (Zh (Fx.Cle.cal C_clash_of) hr rfl (Zb (Zk (Za 1) Ze (λ_ _=>rfl)) (Zb (Zk (Za 1) Ze (λ_ _=>rfl)) Zg))) Zg)))))))
abbrev Xw:ym:=top 47
theorem zc6:FnScope ["kinds","goal"] ["kinds","goal"] (Zd Xw):=⟨rfl,rfl,rfl,by decide +kernel,rfl,by decide +kernel,by decide +kernel⟩
theorem zdn(F:Fun K "check_goal" "check_goal" Xw fa fd)(hm:mg "check_goal" = some (.ref fa))(b:ZA K fd ["kinds","goal"] [])(z_isinstance:mg "isinstance" = none)(z_list:mg "list" = none)(z_len:mg "len" = none)(z_all:mg "all" = none)(C_is_whole:Fx.Cle P w K mg base k "is_whole" 1 ZY) :
  Fx.Cle P w K mg base (k+1) "check_goal" 2 Wf:=by
 exact Zx F hm b zc6 rfl rfl λcdv A outer s H E hr=>
  (Zf (Z0 (Fx.tv_w (Wo (YD (Z1 (Yl QO (show yK "list" = some (.type "list") by decide +kernel) rfl z_isinstance rfl z_list (Za 1)) (λ_=>rfl))) (XA (ZK (Wa hr.units) (Yx rfl z_len (Za 1)) (Za 0) (Zy _)))))
  (Zj YW)
  ZC)
  (Zj (Z0 (YD (Z1 (zjM rfl z_all (Ys (XF (N:=["number"]) (nv:=1) (cap:=[]) (YR rfl) rfl (ZP (by decide)) (YA (Za 1)) ZT (λ_ _ _ _=>(ZL (i:=0) (show yV (["number"]:List Str) from by decide +kernel) rfl (yg rfl))) (λ_ _ _ _ _=>Yz) (λ_ _ _ _ _=>(Zh (Fx.Cle.cal C_is_whole) hr rfl (Zb (Za 0) Zg)))))) (λ_=>rfl)))
  (Zj YW)
  ZC)))
abbrev UK:ym:=top 48
theorem zis:FnScope ["row","other","column"] ["row","other","column"] (Zd UK):=⟨rfl,rfl,rfl,by decide +kernel,rfl,by decide +kernel,by decide +kernel⟩
theorem zi2(F:Fun K "sooner" "sooner" UK fa fd)(hm:mg "sooner" = some (.ref fa))(b:ZA K fd ["row","other","column"] []) :
  Fx.Cle P w K mg base (k+1) "sooner" 3 UV:=by
 exact Zx F hm b zis rfl rfl λcdv A outer s H E hr=>
  (Zj (Zo (VY Wb (Zw ZJ (Zk (Za 0) (W9 Ze) (λ_ _=>rfl)) (W9 (Zk (Za 1) (Za 2) (λ_ _=>rfl)))) (Zw ZJ (Zk (Za 1) (W9 Ze) (λ_ _=>rfl)) (W9 (Zk (Za 0) (Za 2) (λ_ _=>rfl)))) (Zy _))))
abbrev Xu:ym:=top 49
theorem XB:FnScope ["board","column","found","thing","row"] ["board","column"] (Zd Xu):=⟨rfl,rfl,rfl,by decide +kernel,rfl,by decide +kernel,by decide +kernel⟩
theorem zdl(F:Fun K "first_stop" "first_stop" Xu fa fd)(hm:mg "first_stop" = some (.ref fa))(b:ZA K fd ["board","column"] [])(C_rooms_of:Fx.Cle P w K mg base k "rooms_of" 1 Yj)(C_sooner:Fx.Cle P w K mg base k "sooner" 3 UV) :
  Fx.Cle P w K mg base (k+1) "first_stop" 2 Z3:=by
 exact Zx F hm b XB rfl rfl λcdv A outer s H E hr=>
  (Zf (Zq (i:=2) XB.nd rfl (yg rfl) zba)
  (Zf (X8 yS.never rfl (YA (Zh (Fx.Cle.cal C_rooms_of) hr rfl (Zb (Za 0) Zg))) (ZL (i:=3) XB.nd rfl (yg rfl))
  (Zf (Zq (i:=4) XB.nd rfl (yg rfl) (Zk (Ym (Za 0)) (Za 3) (λ_ _=>rfl)))
  (Zj (Z0 (Fx.tv_w (zf0 (ZK Wb (Zk (Za 4) (Za 1) (λ_ _=>rfl)) Ze (Zy _)) (zcW (Fx.tv_w (Wo (zb6 (Za 2)) (XA (Z1 (Zh (Fx.Cle.cal C_sooner) hr rfl (Zb (Za 4) (Zb (Zk (Ym (Za 0)) (Za 2) (λ_ _=>rfl)) (Zb (Za 1) Zg)))) (λ_=>rfl))))))))
  (Zj (Zq (i:=2) XB.nd rfl (yg rfl) (Za 3)))
  ZC))))
  (Zj (Zo (Za 2)))))
abbrev UJ:ym:=top 50
theorem zec:FnScope ["board","column","sign"] ["board","column"] (Zd UJ):=⟨rfl,rfl,rfl,by decide +kernel,rfl,by decide +kernel,by decide +kernel⟩
theorem zi1(F:Fun K "way_of" "way_of" UJ fa fd)(hm:mg "way_of" = some (.ref fa))(b:ZA K fd ["board","column"] [])(z_range:mg "range" = none)(z_len:mg "len" = none)(C_worth_of:Fx.Cle P w K mg base k "worth_of" 1 YL)(C_frac:Fx.Cle P w K mg base k "frac" 2 Yr) :
  Fx.Cle P w K mg base (k+1) "way_of" 2 UU:=by
 exact Zx F hm b zec rfl rfl λcdv A outer s H E hr=>
  (Zf (Zq (i:=2) zec.nd rfl (yC rfl) (zdF (ZK QM (Zk (Zk (Ym (Za 0)) (Zh (Fx.Cle.cal C_worth_of) hr rfl (Zb (Za 0) Zg)) (λ_ _=>rfl)) (Za 1) (λ_ _=>rfl)) Ze (Zy _)) Ze (W9 Ze)))
  (Zj (Zo (Ys (XF (N:=["kind","sign","board","column"]) (nv:=1) (cap:=[2,0,1]) (YR rfl) rfl (ZP (by decide)) (Ws rfl z_range (Yx rfl z_len (Ym (Za 0)))) ZT (λ_ _ _ _=>(ZL (i:=0) (show yV (["kind","sign","board","column"]:List Str) from by decide +kernel) rfl (yg rfl))) (λ_ _ _ _ _=>Yz) (λ_ _ _ _ _=>(Zh (Fx.Cle.cal C_frac) hr rfl (Zb (Zw ZJ (Za 1) (Zk (Zk (Ym (Za 2)) (Za 0) (λ_ _=>rfl)) (Za 3) (λ_ _=>rfl))) (Zb (Ym (Za 2)) Zg)))))))))
abbrev Vu:ym:=top 51
theorem Vn:FnScope ["board","column","thing"] ["board"] (Zd Vu):=⟨rfl,rfl,rfl,by decide +kernel,rfl,by decide +kernel,by decide +kernel⟩
theorem zht(F:Fun K "climbed" "climbed" Vu fa fd)(hm:mg "climbed" = some (.ref fa))(b:ZA K fd ["board"] [])(C_worth_of:Fx.Cle P w K mg base k "worth_of" 1 YL)(C_raising_column:Fx.Cle P w K mg base k "raising_column" 2 Zn)(C_first_stop:Fx.Cle P w K mg base k "first_stop" 2 Z3)(C_point_of:Fx.Cle P w K mg base k "point_of" 1 Xb)(C_way_of:Fx.Cle P w K mg base k "way_of" 2 UU)(C_swapped:Fx.Cle P w K mg base k "swapped" 3 YE)(C_shares_of:Fx.Cln P w K mg base k "shares_of" 2 Xo) :
  Fx.Cle P w K mg base (k+1) "climbed" 1 We:=by
 exact Zx F hm b Vn rfl rfl λcdv A outer s H E hr=>
  (Zf (Zq (i:=1) Vn.nd rfl (yg rfl) (Zh (Fx.Cle.cal C_raising_column) hr rfl (Zb (Za 0) (Zb (Zh (Fx.Cle.cal C_worth_of) hr rfl (Zb (Za 0) Zg)) Zg))))
  (Zf (QC yS.never (zcX (Za 1))
  (Zf (Zq (i:=2) Vn.nd rfl (yg rfl) (Zh (Fx.Cle.cal C_first_stop) hr rfl (Zb (Za 0) (Zb (Za 1) Zg))))
  (Zf (Z0 (zb6 (Za 2))
  (Zj (Zo (ZV (Zb Vz (Zb (Zh (Fx.Cle.cal C_point_of) hr rfl (Zb (Za 0) Zg)) (Zb (Zh (Fx.Cle.cal C_way_of) hr rfl (Zb (Za 0) (Zb (Za 1) Zg))) Zg))))))
  ZC)
  (Zf (Zq (i:=0) Vn.nd rfl (yg rfl) (Zh (Fx.Cle.cal C_swapped) hr rfl (Zb (Za 0) (Zb (Za 2) (Zb (Za 1) Zg)))))
  (Zj (Zq (i:=1) Vn.nd rfl (yg rfl) (Zh (Fx.Cle.cal C_raising_column) hr rfl (Zb (Za 0) (Zb (Zh (Fx.Cle.cal C_worth_of) hr rfl (Zb (Za 0) Zg)) Zg)))))))))
  (Zj (Zo (ZV (Zb Vz (Zb (Zh (Fx.Cle.cal C_point_of) hr rfl (Zb (Za 0) Zg)) (Zb (Zh (Fx.Cle.cal (Fx.Cln.cle C_shares_of)) hr rfl (Zb (Za 0) (Zb (Zh (Fx.Cle.cal C_worth_of) hr rfl (Zb (Za 0) Zg)) Zg))) Zg))))))))
abbrev zci:ym:=top 52
theorem ziu:FnScope ["desk","goal","told"] ["desk","goal"] (Zd zci):=⟨rfl,rfl,rfl,by decide +kernel,rfl,by decide +kernel,by decide +kernel⟩
theorem ok_best(F:Fun K "best" "best" zci fa fd)(hm:mg "best" = some (.ref fa))(b:ZA K fd ["desk","goal"] [])(C_check_goal:Fx.Cle P w K mg base k "check_goal" 2 Wf)(C_settled:Fx.Cle P w K mg base k "settled" 2 Yf)(C_clash_of:Fx.Cle P w K mg base k "clash_of" 2 Xz)(C_climbed:Fx.Cle P w K mg base k "climbed" 1 We) :
  Fx.Cle P w K mg base (k+1) "best" 2 zcs:=by
 exact Zx F hm b ziu rfl rfl λcdv A outer s H E hr=>
  (Zf (zaH (Zh (Fx.Cle.cal C_check_goal) hr rfl (Zb (Zk (Za 0) Ze (λ_ _=>rfl)) (Zb (Za 1) Zg))))
  (Zf (Zq (i:=2) ziu.nd rfl (yg rfl) (Zh (Fx.Cle.cal C_settled) hr rfl (Zb (Za 0) (Zb (Za 1) Zg))))
  (Zf (Z0 (zcX (Zk (Za 2) Ze (λ_ _=>rfl)))
  (Zj (Zo (ZV (Zb Vz (Zb (Zh (Fx.Cle.cal C_clash_of) hr rfl (Zb (Zk (Za 2) Ze (λ_ _=>rfl)) (Zb (Zk (Za 2) Ze (λ_ _=>rfl)) Zg))) Zg)))))
  ZC)
  (Zj (Zo (Zh (Fx.Cle.cal C_climbed) hr rfl (Zb (Zk (Za 2) Ze (λ_ _=>rfl)) Zg)))))))
abbrev Vo:ym:=top 54
theorem zhh:FnScope ["desk","place"] ["desk","place"] (Zd Vo):=⟨rfl,rfl,rfl,by decide +kernel,rfl,by decide +kernel,by decide +kernel⟩
theorem zhn(F:Fun K "without" "without" Vo fa fd)(hm:mg "without" = some (.ref fa))(b:ZA K fd ["desk","place"] []) :
  Fx.Cle P w K mg base (k+1) "without" 2 Wd:=by
 exact Zx F hm b zhh rfl rfl λcdv A outer s H E hr=>
  (Zj (Zo (ZV (Zb (Zk (Za 0) Ze (λ_ _=>rfl)) (Zb (Zw ziZ (zdH (Zk (Za 0) Ze (λ_ _=>rfl)) zah (zai (Za 1))) (zdH (Zk (Za 0) Ze (λ_ _=>rfl)) (zai (Zw ZO (Za 1) Ze)) zah)) Zg)))))
abbrev YX:ym:=top 55
theorem zbL:FnScope ["shares","place"] ["shares","place"] (Zd YX):=⟨rfl,rfl,rfl,by decide +kernel,rfl,by decide +kernel,by decide +kernel⟩
theorem zbR(F:Fun K "with_nought" "with_nought" YX fa fd)(hm:mg "with_nought" = some (.ref fa))(b:ZA K fd ["shares","place"] []) :
  Fx.Cle P w K mg base (k+1) "with_nought" 2 Y8:=by
 exact Zx F hm b zbL rfl rfl λcdv A outer s H E hr=>
  (Zj (Zo (Zw ZO (Zw ZO (Ys (JJ (Za 0) zah (zai (Za 1)))) (JM (Zb (ZV (Zb Ze (Zb Ze Zg))) Zg))) (Ys (JJ (Za 0) (zai (Za 1)) zah)))))
abbrev Jl:ym:=top 56
theorem sc_moved:FnScope ["point","way","often"] ["point","way","often"] (Zd Jl):=⟨rfl,rfl,rfl,by decide +kernel,rfl,by decide +kernel,by decide +kernel⟩
theorem ok_moved(F:Fun K "moved" "moved" Jl fa fd)(hm:mg "moved" = some (.ref fa))(b:ZA K fd ["point","way","often"] [])(z_zip:mg "zip" = none)(C_times:Fx.Cle P w K mg base k "times" 2 Jy)(C_plus:Fx.Cle P w K mg base k "plus" 2 Ug) :
  Fx.Cle P w K mg base (k+1) "moved" 3 za5:=by
 exact Zx F hm b sc_moved rfl rfl λcdv A outer s H E hr=>
  (Zj (Zo (Ys (XF (N:=["amount","step","often"]) (nv:=2) (cap:=[2]) (YR rfl) rfl (zaY (by decide) (by decide)) (zeB rfl z_zip (Za 0) (Za 1)) ZT (λ_ _ _ _=>(za2 (i:=0) (j:=1) rfl (show yV (["amount","step","often"]:List Str) from by decide +kernel) rfl (yg rfl) rfl (yg rfl))) (λ_ _ _ _ _=>Yz) (λ_ _ _ _ _=>(Zh (Fx.Cle.cal C_plus) hr rfl (Zb (Za 0) (Zb (Zh (Fx.Cle.cal C_times) hr rfl (Zb (Za 2) (Zb (Za 1) Zg))) Zg))))))))
abbrev YH:ym:=top 57
theorem WO:FnScope ["limit","point","way","room","often"] ["limit","point","way"] (Zd YH):=⟨rfl,rfl,rfl,by decide +kernel,rfl,by decide +kernel,by decide +kernel⟩
theorem zaO(F:Fun K "point_beyond" "point_beyond" YH fa fd)(hm:mg "point_beyond" = some (.ref fa))(b:ZA K fd ["limit","point","way"] [])(C_weight:Fx.Cle P w K mg base k "weight" 2 X6)(C_less:Fx.Cle P w K mg base k "less" 2 za6)(C_below:Fx.Cle P w K mg base k "below" 2 WS)(C_over:Fx.Cle P w K mg base k "over" 2 zeG)(C_plus:Fx.Cle P w K mg base k "plus" 2 Ug)(C_moved:Fx.Cle P w K mg base k "moved" 3 za5) :
  Fx.Cle P w K mg base (k+1) "point_beyond" 3 YM:=by
 exact Zx F hm b WO rfl rfl λcdv A outer s H E hr=>
  (Zf (Zq (i:=3) WO.nd rfl (yg rfl) (Zh (Fx.Cle.cal C_less) hr rfl (Zb (ZV (Zb (Zk (Za 0) Ze (λ_ _=>rfl)) (Zb Ze Zg))) (Zb (Zh (Fx.Cle.cal C_weight) hr rfl (Zb (Zk (Za 0) Ze (λ_ _=>rfl)) (Zb (Za 1) Zg))) Zg))))
  (Zf (Z0 (Z1 (Zh (Fx.Cle.cal C_below) hr rfl (Zb (Za 3) (Zb (ZV (Zb Ze (Zb Ze Zg))) Zg))) (λ_=>rfl))
  (Zj (Zo (Za 1)))
  ZC)
  (Zf (Zq (i:=4) WO.nd rfl (yg rfl) (Zh (Fx.Cle.cal C_plus) hr rfl (Zb (Zh (Fx.Cle.cal C_over) hr rfl (Zb (Za 3) (Zb (Zh (Fx.Cle.cal C_weight) hr rfl (Zb (Zk (Za 0) Ze (λ_ _=>rfl)) (Zb (Za 2) Zg))) Zg))) (Zb (ZV (Zb Ze (Zb Ze Zg))) Zg))))
  (Zj (Zo (Zh (Fx.Cle.cal C_moved) hr rfl (Zb (Za 1) (Zb (Za 2) (Zb (Za 4) Zg)))))))))
abbrev Jo:ym:=top 58
theorem zc5:FnScope ["desk","place","limit","told"] ["desk","place"] (Zd Jo):=⟨rfl,rfl,rfl,by decide +kernel,rfl,by decide +kernel,by decide +kernel⟩
theorem ok_cover(F:Fun K "cover" "cover" Jo fa fd)(hm:mg "cover" = some (.ref fa))(b:ZA K fd ["desk","place"] [])(z_len:mg "len" = none)(z_list:mg "list" = none)(C_check_place:Fx.Cle P w K mg base k "check_place" 2 Ya)(C_without:Fx.Cle P w K mg base k "without" 2 Wd)(C_best:Fx.Cle P w K mg base k "best" 2 zcs)(C_with_nought:Fx.Cle P w K mg base k "with_nought" 2 Y8)(C_point_beyond:Fx.Cle P w K mg base k "point_beyond" 3 YM)(C_weight:Fx.Cle P w K mg base k "weight" 2 X6)(C_below:Fx.Cle P w K mg base k "below" 2 WS) :
  Fx.Cle P w K mg base (k+1) "cover" 2 Qs:=by
 exact Zx F hm b zc5 rfl rfl λcdv A outer s H E hr=>
  (Zf (zaH (Zh (Fx.Cle.cal C_check_place) hr rfl (Zb (Yx rfl z_len (Zk (Za 0) Ze (λ_ _=>rfl))) (Zb (Za 1) Zg))))
  (Zf (Zq (i:=2) zc5.nd rfl (yg rfl) (Zk (Zk (Za 0) Ze (λ_ _=>rfl)) (Za 1) (λ_ _=>rfl)))
  (Zf (Zq (i:=3) zc5.nd rfl (yg rfl) (Zh (Fx.Cle.cal C_best) hr rfl (Zb (Zh (Fx.Cle.cal C_without) hr rfl (Zb (Za 0) (Zb (Za 1) Zg))) (Zb (Ys (zaN rfl z_list (Zk (Za 2) Ze (λ_ _=>rfl)))) Zg))))
  (Zf (Z0 (ZK (W6 hr.units) (Zk (Za 3) Ze (λ_ _=>rfl)) Vz (Zy _))
  (Zj (Zo (ZV (Zb Vz (Zb (Zh (Fx.Cle.cal C_with_nought) hr rfl (Zb (Zk (Za 3) Ze (λ_ _=>rfl)) (Zb (Za 1) Zg))) Zg)))))
  ZC)
  (Zf (Z0 (ZK (W6 hr.units) (Zk (Za 3) Ze (λ_ _=>rfl)) Vz (Zy _))
  (Zj (Zo (ZV (Zb Vz (Zb (Zh (Fx.Cle.cal C_point_beyond) hr rfl (Zb (Za 2) (Zb (Zk (Za 3) Ze (λ_ _=>rfl)) (Zb (Zk (Za 3) Ze (λ_ _=>rfl)) Zg)))) Zg)))))
  ZC)
  (Zf (Z0 (Z1 (Zh (Fx.Cle.cal C_below) hr rfl (Zb (ZV (Zb (Zk (Za 2) Ze (λ_ _=>rfl)) (Zb Ze Zg))) (Zb (Zh (Fx.Cle.cal C_weight) hr rfl (Zb (Zk (Za 2) Ze (λ_ _=>rfl)) (Zb (Zk (Za 3) Ze (λ_ _=>rfl)) Zg))) Zg))) (λ_=>rfl))
  (Zj (Zo (ZV (Zb Vz (Zb (Zk (Za 3) Ze (λ_ _=>rfl)) Zg)))))
  ZC)
  (Zj (Zo (ZV (Zb Vz (Zb (Zh (Fx.Cle.cal C_with_nought) hr rfl (Zb (Zk (Za 3) Ze (λ_ _=>rfl)) (Zb (Za 1) Zg))) Zg)))))))))))
abbrev WB:ym:=top 59
theorem zfg:FnScope ["desk","place"] ["desk","place"] (Zd WB):=⟨rfl,rfl,rfl,by decide +kernel,rfl,by decide +kernel,by decide +kernel⟩
theorem zfv(F:Fun K "needless" "needless" WB fa fd)(hm:mg "needless" = some (.ref fa))(b:ZA K fd ["desk","place"] [])(C_cover:Fx.Cle P w K mg base k "cover" 2 Qs) :
  Fx.Cle P w K mg base (k+1) "needless" 2 Xc:=by
 exact Zx F hm b zfg rfl rfl λcdv A outer s H E hr=>
  (Zj (Zo (VY (Wa hr.units) (Zk (Zh (Fx.Cle.cal C_cover) hr rfl (Zb (Za 0) (Zb (Za 1) Zg))) Ze (λ_ _=>rfl)) Vz (Zy _))))
abbrev zcg:ym:=top 60
theorem zc3:FnScope ["desk","place"] ["desk"] (Zd zcg):=⟨rfl,rfl,rfl,by decide +kernel,rfl,by decide +kernel,by decide +kernel⟩
theorem ok_lean(F:Fun K "lean" "lean" zcg fa fd)(hm:mg "lean" = some (.ref fa))(b:ZA K fd ["desk"] [])(z_len:mg "len" = none)(C_needless:Fx.Cle P w K mg base k "needless" 2 Xc)(C_without:Fx.Cle P w K mg base k "without" 2 Wd) :
  Fx.Cle P w K mg base (k+1) "lean" 1 zcr:=by
 exact Zx F hm b zc3 rfl rfl λcdv A outer s H E hr=>
  (Zf (Zq (i:=1) zc3.nd rfl (yg rfl) Ze)
  (Zf (QC yS.never (ZK Wb (Za 1) (Yx rfl z_len (Zk (Za 0) Ze (λ_ _=>rfl))) (Zy _))
  (Zj (Z0 (Z1 (Zh (Fx.Cle.cal C_needless) hr rfl (Zb (Za 0) (Zb (Za 1) Zg))) (λ_=>rfl))
  (Zj (Zq (i:=0) zc3.nd rfl (yg rfl) (Zh (Fx.Cle.cal C_without) hr rfl (Zb (Za 0) (Zb (Za 1) Zg)))))
  (Zj (Zq (i:=1) zc3.nd rfl (yg rfl) (Zw ZO (Za 1) Ze))))))
  (Zj (Zo (Za 0)))))
abbrev UL:ym:=top 62
theorem zit:FnScope ["weights","kind"] ["weights","kind"] (Zd UL):=⟨rfl,rfl,rfl,by decide +kernel,rfl,by decide +kernel,by decide +kernel⟩
theorem zi3(F:Fun K "others" "others" UL fa fd)(hm:mg "others" = some (.ref fa))(b:ZA K fd ["weights","kind"] []) :
  Fx.Cle P w K mg base (k+1) "others" 2 Xn:=by
 exact Zx F hm b zit rfl rfl λcdv A outer s H E hr=>
  (Zj (Zo (Fx.ev_join (Zw ZO (Ys (JJ (Za 0) zah (zai (Za 1)))) (Ys (JJ (Za 0) (zai (Zw ZO (Za 1) Ze)) zah))) (Zw ziZ (zdH (Za 0) zah (zai (Za 1))) (zdH (Za 0) (zai (Zw ZO (Za 1) Ze)) zah)))))
abbrev UN:ym:=top 63
theorem QI:FnScope ["upper","lower","kind","often","as_often","weights"] ["upper","lower","kind"] (Zd UN):=⟨rfl,rfl,rfl,by decide +kernel,rfl,by decide +kernel,by decide +kernel⟩
theorem zi5(F:Fun K "joined" "joined" UN fa fd)(hm:mg "joined" = some (.ref fa))(b:ZA K fd ["upper","lower","kind"] [])(z_zip:mg "zip" = none)(C_others:Fx.Cle P w K mg base k "others" 2 Xn) :
  Fx.Cle P w K mg base (k+1) "joined" 3 VQ:=by
 exact Zx F hm b QI rfl rfl λcdv A outer s H E hr=>
  (Zf (Zq (i:=3) QI.nd rfl (yC rfl) (W9 (Zk (Zk (Za 1) Ze (λ_ _=>rfl)) (Za 2) (λ_ _=>rfl))))
  (Zf (Zq (i:=4) QI.nd rfl (yC rfl) (Zk (Zk (Za 0) Ze (λ_ _=>rfl)) (Za 2) (λ_ _=>rfl)))
  (Zf (V9 (N:=["a","b","often","as_often"]) (nv:=2) (cap:=[3,4]) (i:=5) (YR rfl) rfl (zaY (by decide) (by decide)) (zeB rfl z_zip (Zk (Za 0) Ze (λ_ _=>rfl)) (Zk (Za 1) Ze (λ_ _=>rfl))) ZT (λ_ _ _ _=>(za2 (i:=0) (j:=1) rfl (show yV (["a","b","often","as_often"]:List Str) from by decide +kernel) rfl (yg rfl) rfl (yg rfl))) (λ_ _ _ _ _=>Yz) (λ_ _ _ _ _=>(Zw ZO (Zw ZJ (Za 2) (Za 0)) (Zw ZJ (Za 3) (Za 1)))) QI.nd rfl (yg rfl))
  (Zj (Zo (ZV (Zb (Zh (Fx.Cle.cal C_others) hr rfl (Zb (Za 5) (Zb (Za 2) Zg))) (Zb (Zw ZO (Zw ZJ (Za 3) (Zk (Za 0) Ze (λ_ _=>rfl))) (Zw ZJ (Za 4) (Zk (Za 1) Ze (λ_ _=>rfl)))) Zg))))))))
abbrev Y0:ym:=top 64
theorem Xj:FnScope ["limits","kind","left","uppers","lowers","upper"] ["limits","kind"] (Zd Y0):=⟨rfl,rfl,rfl,by decide +kernel,rfl,by decide +kernel,by decide +kernel⟩
theorem zbU(F:Fun K "limits_left" "limits_left" Y0 fa fd)(hm:mg "limits_left" = some (.ref fa))(b:ZA K fd ["limits","kind"] [])(C_others:Fx.Cle P w K mg base k "others" 2 Xn)(C_joined:Fx.Cle P w K mg base k "joined" 3 VQ) :
  Fx.Cle P w K mg base (k+1) "limits_left" 2 XI:=by
 exact Zx F hm b Xj rfl rfl λcdv A outer s H E hr=>
  (Zf (zf6 (N:=["limit","kind"]) (nv:=1) (cap:=[1]) (i:=2) (YR rfl) rfl (ZP (by decide)) (YA (Za 0)) ZT (λ_ _ _ _=>(ZL (i:=0) (show yV (["limit","kind"]:List Str) from by decide +kernel) rfl (yg rfl))) (λ_ _ _ _ _=>(zg0 (ZK (W6 hr.units) (Zk (Zk (Za 0) Ze (λ_ _=>rfl)) (Za 1) (λ_ _=>rfl)) Ze (Zy _)))) (λ_ _ _ _ _=>(ZV (Zb (Zh (Fx.Cle.cal C_others) hr rfl (Zb (Zk (Za 0) Ze (λ_ _=>rfl)) (Zb (Za 1) Zg))) (Zb (Zk (Za 0) Ze (λ_ _=>rfl)) Zg)))) Xj.nd rfl (yg rfl))
  (Zf (V9 (N:=["limit","kind"]) (nv:=1) (cap:=[1]) (i:=3) (YR rfl) rfl (ZP (by decide)) (YA (Za 0)) ZT (λ_ _ _ _=>(ZL (i:=0) (show yV (["limit","kind"]:List Str) from by decide +kernel) rfl (yg rfl))) (λ_ _ _ _ _=>(zg0 (ZK QM (Zk (Zk (Za 0) Ze (λ_ _=>rfl)) (Za 1) (λ_ _=>rfl)) Ze (Zy _)))) (λ_ _ _ _ _=>(Za 0)) Xj.nd rfl (yg rfl))
  (Zf (V9 (N:=["limit","kind"]) (nv:=1) (cap:=[1]) (i:=4) (YR rfl) rfl (ZP (by decide)) (YA (Za 0)) ZT (λ_ _ _ _=>(ZL (i:=0) (show yV (["limit","kind"]:List Str) from by decide +kernel) rfl (yg rfl))) (λ_ _ _ _ _=>(zg0 (ZK Wb (Zk (Zk (Za 0) Ze (λ_ _=>rfl)) (Za 1) (λ_ _=>rfl)) Ze (Zy _)))) (λ_ _ _ _ _=>(Za 0)) Xj.nd rfl (yg rfl))
  (Zf (X8 yS.never rfl (YA (Za 3)) (ZL (i:=5) Xj.nd rfl (yC rfl))
  (Zj (Fx.ss_ext (i:=2) rfl (XF (N:=["lower","upper","kind"]) (nv:=1) (cap:=[5,1]) (YR rfl) rfl (ZP (by decide)) (YA (Za 4)) ZT (λ_ _ _ _=>(ZL (i:=0) (show yV (["lower","upper","kind"]:List Str) from by decide +kernel) rfl (yg rfl))) (λ_ _ _ _ _=>Yz) (λ_ _ _ _ _=>(Zh (Fx.Cle.cal C_joined) hr rfl (Zb (Za 1) (Zb (Za 0) (Zb (Za 2) Zg)))))))))
  (Zj (Zo (Za 2)))))))
abbrev Xv:ym:=top 65
theorem Wp:FnScope ["weights","divisor","number"] ["weights"] (Zd Xv):=⟨rfl,rfl,rfl,by decide +kernel,rfl,by decide +kernel,by decide +kernel⟩
theorem zdm(F:Fun K "divisor_of" "divisor_of" Xv fa fd)(hm:mg "divisor_of" = some (.ref fa))(b:ZA K fd ["weights"] [])(z_max:mg "max" = none)(C_common_divisor:Fx.Cle P w K mg base k "common_divisor" 2 ZR) :
  Fx.Cle P w K mg base (k+1) "divisor_of" 1 YV:=by
 exact Zx F hm b Wp rfl rfl λcdv A outer s H E hr=>
  (Zf (Zq (i:=1) Wp.nd rfl (yg rfl) Ze)
  (Zf (X8 yS.never rfl (YA (Za 0)) (ZL (i:=2) Wp.nd rfl (yg rfl))
  (Zj (Zq (i:=1) Wp.nd rfl (yg rfl) (Zh (Fx.Cle.cal C_common_divisor) hr rfl (Zb (Za 1) (Zb (Za 2) Zg))))))
  (Zj (Zo (Fx.ev_max rfl z_max (Za 1) Ze)))))
abbrev YJ:ym:=top 66
theorem Yt:FnScope ["limits","bounds","limit","divisor","weights","bound"] ["limits"] (Zd YJ):=⟨rfl,rfl,rfl,by decide +kernel,rfl,by decide +kernel,by decide +kernel⟩
theorem zaQ(F:Fun K "least_bounds" "least_bounds" YJ fa fd)(hm:mg "least_bounds" = some (.ref fa))(b:ZA K fd ["limits"] [])(z_tuple:mg "tuple" = none)(C_divisor_of:Fx.Cle P w K mg base k "divisor_of" 1 YV)(C_frac:Fx.Cle P w K mg base k "frac" 2 Yr)(C_below:Fx.Cle P w K mg base k "below" 2 WS) :
  Fx.Cle P w K mg base (k+1) "least_bounds" 1 Xl:=by
 exact Zx F hm b Yt rfl rfl λcdv A outer s H E hr=>
  (Zf (Fx.ss_newD (i:=1) Yt.nd rfl (yg rfl))
  (Zf (X8 yS.never rfl (YA (Za 0)) (ZL (i:=2) Yt.nd rfl (yg rfl))
  (Zf (Zq (i:=3) Yt.nd rfl (yC rfl) (Zh (Fx.Cle.cal C_divisor_of) hr rfl (Zb (Zk (Za 2) Ze (λ_ _=>rfl)) Zg)))
  (Zf (Zq (i:=4) Yt.nd rfl (yg rfl) (UX rfl z_tuple (Ys (XF (N:=["number","divisor"]) (nv:=1) (cap:=[3]) (YR rfl) rfl (ZP (by decide)) (YA (Zk (Za 2) Ze (λ_ _=>rfl))) ZT (λ_ _ _ _=>(ZL (i:=0) (show yV (["number","divisor"]:List Str) from by decide +kernel) rfl (yg rfl))) (λ_ _ _ _ _=>Yz) (λ_ _ _ _ _=>(Zw Jr (Za 0) (Za 1)))))))
  (Zf (Zq (i:=5) Yt.nd rfl (yg rfl) (Zh (Fx.Cle.cal C_frac) hr rfl (Zb (Zk (Za 2) Ze (λ_ _=>rfl)) (Zb (Za 3) Zg))))
  (Zj (Fx.ss_ifG (Fx.tv_w (Wo (zh3 (i:=1) (Fx.u1 hr.units) (Za 4) rfl) (XA (Z1 (Zh (Fx.Cle.cal C_below) hr rfl (Zb (Za 5) (Zb (Fx.ev_getN (i:=1) (Fx.u1 hr.units) rfl (Za 4) (λ_ _=>rfl)) Zg))) (λ_=>rfl)))))
  (Zj (Fx.ss_putN (i:=1) (Fx.u1 hr.units) rfl (Za 4) (Za 5)))
  ZC))))))
  (Zj (Fx.ss_retD (i:=1) rfl))))
abbrev YY:ym:=top 67
theorem zbM:FnScope ["weights","bound"] ["weights","bound"] (Zd YY):=⟨rfl,rfl,rfl,by decide +kernel,rfl,by decide +kernel,by decide +kernel⟩
theorem zbS(F:Fun K "whole_limit" "whole_limit" YY fa fd)(hm:mg "whole_limit" = some (.ref fa))(b:ZA K fd ["weights","bound"] [])(z_tuple:mg "tuple" = none) :
  Fx.Cle P w K mg base (k+1) "whole_limit" 2 Y9:=by
 exact Zx F hm b zbM rfl rfl λcdv A outer s H E hr=>
  (Zj (Zo (ZV (Zb (UX rfl z_tuple (Ys (XF (N:=["number","bound"]) (nv:=1) (cap:=[1]) (YR rfl) rfl (ZP (by decide)) (YA (Za 0)) ZT (λ_ _ _ _=>(ZL (i:=0) (show yV (["number","bound"]:List Str) from by decide +kernel) rfl (yg rfl))) (λ_ _ _ _ _=>Yz) (λ_ _ _ _ _=>(Zw ZJ (Za 0) (Zk (Za 1) Ze (λ_ _=>rfl))))))) (Zb (Zk (Za 1) Ze (λ_ _=>rfl)) Zg)))))
abbrev Vs:ym:=top 68
theorem zcb:FnScope ["desk","kind","bounds"] ["desk","kind"] (Zd Vs):=⟨rfl,rfl,rfl,by decide +kernel,rfl,by decide +kernel,by decide +kernel⟩
theorem zhr(F:Fun K "dropped" "dropped" Vs fa fd)(hm:mg "dropped" = some (.ref fa))(b:ZA K fd ["desk","kind"] [])(z_tuple:mg "tuple" = none)(C_check_place:Fx.Cle P w K mg base k "check_place" 2 Ya)(C_lean:Fx.Cle P w K mg base k "lean" 1 zcr)(C_limits_left:Fx.Cle P w K mg base k "limits_left" 2 XI)(C_least_bounds:Fx.Cle P w K mg base k "least_bounds" 1 Xl)(C_whole_limit:Fx.Cle P w K mg base k "whole_limit" 2 Y9) :
  Fx.Cle P w K mg base (k+1) "dropped" 2 Uh:=by
 exact Zx F hm b zcb rfl rfl λcdv A outer s H E hr=>
  (Zf (zaH (Zh (Fx.Cle.cal C_check_place) hr rfl (Zb (Zk (Za 0) Ze (λ_ _=>rfl)) (Zb (Za 1) Zg))))
  (Zf (Z0 (ZK (W6 hr.units) (Zk (Za 0) Ze (λ_ _=>rfl)) Ze (Zy _))
  (Zj YW)
  ZC)
  (Zf (Zq (i:=2) zcb.nd rfl (yC rfl) (Zh (Fx.Cle.cal C_least_bounds) hr rfl (Zb (Zh (Fx.Cle.cal C_limits_left) hr rfl (Zb (Zk (Zh (Fx.Cle.cal C_lean) hr rfl (Zb (Za 0) Zg)) Ze (λ_ _=>rfl)) (Zb (Za 1) Zg))) Zg)))
  (Zj (Zo (Zh (Fx.Cle.cal C_lean) hr rfl (Zb (ZV (Zb (Zw X1 (Zk (Za 0) Ze (λ_ _=>rfl)) Ze) (Zb (UX rfl z_tuple (Ys (XF (N:=["weights","bounds"]) (nv:=1) (cap:=[2]) (YR rfl) rfl (ZP (by decide)) (Fx.iv_keys (Za 2)) ZT (λ_ _ _ _=>(ZL (i:=0) (show yV (["weights","bounds"]:List Str) from by decide +kernel) rfl (yg rfl))) (λ_ _ _ _ _=>Yz) (λ_ _ _ _ _=>(Zh (Fx.Cle.cal C_whole_limit) hr rfl (Zb (Za 0) (Zb (Fx.ev_getD (Fx.u1 hr.units) (Za 1) (Za 0) (λ_ _=>rfl)) Zg))))))) Zg))) Zg)))))))
abbrev YI:ym:=top 69
theorem Ua:FnScope ["limit","kind","point","room"] ["limit","kind","point"] (Zd YI):=⟨rfl,rfl,rfl,by decide +kernel,rfl,by decide +kernel,by decide +kernel⟩
theorem zaP(F:Fun K "left_to_kind" "left_to_kind" YI fa fd)(hm:mg "left_to_kind" = some (.ref fa))(b:ZA K fd ["limit","kind","point"] [])(C_others:Fx.Cle P w K mg base k "others" 2 Xn)(C_weight:Fx.Cle P w K mg base k "weight" 2 X6)(C_less:Fx.Cle P w K mg base k "less" 2 za6) :
  Fx.Cle P w K mg base (k+1) "left_to_kind" 3 YN:=by
 exact Zx F hm b Ua rfl rfl λcdv A outer s H E hr=>
  (Zf (Zq (i:=3) Ua.nd rfl (yg rfl) (Zh (Fx.Cle.cal C_less) hr rfl (Zb (ZV (Zb (Zk (Za 0) Ze (λ_ _=>rfl)) (Zb Ze Zg))) (Zb (Zh (Fx.Cle.cal C_weight) hr rfl (Zb (Zh (Fx.Cle.cal C_others) hr rfl (Zb (Zk (Za 0) Ze (λ_ _=>rfl)) (Zb (Za 1) Zg))) (Zb (Za 2) Zg))) Zg))))
  (Zj (Zo (ZV (Zb (ZV (Zb (Zw ZJ (Zk (Zk (Za 0) Ze (λ_ _=>rfl)) (Za 1) (λ_ _=>rfl)) (Zk (Za 3) Ze (λ_ _=>rfl))) Zg)) (Zb (Zk (Za 3) Ze (λ_ _=>rfl)) Zg))))))
abbrev UO:ym:=top 70
theorem zeh:FnScope ["desk","kind","point","told"] ["desk","kind","point"] (Zd UO):=⟨rfl,rfl,rfl,by decide +kernel,rfl,by decide +kernel,by decide +kernel⟩
theorem zi6(F:Fun K "filled" "filled" UO fa fd)(hm:mg "filled" = some (.ref fa))(b:ZA K fd ["desk","kind","point"] [])(z_tuple:mg "tuple" = none)(C_check_place:Fx.Cle P w K mg base k "check_place" 2 Ya)(C_check_point:Fx.Cle P w K mg base k "check_point" 2 XM)(C_left_to_kind:Fx.Cle P w K mg base k "left_to_kind" 3 YN)(C_judged:Fx.Cle P w K mg base k "judged" 1 W8) :
  Fx.Cle P w K mg base (k+1) "filled" 3 UW:=by
 exact Zx F hm b zeh rfl rfl λcdv A outer s H E hr=>
  (Zf (zaH (Zh (Fx.Cle.cal C_check_place) hr rfl (Zb (Zk (Za 0) Ze (λ_ _=>rfl)) (Zb (Za 1) Zg))))
  (Zf (zaH (Zh (Fx.Cle.cal C_check_point) hr rfl (Zb (Zw X1 (Zk (Za 0) Ze (λ_ _=>rfl)) Ze) (Zb (Za 2) Zg))))
  (Zf (Zq (i:=3) zeh.nd rfl (yg rfl) (Zh (Fx.Cle.cal C_judged) hr rfl (Zb (ZV (Zb Ze (Zb (UX rfl z_tuple (Ys (XF (N:=["limit","kind","point"]) (nv:=1) (cap:=[1,2]) (YR rfl) rfl (ZP (by decide)) (YA (Zk (Za 0) Ze (λ_ _=>rfl))) ZT (λ_ _ _ _=>(ZL (i:=0) (show yV (["limit","kind","point"]:List Str) from by decide +kernel) rfl (yg rfl))) (λ_ _ _ _ _=>Yz) (λ_ _ _ _ _=>(Zh (Fx.Cle.cal C_left_to_kind) hr rfl (Zb (Za 0) (Zb (Za 1) (Zb (Za 2) Zg)))))))) Zg))) Zg)))
  (Zj (Zo (zdF (ZK (W6 hr.units) (Zk (Za 3) Ze (λ_ _=>rfl)) Vz (Zy _)) (Zk (Zk (Za 3) Ze (λ_ _=>rfl)) Ze (λ_ _=>rfl)) zba))))))
abbrev Y3:ym:=top 72
theorem zbN:FnScope ["_law_script","_law_k"] ["_law_script","_law_k"] (Zd Y3):=⟨rfl,rfl,rfl,by decide +kernel,rfl,by decide +kernel,by decide +kernel⟩
theorem zbX(F:Fun K "_law_cell_at" "_law_cell_at" Y3 fa fd)(hm:mg "_law_cell_at" = some (.ref fa))(b:ZA K fd ["_law_script","_law_k"] [])(z_len:mg "len" = none) :
  Fx.Cle P w K mg base (k+1) "_law_cell_at" 2 Zp:=by
 exact Zx F hm b zbN rfl rfl λcdv A outer s H E hr=>
  (Zf (Z0 (ZK Wb (Za 1) (Yx rfl z_len (Za 0)) (Zy _))
  (Zj (Zo (Zk (Za 0) (Za 1) (λ_ _=>rfl))))
  ZC)
  (Zf (Z0 (ZK (W6 hr.units) (Za 0) (JM Zg) (Zy _))
  (Zj (Zo Ze))
  ZC)
  (Zj (Zo (Zw ZO (Zw ZJ (Zk (Za 0) (Zw X2 (Za 1) (Yx rfl z_len (Za 0))) (λ_ _=>rfl)) Ze) (Za 1))))))
abbrev Xr:ym:=top 73
theorem QG:FnScope ["_law_cell","_law_wide","_law_number_here"] ["_law_cell","_law_wide"] (Zd Xr):=⟨rfl,rfl,rfl,by decide +kernel,rfl,by decide +kernel,by decide +kernel⟩
theorem zdi(F:Fun K "_law_number" "_law_number" Xr fa fd)(hm:mg "_law_number" = some (.ref fa))(b:ZA K fd ["_law_cell","_law_wide"] []) :
  Fx.Cle P w K mg base (k+1) "_law_number" 2 ZM:=by
 exact Zx F hm b QG rfl rfl λcdv A outer s H E hr=>
  (Zf (Zq (i:=2) QG.nd rfl (yg rfl) (Zw X2 (Za 0) (Zw ZO (Zw ZJ Ze (Za 1)) Ze)))
  (Zf (Z0 (ZK QM (Za 2) (Za 1) (Zy _))
  (Zj (Zo (Zw X1 (Zw X1 (Za 2) (Zw ZJ Ze (Za 1))) Ze)))
  ZC)
  (Zj (Zo (Za 2)))))
abbrev WF:ym:=top 74
theorem ZS:FnScope ["_law_script","_law_kinds","_law_many","_law_wide","_law_limits","_law_k","_law_at","_law_weights","_law_bound"] ["_law_script"] (Zd WF):=⟨rfl,rfl,rfl,by decide +kernel,rfl,by decide +kernel,by decide +kernel⟩
theorem zfz(F:Fun K "_law_desk" "_law_desk" WF fa fd)(hm:mg "_law_desk" = some (.ref fa))(b:ZA K fd ["_law_script"] [])(z_range:mg "range" = none)(z_abs:mg "abs" = none)(C_law_cell_at:Fx.Cle P w K mg base k "_law_cell_at" 2 Zp)(C_law_number:Fx.Cle P w K mg base k "_law_number" 2 ZM) :
  Fx.Cle P w K mg base (k+1) "_law_desk" 1 WK:=by
 exact Zx F hm b ZS rfl rfl λcdv A outer s H E hr=>
  (Zf (Zq (i:=1) ZS.nd rfl (yg rfl) (Zw ZO Ze (Zw X2 (Zh (Fx.Cle.cal C_law_cell_at) hr rfl (Zb (Za 0) (Zb Ze Zg))) Ze)))
  (Zf (Zq (i:=2) ZS.nd rfl (yg rfl) (Zw X2 (Zh (Fx.Cle.cal C_law_cell_at) hr rfl (Zb (Za 0) (Zb Ze Zg))) Ze))
  (Zf (Zq (i:=3) ZS.nd rfl (yC rfl) (Zk (JM (Zb Ze (Zb Ze (Zb Ze (Zb (Zw X1 (Zw Fx.op_powF Ze Ze) Ze) Zg))))) (Zw X2 (Zh (Fx.Cle.cal C_law_cell_at) hr rfl (Zb (Za 0) (Zb Ze Zg))) Ze) (λ_ _=>rfl)))
  (Zf (Z0 (ZK (W6 hr.units) (Zw X2 (Zh (Fx.Cle.cal C_law_cell_at) hr rfl (Zb (Za 0) (Zb Ze Zg))) Ze) Ze (Zy _))
  (Zf (Zq (i:=1) ZS.nd rfl (yg rfl) Ze)
  (Zf (Zq (i:=2) ZS.nd rfl (yg rfl) Ze)
  (Zj (Zq (i:=3) ZS.nd rfl (yC rfl) Ze))))
  ZC)
  (Zf (Z0 (ZK QM (Za 3) Ze (Zy _))
  (Zf (Zq (i:=1) ZS.nd rfl (yg rfl) (Zw ZO Ze (Zw X2 (Za 1) Ze)))
  (Zj (Zq (i:=2) ZS.nd rfl (yg rfl) (Zw X2 (Za 2) Ze))))
  ZC)
  (Zf (Jj (i:=4) ZS.nd rfl (yg rfl) (zen Zg))
  (Zf (X8 yS.never rfl (Ws rfl z_range (Za 2)) (ZL (i:=5) ZS.nd rfl (yg rfl))
  (Zf (Zq (i:=6) ZS.nd rfl (yC rfl) (Zw ZO Ze (Zw ZJ (Za 5) (Zw ZO (Za 1) Ze))))
  (Zf (V9 (N:=["_law_j","_law_script","_law_at","_law_wide"]) (nv:=1) (cap:=[0,6,3]) (i:=7) (YR rfl) rfl (ZP (by decide)) (Ws rfl z_range (Za 1)) ZT (λ_ _ _ _=>(ZL (i:=0) (show yV (["_law_j","_law_script","_law_at","_law_wide"]:List Str) from by decide +kernel) rfl (yg rfl))) (λ_ _ _ _ _=>Yz) (λ_ _ _ _ _=>(Zh (Fx.Cle.cal C_law_number) hr rfl (Zb (Zh (Fx.Cle.cal C_law_cell_at) hr rfl (Zb (Za 1) (Zb (Zw ZO (Za 2) (Za 0)) Zg))) (Zb (Za 3) Zg)))) ZS.nd rfl (yg rfl))
  (Zf (Zq (i:=8) ZS.nd rfl (yg rfl) (Zh (Fx.Cle.cal C_law_number) hr rfl (Zb (Zh (Fx.Cle.cal C_law_cell_at) hr rfl (Zb (Za 0) (Zb (Zw ZO (Za 6) (Za 1)) Zg))) (Zb (Za 3) Zg))))
  (Zf (Z0 (ZK (W6 hr.units) (Zw X2 (Zh (Fx.Cle.cal C_law_cell_at) hr rfl (Zb (Za 0) (Zb Ze Zg))) Ze) Ze (Zy _))
  (Zj (Zq (i:=8) ZS.nd rfl (yg rfl) (JN rfl z_abs (Za 8))))
  ZC)
  (Zj (Fx.ss_app (i:=4) rfl (ZV (Zb (Za 7) (Zb (Za 8) Zg))))))))))
  (Zj (Zo (ZV (Zb (Za 1) (Zb (Za 4) Zg))))))))))))
abbrev Xt:ym:=top 75
theorem zc4:FnScope ["_law_limits"] ["_law_limits"] (Zd Xt):=⟨rfl,rfl,rfl,by decide +kernel,rfl,by decide +kernel,by decide +kernel⟩
theorem zdk(F:Fun K "_law_copied" "_law_copied" Xt fa fd)(hm:mg "_law_copied" = some (.ref fa))(b:ZA K fd ["_law_limits"] [])(z_list:mg "list" = none) :
  Fx.Cle P w K mg base (k+1) "_law_copied" 1 Xy:=by
 exact Zx F hm b zc4 rfl rfl λcdv A outer s H E hr=>
  (Zj (Zo (Ys (XF (N:=["_law_limit"]) (nv:=1) (cap:=[]) (YR rfl) rfl (ZP (by decide)) (YA (Za 0)) ZT (λ_ _ _ _=>(ZL (i:=0) (show yV (["_law_limit"]:List Str) from by decide +kernel) rfl (yg rfl))) (λ_ _ _ _ _=>Yz) (λ_ _ _ _ _=>(ZV (Zb (Ys (zaN rfl z_list (Zk (Za 0) Ze (λ_ _=>rfl)))) (Zb (Zk (Za 0) Ze (λ_ _=>rfl)) Zg))))))))
abbrev Y2:ym:=top 76
theorem YG:FnScope ["_law_a","_law_b","_law_left"] ["_law_a","_law_b"] (Zd Y2):=⟨rfl,rfl,rfl,by decide +kernel,rfl,by decide +kernel,by decide +kernel⟩
theorem zbW(F:Fun K "_law_divisor" "_law_divisor" Y2 fa fd)(hm:mg "_law_divisor" = some (.ref fa))(b:ZA K fd ["_law_a","_law_b"] [])(z_abs:mg "abs" = none) :
  Fx.Cle P w K mg base (k+1) "_law_divisor" 2 Xd:=by
 exact Zx F hm b YG rfl rfl λcdv A outer s H E hr=>
  (Zf (Zq (i:=0) YG.nd rfl (yg rfl) (JN rfl z_abs (Za 0)))
  (Zf (Zq (i:=1) YG.nd rfl (yg rfl) (JN rfl z_abs (Za 1)))
  (Zf (QC yS.never (ZK (Wa hr.units) (Za 1) Ze (Zy _))
  (Zf (Zq (i:=2) YG.nd rfl (yg rfl) (Zw X2 (Za 0) (Za 1)))
  (Zf (Zq (i:=0) YG.nd rfl (yg rfl) (Za 1))
  (Zj (Zq (i:=1) YG.nd rfl (yg rfl) (Za 2))))))
  (Zj (Zo (Za 0))))))
abbrev WE:ym:=top 77
theorem Qm:FnScope ["_law_upper","_law_lower","_law_same"] ["_law_upper","_law_lower"] (Zd WE):=⟨rfl,rfl,rfl,by decide +kernel,rfl,by decide +kernel,by decide +kernel⟩
theorem zfy(F:Fun K "_law_frac" "_law_frac" WE fa fd)(hm:mg "_law_frac" = some (.ref fa))(b:ZA K fd ["_law_upper","_law_lower"] [])(C_law_divisor:Fx.Cle P w K mg base k "_law_divisor" 2 Xd) :
  Fx.Cle P w K mg base (k+1) "_law_frac" 2 Yw:=by
 exact Zx F hm b Qm rfl rfl λcdv A outer s H E hr=>
  (Zf (Zq (i:=2) Qm.nd rfl (yg rfl) (Zh (Fx.Cle.cal C_law_divisor) hr rfl (Zb (Za 0) (Zb (Za 1) Zg))))
  (Zf (Z0 (ZK Wb (Za 1) Ze (Zy _))
  (Zj (Zq (i:=2) Qm.nd rfl (yg rfl) (W9 (Za 2))))
  ZC)
  (Zj (Zo (ZV (Zb (Zw Jr (Za 0) (Za 2)) (Zb (Zw Jr (Za 1) (Za 2)) Zg)))))))
abbrev XX:ym:=top 78
theorem W3:FnScope ["_law_script","_law_kinds","_law_made","_law_k","_law_lower"] ["_law_script","_law_kinds"] (Zd XX):=⟨rfl,rfl,rfl,by decide +kernel,rfl,by decide +kernel,by decide +kernel⟩
theorem zer(F:Fun K "_law_point" "_law_point" XX fa fd)(hm:mg "_law_point" = some (.ref fa))(b:ZA K fd ["_law_script","_law_kinds"] [])(z_range:mg "range" = none)(C_law_cell_at:Fx.Cle P w K mg base k "_law_cell_at" 2 Zp)(C_law_number:Fx.Cle P w K mg base k "_law_number" 2 ZM)(C_law_frac:Fx.Cle P w K mg base k "_law_frac" 2 Yw) :
  Fx.Cle P w K mg base (k+1) "_law_point" 2 WR:=by
 exact Zx F hm b W3 rfl rfl λcdv A outer s H E hr=>
  (Zf (Jj (i:=2) W3.nd rfl (yg rfl) (zen Zg))
  (Zf (X8 yS.never rfl (Ws rfl z_range (Za 1)) (ZL (i:=3) W3.nd rfl (yg rfl))
  (Zf (Zq (i:=4) W3.nd rfl (yg rfl) (Zw ZO Ze (Zw X2 (Zh (Fx.Cle.cal C_law_cell_at) hr rfl (Zb (Za 0) (Zb (Zw ZO Ze (Za 3)) Zg))) Ze)))
  (Zj (Fx.ss_app (i:=2) rfl (Zh (Fx.Cle.cal C_law_frac) hr rfl (Zb (Zh (Fx.Cle.cal C_law_number) hr rfl (Zb (Zh (Fx.Cle.cal C_law_cell_at) hr rfl (Zb (Za 0) (Zb (Zw ZO Ze (Za 3)) Zg))) (Zb Ze Zg))) (Zb (Za 4) Zg)))))))
  (Zj (Zo (Za 2)))))
abbrev XV:ym:=top 79
theorem zed:FnScope ["_law_found"] ["_law_found"] (Zd XV):=⟨rfl,rfl,rfl,by decide +kernel,rfl,by decide +kernel,by decide +kernel⟩
theorem zep(F:Fun K "_law_whole" "_law_whole" XV fa fd)(hm:mg "_law_whole" = some (.ref fa))(b:ZA K fd ["_law_found"] [])(z_isinstance:mg "isinstance" = none)(z_int:mg "int" = none)(z_bool:mg "bool" = none) :
  Fx.Cle P w K mg base (k+1) "_law_whole" 1 Yg:=by
 exact Zx F hm b zed rfl rfl λcdv A outer s H E hr=>
  (Zj (Zo (zeH (Yl zjp (show yK "int" = some (.type "int") by decide +kernel) rfl z_isinstance rfl z_int (Za 0)) (za9 (zjK (Yl zgq (show yK "bool" = some (.type "bool") by decide +kernel) rfl z_isinstance rfl z_bool (Za 0)))))))
abbrev Yd:ym:=top 80
theorem QH:FnScope ["_law_found"] ["_law_found"] (Zd Yd):=⟨rfl,rfl,rfl,by decide +kernel,rfl,by decide +kernel,by decide +kernel⟩
theorem QN(F:Fun K "_law_is_fraction" "_law_is_fraction" Yd fa fd)(hm:mg "_law_is_fraction" = some (.ref fa))(b:ZA K fd ["_law_found"] [])(z_isinstance:mg "isinstance" = none)(z_tuple:mg "tuple" = none)(z_len:mg "len" = none)(C_law_whole:Fx.Cle P w K mg base k "_law_whole" 1 Yg)(C_law_divisor:Fx.Cle P w K mg base k "_law_divisor" 2 Xd) :
  Fx.Cle P w K mg base (k+1) "_law_is_fraction" 1 Ye:=by
 exact Zx F hm b QH rfl rfl λcdv A outer s H E hr=>
  (Zf (Z0 (Fx.tv_w (Wo (YD (Z1 (Yl Ue (show yK "tuple" = some (.type "tuple") by decide +kernel) rfl z_isinstance rfl z_tuple (Za 0)) (λ_=>rfl))) (XA (ZK (Wa hr.units) (Yx rfl z_len (Za 0)) Ze (Zy _)))))
  (Zj (Zo VR))
  ZC)
  (Zf (Z0 (Fx.tv_w (Wo (YD (Z1 (Zh (Fx.Cle.cal C_law_whole) hr rfl (Zb (Zk (Za 0) Ze (λ_ _=>rfl)) Zg)) (λ_=>rfl))) (Wo (YD (Z1 (Zh (Fx.Cle.cal C_law_whole) hr rfl (Zb (Zk (Za 0) Ze (λ_ _=>rfl)) Zg)) (λ_=>rfl))) (XA (ZK Wb (Zk (Za 0) Ze (λ_ _=>rfl)) Ze (Zy _))))))
  (Zj (Zo VR))
  ZC)
  (Zj (Zo (VY (W6 hr.units) (Zh (Fx.Cle.cal C_law_divisor) hr rfl (Zb (Zk (Za 0) Ze (λ_ _=>rfl)) (Zb (Zk (Za 0) Ze (λ_ _=>rfl)) Zg))) Ze (Zy _))))))
abbrev YK:ym:=top 81
theorem Ub:FnScope ["_law_found","_law_kinds","_law_amount"] ["_law_found","_law_kinds"] (Zd YK):=⟨rfl,rfl,rfl,by decide +kernel,rfl,by decide +kernel,by decide +kernel⟩
theorem zaR(F:Fun K "_law_is_point" "_law_is_point" YK fa fd)(hm:mg "_law_is_point" = some (.ref fa))(b:ZA K fd ["_law_found","_law_kinds"] [])(z_isinstance:mg "isinstance" = none)(z_list:mg "list" = none)(z_len:mg "len" = none)(C_law_is_fraction:Fx.Cle P w K mg base k "_law_is_fraction" 1 Ye) :
  Fx.Cle P w K mg base (k+1) "_law_is_point" 2 Xm:=by
 exact Zx F hm b Ub rfl rfl λcdv A outer s H E hr=>
  (Zf (Z0 (Fx.tv_w (Wo (YD (Z1 (Yl QO (show yK "list" = some (.type "list") by decide +kernel) rfl z_isinstance rfl z_list (Za 0)) (λ_=>rfl))) (XA (ZK (Wa hr.units) (Yx rfl z_len (Za 0)) (Za 1) (Zy _)))))
  (Zj (Zo VR))
  ZC)
  (Zf (X8 yS.never rfl (YA (Za 0)) (ZL (i:=2) Ub.nd rfl (yg rfl))
  (Zj (Z0 (YD (Z1 (Zh (Fx.Cle.cal C_law_is_fraction) hr rfl (Zb (Za 2) Zg)) (λ_=>rfl)))
  (Zj (Zo VR))
  ZC)))
  (Zj (Zo VR))))
abbrev Vr:ym:=top 82
theorem zhi:FnScope ["_law_a","_law_b","_law_many"] ["_law_a","_law_b","_law_many"] (Zd Vr):=⟨rfl,rfl,rfl,by decide +kernel,rfl,by decide +kernel,by decide +kernel⟩
theorem zhq(F:Fun K "_law_add" "_law_add" Vr fa fd)(hm:mg "_law_add" = some (.ref fa))(b:ZA K fd ["_law_a","_law_b","_law_many"] [])(C_law_frac:Fx.Cle P w K mg base k "_law_frac" 2 Yw) :
  Fx.Cle P w K mg base (k+1) "_law_add" 3 XL:=by
 exact Zx F hm b zhi rfl rfl λcdv A outer s H E hr=>
  (Zj (Zo (Zh (Fx.Cle.cal C_law_frac) hr rfl (Zb (Zw ZO (Zw ZJ (Zw ZJ (Zk (Za 0) Ze (λ_ _=>rfl)) (Zk (Za 1) Ze (λ_ _=>rfl))) (Zk (Za 2) Ze (λ_ _=>rfl))) (Zw ZJ (Zw ZJ (Zk (Za 2) Ze (λ_ _=>rfl)) (Zk (Za 1) Ze (λ_ _=>rfl))) (Zk (Za 0) Ze (λ_ _=>rfl)))) (Zb (Zw ZJ (Zw ZJ (Zk (Za 0) Ze (λ_ _=>rfl)) (Zk (Za 1) Ze (λ_ _=>rfl))) (Zk (Za 2) Ze (λ_ _=>rfl))) Zg)))))
abbrev XW:ym:=top 83
theorem W2:FnScope ["_law_weights","_law_point_here","_law_made","_law_k"] ["_law_weights","_law_point_here"] (Zd XW):=⟨rfl,rfl,rfl,by decide +kernel,rfl,by decide +kernel,by decide +kernel⟩
theorem zeq(F:Fun K "_law_weigh" "_law_weigh" XW fa fd)(hm:mg "_law_weigh" = some (.ref fa))(b:ZA K fd ["_law_weights","_law_point_here"] [])(z_range:mg "range" = none)(z_len:mg "len" = none)(C_law_add:Fx.Cle P w K mg base k "_law_add" 3 XL) :
  Fx.Cle P w K mg base (k+1) "_law_weigh" 2 Yp:=by
 exact Zx F hm b W2 rfl rfl λcdv A outer s H E hr=>
  (Zf (Zq (i:=2) W2.nd rfl (yg rfl) (ZV (Zb Ze (Zb Ze Zg))))
  (Zf (X8 yS.never rfl (Ws rfl z_range (Yx rfl z_len (Za 1))) (ZL (i:=3) W2.nd rfl (yg rfl))
  (Zj (Zq (i:=2) W2.nd rfl (yg rfl) (Zh (Fx.Cle.cal C_law_add) hr rfl (Zb (Za 2) (Zb (Zk (Za 1) (Za 3) (λ_ _=>rfl)) (Zb (ZV (Zb (Zk (Za 0) (Za 3) (λ_ _=>rfl)) (Zb Ze Zg))) Zg)))))))
  (Zj (Zo (Za 2)))))
abbrev XZ:ym:=top 84
theorem zee:FnScope ["_law_a","_law_b"] ["_law_a","_law_b"] (Zd XZ):=⟨rfl,rfl,rfl,by decide +kernel,rfl,by decide +kernel,by decide +kernel⟩
theorem zet(F:Fun K "_law_below" "_law_below" XZ fa fd)(hm:mg "_law_below" = some (.ref fa))(b:ZA K fd ["_law_a","_law_b"] []) :
  Fx.Cle P w K mg base (k+1) "_law_below" 2 ZW:=by
 exact Zx F hm b zee rfl rfl λcdv A outer s H E hr=>
  (Zj (Zo (VY Wb (Zw ZJ (Zk (Za 0) Ze (λ_ _=>rfl)) (Zk (Za 1) Ze (λ_ _=>rfl))) (Zw ZJ (Zk (Za 1) Ze (λ_ _=>rfl)) (Zk (Za 0) Ze (λ_ _=>rfl))) (Zy _))))
abbrev XY:ym:=top 85
theorem JG:FnScope ["_law_limits","_law_point_here","_law_limit"] ["_law_limits","_law_point_here"] (Zd XY):=⟨rfl,rfl,rfl,by decide +kernel,rfl,by decide +kernel,by decide +kernel⟩
theorem zes(F:Fun K "_law_keeps" "_law_keeps" XY fa fd)(hm:mg "_law_keeps" = some (.ref fa))(b:ZA K fd ["_law_limits","_law_point_here"] [])(C_law_weigh:Fx.Cle P w K mg base k "_law_weigh" 2 Yp)(C_law_below:Fx.Cle P w K mg base k "_law_below" 2 ZW) :
  Fx.Cle P w K mg base (k+1) "_law_keeps" 2 YC:=by
 exact Zx F hm b JG rfl rfl λcdv A outer s H E hr=>
  (Zf (X8 yS.never rfl (YA (Za 0)) (ZL (i:=2) JG.nd rfl (yg rfl))
  (Zj (Z0 (Z1 (Zh (Fx.Cle.cal C_law_below) hr rfl (Zb (ZV (Zb (Zk (Za 2) Ze (λ_ _=>rfl)) (Zb Ze Zg))) (Zb (Zh (Fx.Cle.cal C_law_weigh) hr rfl (Zb (Zk (Za 2) Ze (λ_ _=>rfl)) (Zb (Za 1) Zg))) Zg))) (λ_=>rfl))
  (Zj (Zo VR))
  ZC)))
  (Zj (Zo VR)))
abbrev Y1:ym:=top 86
theorem Vc:FnScope ["_law_found","_law_kinds","_law_limit","_law_number_here"] ["_law_found","_law_kinds"] (Zd Y1):=⟨rfl,rfl,rfl,by decide +kernel,rfl,by decide +kernel,by decide +kernel⟩
theorem zbV(F:Fun K "_law_is_desk" "_law_is_desk" Y1 fa fd)(hm:mg "_law_is_desk" = some (.ref fa))(b:ZA K fd ["_law_found","_law_kinds"] [])(z_isinstance:mg "isinstance" = none)(z_tuple:mg "tuple" = none)(z_len:mg "len" = none)(z_list:mg "list" = none)(C_law_whole:Fx.Cle P w K mg base k "_law_whole" 1 Yg) :
  Fx.Cle P w K mg base (k+1) "_law_is_desk" 2 XJ:=by
 exact Zx F hm b Vc rfl rfl λcdv A outer s H E hr=>
  (Zf (Z0 (Fx.tv_w (Wo (YD (Z1 (Yl Ue (show yK "tuple" = some (.type "tuple") by decide +kernel) rfl z_isinstance rfl z_tuple (Za 0)) (λ_=>rfl))) (Wo (ZK (Wa hr.units) (Yx rfl z_len (Za 0)) Ze (Zy _)) (XA (ZK (Wa hr.units) (Zk (Za 0) Ze (λ_ _=>rfl)) (Za 1) (Zy _))))))
  (Zj (Zo VR))
  ZC)
  (Zf (X8 yS.never rfl (YA (Zk (Za 0) Ze (λ_ _=>rfl))) (ZL (i:=2) Vc.nd rfl (yg rfl))
  (Zf (Z0 (Fx.tv_w (Wo (YD (Z1 (Yl Ue (show yK "tuple" = some (.type "tuple") by decide +kernel) rfl z_isinstance rfl z_tuple (Za 2)) (λ_=>rfl))) (Wo (ZK (Wa hr.units) (Yx rfl z_len (Za 2)) Ze (Zy _)) (XA (ZK (Wa hr.units) (Yx rfl z_len (Zk (Za 2) Ze (λ_ _=>rfl))) (Za 1) (Zy _))))))
  (Zj (Zo VR))
  ZC)
  (Zj (X8 yS.never rfl (YA (Zw ZO (Ys (zaN rfl z_list (Zk (Za 2) Ze (λ_ _=>rfl)))) (JM (Zb (Zk (Za 2) Ze (λ_ _=>rfl)) Zg)))) (ZL (i:=3) Vc.nd rfl (yg rfl))
  (Zj (Z0 (YD (Z1 (Zh (Fx.Cle.cal C_law_whole) hr rfl (Zb (Za 3) Zg)) (λ_=>rfl)))
  (Zj (Zo VR))
  ZC))))))
  (Zj (Zo VR))))
abbrev WD:ym:=top 87
theorem zfh:FnScope ["_law_a","_law_many"] ["_law_a","_law_many"] (Zd WD):=⟨rfl,rfl,rfl,by decide +kernel,rfl,by decide +kernel,by decide +kernel⟩
theorem zfx(F:Fun K "_law_over" "_law_over" WD fa fd)(hm:mg "_law_over" = some (.ref fa))(b:ZA K fd ["_law_a","_law_many"] [])(C_law_frac:Fx.Cle P w K mg base k "_law_frac" 2 Yw) :
  Fx.Cle P w K mg base (k+1) "_law_over" 2 ZX:=by
 exact Zx F hm b zfh rfl rfl λcdv A outer s H E hr=>
  (Zj (Zo (Zh (Fx.Cle.cal C_law_frac) hr rfl (Zb (Zk (Za 0) Ze (λ_ _=>rfl)) (Zb (Zw ZJ (Zk (Za 0) Ze (λ_ _=>rfl)) (Za 1)) Zg)))))
abbrev Xs:ym:=top 88
theorem Z9:FnScope ["_law_limits","_law_kind","_law_point_here","_law_low","_law_high","_law_limit","_law_weights","_law_left","_law_many"] ["_law_limits","_law_kind","_law_point_here"] (Zd Xs):=⟨rfl,rfl,rfl,by decide +kernel,rfl,by decide +kernel,by decide +kernel⟩
theorem zdj(F:Fun K "_law_exists" "_law_exists" Xs fa fd)(hm:mg "_law_exists" = some (.ref fa))(b:ZA K fd ["_law_limits","_law_kind","_law_point_here"] [])(C_law_weigh:Fx.Cle P w K mg base k "_law_weigh" 2 Yp)(C_law_add:Fx.Cle P w K mg base k "_law_add" 3 XL)(C_law_over:Fx.Cle P w K mg base k "_law_over" 2 ZX)(C_law_below:Fx.Cle P w K mg base k "_law_below" 2 ZW) :
  Fx.Cle P w K mg base (k+1) "_law_exists" 3 YU:=by
 exact Zx F hm b Z9 rfl rfl λcdv A outer s H E hr=>
  (Zf (Zq (i:=3) Z9.nd rfl (yg rfl) zba)
  (Zf (Zq (i:=4) Z9.nd rfl (yg rfl) zba)
  (Zf (X8 yS.never rfl (YA (Za 0)) (ZL (i:=5) Z9.nd rfl (yg rfl))
  (Zf (Zq (i:=6) Z9.nd rfl (yg rfl) (Zw ZO (Ys (JJ (Zk (Za 5) Ze (λ_ _=>rfl)) zah (zai (Za 1)))) (Ys (JJ (Zk (Za 5) Ze (λ_ _=>rfl)) (zai (Zw ZO (Za 1) Ze)) zah))))
  (Zf (Zq (i:=7) Z9.nd rfl (yg rfl) (Zh (Fx.Cle.cal C_law_add) hr rfl (Zb (ZV (Zb (Zk (Za 5) Ze (λ_ _=>rfl)) (Zb Ze Zg))) (Zb (Zh (Fx.Cle.cal C_law_weigh) hr rfl (Zb (Za 6) (Zb (Za 2) Zg))) (Zb (ZV (Zb (W9 Ze) (Zb Ze Zg))) Zg)))))
  (Zf (Zq (i:=8) Z9.nd rfl (yg rfl) (Zk (Zk (Za 5) Ze (λ_ _=>rfl)) (Za 1) (λ_ _=>rfl)))
  (Zf (Z0 (Fx.tv_w (zf0 (ZK (W6 hr.units) (Za 8) Ze (Zy _)) (zcW (ZK Wb (Zk (Za 7) Ze (λ_ _=>rfl)) Ze (Zy _)))))
  (Zj (Zo VR))
  ZC)
  (Zf (Z0 (Fx.tv_w (zf0 (ZK QM (Za 8) Ze (Zy _)) (zcW (Fx.tv_w (Wo (zb6 (Za 4)) (XA (Z1 (Zh (Fx.Cle.cal C_law_below) hr rfl (Zb (Zh (Fx.Cle.cal C_law_over) hr rfl (Zb (Za 7) (Zb (Za 8) Zg))) (Zb (Za 4) Zg))) (λ_=>rfl))))))))
  (Zj (Zq (i:=4) Z9.nd rfl (yg rfl) (Zh (Fx.Cle.cal C_law_over) hr rfl (Zb (Za 7) (Zb (Za 8) Zg)))))
  ZC)
  (Zj (Z0 (Fx.tv_w (zf0 (ZK Wb (Za 8) Ze (Zy _)) (zcW (Fx.tv_w (Wo (zb6 (Za 3)) (XA (Z1 (Zh (Fx.Cle.cal C_law_below) hr rfl (Zb (Za 3) (Zb (Zh (Fx.Cle.cal C_law_over) hr rfl (Zb (Za 7) (Zb (Za 8) Zg))) Zg))) (λ_=>rfl))))))))
  (Zj (Zq (i:=3) Z9.nd rfl (yg rfl) (Zh (Fx.Cle.cal C_law_over) hr rfl (Zb (Za 7) (Zb (Za 8) Zg)))))
  ZC))))))))
  (Zj (Zo (Fx.ev_or (Fx.ev_isN (Za 3)) (Fx.ev_or (Fx.ev_isN (Za 4)) (za9 (zjK (Zh (Fx.Cle.cal C_law_below) hr rfl (Zb (Za 4) (Zb (Za 3) Zg))))))))))))
abbrev zc8:ym:=top 89
theorem VW:FnScope ["_law_script","_law_drawn","_law_kinds","_law_limits","_law_desk_here","_law_kind","_law_point_here","_law_due","_law_handed","_law_amount","_law_whole_here","_law_found"] ["_law_script"] (Zd zc8):=⟨rfl,rfl,rfl,by decide +kernel,rfl,by decide +kernel,by decide +kernel⟩
theorem law_fn(F:Fun K "law" "law" zc8 fa fd)(z_list:mg "list" = none)(C_law_desk:Fx.Cle P w K mg base k "_law_desk" 1 WK)(C_law_copied:Fx.Cle P w K mg base k "_law_copied" 1 Xy)(C_desk_of:Fx.Cle P w K mg base k "desk_of" 2 Ui)(C_law_cell_at:Fx.Cle P w K mg base k "_law_cell_at" 2 Zp)(C_law_point:Fx.Cle P w K mg base k "_law_point" 2 WR)(C_law_exists:Fx.Cle P w K mg base k "_law_exists" 3 YU)(C_filled:Fx.Cle P w K mg base k "filled" 3 UW)(C_law_is_point:Fx.Cle P w K mg base k "_law_is_point" 2 Xm)(C_law_keeps:Fx.Cle P w K mg base k "_law_keeps" 2 YC)(C_dropped:Fx.Cle P w K mg base k "dropped" 2 Uh)(C_law_is_desk:Fx.Cle P w K mg base k "_law_is_desk" 2 XJ) :
  FnOk P w K mg base CX0 (k+1) fa fd ["_law_script"] (Fx.spF K none 1 zhI):=by
 exact Fx.fn_ok F VW rfl λcdv A outer s H E hr=>
  (Zf (Zq (i:=1) VW.nd rfl (yg rfl) (Zh (Fx.Cle.cal C_law_desk) hr rfl (Zb (Za 0) Zg)))
  (Zf (Zq (i:=2) VW.nd rfl (yg rfl) (Zk (Za 1) Ze (λ_ _=>rfl)))
  (Zf (Zq (i:=3) VW.nd rfl (yg rfl) (Zh (Fx.Cle.cal C_law_copied) hr rfl (Zb (Zk (Za 1) Ze (λ_ _=>rfl)) Zg)))
  (Zf (Zq (i:=4) VW.nd rfl (yg rfl) (Zh (Fx.Cle.cal C_desk_of) hr rfl (Zb (Za 2) (Zb (Zh (Fx.Cle.cal C_law_copied) hr rfl (Zb (Za 3) Zg)) Zg))))
  (Zf (Zq (i:=5) VW.nd rfl (yg rfl) (Zw X2 (Zh (Fx.Cle.cal C_law_cell_at) hr rfl (Zb (Za 0) (Zb Ze Zg))) (Za 2)))
  (Zf (Zq (i:=6) VW.nd rfl (yg rfl) (Zh (Fx.Cle.cal C_law_point) hr rfl (Zb (Za 0) (Zb (Zw X1 (Za 2) Ze) Zg))))
  (Zf (Zq (i:=7) VW.nd rfl (yg rfl) (Zh (Fx.Cle.cal C_law_exists) hr rfl (Zb (Za 3) (Zb (Za 5) (Zb (Za 6) Zg)))))
  (Zf (Zq (i:=8) VW.nd rfl (yg rfl) (Ys (zaN rfl z_list (Za 6))))
  (Zf (Zq (i:=9) VW.nd rfl (yg rfl) (Zh (Fx.Cle.cal C_filled) hr rfl (Zb (Za 4) (Zb (Za 5) (Zb (Za 8) Zg)))))
  (Zf (Z0 (ZK (Wa hr.units) (Za 8) (Za 6) (Zy _))
  (Zj (Zo VR))
  ZC)
  (Zf (Z0 (ZK (Wa hr.units) (Fx.ev_notN (Za 9)) (Za 7) (Zy _))
  (Zj (Zo VR))
  ZC)
  (Zf (Z0 (Z1 (Za 7) (λ_=>rfl))
  (Zf (Zq (i:=10) VW.nd rfl (yg rfl) (Zw ZO (Zw ZO (Ys (JJ (Za 6) zah (zai (Za 5)))) (JM (Zb (Za 9) Zg))) (Ys (JJ (Za 6) (zai (Za 5)) zah))))
  (Zj (Z0 (Fx.tv_w (Wo (YD (Z1 (Zh (Fx.Cle.cal C_law_is_point) hr rfl (Zb (Za 10) (Zb (Za 2) Zg))) (λ_=>rfl))) (XA (YD (Z1 (Zh (Fx.Cle.cal C_law_keeps) hr rfl (Zb (Za 3) (Zb (Za 10) Zg))) (λ_=>rfl))))))
  (Zj (Zo VR))
  ZC)))
  ZC)
  (Zf (Z0 (ZK (W6 hr.units) (Za 2) Ze (Zy _))
  (Zj (Zo VR))
  ZC)
  (Zf (Zq (i:=11) VW.nd rfl (yg rfl) (Zh (Fx.Cle.cal C_dropped) hr rfl (Zb (Za 4) (Zb (Za 5) Zg))))
  (Zf (Z0 (YD (Z1 (Zh (Fx.Cle.cal C_law_is_desk) hr rfl (Zb (Za 11) (Zb (Zw X1 (Za 2) Ze) Zg))) (λ_=>rfl)))
  (Zj (Zo VR))
  ZC)
  (Zj (Zo (VY (W6 hr.units) (Zh (Fx.Cle.cal C_law_keeps) hr rfl (Zb (Zk (Za 11) Ze (λ_ _=>rfl)) (Zb (Za 6) Zg))) (Za 7) (Zy _)))))))))))))))))))
theorem all_mk{l:yca}{w:y3}{K:yh}{h:yd}{mg:Str->Option yb}{fa:yc}(X:K.In h)(G:h.Ns yn mg)(hfa:mg "law" = some (.ref fa))
  {f0 f1 f2 f3 f4 f5 f6 f7 f8 f9 f10 f11 f12 f13 f14 f15 f16 f17 f18 f19 f20 f21 f22 f23 f24 f26 f27 f28 f29 f30 f31 f32 f33 f34 f35 f36 f37 f38 f39 f40 f41 f42 f43 f44 f45 f46 f47 f48 f49 f50 f51 f52 f53 f54 f55 f56 f57 f58 f59 f60 f61 f62 f63 f64 f65 f66 f67 f68 f69 f70 f71:yc}{od0 an0 od1 an1 od2 an2 od3 an3 od4 an4 od5 an5 od6 an6 od7 an7 od8 an8 od9 an9 od10 an10 od11 an11 od12 an12 od13 an13 od14 an14 od15 an15 od16 an16 od17 an17 od18 an18 od19 an19 od20 an20 od21 an21 od22 an22 od23 an23 od24 an24 od26 an26 od27 an27 od28 an28 od29 an29 od30 an30 od31 an31 od32 an32 od33 an33 od34 an34 od35 an35 od36 an36 od37 an37 od38 an38 od39 an39 od40 an40 od41 an41 od42 an42 od43 an43 od44 an44 od45 an45 od46 an46 od47 an47 od48 an48 od49 an49 od50 an50 od51 an51 od52 an52 od53 an53 od54 an54 od55 an55 od56 an56 od57 an57 od58 an58 od59 an59 od60 an60 od61 an61 od62 an62 od63 an63 od64 an64 od65 an65 od66 an66 od67 an67 od68 an68 od69 an69 od70 an70 od71 an71:Option yc}{sl0 sl1 sl2 sl3 sl4 sl5 sl6 sl7 sl8 sl9 sl10 sl11 sl12 sl13 sl14 sl15 sl16 sl17 sl18 sl19 sl20 sl21 sl22 sl23 sl24 sl26 sl27 sl28 sl29 sl30 sl31 sl32 sl33 sl34 sl35 sl36 sl37 sl38 sl39 sl40 sl41 sl42 sl43 sl44 sl45 sl46 sl47 sl48 sl49 sl50 sl51 sl52 sl53 sl54 sl55 sl56 sl57 sl58 sl59 sl60 sl61 sl62 sl63 sl64 sl65 sl66 sl67 sl68 sl69 sl70 sl71:Array (Option yb)}{oc0 kV0 dc0 pm0 cd0 ct0 oc1 kV1 dc1 pm1 cd1 ct1 oc2 kV2 dc2 pm2 cd2 ct2 oc3 kV3 dc3 pm3 cd3 ct3 oc4 kV4 dc4 pm4 cd4 ct4 oc5 kV5 dc5 pm5 cd5 ct5 oc6 kV6 dc6 pm6 cd6 ct6 oc7 kV7 dc7 pm7 cd7 ct7 oc8 kV8 dc8 pm8 cd8 ct8 oc9 kV9 dc9 pm9 cd9 ct9 oc10 kV10 dc10 pm10 cd10 ct10 oc11 kV11 dc11 pm11 cd11 ct11 oc12 kV12 dc12 pm12 cd12 ct12 oc13 kV13 dc13 pm13 cd13 ct13 oc14 kV14 dc14 pm14 cd14 ct14 oc15 kV15 dc15 pm15 cd15 ct15 oc16 kV16 dc16 pm16 cd16 ct16 oc17 kV17 dc17 pm17 cd17 ct17 oc18 kV18 dc18 pm18 cd18 ct18 oc19 kV19 dc19 pm19 cd19 ct19 oc20 kV20 dc20 pm20 cd20 ct20 oc21 kV21 dc21 pm21 cd21 ct21 oc22 kV22 dc22 pm22 cd22 ct22 oc23 kV23 dc23 pm23 cd23 ct23 oc24 kV24 dc24 pm24 cd24 ct24 oc26 kV26 dc26 pm26 cd26 ct26 oc27 kV27 dc27 pm27 cd27 ct27 oc28 kV28 dc28 pm28 cd28 ct28 oc29 kV29 dc29 pm29 cd29 ct29 oc30 kV30 dc30 pm30 cd30 ct30 oc31 kV31 dc31 pm31 cd31 ct31 oc32 kV32 dc32 pm32 cd32 ct32 oc33 kV33 dc33 pm33 cd33 ct33 oc34 kV34 dc34 pm34 cd34 ct34 oc35 kV35 dc35 pm35 cd35 ct35 oc36 kV36 dc36 pm36 cd36 ct36 oc37 kV37 dc37 pm37 cd37 ct37 oc38 kV38 dc38 pm38 cd38 ct38 oc39 kV39 dc39 pm39 cd39 ct39 oc40 kV40 dc40 pm40 cd40 ct40 oc41 kV41 dc41 pm41 cd41 ct41 oc42 kV42 dc42 pm42 cd42 ct42 oc43 kV43 dc43 pm43 cd43 ct43 oc44 kV44 dc44 pm44 cd44 ct44 oc45 kV45 dc45 pm45 cd45 ct45 oc46 kV46 dc46 pm46 cd46 ct46 oc47 kV47 dc47 pm47 cd47 ct47 oc48 kV48 dc48 pm48 cd48 ct48 oc49 kV49 dc49 pm49 cd49 ct49 oc50 kV50 dc50 pm50 cd50 ct50 oc51 kV51 dc51 pm51 cd51 ct51 oc52 kV52 dc52 pm52 cd52 ct52 oc53 kV53 dc53 pm53 cd53 ct53 oc54 kV54 dc54 pm54 cd54 ct54 oc55 kV55 dc55 pm55 cd55 ct55 oc56 kV56 dc56 pm56 cd56 ct56 oc57 kV57 dc57 pm57 cd57 ct57 oc58 kV58 dc58 pm58 cd58 ct58 oc59 kV59 dc59 pm59 cd59 ct59 oc60 kV60 dc60 pm60 cd60 ct60 oc61 kV61 dc61 pm61 cd61 ct61 oc62 kV62 dc62 pm62 cd62 ct62 oc63 kV63 dc63 pm63 cd63 ct63 oc64 kV64 dc64 pm64 cd64 ct64 oc65 kV65 dc65 pm65 cd65 ct65 oc66 kV66 dc66 pm66 cd66 ct66 oc67 kV67 dc67 pm67 cd67 ct67 oc68 kV68 dc68 pm68 cd68 ct68 oc69 kV69 dc69 pm69 cd69 ct69 oc70 kV70 dc70 pm70 cd70 ct70 oc71 kV71 dc71 pm71 cd71 ct71:yb}
  {f25:yc}{od25 an25:Option yc}{sl25:Array (Option yb)}{oc25 kV25 dc25 pm25 ct25:yb}
  {tg_GREATEST_NUMBER:Tok}
  {tg_MOST_KINDS:Tok}
  {tg_MOST_LIMITS:Tok}
  {C_Board fI_Board:yc}{odI_Board anI_Board:Option yc}{slI_Board:Array (Option yb)}{ocI_Board kVI_Board dcI_Board pmI_Board cdI_Board ctI_Board:yb}
  {cL_raising_column TL_raising_column:yc}{occ_raising_column:yb}{odc_raising_column:Option yc}{vsc_raising_column:Array yb}{slc_raising_column:Array (Option yb)}
  (a0:yo K yn "is_whole" = some (some (.ref f0))) (l0:K.lookup f0=some ⟨oc0,od0,.func (yu "is_whole" "is_whole" (Zm WG) (Zl WG) (Zd WG) .none kV0 dc0 pm0 an0 cd0 ct0),sl0⟩) (c0:yx K cd0 "is_whole" = true) (k0:yr K (.ref f0)=true)
  (a1:yo K yn "common_divisor" = some (some (.ref f1))) (l1:K.lookup f1=some ⟨oc1,od1,.func (yu "common_divisor" "common_divisor" (Zm Yi) (Zl Yi) (Zd Yi) .none kV1 dc1 pm1 an1 cd1 ct1),sl1⟩) (c1:yx K cd1 "common_divisor" = true) (k1:yr K (.ref f1)=true)
  (a2:yo K yn "is_fraction" = some (some (.ref f2))) (l2:K.lookup f2=some ⟨oc2,od2,.func (yu "is_fraction" "is_fraction" (Zm Y4) (Zl Y4) (Zd Y4) .none kV2 dc2 pm2 an2 cd2 ct2),sl2⟩) (c2:yx K cd2 "is_fraction" = true) (k2:yr K (.ref f2)=true)
  (a3:yo K yn "frac" = some (some (.ref f3))) (l3:K.lookup f3=some ⟨oc3,od3,.func (yu "frac" "frac" (Zm zch) (Zl zch) (Zd zch) .none kV3 dc3 pm3 an3 cd3 ct3),sl3⟩) (c3:yx K cd3 "frac" = true) (k3:yr K (.ref f3)=true)
  (a4:yo K yn "plus" = some (some (.ref f4))) (l4:K.lookup f4=some ⟨oc4,od4,.func (yu "plus" "plus" (Zm zcd) (Zl zcd) (Zd zcd) .none kV4 dc4 pm4 an4 cd4 ct4),sl4⟩) (c4:yx K cd4 "plus" = true) (k4:yr K (.ref f4)=true)
  (a5:yo K yn "less" = some (some (.ref f5))) (l5:K.lookup f5=some ⟨oc5,od5,.func (yu "less" "less" (Zm zcf) (Zl zcf) (Zd zcf) .none kV5 dc5 pm5 an5 cd5 ct5),sl5⟩) (c5:yx K cd5 "less" = true) (k5:yr K (.ref f5)=true)
  (a6:yo K yn "times" = some (some (.ref f6))) (l6:K.lookup f6=some ⟨oc6,od6,.func (yu "times" "times" (Zm Jk) (Zl Jk) (Zd Jk) .none kV6 dc6 pm6 an6 cd6 ct6),sl6⟩) (c6:yx K cd6 "times" = true) (k6:yr K (.ref f6)=true)
  (a7:yo K yn "over" = some (some (.ref f7))) (l7:K.lookup f7=some ⟨oc7,od7,.func (yu "over" "over" (Zm zce) (Zl zce) (Zd zce) .none kV7 dc7 pm7 an7 cd7 ct7),sl7⟩) (c7:yx K cd7 "over" = true) (k7:yr K (.ref f7)=true)
  (a8:yo K yn "below" = some (some (.ref f8))) (l8:K.lookup f8=some ⟨oc8,od8,.func (yu "below" "below" (Zm Jp) (Zl Jp) (Zd Jp) .none kV8 dc8 pm8 an8 cd8 ct8),sl8⟩) (c8:yx K cd8 "below" = true) (k8:yr K (.ref f8)=true)
  (a9:yo K yn "is_number" = some (some (.ref f9))) (l9:K.lookup f9=some ⟨oc9,od9,.func (yu "is_number" "is_number" (Zm X0) (Zl X0) (Zd X0) .none kV9 dc9 pm9 an9 cd9 ct9),sl9⟩) (c9:yx K cd9 "is_number" = true) (k9:yr K (.ref f9)=true)
  (a10:yo K yn "limit_of" = some (some (.ref f10))) (l10:K.lookup f10=some ⟨oc10,od10,.func (yu "limit_of" "limit_of" (Zm WC) (Zl WC) (Zd WC) .none kV10 dc10 pm10 an10 cd10 ct10),sl10⟩) (c10:yx K cd10 "limit_of" = true) (k10:yr K (.ref f10)=true)
  (a11:yo K yn "desk_of" = some (some (.ref f11))) (l11:K.lookup f11=some ⟨oc11,od11,.func (yu "desk_of" "desk_of" (Zm Vt) (Zl Vt) (Zd Vt) .none kV11 dc11 pm11 an11 cd11 ct11),sl11⟩) (c11:yx K cd11 "desk_of" = true) (k11:yr K (.ref f11)=true)
  (a12:yo K yn "check_point" = some (some (.ref f12))) (l12:K.lookup f12=some ⟨oc12,od12,.func (yu "check_point" "check_point" (Zm Y6) (Zl Y6) (Zd Y6) .none kV12 dc12 pm12 an12 cd12 ct12),sl12⟩) (c12:yx K cd12 "check_point" = true) (k12:yr K (.ref f12)=true)
  (a13:yo K yn "check_place" = some (some (.ref f13))) (l13:K.lookup f13=some ⟨oc13,od13,.func (yu "check_place" "check_place" (Zm Y7) (Zl Y7) (Zd Y7) .none kV13 dc13 pm13 an13 cd13 ct13),sl13⟩) (c13:yx K cd13 "check_place" = true) (k13:yr K (.ref f13)=true)
  (a14:yo K yn "weight" = some (some (.ref f14))) (l14:K.lookup f14=some ⟨oc14,od14,.func (yu "weight" "weight" (Zm UI) (Zl UI) (Zd UI) .none kV14 dc14 pm14 an14 cd14 ct14),sl14⟩) (c14:yx K cd14 "weight" = true) (k14:yr K (.ref f14)=true)
  (a15:yo K yn "unit" = some (some (.ref f15))) (l15:K.lookup f15=some ⟨oc15,od15,.func (yu "unit" "unit" (Zm zcc) (Zl zcc) (Zd zcc) .none kV15 dc15 pm15 an15 cd15 ct15),sl15⟩) (c15:yx K cd15 "unit" = true) (k15:yr K (.ref f15)=true)
  (a16:yo K yn "room_row" = some (some (.ref f16))) (l16:K.lookup f16=some ⟨oc16,od16,.func (yu "room_row" "room_row" (Zm Wz) (Zl Wz) (Zd Wz) .none kV16 dc16 pm16 an16 cd16 ct16),sl16⟩) (c16:yx K cd16 "room_row" = true) (k16:yr K (.ref f16)=true)
  (a17:yo K yn "first_board" = some (some (.ref f17))) (l17:K.lookup f17=some ⟨oc17,od17,.func (yu "first_board" "first_board" (Zm Y5) (Zl Y5) (Zd Y5) .none kV17 dc17 pm17 an17 cd17 ct17),sl17⟩) (c17:yx K cd17 "first_board" = true) (k17:yr K (.ref f17)=true)
  (a18:yo K yn "rooms_of" = some (some (.ref f18))) (l18:K.lookup f18=some ⟨oc18,od18,.func (yu "rooms_of" "rooms_of" (Zm Wx) (Zl Wx) (Zd Wx) .none kV18 dc18 pm18 an18 cd18 ct18),sl18⟩) (c18:yx K cd18 "rooms_of" = true) (k18:yr K (.ref f18)=true)
  (a19:yo K yn "worth_of" = some (some (.ref f19))) (l19:K.lookup f19=some ⟨oc19,od19,.func (yu "worth_of" "worth_of" (Zm Ww) (Zl Ww) (Zd Ww) .none kV19 dc19 pm19 an19 cd19 ct19),sl19⟩) (c19:yx K cd19 "worth_of" = true) (k19:yr K (.ref f19)=true)
  (a20:yo K yn "swapped_row" = some (some (.ref f20))) (l20:K.lookup f20=some ⟨oc20,od20,.func (yu "swapped_row" "swapped_row" (Zm YZ) (Zl YZ) (Zd YZ) .none kV20 dc20 pm20 an20 cd20 ct20),sl20⟩) (c20:yx K cd20 "swapped_row" = true) (k20:yr K (.ref f20)=true)
  (a21:yo K yn "swapped" = some (some (.ref f21))) (l21:K.lookup f21=some ⟨oc21,od21,.func (yu "swapped" "swapped" (Zm Vp) (Zl Vp) (Zd Vp) .none kV21 dc21 pm21 an21 cd21 ct21),sl21⟩) (c21:yx K cd21 "swapped" = true) (k21:yr K (.ref f21)=true)
  (a22:yo K yn "first_room_on" = some (some (.ref f22))) (l22:K.lookup f22=some ⟨oc22,od22,.func (yu "first_room_on" "first_room_on" (Zm Yu) (Zl Yu) (Zd Yu) .none kV22 dc22 pm22 an22 cd22 ct22),sl22⟩) (c22:yx K cd22 "first_room_on" = true) (k22:yr K (.ref f22)=true)
  (a23:yo K yn "freed" = some (some (.ref f23))) (l23:K.lookup f23=some ⟨oc23,od23,.func (yu "freed" "freed" (Zm Jn) (Zl Jn) (Zd Jn) .none kV23 dc23 pm23 an23 cd23 ct23),sl23⟩) (c23:yx K cd23 "freed" = true) (k23:yr K (.ref f23)=true)
  (a24:yo K yn "helps" = some (some (.ref f24))) (l24:K.lookup f24=some ⟨oc24,od24,.func (yu "helps" "helps" (Zm Jm) (Zl Jm) (Zd Jm) .none kV24 dc24 pm24 an24 cd24 ct24),sl24⟩) (c24:yx K cd24 "helps" = true) (k24:yr K (.ref f24)=true)
  (a25:yo K yn "raising_column" = some (some (.ref f25))) (l25:K.lookup f25=some ⟨oc25,od25,.func (yu "raising_column" "raising_column" (Zm Yh) (Zl Yh) (Zd Yh) .none kV25 dc25 pm25 an25 (.ref cL_raising_column) ct25),sl25⟩) (c25:yx K (.ref cL_raising_column) "raising_column" = true) (k25:yr K (.ref f25)=true)
  (a26:yo K yn "short_room" = some (some (.ref f26))) (l26:K.lookup f26=some ⟨oc26,od26,.func (yu "short_room" "short_room" (Zm Xq) (Zl Xq) (Zd Xq) .none kV26 dc26 pm26 an26 cd26 ct26),sl26⟩) (c26:yx K cd26 "short_room" = true) (k26:yr K (.ref f26)=true)
  (a27:yo K yn "settled" = some (some (.ref f27))) (l27:K.lookup f27=some ⟨oc27,od27,.func (yu "settled" "settled" (Zm Vq) (Zl Vq) (Zd Vq) .none kV27 dc27 pm27 an27 cd27 ct27),sl27⟩) (c27:yx K cd27 "settled" = true) (k27:yr K (.ref f27)=true)
  (a28:yo K yn "point_of" = some (some (.ref f28))) (l28:K.lookup f28=some ⟨oc28,od28,.func (yu "point_of" "point_of" (Zm WA) (Zl WA) (Zd WA) .none kV28 dc28 pm28 an28 cd28 ct28),sl28⟩) (c28:yx K cd28 "point_of" = true) (k28:yr K (.ref f28)=true)
  (a29:yo K yn "shares_of" = some (some (.ref f29))) (l29:K.lookup f29=some ⟨oc29,od29,.func (yu "shares_of" "shares_of" (Zm XU) (Zl XU) (Zd XU) .none kV29 dc29 pm29 an29 cd29 ct29),sl29⟩) (c29:yx K cd29 "shares_of" = true) (k29:yr K (.ref f29)=true)
  (a30:yo K yn "clash_of" = some (some (.ref f30))) (l30:K.lookup f30=some ⟨oc30,od30,.func (yu "clash_of" "clash_of" (Zm WH) (Zl WH) (Zd WH) .none kV30 dc30 pm30 an30 cd30 ct30),sl30⟩) (c30:yx K cd30 "clash_of" = true) (k30:yr K (.ref f30)=true)
  (a31:yo K yn "judged" = some (some (.ref f31))) (l31:K.lookup f31=some ⟨oc31,od31,.func (yu "judged" "judged" (Zm UM) (Zl UM) (Zd UM) .none kV31 dc31 pm31 an31 cd31 ct31),sl31⟩) (c31:yx K cd31 "judged" = true) (k31:yr K (.ref f31)=true)
  (a32:yo K yn "check_goal" = some (some (.ref f32))) (l32:K.lookup f32=some ⟨oc32,od32,.func (yu "check_goal" "check_goal" (Zm Xw) (Zl Xw) (Zd Xw) .none kV32 dc32 pm32 an32 cd32 ct32),sl32⟩) (c32:yx K cd32 "check_goal" = true) (k32:yr K (.ref f32)=true)
  (a33:yo K yn "sooner" = some (some (.ref f33))) (l33:K.lookup f33=some ⟨oc33,od33,.func (yu "sooner" "sooner" (Zm UK) (Zl UK) (Zd UK) .none kV33 dc33 pm33 an33 cd33 ct33),sl33⟩) (c33:yx K cd33 "sooner" = true) (k33:yr K (.ref f33)=true)
  (a34:yo K yn "first_stop" = some (some (.ref f34))) (l34:K.lookup f34=some ⟨oc34,od34,.func (yu "first_stop" "first_stop" (Zm Xu) (Zl Xu) (Zd Xu) .none kV34 dc34 pm34 an34 cd34 ct34),sl34⟩) (c34:yx K cd34 "first_stop" = true) (k34:yr K (.ref f34)=true)
  (a35:yo K yn "way_of" = some (some (.ref f35))) (l35:K.lookup f35=some ⟨oc35,od35,.func (yu "way_of" "way_of" (Zm UJ) (Zl UJ) (Zd UJ) .none kV35 dc35 pm35 an35 cd35 ct35),sl35⟩) (c35:yx K cd35 "way_of" = true) (k35:yr K (.ref f35)=true)
  (a36:yo K yn "climbed" = some (some (.ref f36))) (l36:K.lookup f36=some ⟨oc36,od36,.func (yu "climbed" "climbed" (Zm Vu) (Zl Vu) (Zd Vu) .none kV36 dc36 pm36 an36 cd36 ct36),sl36⟩) (c36:yx K cd36 "climbed" = true) (k36:yr K (.ref f36)=true)
  (a37:yo K yn "best" = some (some (.ref f37))) (l37:K.lookup f37=some ⟨oc37,od37,.func (yu "best" "best" (Zm zci) (Zl zci) (Zd zci) .none kV37 dc37 pm37 an37 cd37 ct37),sl37⟩) (c37:yx K cd37 "best" = true) (k37:yr K (.ref f37)=true)
  (a38:yo K yn "without" = some (some (.ref f38))) (l38:K.lookup f38=some ⟨oc38,od38,.func (yu "without" "without" (Zm Vo) (Zl Vo) (Zd Vo) .none kV38 dc38 pm38 an38 cd38 ct38),sl38⟩) (c38:yx K cd38 "without" = true) (k38:yr K (.ref f38)=true)
  (a39:yo K yn "with_nought" = some (some (.ref f39))) (l39:K.lookup f39=some ⟨oc39,od39,.func (yu "with_nought" "with_nought" (Zm YX) (Zl YX) (Zd YX) .none kV39 dc39 pm39 an39 cd39 ct39),sl39⟩) (c39:yx K cd39 "with_nought" = true) (k39:yr K (.ref f39)=true)
  (a40:yo K yn "moved" = some (some (.ref f40))) (l40:K.lookup f40=some ⟨oc40,od40,.func (yu "moved" "moved" (Zm Jl) (Zl Jl) (Zd Jl) .none kV40 dc40 pm40 an40 cd40 ct40),sl40⟩) (c40:yx K cd40 "moved" = true) (k40:yr K (.ref f40)=true)
  (a41:yo K yn "point_beyond" = some (some (.ref f41))) (l41:K.lookup f41=some ⟨oc41,od41,.func (yu "point_beyond" "point_beyond" (Zm YH) (Zl YH) (Zd YH) .none kV41 dc41 pm41 an41 cd41 ct41),sl41⟩) (c41:yx K cd41 "point_beyond" = true) (k41:yr K (.ref f41)=true)
  (a42:yo K yn "cover" = some (some (.ref f42))) (l42:K.lookup f42=some ⟨oc42,od42,.func (yu "cover" "cover" (Zm Jo) (Zl Jo) (Zd Jo) .none kV42 dc42 pm42 an42 cd42 ct42),sl42⟩) (c42:yx K cd42 "cover" = true) (k42:yr K (.ref f42)=true)
  (a43:yo K yn "needless" = some (some (.ref f43))) (l43:K.lookup f43=some ⟨oc43,od43,.func (yu "needless" "needless" (Zm WB) (Zl WB) (Zd WB) .none kV43 dc43 pm43 an43 cd43 ct43),sl43⟩) (c43:yx K cd43 "needless" = true) (k43:yr K (.ref f43)=true)
  (a44:yo K yn "lean" = some (some (.ref f44))) (l44:K.lookup f44=some ⟨oc44,od44,.func (yu "lean" "lean" (Zm zcg) (Zl zcg) (Zd zcg) .none kV44 dc44 pm44 an44 cd44 ct44),sl44⟩) (c44:yx K cd44 "lean" = true) (k44:yr K (.ref f44)=true)
  (a45:yo K yn "others" = some (some (.ref f45))) (l45:K.lookup f45=some ⟨oc45,od45,.func (yu "others" "others" (Zm UL) (Zl UL) (Zd UL) .none kV45 dc45 pm45 an45 cd45 ct45),sl45⟩) (c45:yx K cd45 "others" = true) (k45:yr K (.ref f45)=true)
  (a46:yo K yn "joined" = some (some (.ref f46))) (l46:K.lookup f46=some ⟨oc46,od46,.func (yu "joined" "joined" (Zm UN) (Zl UN) (Zd UN) .none kV46 dc46 pm46 an46 cd46 ct46),sl46⟩) (c46:yx K cd46 "joined" = true) (k46:yr K (.ref f46)=true)
  (a47:yo K yn "limits_left" = some (some (.ref f47))) (l47:K.lookup f47=some ⟨oc47,od47,.func (yu "limits_left" "limits_left" (Zm Y0) (Zl Y0) (Zd Y0) .none kV47 dc47 pm47 an47 cd47 ct47),sl47⟩) (c47:yx K cd47 "limits_left" = true) (k47:yr K (.ref f47)=true)
  (a48:yo K yn "divisor_of" = some (some (.ref f48))) (l48:K.lookup f48=some ⟨oc48,od48,.func (yu "divisor_of" "divisor_of" (Zm Xv) (Zl Xv) (Zd Xv) .none kV48 dc48 pm48 an48 cd48 ct48),sl48⟩) (c48:yx K cd48 "divisor_of" = true) (k48:yr K (.ref f48)=true)
  (a49:yo K yn "least_bounds" = some (some (.ref f49))) (l49:K.lookup f49=some ⟨oc49,od49,.func (yu "least_bounds" "least_bounds" (Zm YJ) (Zl YJ) (Zd YJ) .none kV49 dc49 pm49 an49 cd49 ct49),sl49⟩) (c49:yx K cd49 "least_bounds" = true) (k49:yr K (.ref f49)=true)
  (a50:yo K yn "whole_limit" = some (some (.ref f50))) (l50:K.lookup f50=some ⟨oc50,od50,.func (yu "whole_limit" "whole_limit" (Zm YY) (Zl YY) (Zd YY) .none kV50 dc50 pm50 an50 cd50 ct50),sl50⟩) (c50:yx K cd50 "whole_limit" = true) (k50:yr K (.ref f50)=true)
  (a51:yo K yn "dropped" = some (some (.ref f51))) (l51:K.lookup f51=some ⟨oc51,od51,.func (yu "dropped" "dropped" (Zm Vs) (Zl Vs) (Zd Vs) .none kV51 dc51 pm51 an51 cd51 ct51),sl51⟩) (c51:yx K cd51 "dropped" = true) (k51:yr K (.ref f51)=true)
  (a52:yo K yn "left_to_kind" = some (some (.ref f52))) (l52:K.lookup f52=some ⟨oc52,od52,.func (yu "left_to_kind" "left_to_kind" (Zm YI) (Zl YI) (Zd YI) .none kV52 dc52 pm52 an52 cd52 ct52),sl52⟩) (c52:yx K cd52 "left_to_kind" = true) (k52:yr K (.ref f52)=true)
  (a53:yo K yn "filled" = some (some (.ref f53))) (l53:K.lookup f53=some ⟨oc53,od53,.func (yu "filled" "filled" (Zm UO) (Zl UO) (Zd UO) .none kV53 dc53 pm53 an53 cd53 ct53),sl53⟩) (c53:yx K cd53 "filled" = true) (k53:yr K (.ref f53)=true)
  (a54:yo K yn "_law_cell_at" = some (some (.ref f54))) (l54:K.lookup f54=some ⟨oc54,od54,.func (yu "_law_cell_at" "_law_cell_at" (Zm Y3) (Zl Y3) (Zd Y3) .none kV54 dc54 pm54 an54 cd54 ct54),sl54⟩) (c54:yx K cd54 "_law_cell_at" = true) (k54:yr K (.ref f54)=true)
  (a55:yo K yn "_law_number" = some (some (.ref f55))) (l55:K.lookup f55=some ⟨oc55,od55,.func (yu "_law_number" "_law_number" (Zm Xr) (Zl Xr) (Zd Xr) .none kV55 dc55 pm55 an55 cd55 ct55),sl55⟩) (c55:yx K cd55 "_law_number" = true) (k55:yr K (.ref f55)=true)
  (a56:yo K yn "_law_desk" = some (some (.ref f56))) (l56:K.lookup f56=some ⟨oc56,od56,.func (yu "_law_desk" "_law_desk" (Zm WF) (Zl WF) (Zd WF) .none kV56 dc56 pm56 an56 cd56 ct56),sl56⟩) (c56:yx K cd56 "_law_desk" = true) (k56:yr K (.ref f56)=true)
  (a57:yo K yn "_law_copied" = some (some (.ref f57))) (l57:K.lookup f57=some ⟨oc57,od57,.func (yu "_law_copied" "_law_copied" (Zm Xt) (Zl Xt) (Zd Xt) .none kV57 dc57 pm57 an57 cd57 ct57),sl57⟩) (c57:yx K cd57 "_law_copied" = true) (k57:yr K (.ref f57)=true)
  (a58:yo K yn "_law_divisor" = some (some (.ref f58))) (l58:K.lookup f58=some ⟨oc58,od58,.func (yu "_law_divisor" "_law_divisor" (Zm Y2) (Zl Y2) (Zd Y2) .none kV58 dc58 pm58 an58 cd58 ct58),sl58⟩) (c58:yx K cd58 "_law_divisor" = true) (k58:yr K (.ref f58)=true)
  (a59:yo K yn "_law_frac" = some (some (.ref f59))) (l59:K.lookup f59=some ⟨oc59,od59,.func (yu "_law_frac" "_law_frac" (Zm WE) (Zl WE) (Zd WE) .none kV59 dc59 pm59 an59 cd59 ct59),sl59⟩) (c59:yx K cd59 "_law_frac" = true) (k59:yr K (.ref f59)=true)
  (a60:yo K yn "_law_point" = some (some (.ref f60))) (l60:K.lookup f60=some ⟨oc60,od60,.func (yu "_law_point" "_law_point" (Zm XX) (Zl XX) (Zd XX) .none kV60 dc60 pm60 an60 cd60 ct60),sl60⟩) (c60:yx K cd60 "_law_point" = true) (k60:yr K (.ref f60)=true)
  (a61:yo K yn "_law_whole" = some (some (.ref f61))) (l61:K.lookup f61=some ⟨oc61,od61,.func (yu "_law_whole" "_law_whole" (Zm XV) (Zl XV) (Zd XV) .none kV61 dc61 pm61 an61 cd61 ct61),sl61⟩) (c61:yx K cd61 "_law_whole" = true) (k61:yr K (.ref f61)=true)
  (a62:yo K yn "_law_is_fraction" = some (some (.ref f62))) (l62:K.lookup f62=some ⟨oc62,od62,.func (yu "_law_is_fraction" "_law_is_fraction" (Zm Yd) (Zl Yd) (Zd Yd) .none kV62 dc62 pm62 an62 cd62 ct62),sl62⟩) (c62:yx K cd62 "_law_is_fraction" = true) (k62:yr K (.ref f62)=true)
  (a63:yo K yn "_law_is_point" = some (some (.ref f63))) (l63:K.lookup f63=some ⟨oc63,od63,.func (yu "_law_is_point" "_law_is_point" (Zm YK) (Zl YK) (Zd YK) .none kV63 dc63 pm63 an63 cd63 ct63),sl63⟩) (c63:yx K cd63 "_law_is_point" = true) (k63:yr K (.ref f63)=true)
  (a64:yo K yn "_law_add" = some (some (.ref f64))) (l64:K.lookup f64=some ⟨oc64,od64,.func (yu "_law_add" "_law_add" (Zm Vr) (Zl Vr) (Zd Vr) .none kV64 dc64 pm64 an64 cd64 ct64),sl64⟩) (c64:yx K cd64 "_law_add" = true) (k64:yr K (.ref f64)=true)
  (a65:yo K yn "_law_weigh" = some (some (.ref f65))) (l65:K.lookup f65=some ⟨oc65,od65,.func (yu "_law_weigh" "_law_weigh" (Zm XW) (Zl XW) (Zd XW) .none kV65 dc65 pm65 an65 cd65 ct65),sl65⟩) (c65:yx K cd65 "_law_weigh" = true) (k65:yr K (.ref f65)=true)
  (a66:yo K yn "_law_below" = some (some (.ref f66))) (l66:K.lookup f66=some ⟨oc66,od66,.func (yu "_law_below" "_law_below" (Zm XZ) (Zl XZ) (Zd XZ) .none kV66 dc66 pm66 an66 cd66 ct66),sl66⟩) (c66:yx K cd66 "_law_below" = true) (k66:yr K (.ref f66)=true)
  (a67:yo K yn "_law_keeps" = some (some (.ref f67))) (l67:K.lookup f67=some ⟨oc67,od67,.func (yu "_law_keeps" "_law_keeps" (Zm XY) (Zl XY) (Zd XY) .none kV67 dc67 pm67 an67 cd67 ct67),sl67⟩) (c67:yx K cd67 "_law_keeps" = true) (k67:yr K (.ref f67)=true)
  (a68:yo K yn "_law_is_desk" = some (some (.ref f68))) (l68:K.lookup f68=some ⟨oc68,od68,.func (yu "_law_is_desk" "_law_is_desk" (Zm Y1) (Zl Y1) (Zd Y1) .none kV68 dc68 pm68 an68 cd68 ct68),sl68⟩) (c68:yx K cd68 "_law_is_desk" = true) (k68:yr K (.ref f68)=true)
  (a69:yo K yn "_law_over" = some (some (.ref f69))) (l69:K.lookup f69=some ⟨oc69,od69,.func (yu "_law_over" "_law_over" (Zm WD) (Zl WD) (Zd WD) .none kV69 dc69 pm69 an69 cd69 ct69),sl69⟩) (c69:yx K cd69 "_law_over" = true) (k69:yr K (.ref f69)=true)
  (a70:yo K yn "_law_exists" = some (some (.ref f70))) (l70:K.lookup f70=some ⟨oc70,od70,.func (yu "_law_exists" "_law_exists" (Zm Xs) (Zl Xs) (Zd Xs) .none kV70 dc70 pm70 an70 cd70 ct70),sl70⟩) (c70:yx K cd70 "_law_exists" = true) (k70:yr K (.ref f70)=true)
  (a71:yo K yn "law" = some (some (.ref f71))) (l71:K.lookup f71=some ⟨oc71,od71,.func (yu "law" "law" (Zm zc8) (Zl zc8) (Zd zc8) .none kV71 dc71 pm71 an71 cd71 ct71),sl71⟩) (c71:yx K cd71 "law" = true) (k71:yr K (.ref f71)=true)
  (z_isinstance:yo K yn "isinstance" = some none)
  (z_int:yo K yn "int" = some none)
  (z_bool:yo K yn "bool" = some none)
  (z_abs:yo K yn "abs" = some none)
  (z_tuple:yo K yn "tuple" = some none)
  (z_len:yo K yn "len" = some none)
  (z_list:yo K yn "list" = some none)
  (z_all:yo K yn "all" = some none)
  (z_zip:yo K yn "zip" = some none)
  (z_range:yo K yn "range" = some none)
  (z_min:yo K yn "min" = some none)
  (z_max:yo K yn "max" = some none)
  (g_GREATEST_NUMBER:yo K yn "GREATEST_NUMBER" = some (some (.int 999999999999 tg_GREATEST_NUMBER)))
  (g_MOST_KINDS:yo K yn "MOST_KINDS" = some (some (.int 4 tg_MOST_KINDS)))
  (g_MOST_LIMITS:yo K yn "MOST_LIMITS" = some (some (.int 10 tg_MOST_LIMITS)))
  (aC_Board:yo K yn "Board" = some (some (.ref C_Board))) (iI_Board:jB K (.ref C_Board) "__init__" = some (some (.ref fI_Board))) (jI_Board:PySem.W.isFn K (.ref fI_Board)=true) (lI_Board:K.lookup fI_Board=some ⟨ocI_Board,odI_Board,.func (yu "__init__" "Board.__init__" (Zm Xx) (Zl Xx) (Zd Xx) .none kVI_Board dcI_Board pmI_Board anI_Board cdI_Board ctI_Board),slI_Board⟩) (cI_Board:yx K cdI_Board "Board.__init__" = true) (kI_Board:yr K (.ref fI_Board)=true)
  (pg_Board:ya3 K C_Board Str.empty=true) (hd_Board:ya0 K C_Board=true) (po_Board:yby K C_Board=true) (sa_Board:jB K (.ref C_Board) "__setattr__" = some (some (.builtin "object.__setattr__"))) (mk_Board:yb7 K C_Board=true) (kc_Board:yr K (.ref C_Board)=true)
  (nA0_Board:jB K (.ref C_Board) "heads" = some none)
  (nA1_Board:jB K (.ref C_Board) "divisor" = some none)
  (nA2_Board:jB K (.ref C_Board) "rows" = some none)
  (lc_raising_column:K.lookup cL_raising_column=some ⟨occ_raising_column,odc_raising_column,.fields vsc_raising_column,slc_raising_column⟩) (v11_raising_column:vsc_raising_column[11]? = some (.ref TL_raising_column)) (hno:yaj K=true) :
  ∃(fd:yQ) (c T:yc),j3 K "raising_column" = some (c,T)/\yaj K=true/\(∀(s:ye) (v:yb),BindsTo s fd ⟨[v],[]⟩ [("_law_script",v)])/\∀base:yd,K.In base->base.Ns yn mg->zdY mg base->jR base c T->FnOk l.prog w K mg base CX0 11 fa fd ["_law_script"] (Fx.spF K none 1 zhI):=by
 have e:=hfa.symm.trans (yw X G a71);cases e;have F0:=Zs (st:=WG) l0 c0 k0;have b0:=F0.binds (ps:=["value"]) λ_ _ _ _ _ _ us hl=>match us,hl with | [_],_=>rfl
 have F1:=Zs (st:=Yi) l1 c1 k1;have b1:=F1.binds (ps:=["a","b"]) λ_ _ _ _ _ _ us hl=>match us,hl with | [_,_],_=>rfl
 have F2:=Zs (st:=Y4) l2 c2 k2;have b2:=F2.binds (ps:=["value"]) λ_ _ _ _ _ _ us hl=>match us,hl with | [_],_=>rfl
 have F3:=Zs (st:=zch) l3 c3 k3;have b3:=F3.binds (ps:=["upper","lower"]) λ_ _ _ _ _ _ us hl=>match us,hl with | [_,_],_=>rfl
 have F4:=Zs (st:=zcd) l4 c4 k4;have b4:=F4.binds (ps:=["a","b"]) λ_ _ _ _ _ _ us hl=>match us,hl with | [_,_],_=>rfl
 have F5:=Zs (st:=zcf) l5 c5 k5;have b5:=F5.binds (ps:=["a","b"]) λ_ _ _ _ _ _ us hl=>match us,hl with | [_,_],_=>rfl
 have F6:=Zs (st:=Jk) l6 c6 k6;have b6:=F6.binds (ps:=["a","b"]) λ_ _ _ _ _ _ us hl=>match us,hl with | [_,_],_=>rfl
 have F7:=Zs (st:=zce) l7 c7 k7;have b7:=F7.binds (ps:=["a","b"]) λ_ _ _ _ _ _ us hl=>match us,hl with | [_,_],_=>rfl
 have F8:=Zs (st:=Jp) l8 c8 k8;have b8:=F8.binds (ps:=["a","b"]) λ_ _ _ _ _ _ us hl=>match us,hl with | [_,_],_=>rfl
 have F9:=Zs (st:=X0) l9 c9 k9;have b9:=F9.binds (ps:=["value"]) λ_ _ _ _ _ _ us hl=>match us,hl with | [_],_=>rfl
 have F10:=Zs (st:=WC) l10 c10 k10;have b10:=F10.binds (ps:=["kinds","limit"]) λ_ _ _ _ _ _ us hl=>match us,hl with | [_,_],_=>rfl
 have F11:=Zs (st:=Vt) l11 c11 k11;have b11:=F11.binds (ps:=["kinds","limits"]) λ_ _ _ _ _ _ us hl=>match us,hl with | [_,_],_=>rfl
 have F12:=Zs (st:=Y6) l12 c12 k12;have b12:=F12.binds (ps:=["kinds","point"]) λ_ _ _ _ _ _ us hl=>match us,hl with | [_,_],_=>rfl
 have F13:=Zs (st:=Y7) l13 c13 k13;have b13:=F13.binds (ps:=["count","place"]) λ_ _ _ _ _ _ us hl=>match us,hl with | [_,_],_=>rfl
 have F14:=Zs (st:=UI) l14 c14 k14;have b14:=F14.binds (ps:=["weights","point"]) λ_ _ _ _ _ _ us hl=>match us,hl with | [_,_],_=>rfl
 have F15:=Zs (st:=zcc) l15 c15 k15;have b15:=F15.binds (ps:=["length","place"]) λ_ _ _ _ _ _ us hl=>match us,hl with | [_,_],_=>rfl
 have F16:=Zs (st:=Wz) l16 c16 k16;have b16:=F16.binds (ps:=["limit"]) λ_ _ _ _ _ _ us hl=>match us,hl with | [_],_=>rfl
 have F17:=Zs (st:=Y5) l17 c17 k17;have b17:=F17.binds (ps:=["desk","goal"]) λ_ _ _ _ _ _ us hl=>match us,hl with | [_,_],_=>rfl
 have F18:=Zs (st:=Wx) l18 c18 k18;have b18:=F18.binds (ps:=["board"]) λ_ _ _ _ _ _ us hl=>match us,hl with | [_],_=>rfl
 have F19:=Zs (st:=Ww) l19 c19 k19;have b19:=F19.binds (ps:=["board"]) λ_ _ _ _ _ _ us hl=>match us,hl with | [_],_=>rfl
 have F20:=Zs (st:=YZ) l20 c20 k20;have b20:=F20.binds (ps:=["row","line","column","divisor"]) λ_ _ _ _ _ _ us hl=>match us,hl with | [_,_,_,_],_=>rfl
 have F21:=Zs (st:=Vp) l21 c21 k21;have b21:=F21.binds (ps:=["board","thing","column"]) λ_ _ _ _ _ _ us hl=>match us,hl with | [_,_,_],_=>rfl
 have F22:=Zs (st:=Yu) l22 c22 k22;have b22:=F22.binds (ps:=["board","column"]) λ_ _ _ _ _ _ us hl=>match us,hl with | [_,_],_=>rfl
 have F23:=Zs (st:=Jn) l23 c23 k23;have b23:=F23.binds (ps:=["board"]) λ_ _ _ _ _ _ us hl=>match us,hl with | [_],_=>rfl
 have F24:=Zs (st:=Jm) l24 c24 k24;have b24:=F24.binds (ps:=["board","column","number"]) λ_ _ _ _ _ _ us hl=>match us,hl with | [_,_,_],_=>rfl
 have F25:=Zs (st:=Yh) l25 c25 k25;have b25:=F25.binds (ps:=["board","thing"]) λ_ _ _ _ _ _ us hl=>match us,hl with | [_,_],_=>rfl
 have F26:=Zs (st:=Xq) l26 c26 k26;have b26:=F26.binds (ps:=["board"]) λ_ _ _ _ _ _ us hl=>match us,hl with | [_],_=>rfl
 have F27:=Zs (st:=Vq) l27 c27 k27;have b27:=F27.binds (ps:=["desk","goal"]) λ_ _ _ _ _ _ us hl=>match us,hl with | [_,_],_=>rfl
 have F28:=Zs (st:=WA) l28 c28 k28;have b28:=F28.binds (ps:=["board"]) λ_ _ _ _ _ _ us hl=>match us,hl with | [_],_=>rfl
 have F29:=Zs (st:=XU) l29 c29 k29;have b29:=F29.binds (ps:=["board","thing"]) λ_ _ _ _ _ _ us hl=>match us,hl with | [_,_],_=>rfl
 have F30:=Zs (st:=WH) l30 c30 k30;have b30:=F30.binds (ps:=["board","thing"]) λ_ _ _ _ _ _ us hl=>match us,hl with | [_,_],_=>rfl
 have F31:=Zs (st:=UM) l31 c31 k31;have b31:=F31.binds (ps:=["desk"]) λ_ _ _ _ _ _ us hl=>match us,hl with | [_],_=>rfl
 have F32:=Zs (st:=Xw) l32 c32 k32;have b32:=F32.binds (ps:=["kinds","goal"]) λ_ _ _ _ _ _ us hl=>match us,hl with | [_,_],_=>rfl
 have F33:=Zs (st:=UK) l33 c33 k33;have b33:=F33.binds (ps:=["row","other","column"]) λ_ _ _ _ _ _ us hl=>match us,hl with | [_,_,_],_=>rfl
 have F34:=Zs (st:=Xu) l34 c34 k34;have b34:=F34.binds (ps:=["board","column"]) λ_ _ _ _ _ _ us hl=>match us,hl with | [_,_],_=>rfl
 have F35:=Zs (st:=UJ) l35 c35 k35;have b35:=F35.binds (ps:=["board","column"]) λ_ _ _ _ _ _ us hl=>match us,hl with | [_,_],_=>rfl
 have F36:=Zs (st:=Vu) l36 c36 k36;have b36:=F36.binds (ps:=["board"]) λ_ _ _ _ _ _ us hl=>match us,hl with | [_],_=>rfl
 have F37:=Zs (st:=zci) l37 c37 k37;have b37:=F37.binds (ps:=["desk","goal"]) λ_ _ _ _ _ _ us hl=>match us,hl with | [_,_],_=>rfl
 have F38:=Zs (st:=Vo) l38 c38 k38;have b38:=F38.binds (ps:=["desk","place"]) λ_ _ _ _ _ _ us hl=>match us,hl with | [_,_],_=>rfl
 have F39:=Zs (st:=YX) l39 c39 k39;have b39:=F39.binds (ps:=["shares","place"]) λ_ _ _ _ _ _ us hl=>match us,hl with | [_,_],_=>rfl
 have F40:=Zs (st:=Jl) l40 c40 k40;have b40:=F40.binds (ps:=["point","way","often"]) λ_ _ _ _ _ _ us hl=>match us,hl with | [_,_,_],_=>rfl
 have F41:=Zs (st:=YH) l41 c41 k41;have b41:=F41.binds (ps:=["limit","point","way"]) λ_ _ _ _ _ _ us hl=>match us,hl with | [_,_,_],_=>rfl
 have F42:=Zs (st:=Jo) l42 c42 k42;have b42:=F42.binds (ps:=["desk","place"]) λ_ _ _ _ _ _ us hl=>match us,hl with | [_,_],_=>rfl
 have F43:=Zs (st:=WB) l43 c43 k43;have b43:=F43.binds (ps:=["desk","place"]) λ_ _ _ _ _ _ us hl=>match us,hl with | [_,_],_=>rfl
 have F44:=Zs (st:=zcg) l44 c44 k44;have b44:=F44.binds (ps:=["desk"]) λ_ _ _ _ _ _ us hl=>match us,hl with | [_],_=>rfl
 have F45:=Zs (st:=UL) l45 c45 k45;have b45:=F45.binds (ps:=["weights","kind"]) λ_ _ _ _ _ _ us hl=>match us,hl with | [_,_],_=>rfl
 have F46:=Zs (st:=UN) l46 c46 k46;have b46:=F46.binds (ps:=["upper","lower","kind"]) λ_ _ _ _ _ _ us hl=>match us,hl with | [_,_,_],_=>rfl
 have F47:=Zs (st:=Y0) l47 c47 k47;have b47:=F47.binds (ps:=["limits","kind"]) λ_ _ _ _ _ _ us hl=>match us,hl with | [_,_],_=>rfl
 have F48:=Zs (st:=Xv) l48 c48 k48;have b48:=F48.binds (ps:=["weights"]) λ_ _ _ _ _ _ us hl=>match us,hl with | [_],_=>rfl
 have F49:=Zs (st:=YJ) l49 c49 k49;have b49:=F49.binds (ps:=["limits"]) λ_ _ _ _ _ _ us hl=>match us,hl with | [_],_=>rfl
 have F50:=Zs (st:=YY) l50 c50 k50;have b50:=F50.binds (ps:=["weights","bound"]) λ_ _ _ _ _ _ us hl=>match us,hl with | [_,_],_=>rfl
 have F51:=Zs (st:=Vs) l51 c51 k51;have b51:=F51.binds (ps:=["desk","kind"]) λ_ _ _ _ _ _ us hl=>match us,hl with | [_,_],_=>rfl
 have F52:=Zs (st:=YI) l52 c52 k52;have b52:=F52.binds (ps:=["limit","kind","point"]) λ_ _ _ _ _ _ us hl=>match us,hl with | [_,_,_],_=>rfl
 have F53:=Zs (st:=UO) l53 c53 k53;have b53:=F53.binds (ps:=["desk","kind","point"]) λ_ _ _ _ _ _ us hl=>match us,hl with | [_,_,_],_=>rfl
 have F54:=Zs (st:=Y3) l54 c54 k54;have b54:=F54.binds (ps:=["_law_script","_law_k"]) λ_ _ _ _ _ _ us hl=>match us,hl with | [_,_],_=>rfl
 have F55:=Zs (st:=Xr) l55 c55 k55;have b55:=F55.binds (ps:=["_law_cell","_law_wide"]) λ_ _ _ _ _ _ us hl=>match us,hl with | [_,_],_=>rfl
 have F56:=Zs (st:=WF) l56 c56 k56;have b56:=F56.binds (ps:=["_law_script"]) λ_ _ _ _ _ _ us hl=>match us,hl with | [_],_=>rfl
 have F57:=Zs (st:=Xt) l57 c57 k57;have b57:=F57.binds (ps:=["_law_limits"]) λ_ _ _ _ _ _ us hl=>match us,hl with | [_],_=>rfl
 have F58:=Zs (st:=Y2) l58 c58 k58;have b58:=F58.binds (ps:=["_law_a","_law_b"]) λ_ _ _ _ _ _ us hl=>match us,hl with | [_,_],_=>rfl
 have F59:=Zs (st:=WE) l59 c59 k59;have b59:=F59.binds (ps:=["_law_upper","_law_lower"]) λ_ _ _ _ _ _ us hl=>match us,hl with | [_,_],_=>rfl
 have F60:=Zs (st:=XX) l60 c60 k60;have b60:=F60.binds (ps:=["_law_script","_law_kinds"]) λ_ _ _ _ _ _ us hl=>match us,hl with | [_,_],_=>rfl
 have F61:=Zs (st:=XV) l61 c61 k61;have b61:=F61.binds (ps:=["_law_found"]) λ_ _ _ _ _ _ us hl=>match us,hl with | [_],_=>rfl
 have F62:=Zs (st:=Yd) l62 c62 k62;have b62:=F62.binds (ps:=["_law_found"]) λ_ _ _ _ _ _ us hl=>match us,hl with | [_],_=>rfl
 have F63:=Zs (st:=YK) l63 c63 k63;have b63:=F63.binds (ps:=["_law_found","_law_kinds"]) λ_ _ _ _ _ _ us hl=>match us,hl with | [_,_],_=>rfl
 have F64:=Zs (st:=Vr) l64 c64 k64;have b64:=F64.binds (ps:=["_law_a","_law_b","_law_many"]) λ_ _ _ _ _ _ us hl=>match us,hl with | [_,_,_],_=>rfl
 have F65:=Zs (st:=XW) l65 c65 k65;have b65:=F65.binds (ps:=["_law_weights","_law_point_here"]) λ_ _ _ _ _ _ us hl=>match us,hl with | [_,_],_=>rfl
 have F66:=Zs (st:=XZ) l66 c66 k66;have b66:=F66.binds (ps:=["_law_a","_law_b"]) λ_ _ _ _ _ _ us hl=>match us,hl with | [_,_],_=>rfl
 have F67:=Zs (st:=XY) l67 c67 k67;have b67:=F67.binds (ps:=["_law_limits","_law_point_here"]) λ_ _ _ _ _ _ us hl=>match us,hl with | [_,_],_=>rfl
 have F68:=Zs (st:=Y1) l68 c68 k68;have b68:=F68.binds (ps:=["_law_found","_law_kinds"]) λ_ _ _ _ _ _ us hl=>match us,hl with | [_,_],_=>rfl
 have F69:=Zs (st:=WD) l69 c69 k69;have b69:=F69.binds (ps:=["_law_a","_law_many"]) λ_ _ _ _ _ _ us hl=>match us,hl with | [_,_],_=>rfl
 have F70:=Zs (st:=Xs) l70 c70 k70;have b70:=F70.binds (ps:=["_law_limits","_law_kind","_law_point_here"]) λ_ _ _ _ _ _ us hl=>match us,hl with | [_,_,_],_=>rfl
 have F71:=Zs (st:=zc8) l71 c71 k71;have b71:=F71.binds (ps:=["_law_script"]) λ_ _ _ _ _ _ us hl=>match us,hl with | [_],_=>rfl
 have FI_Board:=Zs (st:=Xx) lI_Board cI_Board kI_Board;have bI_Board:=FI_Board.binds (ps:=["self","heads","divisor","rows"]) λ_ _ _ _ _ _ us hl=>match us,hl with | [_,_,_,_],_=>rfl
 have tL_raising_column:j3 K "raising_column" = some (cL_raising_column,TL_raising_column):=Fx.tab_mk a25 l25 rfl lc_raising_column v11_raising_column;have m_isinstance:=j8 X G z_isinstance;have m_int:=j8 X G z_int;have m_bool:=j8 X G z_bool;have m_abs:=j8 X G z_abs;have m_tuple:=j8 X G z_tuple;have m_len:=j8 X G z_len;have m_list:=j8 X G z_list;have m_all:=j8 X G z_all;have m_zip:=j8 X G z_zip;have m_range:=j8 X G z_range;have m_min:=j8 X G z_min;have m_max:=j8 X G z_max;have n_GREATEST_NUMBER:=yw X G g_GREATEST_NUMBER;have n_MOST_KINDS:=yw X G g_MOST_KINDS;have n_MOST_LIMITS:=yw X G g_MOST_LIMITS;refine⟨yu "law" "law" (Zm zc8) (Zl zc8) (Zd zc8) .none kV71 dc71 pm71 an71 cd71 ct71,cL_raising_column,TL_raising_column,tL_raising_column,hno,λs v=>.of_eq rfl,λbase hKb _ hB hC=>?_⟩
 have L_raising_column:Fx.LamHyp K mg base "raising_column" cL_raising_column TL_raising_column:=⟨tL_raising_column,zcP tL_raising_column hKb hC,hB⟩;have hcode_raising_column:=PySem.W.law_code X G tL_raising_column (yw X G a25) (X _ _ l25) rfl;have M_Board:Fx.Mko l.prog w K mg base 1 "Board" ["heads","divisor","rows"]:=⟨C_Board,fI_Board,_,_,⟨mk_Board,iI_Board,jI_Board,kc_Board⟩,zdo FI_Board ⟨pg_Board,hd_Board,po_Board,sa_Board⟩ nA0_Board nA1_Board nA2_Board,yw X G aC_Board,bI_Board,⟨pg_Board,hd_Board,po_Board,sa_Board⟩,λn hn=>by
  rcases yI.mp hn with rfl | hn
  ·exact nA0_Board
  ·rcases yI.mp hn with rfl | hn
   ·exact nA1_Board
   ·rw[qd.mp hn];exact nA2_Board⟩
 have R_is_whole:=zfA (P:=l.prog) (w:=w) (base:=base) (k:=0) F0 (yw X G a0) b0 m_isinstance m_int m_bool;have R_common_divisor:=Jt (P:=l.prog) (w:=w) (base:=base) (k:=0) F1 (yw X G a1) b1 m_abs;have R_is_fraction:=zbY (P:=l.prog) (w:=w) (base:=base) (k:=1) F2 (yw X G a2) b2 m_isinstance m_tuple m_len (R_is_whole.mono (by decide)) (R_common_divisor.mono (by decide))
 have R_frac:=ok_frac (P:=l.prog) (w:=w) (base:=base) (k:=1) F3 (yw X G a3) b3 (R_common_divisor.mono (by decide))
 have R_plus:=ok_plus (P:=l.prog) (w:=w) (base:=base) (k:=2) F4 (yw X G a4) b4 (R_frac.mono (by decide))
 have R_less:=ok_less (P:=l.prog) (w:=w) (base:=base) (k:=2) F5 (yw X G a5) b5 (R_frac.mono (by decide))
 have R_times:=ok_times (P:=l.prog) (w:=w) (base:=base) (k:=2) F6 (yw X G a6) b6 (R_frac.mono (by decide))
 have R_over:=ok_over (P:=l.prog) (w:=w) (base:=base) (k:=2) F7 (yw X G a7) b7 (R_frac.mono (by decide))
 have R_below:=ok_below (P:=l.prog) (w:=w) (base:=base) (k:=0) F8 (yw X G a8) b8 ;have R_is_number:=zeu (P:=l.prog) (w:=w) (base:=base) (k:=1) F9 (yw X G a9) b9 m_abs ⟨_,n_GREATEST_NUMBER⟩ (R_is_whole.mono (by decide))
 have R_limit_of:=zfw (P:=l.prog) (w:=w) (base:=base) (k:=2) F10 (yw X G a10) b10 m_isinstance m_tuple m_len m_list m_all (R_is_number.mono (by decide))
 have R_desk_of:=zhs (P:=l.prog) (w:=w) (base:=base) (k:=3) F11 (yw X G a11) b11 m_isinstance m_list m_len m_tuple ⟨_,n_MOST_KINDS⟩ ⟨_,n_MOST_LIMITS⟩ (R_is_whole.mono (by decide)) (R_limit_of.mono (by decide))
 have R_check_point:=zb0 (P:=l.prog) (w:=w) (base:=base) (k:=2) F12 (yw X G a12) b12 m_isinstance m_list m_len m_all (R_is_fraction.mono (by decide))
 have R_check_place:=zb1 (P:=l.prog) (w:=w) (base:=base) (k:=1) F13 (yw X G a13) b13 (R_is_whole.mono (by decide))
 have R_weight:=zi0 (P:=l.prog) (w:=w) (base:=base) (k:=3) F14 (yw X G a14) b14 m_zip (R_frac.mono (by decide)) (R_plus.mono (by decide))
 have R_unit:=ok_unit (P:=l.prog) (w:=w) (base:=base) (k:=0) F15 (yw X G a15) b15 ;have R_room_row:=zft (P:=l.prog) (w:=w) (base:=base) (k:=0) F16 (yw X G a16) b16 ;have R_first_board:=zbZ (P:=l.prog) (w:=w) (base:=base) (k:=0) F17 (yw X G a17) b17 m_range m_list (R_unit.mono (by decide)) (R_room_row.mono (by decide)) (M_Board.mono (by decide))
 have R_rooms_of:=zfs (P:=l.prog) (w:=w) (base:=base) (k:=0) F18 (yw X G a18) b18 m_list m_range m_len;have R_worth_of:=zfr (P:=l.prog) (w:=w) (base:=base) (k:=0) F19 (yw X G a19) b19 m_len;have R_swapped_row:=zbT (P:=l.prog) (w:=w) (base:=base) (k:=0) F20 (yw X G a20) b20 m_abs m_zip;have R_swapped:=zho (P:=l.prog) (w:=w) (base:=base) (k:=0) F21 (yw X G a21) b21 m_list m_abs (R_swapped_row.mono (by decide)) (M_Board.mono (by decide))
 have R_first_room_on:=zaj (P:=l.prog) (w:=w) (base:=base) (k:=1) F22 (yw X G a22) b22 (R_rooms_of.mono (by decide))
 have R_freed:=ok_freed (P:=l.prog) (w:=w) (base:=base) (k:=3) F23 (yw X G a23) b23 m_range m_len (R_first_room_on.mono (by decide)) (R_swapped.mono (by decide))
 have R_helps:=ok_helps (P:=l.prog) (w:=w) (base:=base) (k:=0) F24 (yw X G a24) b24 m_len;have R_raising_column:=Js (P:=l.prog) (w:=w) (base:=base) (k:=0) F25 (yw X G a25) b25 m_range m_len m_min (R_helps.mono (by decide)) L_raising_column hcode_raising_column
 have R_short_room:=zdh (P:=l.prog) (w:=w) (base:=base) (k:=1) F26 (yw X G a26) b26 (R_rooms_of.mono (by decide))
 have R_settled:=zhp (P:=l.prog) (w:=w) (base:=base) (k:=4) F27 (yw X G a27) b27 (R_first_board.mono (by decide)) (R_freed.mono (by decide)) (R_short_room.mono (by decide)) (R_raising_column.mono (by decide)) (R_swapped.mono (by decide))
 have R_point_of:=zfu (P:=l.prog) (w:=w) (base:=base) (k:=2) F28 (yw X G a28) b28 m_range m_len (R_frac.mono (by decide))
 have R_shares_of:=zeo (P:=l.prog) (w:=w) (base:=base) (k:=2) F29 (yw X G a29) b29 m_len m_zip (R_rooms_of.mono (by decide)) (R_frac.mono (by decide))
 have R_clash_of:=zfB (P:=l.prog) (w:=w) (base:=base) (k:=3) F30 (yw X G a30) b30 m_len (R_shares_of.mono (by decide))
 have R_judged:=zi4 (P:=l.prog) (w:=w) (base:=base) (k:=5) F31 (yw X G a31) b31 (R_settled.mono (by decide)) (R_point_of.mono (by decide)) (R_clash_of.mono (by decide))
 have R_check_goal:=zdn (P:=l.prog) (w:=w) (base:=base) (k:=1) F32 (yw X G a32) b32 m_isinstance m_list m_len m_all (R_is_whole.mono (by decide))
 have R_sooner:=zi2 (P:=l.prog) (w:=w) (base:=base) (k:=0) F33 (yw X G a33) b33 ;have R_first_stop:=zdl (P:=l.prog) (w:=w) (base:=base) (k:=1) F34 (yw X G a34) b34 (R_rooms_of.mono (by decide)) (R_sooner.mono (by decide))
 have R_way_of:=zi1 (P:=l.prog) (w:=w) (base:=base) (k:=2) F35 (yw X G a35) b35 m_range m_len (R_worth_of.mono (by decide)) (R_frac.mono (by decide))
 have R_climbed:=zht (P:=l.prog) (w:=w) (base:=base) (k:=3) F36 (yw X G a36) b36 (R_worth_of.mono (by decide)) (R_raising_column.mono (by decide)) (R_first_stop.mono (by decide)) (R_point_of.mono (by decide)) (R_way_of.mono (by decide)) (R_swapped.mono (by decide)) (R_shares_of.mono (by decide))
 have R_best:=ok_best (P:=l.prog) (w:=w) (base:=base) (k:=5) F37 (yw X G a37) b37 (R_check_goal.mono (by decide)) (R_settled.mono (by decide)) (R_clash_of.mono (by decide)) (R_climbed.mono (by decide))
 have R_without:=zhn (P:=l.prog) (w:=w) (base:=base) (k:=0) F38 (yw X G a38) b38 ;have R_with_nought:=zbR (P:=l.prog) (w:=w) (base:=base) (k:=0) F39 (yw X G a39) b39 ;have R_moved:=ok_moved (P:=l.prog) (w:=w) (base:=base) (k:=3) F40 (yw X G a40) b40 m_zip (R_times.mono (by decide)) (R_plus.mono (by decide))
 have R_point_beyond:=zaO (P:=l.prog) (w:=w) (base:=base) (k:=4) F41 (yw X G a41) b41 (R_weight.mono (by decide)) (R_less.mono (by decide)) (R_below.mono (by decide)) (R_over.mono (by decide)) (R_plus.mono (by decide)) (R_moved.mono (by decide))
 have R_cover:=ok_cover (P:=l.prog) (w:=w) (base:=base) (k:=6) F42 (yw X G a42) b42 m_len m_list (R_check_place.mono (by decide)) (R_without.mono (by decide)) (R_best.mono (by decide)) (R_with_nought.mono (by decide)) (R_point_beyond.mono (by decide)) (R_weight.mono (by decide)) (R_below.mono (by decide))
 have R_needless:=zfv (P:=l.prog) (w:=w) (base:=base) (k:=7) F43 (yw X G a43) b43 (R_cover.mono (by decide))
 have R_lean:=ok_lean (P:=l.prog) (w:=w) (base:=base) (k:=8) F44 (yw X G a44) b44 m_len (R_needless.mono (by decide)) (R_without.mono (by decide))
 have R_others:=zi3 (P:=l.prog) (w:=w) (base:=base) (k:=0) F45 (yw X G a45) b45 ;have R_joined:=zi5 (P:=l.prog) (w:=w) (base:=base) (k:=1) F46 (yw X G a46) b46 m_zip (R_others.mono (by decide))
 have R_limits_left:=zbU (P:=l.prog) (w:=w) (base:=base) (k:=2) F47 (yw X G a47) b47 (R_others.mono (by decide)) (R_joined.mono (by decide))
 have R_divisor_of:=zdm (P:=l.prog) (w:=w) (base:=base) (k:=1) F48 (yw X G a48) b48 m_max (R_common_divisor.mono (by decide))
 have R_least_bounds:=zaQ (P:=l.prog) (w:=w) (base:=base) (k:=2) F49 (yw X G a49) b49 m_tuple (R_divisor_of.mono (by decide)) (R_frac.mono (by decide)) (R_below.mono (by decide))
 have R_whole_limit:=zbS (P:=l.prog) (w:=w) (base:=base) (k:=0) F50 (yw X G a50) b50 m_tuple;have R_dropped:=zhr (P:=l.prog) (w:=w) (base:=base) (k:=9) F51 (yw X G a51) b51 m_tuple (R_check_place.mono (by decide)) (R_lean.mono (by decide)) (R_limits_left.mono (by decide)) (R_least_bounds.mono (by decide)) (R_whole_limit.mono (by decide))
 have R_left_to_kind:=zaP (P:=l.prog) (w:=w) (base:=base) (k:=4) F52 (yw X G a52) b52 (R_others.mono (by decide)) (R_weight.mono (by decide)) (R_less.mono (by decide))
 have R_filled:=zi6 (P:=l.prog) (w:=w) (base:=base) (k:=6) F53 (yw X G a53) b53 m_tuple (R_check_place.mono (by decide)) (R_check_point.mono (by decide)) (R_left_to_kind.mono (by decide)) (R_judged.mono (by decide))
 have R_law_cell_at:=zbX (P:=l.prog) (w:=w) (base:=base) (k:=0) F54 (yw X G a54) b54 m_len;have R_law_number:=zdi (P:=l.prog) (w:=w) (base:=base) (k:=0) F55 (yw X G a55) b55 ;have R_law_desk:=zfz (P:=l.prog) (w:=w) (base:=base) (k:=1) F56 (yw X G a56) b56 m_range m_abs (R_law_cell_at.mono (by decide)) (R_law_number.mono (by decide))
 have R_law_copied:=zdk (P:=l.prog) (w:=w) (base:=base) (k:=0) F57 (yw X G a57) b57 m_list;have R_law_divisor:=zbW (P:=l.prog) (w:=w) (base:=base) (k:=0) F58 (yw X G a58) b58 m_abs;have R_law_frac:=zfy (P:=l.prog) (w:=w) (base:=base) (k:=1) F59 (yw X G a59) b59 (R_law_divisor.mono (by decide))
 have R_law_point:=zer (P:=l.prog) (w:=w) (base:=base) (k:=2) F60 (yw X G a60) b60 m_range (R_law_cell_at.mono (by decide)) (R_law_number.mono (by decide)) (R_law_frac.mono (by decide))
 have R_law_whole:=zep (P:=l.prog) (w:=w) (base:=base) (k:=0) F61 (yw X G a61) b61 m_isinstance m_int m_bool;have R_law_is_fraction:=QN (P:=l.prog) (w:=w) (base:=base) (k:=1) F62 (yw X G a62) b62 m_isinstance m_tuple m_len (R_law_whole.mono (by decide)) (R_law_divisor.mono (by decide))
 have R_law_is_point:=zaR (P:=l.prog) (w:=w) (base:=base) (k:=2) F63 (yw X G a63) b63 m_isinstance m_list m_len (R_law_is_fraction.mono (by decide))
 have R_law_add:=zhq (P:=l.prog) (w:=w) (base:=base) (k:=2) F64 (yw X G a64) b64 (R_law_frac.mono (by decide))
 have R_law_weigh:=zeq (P:=l.prog) (w:=w) (base:=base) (k:=3) F65 (yw X G a65) b65 m_range m_len (R_law_add.mono (by decide))
 have R_law_below:=zet (P:=l.prog) (w:=w) (base:=base) (k:=0) F66 (yw X G a66) b66 ;have R_law_keeps:=zes (P:=l.prog) (w:=w) (base:=base) (k:=4) F67 (yw X G a67) b67 (R_law_weigh.mono (by decide)) (R_law_below.mono (by decide))
 have R_law_is_desk:=zbV (P:=l.prog) (w:=w) (base:=base) (k:=1) F68 (yw X G a68) b68 m_isinstance m_tuple m_len m_list (R_law_whole.mono (by decide))
 have R_law_over:=zfx (P:=l.prog) (w:=w) (base:=base) (k:=2) F69 (yw X G a69) b69 (R_law_frac.mono (by decide))
 have R_law_exists:=zdj (P:=l.prog) (w:=w) (base:=base) (k:=4) F70 (yw X G a70) b70 (R_law_weigh.mono (by decide)) (R_law_add.mono (by decide)) (R_law_over.mono (by decide)) (R_law_below.mono (by decide))
 exact law_fn F71 m_list (R_law_desk.mono (by decide)) (R_law_copied.mono (by decide)) (R_desk_of.mono (by decide)) (R_law_cell_at.mono (by decide)) (R_law_point.mono (by decide)) (R_law_exists.mono (by decide)) (R_filled.mono (by decide)) (R_law_is_point.mono (by decide)) (R_law_keeps.mono (by decide)) (R_dropped.mono (by decide)) (R_law_is_desk.mono (by decide))
end K11
namespace K11
open PySem PySem.Spec PyProof.Rows L2 Fx Lw Lq
theorem walk{l:yca}{q:y6}{loose:List Str}{XP:(Str->Option yb)->yd->Prop}{YP:y3->yd->Prop}{d:DefRec}{K:Params->yh}(hn:l.most=some 63)(hdf:d.params.defaults=[])
  (hrec:∃d0,(recsOf q).find? (λe=>e.name == ("raising_column" : Str))=some d0) (hY:∀(w:y3) (h:yd),YP w h->(K w.params).In h)
  (F:∀(w:y3) (mg:Str->Option yb) (fa:yc) (h:yd),(K w.params).In h->h.Ns yn mg->mg d.name=some (.ref fa) ->
   ∃(fd:yQ) (c T:yc),j3 (K w.params) "raising_column" = some (c,T)/\yaj (K w.params)=true/\(∀(s:ye) (u:yb),BindsTo s fd ⟨[u],[]⟩ [("_law_script",u)])/\∀base:yd,(K w.params).In base->base.Ns yn mg->zdY mg base->jR base c T->FnOk l.prog w (K w.params) mg base CX0 11 fa fd ["_law_script"] (Fx.spF (K w.params) none 1 zhI)) :
  PySem.W.WalkO q loose XP YP l.row.toRowW d [] (λf vs=>PySem.call f vs):=
 let⟨d0,h0⟩:=hrec
 Fx.walk_T (n:=63) (k:=11) (x:="_law_script") (x0:="raising_column") hn (by decide) hdf ⟨rfl,by decide,by decide⟩ (qd.mpr rfl) h0 hY F (λns hl=>law_ok ns hl)
end K11
open PySem PySem.W PyProof.Rows
namespace PySem.W.Fast
def tw13020172173847872595:=0
def tw9388390601458422613:=0
def tw13454144165077808721:=0
def tw11026991498906219448:=0
def tw13142106457251810602:=0
def tw7495930581812613982:=0
def tw6869581771534350350:=0
def tw3838721076967536128:=0
def tw15740846415389553099:=0
def tw419740913858492890:=0
def tw15195217749149051383:=0
def tw9680733535816628129:=0
def tw985331261684046114:=0
def tw5236899703641567352:=0
def tw432539421943026996:=0
def tw9813641272673837487:=0
def tw8133412869946171584:=0
def tw16311084830157498759:=0
def tw9833326839360786987:=0
def tw12583246452918166022:=0
def tw1471100916074872293:=0
def tw10247734017883628569:=0
def tw16886836552331723682:=0
def tw17909573094034599443:=0
def tw18142471210930301538:=0
def tw17193955363391783399:=0
def tw18381951447992695897:=0
def tw3058318718417027551:=0
def tw9694683703587449535:=0
def tw17916484681128782492:=0
def tw5557796107950325856:=0
def tw14021471893066885595:=0
def tw8543700269060400113:=0
def tw11121816409141529108:=0
def tw7711344300862738766:=0
def tw10341787043431773136:=0
def tw827148758507986624:=0
def tw6786780171295828994:=0
def tw16568688526034020100:=0
def tw8265462965322549671:=0
def tw73954695040598202:=0
def tw5565297810568331812:=0
def tw11486994047717453098:=0
def tw14497550029944052633:=0
def tw11559123929968864029:=0
def tw5921265369208487740:=0
def tw15314436337130986954:=0
def tw15973446533225534686:=0
def tw9225988542056664223:=0
def tw3555673673526256289:=0
def tw9020058656836350845:=0
def tw3279651592408026327:=0
def tw10380407080998057438:=0
def tw11291203262496914219:=0
def tw5232817274954948310:=0
def tw6663049971833352291:=0
def tw17694890817081694344:=0
def tw11499026131507853055:=0
def tw5753198011925071500:=0
def tw11150811509828794363:=0
def tw10923440394640608038:=0
def tw11332281744047205162:=0
def tw18334858840647739362:=0
def tw797748654654901256:=0
def tw13387276150692855408:=0
def tw848764310633916509:=0
def tw5887910395603640075:=0
def tw7480455043946308783:=0
def tw6635879878771239945:=0
def tw15190526864325951503:=0
def tw11874135611475831263:=0
def tw13740295568090718696:=0
def tw10932955601908643588:=0
def tw9549359647242762533:=0
def tw6548383436767369269:=0
def tw6837261132430923230:=0
def tw14616284006041360972:=0
def tw16086869871336765346:=0
def tw6889650112589181169:=0
def tw17078053189058198949:=0
def tw17408160601915107348:=0
def tw12660811755148978710:=0
def tw3461663919807303092:=0
def tw15821405941742054960:=0
def tw11603340228360988938:=0
def tw15756811858168568666:=0
def tw5341201466690134119:=0
def tw14054376662073557935:=0
def tw10096203653417426839:=0
def tw14702007500573411487:=0
def tw2503437298428838878:=0
def tw6681295497057808825:=0
def tw17582638180954946794:=0
def tw1572491667793558199:=0
def tw9470112414099961086:=0
def tw320336858556626004:=0
def tw9046592246848011182:=0
def tw5615213254164384995:=0
def tw14734813706171265806:=0
def tw16749295702276323805:=0
def tw14259524270654661596:=0
def tw3429031497811483118:=0
def tw7812957508242085497:=0
def tw7945154387836510365:=0
def tw14273242729089714766:=0
def tw7856245487740484190:=0
def tw2581817029473208218:=0
def tw15313417270038098899:=0
def tw8543967164672365262:=0
def tw10962110143207045226:=0
def tw14248145692202631425:=0
def tw282098004293311630:=0
def tw3868566113276085910:=0
def tw16661048513043478484:=0
def tw8282417179301605454:=0
def tw13911529371961673389:=0
def tw17531632463321091350:=0
def tw8223067722625120575:=0
def tw5856732380802782374:=0
def tw8200311739125043882:=0
def tw10614162254568185027:=0
def tw2843625855443303631:=0
def tw8013063619218292164:=0
def tw9727910959394967414:=0
def tw11233154554824410325:=0
def tw9862050737753184191:=0
def tw11622630079447783760:=0
def tw8467430409296249852:=0
def tw8088362717160690987:=0
def tw2429936898048334730:=0
def tw17358862164931490732:=0
def tw1056724098375856887:=0
def tw587538930756542655:=0
def tw16888601343720587534:=0
def tw11631313607608607240:=0
def tw18389748743450140902:=0
def tw4140874313895334863:=0
def tw11053311984252384703:=0
def tw12001811170686721686:=0
def tw5630790715144996222:=0
def tw13967291516240090604:=0
def tw12437177863918551064:=0
def tw12911494587377092404:=0
def tw17082774347819361892:=0
def tw12148850088908674087:=0
def tw7253117140500109767:=0
def tw687388744281490972:=0
def tw3939714947110639738:=0
def tw6131747274960003588:=0
def tw1222981814131504634:=0
def tw4669360886156010591:=0
def tw16416354957150369945:=0
def tw7338841811885484983:=0
def tw6319191051115647081:=0
def tw17155773647285022660:=0
def tw13326433509281107059:=0
def tw4487665288942895533:=0
def tw2047621055023488498:=0
def tw2725624213947300574:=0
def tw10294515457005616237:=0
def tw16538031227703463248:=0
def tw10024058858737295834:=0
def tw8316183013772044429:=0
def tw11642436314689441694:=0
def tw5415303264410393159:=0
def tw10856813872457263090:=0
def tw12450899091395655324:=0
def tw8932102199869391510:=0
def tw16362536949946715228:=0
def tw7901283647797967592:=0
def tw9849503339509765776:=0
def tw4371436434816588064:=0
def tw5593106062200304446:=0
def tw1537040608123902189:=0
def tw8975333909963583999:=0
def tw6944481025741326381:=0
def tw16347257812353204120:=0
def tw8533545502213917121:=0
def tw9324055468081853377:=0
def tw15901138605549133092:=0
def tw10631145717837751907:=0
def tw7694701139851271937:=0
def tw14368006724159361556:=0
def tw8308060651957918676:=0
def tw3239082494391648843:=0
def tw16324310322910002145:=0
def tw6238496936641107181:=0
def tw5258335203469257327:=0
def tw13645941120001235757:=0
def tw3479200969557664121:=0
def tw10651540566186779793:=0
def tw16080110715766288995:=0
def tw11257974462161959893:=0
def tw10314304513075221106:=0
def tw16892433482761008055:=0
def tw17066804048252686001:=0
def tw8604108735119821032:=0
def tw12718824854621257482:=0
def tw12595693383045408404:=0
def tw7781918910025960315:=0
def tw3824412095672557978:=0
def tw8287625592059413969:=0
def tw18171905026517056444:=0
def tw8048011303397552307:=0
def tw8445342482135965467:=0
def tw4147352863603953573:=0
def tw1319106226854340599:=0
def tw8597766096437226982:=0
def tw13423052648828162463:=0
def tw1122634062263660147:=0
def tw9299046706819847993:=0
def tw6617007090448629167:=0
def tw12195064987551749723:=0
def tw65935697132572842:=0
def tw14220766481076758225:=0
def tw15326742379275206727:=0
def tw16596950981115694285:=0
def tw2862331856076704435:=0
def tw18102806762685768777:=0
def tw10469955223549732531:=0
def tw18199391380135756548:=0
def tw13090239906872018613:=0
def tw1513083064570091296:=0
def tw2573042855839370089:=0
def tw8699935490295793273:=0
def tw11031963561922925387:=0
def tw14773461585437627882:=0
def tw13449547636162812826:=0
def tw8884715493101668663:=0
def tw13491267973506319880:=0
def tw1217437914082463390:=0
def tw11320720342073863239:=0
def tw17136944710720961167:=0
def tw2909165452161617979:=0
def tw8452818327694872432:=0
def tw7284099294786010708:=0
def tw18339811071647336130:=0
def tw3424701849734305741:=0
def tw2478510119847914220:=0
def tw7632319867622810084:=0
def tw17396791238959151242:=0
def tw6323140907634083540:=0
def tw10155883036202547015:=0
def tw16499710575743102776:=0
def tw11344570911005336716:=0
def tw10753430194800014112:=0
def tw12847032093272984437:=0
def tw3671451406311788046:=0
def tw2588632484775474999:=0
def tw7381733818701363597:=0
def tw4043012450664607861:=0
def tw15652123599501600717:=0
def tw2731707313681093322:=0
def tw2075451179454244498:=0
def tw2751231371094629348:=0
def tw15728561356806558439:=0
def tw5768241846846937334:=0
def tw5985853789974428154:=0
def tw2261335469893711671:=0
def tw8500526179588826476:=0
def tw3568650336245174220:=0
def tw8117153417902151191:=0
def tw5612151215875256870:=0
def tw16379059849337149146:=0
def tw9355825216497970597:=0
def tw10632268884456059634:=0
def tw9576782981400371901:=0
def tw1352668407310434297:=0
def tw13021432286351964466:=0
def tw16233561798344064442:=0
def tw564701909507100989:=0
def tw7220768383834355169:=0
def tw2666117310849911036:=0
def tw868665991006489163:=0
def tw1736846057185530646:=0
def tw1556736501889518858:=0
def tw17866810204473910201:=0
def tw14718571389581807192:=0
def tw5994480629723743384:=0
def tw4965531023600557037:=0
def tw2019321743406154962:=0
def tw863792290279872410:=0
def tw12796727487512959238:=0
def tw6096919959897032042:=0
def tw3943061139975486572:=0
def tw13904824034511157778:=0
def tw13069299549570343804:=0
def tw13024762169582382238:=0
def tw3268884161842729364:=0
def tw12417425002426799293:=0
def tw5260376815266487944:=0
def tw6997488802260318409:=0
def tw5207774692978485128:=0
def tw8059854788932574896:=0
def tw6317934228260770569:=0
def tw16435548419430503279:=0
def tw17725525914936131600:=0
def tw2341449441111544889:=0
def tw9338580098297644387:=0
def tw9126783976162451479:=0
def tw1029986225937537624:=0
def tw12495030037118381516:=0
def tw13737592338082101121:=0
def tw3246319773080903305:=0
def tw12147418493490020048:=0
def tw7717989634268684874:=0
def tw10117461385131405144:=0
def tw11093223319923705811:=0
def tw15604342926881880657:=0
def tw13437126928887081875:=0
def tw3705413597642853099:=0
def tw9251459576764606254:=0
def tw14371518606100879900:=0
def tw5003077225460810094:=0
def tw13743994262548092414:=0
def tw3514775534691253704:=0
def tw17596173335228339608:=0
def tw16065366381390322838:=0
def tw13068861870809333112:=0
def tw14787627556396789289:=0
def tw6299095185932709695:=0
def tw8135120924234372499:=0
def tw10022248737230203870:=0
def tw12347510162183547725:=0
def tw5902853104171400292:=0
def tw9575258181208186933:=0
def tw3803525369907527194:=0
def tw3009476548213863456:=0
def tw17846005766991298630:=0
def tw4001091882038585633:=0
def tw8850403666877872570:=0
def tw15542488534281866672:=0
def tw6049357470712184671:=0
def tw122866138305365786:=0
def tw8978239172859933887:=0
def tw5622926388612139903:=0
def tw12899928056881745834:=0
def tw1742718238782148073:=0
def tw3436793452131294480:=0
def tw11064193328642299579:=0
def tw2243009370942276464:=0
def tw6662464740187109246:=0
def tw12763642657962336137:=0
def tw11896002892529651703:=0
def tw6163404828283349238:=0
def tw13758179930440691461:=0
def tw12099457331617275623:=0
def tw10828381328682710158:=0
def tw1706084720450330852:=0
def tw5978806270666300590:=0
def tw6567551064509048492:=0
def tw6363951106710638865:=0
def tw3792918488216659142:=0
def tw8107975342045481895:=0
def tw4600356838737780759:=0
def tw6884510451077689258:=0
def tw8805704126485356885:=0
def tw2479659796303602177:=0
def tw204974720812305032:=0
def tw1649634282783236633:=0
def tw17690997846010741421:=0
def tw4718361901864695529:=0
def tw8987438609145936841:=0
def tw10974970572763529581:=0
def tw17043844768475301872:=0
def tw17633656730455629912:=0
def tw5875837338962677874:=0
def tw17145370725669085779:=0
def tw98209747500552850:=0
def tw16690972094119313194:=0
def tw3699000454265958833:=0
def tw1444255254858462006:=0
def tw4499465915173855244:=0
def tw16720089352465392518:=0
def tw8472105161885051796:=0
def tw1803781064737342344:=0
def tw1503524893070003948:=0
def tw12794689867462954141:=0
def tw13216408851388853768:=0
def tw8538581313307773278:=0
def tw13698361271094525711:=0
def tw4918722453848957319:=0
def tw13058876239711428153:=0
def tw10044522422639611795:=0
def tw7340685752497030232:=0
def tw8570361332141467399:=0
def tw7494527088652548254:=0
def tw9723188394944781878:=0
def tw18201966536865010589:=0
def tw3165536250965260839:=0
def tw17033241100116276524:=0
def tw8171052794853015442:=0
def tw17497146954777661195:=0
def tw8753148688905728484:=0
def tw175374685652928249:=0
def tw7304156238443770943:=0
def tw11884395254733367109:=0
def tw13660885585389039901:=0
def tw5487828904445504383:=0
def tw5258034870774437595:=0
def tw6286129348119240038:=0
def tw2446490232295376543:=0
def tw7112753420360557828:=0
def tw7214915399259766348:=0
def tw11642855876044323790:=0
def tw4883959718963552180:=0
def tw10143604875613162262:=0
def tw15613264486533731503:=0
def tw1875231967914411471:=0
def tw17692171528027557651:=0
def tw959685666160795965:=0
def tw9329420738014611283:=0
def tw3501743487501134821:=0
def tw4435019073496936381:=0
def tw4872067481214624464:=0
def tw7614568241697623359:=0
def tw2799774495877717873:=0
def tw6818189849959627712:=0
def tw16606760887122668846:=0
def tw4942110685944726021:=0
def tw16978124595924518502:=0
def tw184939391806942068:=0
def tw12216634241958168134:=0
def tw978822127159367899:=0
def tw7575600520888405301:=0
def tw3817406136277316049:=0
def tw10588213576048387046:=0
def tw8690314190037624659:=0
def tw8666322050127395135:=0
def tw2240934643645437506:=0
def tw247010943427649695:=0
def tw17855899960477263933:=0
def tw15820113490488127268:=0
def tw715728779468077393:=0
def tw10348241254447101215:=0
def tw11625575684677960336:=0
def tw14971616082983001422:=0
def tw1229872078474915335:=0
def tw14544361137615809505:=0
def tw4068828709649204711:=0
def tw16900601277423632969:=0
def tw9138924175141303436:=0
def tw767103215229206966:=0
def tw5080399711642580625:=0
def tw4640708970841165929:=0
def tw4846347335722365267:=0
def tw6861453272064107015:=0
def tw924360431642778401:=0
def tw2719832940960069810:=0
def tw5592737408260407120:=0
def tw8435081771008277837:=0
def tw2032321446191643743:=0
def tw5508542609566831688:=0
def tw15157567293821107526:=0
def tw18239027952097104071:=0
def tw12187928563300181111:=0
def tw16790012171324155030:=0
def tw16769988631767139560:=0
def tw4690711183078626665:=0
def tw12519344847853539735:=0
def tw12503022029735845767:=0
def tw9876236788828241036:=0
def tw11385228481869394117:=0
def tw7429307980178242677:=0
def tw10029351043793963727:=0
def tw6917092993916943812:=0
def tw7655084850821896023:=0
def tw15910291600156411064:=0
def tw16149877860700792110:=0
def tw6921648289265787106:=0
def tw11151043323462776855:=0
def tw8303865466014605794:=0
def tw12115740633377224395:=0
def tw455792742954422858:=0
def tw4918711934951196771:=0
def tw17583007869451723262:=0
def tw5653757131036291698:=0
def tw5732299216683645810:=0
def tw13955721100252015530:=0
def tw2348196774073125096:=0
def tw10806232734550012862:=0
def tw9749171309403430468:=0
def tw11176432191936518387:=0
def tw12884175367941266940:=0
def tw6492522636241686936:=0
def tw7663102763160241337:=0
def tw9575485610954754231:=0
def tw15924304923111976472:=0
def tw93482771403023303:=0
def tw6173474236002472451:=0
def tw4779687633339944586:=0
def tw6550037094308486424:=0
def tw16786604932783821305:=0
def tw6289390994039328033:=0
def tw18099720446911107992:=0
def tw5153930674924560223:=0
def tw12443299325800579392:=0
def tw17826683333315006619:=0
def tw8493925933680417705:=0
def tw14221652967095522643:=0
def tw4447666900285991418:=0
def tw14360549114582686554:=0
def tw11235598727407371210:=0
def tw2605251738815605824:=0
def tw4859133867829257466:=0
def tw7726778138015708281:=0
def tw9582312228752582847:=0
def tw6299352486348499287:=0
def tw6562087457522481107:=0
def tw1786281690405449824:=0
def tw7956382131452616560:=0
def tw14162479567824942592:=0
def tw9197991323526246477:=0
def tw13526063582655178233:=0
def tw17583359897692855722:=0
def tw10325155374552791829:=0
def tw4995566995100114815:=0
def tw14068837582786219885:=0
end PySem.W.Fast
set_option maxRecDepth 100000 in
set_option maxHeartbeats 0 in
theorem PySem.Challenge.cw_limitdesk_k11_whole_dropped_holds : PySem.Challenge.rw_limitdesk_k11_whole_dropped.Holds := by
 w_on; o_law; k_head; (case hw => w_witness2)
 k_fill
 refine K11.walk (l := PySem.Challenge.rw_limitdesk_k11_whole_dropped) rfl rfl ⟨_, rfl⟩ (fun w h Y => PySem.W.km_in_of Y) ?F
 case F =>
  intro w mg fa h KX G hmg
  refine' K11.all_mk KX G hmg ?a0 ?l0 ?c0 ?k0 ?a1 ?l1 ?c1 ?k1 ?a2 ?l2 ?c2 ?k2 ?a3 ?l3 ?c3 ?k3 ?a4 ?l4 ?c4 ?k4 ?a5 ?l5 ?c5 ?k5 ?a6 ?l6 ?c6 ?k6 ?a7 ?l7 ?c7 ?k7 ?a8 ?l8 ?c8 ?k8 ?a9 ?l9 ?c9 ?k9 ?a10 ?l10 ?c10 ?k10 ?a11 ?l11 ?c11 ?k11 ?a12 ?l12 ?c12 ?k12 ?a13 ?l13 ?c13 ?k13 ?a14 ?l14 ?c14 ?k14 ?a15 ?l15 ?c15 ?k15 ?a16 ?l16 ?c16 ?k16 ?a17 ?l17 ?c17 ?k17 ?a18 ?l18 ?c18 ?k18 ?a19 ?l19 ?c19 ?k19 ?a20 ?l20 ?c20 ?k20 ?a21 ?l21 ?c21 ?k21 ?a22 ?l22 ?c22 ?k22 ?a23 ?l23 ?c23 ?k23 ?a24 ?l24 ?c24 ?k24 ?a25 ?l25 ?c25 ?k25 ?a26 ?l26 ?c26 ?k26 ?a27 ?l27 ?c27 ?k27 ?a28 ?l28 ?c28 ?k28 ?a29 ?l29 ?c29 ?k29 ?a30 ?l30 ?c30 ?k30 ?a31 ?l31 ?c31 ?k31 ?a32 ?l32 ?c32 ?k32 ?a33 ?l33 ?c33 ?k33 ?a34 ?l34 ?c34 ?k34 ?a35 ?l35 ?c35 ?k35 ?a36 ?l36 ?c36 ?k36 ?a37 ?l37 ?c37 ?k37 ?a38 ?l38 ?c38 ?k38 ?a39 ?l39 ?c39 ?k39 ?a40 ?l40 ?c40 ?k40 ?a41 ?l41 ?c41 ?k41 ?a42 ?l42 ?c42 ?k42 ?a43 ?l43 ?c43 ?k43 ?a44 ?l44 ?c44 ?k44 ?a45 ?l45 ?c45 ?k45 ?a46 ?l46 ?c46 ?k46 ?a47 ?l47 ?c47 ?k47 ?a48 ?l48 ?c48 ?k48 ?a49 ?l49 ?c49 ?k49 ?a50 ?l50 ?c50 ?k50 ?a51 ?l51 ?c51 ?k51 ?a52 ?l52 ?c52 ?k52 ?a53 ?l53 ?c53 ?k53 ?a54 ?l54 ?c54 ?k54 ?a55 ?l55 ?c55 ?k55 ?a56 ?l56 ?c56 ?k56 ?a57 ?l57 ?c57 ?k57 ?a58 ?l58 ?c58 ?k58 ?a59 ?l59 ?c59 ?k59 ?a60 ?l60 ?c60 ?k60 ?a61 ?l61 ?c61 ?k61 ?a62 ?l62 ?c62 ?k62 ?a63 ?l63 ?c63 ?k63 ?a64 ?l64 ?c64 ?k64 ?a65 ?l65 ?c65 ?k65 ?a66 ?l66 ?c66 ?k66 ?a67 ?l67 ?c67 ?k67 ?a68 ?l68 ?c68 ?k68 ?a69 ?l69 ?c69 ?k69 ?a70 ?l70 ?c70 ?k70 ?a71 ?l71 ?c71 ?k71 ?z_isinstance ?z_int ?z_bool ?z_abs ?z_tuple ?z_len ?z_list ?z_all ?z_zip ?z_range ?z_min ?z_max ?g_GREATEST_NUMBER ?g_MOST_KINDS ?g_MOST_LIMITS ?aC_Board ?iI_Board ?jI_Board ?lI_Board ?cI_Board ?kI_Board ?pg_Board ?hd_Board ?po_Board ?sa_Board ?mk_Board ?kc_Board ?nA0_Board ?nA1_Board ?nA2_Board ?lc_raising_column ?v11_raising_column ?hno
  (case a0 => k_is)
  (case l0 => k_is)
  (case c0 => k_is)
  (case k0 => k_is)
  (case a1 => k_is)
  (case l1 => k_is)
  (case c1 => k_is)
  (case k1 => k_is)
  (case a2 => k_is)
  (case l2 => k_is)
  (case c2 => k_is)
  (case k2 => k_is)
  (case a3 => k_is)
  (case l3 => k_is)
  (case c3 => k_is)
  (case k3 => k_is)
  (case a4 => k_is)
  (case l4 => k_is)
  (case c4 => k_is)
  (case k4 => k_is)
  (case a5 => k_is)
  (case l5 => k_is)
  (case c5 => k_is)
  (case k5 => k_is)
  (case a6 => k_is)
  (case l6 => k_is)
  (case c6 => k_is)
  (case k6 => k_is)
  (case a7 => k_is)
  (case l7 => k_is)
  (case c7 => k_is)
  (case k7 => k_is)
  (case a8 => k_is)
  (case l8 => k_is)
  (case c8 => k_is)
  (case k8 => k_is)
  (case a9 => k_is)
  (case l9 => k_is)
  (case c9 => k_is)
  (case k9 => k_is)
  (case a10 => k_is)
  (case l10 => k_is)
  (case c10 => k_is)
  (case k10 => k_is)
  (case a11 => k_is)
  (case l11 => k_is)
  (case c11 => k_is)
  (case k11 => k_is)
  (case a12 => k_is)
  (case l12 => k_is)
  (case c12 => k_is)
  (case k12 => k_is)
  (case a13 => k_is)
  (case l13 => k_is)
  (case c13 => k_is)
  (case k13 => k_is)
  (case a14 => k_is)
  (case l14 => k_is)
  (case c14 => k_is)
  (case k14 => k_is)
  (case a15 => k_is)
  (case l15 => k_is)
  (case c15 => k_is)
  (case k15 => k_is)
  (case a16 => k_is)
  (case l16 => k_is)
  (case c16 => k_is)
  (case k16 => k_is)
  (case a17 => k_is)
  (case l17 => k_is)
  (case c17 => k_is)
  (case k17 => k_is)
  (case a18 => k_is)
  (case l18 => k_is)
  (case c18 => k_is)
  (case k18 => k_is)
  (case a19 => k_is)
  (case l19 => k_is)
  (case c19 => k_is)
  (case k19 => k_is)
  (case a20 => k_is)
  (case l20 => k_is)
  (case c20 => k_is)
  (case k20 => k_is)
  (case a21 => k_is)
  (case l21 => k_is)
  (case c21 => k_is)
  (case k21 => k_is)
  (case a22 => k_is)
  (case l22 => k_is)
  (case c22 => k_is)
  (case k22 => k_is)
  (case a23 => k_is)
  (case l23 => k_is)
  (case c23 => k_is)
  (case k23 => k_is)
  (case a24 => k_is)
  (case l24 => k_is)
  (case c24 => k_is)
  (case k24 => k_is)
  (case a25 => k_is)
  (case l25 => k_is)
  (case c25 => k_is)
  (case k25 => k_is)
  (case a26 => k_is)
  (case l26 => k_is)
  (case c26 => k_is)
  (case k26 => k_is)
  (case a27 => k_is)
  (case l27 => k_is)
  (case c27 => k_is)
  (case k27 => k_is)
  (case a28 => k_is)
  (case l28 => k_is)
  (case c28 => k_is)
  (case k28 => k_is)
  (case a29 => k_is)
  (case l29 => k_is)
  (case c29 => k_is)
  (case k29 => k_is)
  (case a30 => k_is)
  (case l30 => k_is)
  (case c30 => k_is)
  (case k30 => k_is)
  (case a31 => k_is)
  (case l31 => k_is)
  (case c31 => k_is)
  (case k31 => k_is)
  (case a32 => k_is)
  (case l32 => k_is)
  (case c32 => k_is)
  (case k32 => k_is)
  (case a33 => k_is)
  (case l33 => k_is)
  (case c33 => k_is)
  (case k33 => k_is)
  (case a34 => k_is)
  (case l34 => k_is)
  (case c34 => k_is)
  (case k34 => k_is)
  (case a35 => k_is)
  (case l35 => k_is)
  (case c35 => k_is)
  (case k35 => k_is)
  (case a36 => k_is)
  (case l36 => k_is)
  (case c36 => k_is)
  (case k36 => k_is)
  (case a37 => k_is)
  (case l37 => k_is)
  (case c37 => k_is)
  (case k37 => k_is)
  (case a38 => k_is)
  (case l38 => k_is)
  (case c38 => k_is)
  (case k38 => k_is)
  (case a39 => k_is)
  (case l39 => k_is)
  (case c39 => k_is)
  (case k39 => k_is)
  (case a40 => k_is)
  (case l40 => k_is)
  (case c40 => k_is)
  (case k40 => k_is)
  (case a41 => k_is)
  (case l41 => k_is)
  (case c41 => k_is)
  (case k41 => k_is)
  (case a42 => k_is)
  (case l42 => k_is)
  (case c42 => k_is)
  (case k42 => k_is)
  (case a43 => k_is)
  (case l43 => k_is)
  (case c43 => k_is)
  (case k43 => k_is)
  (case a44 => k_is)
  (case l44 => k_is)
  (case c44 => k_is)
  (case k44 => k_is)
  (case a45 => k_is)
  (case l45 => k_is)
  (case c45 => k_is)
  (case k45 => k_is)
  (case a46 => k_is)
  (case l46 => k_is)
  (case c46 => k_is)
  (case k46 => k_is)
  (case a47 => k_is)
  (case l47 => k_is)
  (case c47 => k_is)
  (case k47 => k_is)
  (case a48 => k_is)
  (case l48 => k_is)
  (case c48 => k_is)
  (case k48 => k_is)
  (case a49 => k_is)
  (case l49 => k_is)
  (case c49 => k_is)
  (case k49 => k_is)
  (case a50 => k_is)
  (case l50 => k_is)
  (case c50 => k_is)
  (case k50 => k_is)
  (case a51 => k_is)
  (case l51 => k_is)
  (case c51 => k_is)
  (case k51 => k_is)
  (case a52 => k_is)
  (case l52 => k_is)
  (case c52 => k_is)
  (case k52 => k_is)
  (case a53 => k_is)
  (case l53 => k_is)
  (case c53 => k_is)
  (case k53 => k_is)
  (case a54 => k_is)
  (case l54 => k_is)
  (case c54 => k_is)
  (case k54 => k_is)
  (case a55 => k_is)
  (case l55 => k_is)
  (case c55 => k_is)
  (case k55 => k_is)
  (case a56 => k_is)
  (case l56 => k_is)
  (case c56 => k_is)
  (case k56 => k_is)
  (case a57 => k_is)
  (case l57 => k_is)
  (case c57 => k_is)
  (case k57 => k_is)
  (case a58 => k_is)
  (case l58 => k_is)
  (case c58 => k_is)
  (case k58 => k_is)
  (case a59 => k_is)
  (case l59 => k_is)
  (case c59 => k_is)
  (case k59 => k_is)
  (case a60 => k_is)
  (case l60 => k_is)
  (case c60 => k_is)
  (case k60 => k_is)
  (case a61 => k_is)
  (case l61 => k_is)
  (case c61 => k_is)
  (case k61 => k_is)
  (case a62 => k_is)
  (case l62 => k_is)
  (case c62 => k_is)
  (case k62 => k_is)
  (case a63 => k_is)
  (case l63 => k_is)
  (case c63 => k_is)
  (case k63 => k_is)
  (case a64 => k_is)
  (case l64 => k_is)
  (case c64 => k_is)
  (case k64 => k_is)
  (case a65 => k_is)
  (case l65 => k_is)
  (case c65 => k_is)
  (case k65 => k_is)
  (case a66 => k_is)
  (case l66 => k_is)
  (case c66 => k_is)
  (case k66 => k_is)
  (case a67 => k_is)
  (case l67 => k_is)
  (case c67 => k_is)
  (case k67 => k_is)
  (case a68 => k_is)
  (case l68 => k_is)
  (case c68 => k_is)
  (case k68 => k_is)
  (case a69 => k_is)
  (case l69 => k_is)
  (case c69 => k_is)
  (case k69 => k_is)
  (case a70 => k_is)
  (case l70 => k_is)
  (case c70 => k_is)
  (case k70 => k_is)
  (case a71 => k_is)
  (case l71 => k_is)
  (case c71 => k_is)
  (case k71 => k_is)
  (case z_isinstance => k_is)
  (case z_int => k_is)
  (case z_bool => k_is)
  (case z_abs => k_is)
  (case z_tuple => k_is)
  (case z_len => k_is)
  (case z_list => k_is)
  (case z_all => k_is)
  (case z_zip => k_is)
  (case z_range => k_is)
  (case z_min => k_is)
  (case z_max => k_is)
  (case g_GREATEST_NUMBER => k_is)
  (case g_MOST_KINDS => k_is)
  (case g_MOST_LIMITS => k_is)
  (case aC_Board => k_is)
  (case iI_Board => k_is)
  (case jI_Board => k_is)
  (case lI_Board => k_is)
  (case cI_Board => k_is)
  (case kI_Board => k_is)
  (case pg_Board => k_is)
  (case hd_Board => k_is)
  (case po_Board => k_is)
  (case sa_Board => k_is)
  (case mk_Board => k_is)
  (case kc_Board => k_is)
  (case nA0_Board => k_is)
  (case nA1_Board => k_is)
  (case nA2_Board => k_is)
  (case lc_raising_column => k_is)
  (case v11_raising_column => rfl)
  (case hno => kernel_rfl)
#print axioms PySem.Challenge.cw_limitdesk_k11_whole_dropped_holds
