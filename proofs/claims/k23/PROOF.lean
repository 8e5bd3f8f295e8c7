import PyProof.Rows.All
import Wide.All
import OpenK.AllK
import Wide.FinOn
import Lean
import PyProof.EqAt
import PyProof.EqKinds
import PyProof.EqLayable
import PyProof.TupleCall
import PyProof.P3Statements
import PySem.Challenge.RW_limitdesk_k23_whole_told_desks
set_option Elab.async false
set_option linter.all false
set_option maxRecDepth 100000
open PySem renaming PyData->ya,Value->yb,Addr->yc,wpAny_bind->yf,Shared->ye,Heap->yd,mainGlobals->yn,wpAny->yi,starEach->yp,model->ym,wpAny_pure->yx,Expr->yj,Stmt->yk,sizeLine->y7,Program->y6,eval->yz,World->y0,Builtin->yB,Around->yD,bootBuiltins->yP,wpAny_mono->yI,FuncData->yM,PassesOwn->yY,wpAny_field->jg,Scope->yJ,rawInt->yW,compareOp->ji,NameKind->jh,backTo->jc,binaryOp->jm,IsPair->je,wpAny_newObj_type->jT,swapsWith->jz,wpAny_seqItems->jL,sizeLine_eq->j6,wpAny_callSpecial?_slot->qE,assignEach->j7,behindInMarks->jU,wpAny_truthy_bool->qj,wpAny_call_entry->qk,sysModules->jM,wpAny_holding->qc,cLine->jv,IsZip->jw,pyNext->j2,foldedSetIterable->qF,wpAny_passesOwn->qI,wpAny_Call_Name_kw->yaa,wpAny_setField_rec->yab,wpAny_typeNameOfWhole_keyiter->ybg,wpAny_tryCatch->qJ,assign->jI,holding->jP,codeAny->jQ,wpAny_execs_nil->yac,notedBy->jZ,wpAny_typeNameOf_keyiter->ybh,sliceBounds->qL,wpAny_letGo->qN,attributeBase->yae,relabel->qh,compEnvC->qt,DictEntry->qP,codeAmong->qQ,noteFrame->qR,Keyword->qw,getItem->qx,wpAny_setField->yaz,builtinsNs->yah,wpAny_pyIter_list->ybl,codeAny_mono->ya1,tupleKind->yaj,Arguments->yak,callerA->qT,valueAt->qU,letOwnedTupleGo->ybm,keywordEach->ya2,ZipApart->yao,firstArgMember->ybp,wpAny_updateSeq_pair->ycn,wpAny_standAt->ybr,wpAny_onRaise->ybs,wpAny_attempt->ybt,plainId_quiet->ybu,seqItems?->ya9,tupleKind_room_in1->ycr,concat_meets->ybw,wpAny_dictEntries->yct,subscripted->yb1,wpAny_execs_cons->ycv,noFill_tuple_add->ycx,codeAny_builtin->yc1,wpAny_updateSeq->yc2,wpAny_dictEpoch->yc3
open PySem.W renaming Frag->yh,keepIn->yq,nsIn->yo,codeIn->yw,mg_of->yr,fnOf->yt,mg_none_of->j4,findIn->jG,tabIn->jA,kla_fn->jH,emptyDict->qf,CodeHd->jX,hideAll->qg,instObj->qo,excIn->qy,kia_one->yam,subIn->yaq,noTabs->yba,hasDictIn->yb0,plainGet->yb4,hideAll_none->yc6,hideAll_get->yc8,of_hideAll->yc9,callWith_K->ydb,methodObj->ydf,plainOver->ydg,takerIn->ydo,makesIn->ydp,cellsFrom_some->yec,OpenLaw->ydr,lookIn->ydw,tabObj->ydx
open List renaming getD_eq_getElem?_getD->y9,replicate->y3,getElem?_eq_some_iff->yV,range->y4,mem_cons_of_mem->yS,size_toArray->yL,mem_append_right->yZ,mem_cons->yG,mem_cons_self->yX,length_map->yQ,map_cons->yH,getElem_mem->yT,getElem?_map->jb,getElem?_eq_getElem->jx,getElem?_set_ne->jo,mem_map->yR,take_length->jd,getElem?_append_right->jC,Nodup->yK,getElem?_set_self->j3,getElem?_append_left->jK,map_map->jf,length_cons->ju,mem_range->jq,map_congr_left->jD,of_mem_zip->j1,mem_filter->j8,length_filter_le->qa,mem_of_getElem?->qb,append_nil->jF,replicate_succ->qd,mem_append->jN,getElem?_replicate->qG,length_append->qe,length_set->jV,mem_singleton->ql,getElem_of_mem->qK,not_mem_nil->qm,mem_append_left->yad,flatten_cons->qM,getElem?_cons_succ->yay,all_eq_true->qO,lookup_cons->yai,zipWith->qA,nil_append->yal,find?_cons->yan,lookup->qC,map_nil->qW,length_take->ya6,filterMap_cons->ybq,getElem?_eq_none_iff->ycp,nodup_cons->ya8,getElem?_cons_zero->ycu,append_assoc->yb2,getElem?_set->yb3,ext_getElem->yb5,take_append_drop->yc5,mem_of_mem_take->yc7,eq_nil_of_length_eq_zero->yd3,map_append->yb9,mem_filterMap->yda,getElem_range->ydc,drop_eq_getElem_cons->yd4,getElem?_zip_eq_some->yd5,length_drop->ydl,cons_append->ydn,length_eq_zero_iff->yd7,map_set->yci,map->yau,forIn_cons->ydq,length_nil->yds,range_succ_eq_map->yee,getElem_cons_drop->yef,set->yav,sum_replicate_nat->yeg,foldl->yck,any_cons->ydy
open PySem.Heap renaming get?_push_of_some->yA,get?_push_size->yO,lt_size->yF,size_push->qr,SameBut->qz,get?_update_self->ybn,get?_update_other->ycy
open Or renaming inl->yg,inr->yC
open Nat renaming le_refl->yu,le_trans->yE,lt_of_lt_of_le->ja,lt_of_le_of_lt->jk,ne_of_lt->yU,le_of_lt->jB,lt_irrefl->jY,mul_le_mul->qu,zero_le->qi,zero_add->q9,add_comm->qV,lt_succ_self->ya5,le_add_right->ya7,mul_le_mul_left->ybv,lt_or_gt_of_ne->ybz,ne_of_gt->yar,le_succ->yat,div_le_self->yb7,one_mul->ybd,lt_succ_of_lt->ydh,lt_trichotomy->ydi,succ_mul->ycf,pow_succ->ycg,add_assoc->ydz,mul_assoc->yd0
open Rat renaming divInt->y8,num_divInt_den->jt,mul_le_mul_of_nonneg_left->ybi,divInt_nonneg_iff_of_pos_right->ycl,divInt_mul_divInt->ybo,divInt_eq_div->ya4,not_lt->qD,divInt_add_divInt->yc4,mul_zero->ybc,num_divInt->yca,den_divInt->ycb,num_nonneg->ycc,one_mul->ybf,num_eq_zero->ydt,intCast_mul->ydv,div_def->ycj
open Classical renaming byContradiction->js,axiomOfChoice->yeb
open Bool renaming and_eq_true->jl,false_ne_true->jy,or_eq_true->qp,false_eq_true->ybx
open Int renaming natAbs_natCast->jE,mul_zero->jp,gcd->yN,natAbs_mul->j9,mul_ne_zero->jO,natCast_add->jW,mul_ediv_cancel_left->yax,le_refl->jR,fmod_eq_emod_of_nonneg->ybk,mul_left_comm->yag,natAbs_neg->qS,mul_le_mul_of_nonneg_right->ycm,mul_one->qB,toNat_natCast->ya3,mul_nonneg->yap,fmod->jS,mul_comm->qX,zero_mul->qY,le_of_lt->qZ,emod_lt_of_pos->yby,sub_zero->yas,emod_nonneg->yb8,add_zero->ybb,natCast_nonneg->yde,one_mul->ybe,gcd_dvd_right->ydk,mul_assoc->yce,eq_ofNat_of_zero_le->yd8,gcd_natCast_natCast->yd9,gcd_comm->ych,fdiv_eq_ediv_of_dvd->yea,mul_eq_zero->ydu
open Option renaming some->jr,map_some->yb6,isSome_some->ydd,isSome_map->ydj,getD_some->ydm
open PySem.F renaming slot_dict_keyiterator_next->yaw,plain_min_loop->qH,excBase_ValueError->yco,args_dict_keyiterator_next_1->yd1,args_tuple_add_2->ycq,entry_dict_keyiterator_next->yd2,entry_tuple_add->ycs,slot_tuple_add->ycw,entry_min_loop->ycz,plainAttrs_list->yd6,slot_dict_iter->yed
open PySem.Obj renaming mapSeq->jJ,data_mapFields->yaf,isFreed_of_fields->yc0,mapFields->ycd
open Array renaming getElem?_eq_some_iff->ybj,length_toList->ya0
namespace L2
open PySem PySem.Spec PyProof.Rows
abbrev Key:=Sum Int Str
def Qc:Key->yb->Bool
 |.inl k,v=>yb.isInt k v
 |.inr x,v=>yb.isStrOf x v
def keyH(w:y0):Key->Int
 |.inl k=>hashInt k
 |.inr x=>hashStr w x
theorem Xq:∀{k:Key}{v:yb},Qc k v=true->(∃i t,k=Sum.inl i/\v=yb.int i t)\/(∃x t,k=Sum.inr x/\v=yb.str x t)
 |.inl i,v,h=>by
  obtain⟨t,e⟩:=yb.isInt_shape (k:=i) (v:=v) h;exact .inl ⟨i,t,rfl,e⟩
 |.inr x,v,h=>by
  obtain⟨t,e⟩:=yb.isStrOf_shape (x:=x) (v:=v) h;exact .inr ⟨x,t,rfl,e⟩
theorem zlv(i:Int)(t:Tok):Qc (.inl i) (.int i t)=true:=by simp[Qc,yb.isInt]
theorem zlu(x:Str)(t:Tok):Qc (.inr x) (.str x t)=true:=by simp[Qc,yb.isStrOf]
theorem key_ll(a b:Int):decide ((Sum.inl a:Key)=Sum.inl b)=(a == b):=by
 by_cases e:a=b
 ·subst e;simp
 ·have h:¬(Sum.inl a:Key)=Sum.inl b:=λq=>e (Sum.inl.inj q)
  rw[decide_eq_false h];exact(beq_eq_false_iff_ne.mpr e).symm
theorem key_rr(a b:Str):decide ((Sum.inr a:Key)=Sum.inr b)=decide (a=b):=by
 by_cases e:a=b
 ·subst e;simp
 ·have h:¬(Sum.inr a:Key)=Sum.inr b:=λq=>e (Sum.inr.inj q)
  rw[decide_eq_false h,decide_eq_false e]
theorem key_lr(a:Int)(b:Str):decide ((Sum.inl a:Key)=Sum.inr b)=false:=decide_eq_false (λq=>nomatch q)
theorem key_rl(a:Str)(b:Int):decide ((Sum.inr a:Key)=Sum.inl b)=false:=decide_eq_false (λq=>nomatch q)
def Wa(prog:y6)(w:y0):PySem.KeyKind prog w Key where
 is:=Qc
 hash:=keyH w
 inj:=λv a b ha hb=>by
  rcases Xq ha with ⟨i,t,rfl,rfl⟩|⟨x,t,rfl,rfl⟩
  ·rcases Xq hb with ⟨j,u,rfl,e⟩|⟨y,u,rfl,e⟩
   ·injection e with e1 _;rw[e1]
   ·exact nomatch e
  ·rcases Xq hb with ⟨j,u,rfl,e⟩|⟨y,u,rfl,e⟩
   ·exact nomatch e
   ·injection e with e1 _;rw[e1]
 byValue:=λk v h=>by
  rcases Xq h with ⟨i,t,rfl,rfl⟩|⟨x,t,rfl,rfl⟩<;>rfl
 pyHash:=λhv h=>by
  rcases Xq hv with ⟨i,t,rfl,rfl⟩|⟨x,t,rfl,rfl⟩
  ·exact wpAny_pyHash_int h
  ·exact wpAny_pyHash_str h
 eqBool:=λhu hv h=>by
  rcases Xq hu with ⟨i,t,rfl,rfl⟩|⟨x,t,rfl,rfl⟩
  ·rcases Xq hv with ⟨j,u,rfl,rfl⟩|⟨y,u,rfl,rfl⟩
   ·rw[key_ll]at h;exact wpAny_eqBool_int h
   ·rw[key_lr]at h;exact SeqAt.EqAt.int_str i t y u _ _ _ _ h
  ·rcases Xq hv with ⟨j,u,rfl,rfl⟩|⟨y,u,rfl,rfl⟩
   ·rw[key_rl]at h;exact SeqAt.EqAt.str_int x t j u _ _ _ _ h
   ·rw[key_rr]at h;exact wpAny_eqBool_str h
 «strs»:=λk x t v h=>by
  rcases Xq h with ⟨i,u,rfl,e⟩|⟨y,u,rfl,e⟩
  ·exact nomatch e
  ·injection e with e1 _
   subst e1;cases v<;>rfl
theorem mixKind_is(prog:y6)(w:y0)(k:Key)(v:yb):(Wa prog w).is k v=Qc k v:=rfl
theorem zhG(prog:y6)(w:y0)(i:Int)(t:Tok):(Wa prog w).is (.inl i) (.int i t)=true:=zlv i t
theorem zhF(prog:y6)(w:y0)(x:Str)(t:Tok):(Wa prog w).is (.inr x) (.str x t)=true:=zlu x t
inductive V where
 |non|bl (b:Bool)|int (i:Int)|str (x:Str)|byt (b:Array UInt8)|flt (b:UInt64)|ref (a:yc)|ty (n:String)
 deriving DecidableEq
def ax:V->yb->Prop
 |.non,u=>u=yb.none
 |.bl b,u=>u=yb.bool b
 |.int i,u=>∃t,u=yb.int i t
 |.str x,u=>∃t,u=yb.str x t
 |.byt b,u=>∃t,u=yb.bytes b t
 |.flt b,u=>∃t,u=yb.float b t
 |.ref a,u=>u=yb.ref a
 |.ty n,u=>u=yb.type n
abbrev Vals:List V->List yb->Prop:=Paired ax
theorem Vals.length{xs:List V}{us:List yb}(r:Vals xs us):xs.length=us.length:=Paired.length r
theorem Vals.get:∀{xs:List V}{us:List yb}{i:Nat}{x:V},Vals xs us->xs[i]? = some x->∃u,us[i]? = some u/\ax x u
 |_,_,_,_,.nil,e=>by simp at e
 |_,_,0,_,.cons r _,e=>by simp at e;subst e;exact⟨_,rfl,r⟩
 |_,_,i+1,x,.cons _ t,e=>by
  obtain⟨u,h1,h2⟩:=Vals.get (i:=i) (x:=x) t (by simpa using e)
  exact⟨u,by simpa using h1,h2⟩
theorem Vals.set{x:V}{u:yb}(r:ax x u):∀{xs:List V}{us:List yb}(i:Nat),Vals xs us->Vals (xs.set i x) (us.set i u)
 |_,_,_,.nil=>.nil
 |_,_,0,.cons _ t=>.cons r t
 |_,_,i+1,.cons q t=>.cons q (Vals.set r i t)
theorem Vals.append:∀{xs ys:List V}{us ws:List yb},Vals xs us->Vals ys ws->Vals (xs++ys) (us++ws)
 |_,_,_,_,.nil,s=>s
 |_,_,_,_,.cons r t,s=>.cons r (Vals.append t s)
theorem Vals.take:∀{xs:List V}{us:List yb}(n:Nat),Vals xs us->Vals (xs.take n) (us.take n)
 |_,_,0,_=>.nil
 |_,_,_+1,.nil=>.nil
 |_,_,n+1,.cons r t=>.cons r (Vals.take n t)
theorem Vals.drop:∀{xs:List V}{us:List yb}(n:Nat),Vals xs us->Vals (xs.drop n) (us.drop n)
 |_,_,0,r=>r
 |_,_,_+1,.nil=>.nil
 |_,_,n+1,.cons _ t=>Vals.drop n t
def RelO:Option V->Option yb->Prop
 |some v,some u=>ax v u
 |none,none=>True
 |_,_=>False
def KV{κ:Type}:List (κ×V)->List (κ×yb)->Prop:=Paired λ(p:κ×V) (q:κ×yb)=>p.1=q.1/\ax p.2 q.2
def kV:Key->V
 |.inl i=>.int i
 |.inr x=>.str x
inductive HO where
 /-- a list -/
 |lst (xs:List V)
 /-- a tuple (never changes) -/
 |tup (xs:List V)
 /-- a dict whose keys are ints and texts;one whose keys are tuples of ints and texts (the empty one is both) -/
 |dK (kvs:List (Key×V))|dT (kvs:List (List Key×V))
 /-- a set of ints: its members,its size -/
 |set (S:Int->Bool) (n:Nat)
 /-- an instance of the class at C,its dict at dx,its attributes -/
 |ins (C dx:yc) (fs:List (Str×V))
 /-- the dict of the instance at x -/
 |own (x:yc)
 /-- the dict of an exception -/
 |xd (fs:List (Str×V))
 /-- a bound method,f of x -/
 |met (f x:yc)
 /-- a range object lo,lo+1,.. below hi -/
 |rng (lo hi:Int)
 /-- a thing that is known to the object (the script;a dict while a loop walks it): read,never written while it is so -/
 |frz (o:Obj) (u:HO)
 /-- a code object's table -/
 |tbl (ps:Array yb)
 /-- any other thing,by what is true of its one object (a def of one's own: SetO a S n:=HO.ext λh=>..) -/
 |ext (φ:yd->Prop)
abbrev Hp:=yc->Option HO
def upd(H:Hp)(a:yc)(o:HO):Hp:=λb=>if b=a then some o else H b
theorem Zw{H:Hp}{a:yc}{o:HO}:upd H a o a=some o:=by unfold upd;rw[if_pos rfl]
theorem Zu{H:Hp}{a b:yc}{o:HO}(h:b≠a):upd H a o b=H b:=by unfold upd;rw[if_neg h]
theorem zkb{H:Hp}{a:yc}{o u:HO}:upd (upd H a o) a u=upd H a u:=by
 funext b;unfold upd;split<;>rfl
theorem ne_of{H:Hp}{a b:yc}{o u:HO}(h:H a=some o)(h':H b=some u)(d:o≠u):a≠b:=by
 intro e;subst e;rw[h]at h';exact d (jr.inj h')
theorem Z3{H:Hp}{a b:yc}{o:HO}(h:H a=some o)(h':H b=none):a≠b:=by
 intro e;subst e;rw[h]at h';cases h'
section
variable (P:y6)(w:y0)
def W4(H:Hp)(h:yd)(a:yc):HO->Prop
 |.lst xs=>xs.length<=y7/\∃(its:List yb) (n:Nat),Vals xs its/\h.get? a=some { cls:=.type "list",data:=.seq its.toArray n }
 |.tup xs=>xs.length<=y7/\∃its:List yb,Vals xs its/\IsTup h a its.toArray
 |.dK kvs=>kvs.length<=y7/\(a == jM)=false/\∃vs,KV kvs vs/\h.DictOf (Wa P w) a vs
 |.dT kvs=>kvs.length<=y7/\(a == jM)=false/\∃xs:List (List Key×yc×yb),
   Paired (λ(p:List Key×V) (q:List Key×yc×yb)=>p.1=q.1/\H q.2.1=some (.tup (p.1.map kV))/\ax p.2 q.2.2) kvs xs /\
   ∃o es ep,h.get? a=some o/\o.ExactDict/\o.data=.dict es ep/\es.toList=xs.map (entryOfKey (yaj (Wa P w)))/\(xs.map (·.1)).Nodup
 |.set S n=>h.SetOf (intKind P w) a S n
 |.ins C dx fs=>H dx=some (.own a)/\fs.length<=1000/\dx≠a/\h.get? a=some (qo C dx) /\
   ∃mA,h.Ns1 dx mA/\(∀f,RelO (fs.lookup f) (mA f))/\PySem.Within mA (fs.map (·.1))
 |.own _=>∃o,h.get? a=some o
 |.xd fs=>∃mA,h.Ns1 a mA/\∀f,RelO (fs.lookup f) (mA f)
 |.rng lo hi=>∃t u v,h.get? a=some { cls:=.type "range",data:=.fields #[.int lo t,.int hi u,.int 1 v] }
 |.frz o u=>h.get? a=some o/\W4 H h a u
 |.tbl ps=>h.get? a=some { cls:=.none,data:=.fields ps }
 |.met f x=>h.get? a=some (ydf (.ref f) (.ref x))
 |.ext φ=>φ h/\(∃o,h.get? a=some o)/\∀h1 h2:yd,φ h1->(∀o,h1.get? a=some o->h2.get? a=some o)->φ h2
def HOk(H:Hp)(h:yd):Prop:=∀a o,H a=some o->W4 P w H h a o
end
section
variable {P:y6}{w:y0}{H H':Hp}{h h':yd}{a:yc}{o:HO}
theorem W4.lt(x:W4 P w H h a o):a<h.objs.size:=by
 cases o with
 |lst xs=>obtain⟨_,_,_,_,e⟩:=x;exact yF e
 |tup xs=>obtain⟨_,_,_,p⟩:=x;exact p.lt
 |dK kvs=>obtain⟨_,_,_,_,o,_,_,e,_⟩:=x;exact yF e
 |dT kvs=>obtain⟨_,_,_,_,o,_,_,e,_⟩:=x;exact yF e
 |set S n=>obtain⟨o,_,_,_,e,_⟩:=x;exact yF e
 |ins C dx fs=>obtain⟨_,_,_,e,_⟩:=x;exact yF e
 |own y=>obtain⟨_,e⟩:=x;exact yF e
 |xd fs=>obtain⟨_,⟨_,_,_,e,_⟩,_⟩:=x;exact yF e
 |rng lo hi=>obtain⟨_,_,_,e⟩:=x;exact yF e
 |frz ob u=>obtain⟨e,_⟩:=x;exact yF e
 |tbl ps=>exact yF (show h.get? a=some _ from x)
 |met f y=>exact yF (show h.get? a=some _ from x)
 |ext φ=>obtain⟨_,⟨_,e⟩,_⟩:=x;exact yF e
theorem Paired.mapP{α β:Type}{F G:α->β->Prop}:∀{l₁:List α}{l₂:List β},Paired F l₁ l₂->(∀a b,F a b->G a b)->Paired G l₁ l₂
 |_,_,.nil,_=>.nil
 |_,_,.cons r t,f=>.cons (f _ _ r) (Paired.mapP t f)
theorem W4.stay(x:W4 P w H h a o)(k:∀b u,(b=a\/H b=some (.own a))->h.get? b=some u->h'.get? b=some u)
  (ho:∀b,H b=some (.own a)->H' b=some (.own a)) (ht:∀b xs,H b=some (.tup xs)->H' b=some (.tup xs)):W4 P w H' h' a o:=by
 induction o with
 |lst xs=>obtain⟨z,its,n,r,e⟩:=x;exact⟨z,its,n,r,k _ _ (.inl rfl) e⟩
 |tup xs=>obtain⟨z,its,r,ob,e,c⟩:=x;exact⟨z,its,r,ob,k _ _ (.inl rfl) e,c⟩
 |dK kvs=>obtain⟨z,y,vs,r,ob,es,ep,e,c⟩:=x;exact⟨z,y,vs,r,ob,es,ep,k _ _ (.inl rfl) e,c⟩
 |dT kvs=>
  obtain⟨z,y,xs,r,ob,es,ep,e,c⟩:=x;exact⟨z,y,xs,Paired.mapP r λp q z=>⟨z.1,ht _ _ z.2.1,z.2.2⟩,ob,es,ep,k _ _ (.inl rfl) e,c⟩
 |set S n=>obtain⟨ob,es,ep,t,e,c⟩:=x;exact⟨ob,es,ep,t,k _ _ (.inl rfl) e,c⟩
 |ins C dx fs=>
  obtain⟨d,z,ne,e,mA,⟨od,es,ep,e2,c⟩,r⟩:=x;exact⟨ho _ d,z,ne,k _ _ (.inl rfl) e,mA,⟨od,es,ep,k _ _ (.inr d) e2,c⟩,r⟩
 |own y=>obtain⟨ob,e⟩:=x;exact⟨ob,k _ _ (.inl rfl) e⟩
 |xd fs=>obtain⟨mA,⟨od,es,ep,e,c⟩,r⟩:=x;exact⟨mA,⟨od,es,ep,k _ _ (.inl rfl) e,c⟩,r⟩
 |rng lo hi=>obtain⟨t,u,v,e⟩:=x;exact⟨t,u,v,k _ _ (.inl rfl) e⟩
 |frz ob u ih=>obtain⟨e,q⟩:=x;exact⟨k _ _ (.inl rfl) e,ih q⟩
 |tbl ps=>
  have e:h.get? a=some { cls:=.none,data:=.fields ps }:=x;show h'.get? a=some { cls:=.none,data:=.fields ps };exact k a _ (.inl rfl) e
 |met f y=>
  have e:h.get? a=some (ydf (.ref f) (.ref y)):=x;show h'.get? a=some (ydf (.ref f) (.ref y));exact k a _ (.inl rfl) e
 |ext φ=>obtain⟨p,⟨o,e⟩,st⟩:=x;exact⟨st _ _ p λo q=>k _ _ (.inl rfl) q,⟨o,k _ _ (.inl rfl) e⟩,st⟩
theorem HOk.lt(x:HOk P w H h)(e:H a=some o):a<h.objs.size:=(x a o e).lt
theorem HOk.fresh(x:HOk P w H h)(e:h.objs.size<=a):H a=none:=by
 cases q:H a with
 |none=>rfl
 |some u=>exact absurd (ja (x.lt q) e) (jY _)
theorem HOk.kept(x:HOk P w H h)(k:∀b u,h.get? b=some u->h'.get? b=some u):HOk P w H h':=λa o e=>
 (x a o e).stay (λb u _ q=>k b u q) (λ_ q=>q) λ_ _ q=>q
theorem HOk.laid(x:HOk P w H h)(k:∀b u,h.get? b=some u->h'.get? b=some u)(hp:h.objs.size<=a)(new:W4 P w (upd H a o) h' a o):HOk P w (upd H a o) h':=λb u e=>by
 have hn:=x.fresh hp;by_cases hb:b=a
 ·subst hb;rw[Zw]at e;cases e;exact new
 ·rw[Zu hb]at e;exact(x b u e).stay (λc v _ q=>k c v q) (λc q=>by rw[Zu (Z3 q hn)];exact q) λc xs q=>by rw[Zu (Z3 q hn)];exact q
end
def Rd(H:Hp)(a:yc)(u:HO):Prop:=H a=some u\/∃o,H a=some (.frz o u)
theorem Rd.ok{P:y6}{w:y0}{H:Hp}{h:yd}{a:yc}{u:HO}(r:Rd H a u)(x:HOk P w H h):W4 P w H h a u:=by
 rcases r with r|⟨o,r⟩
 ·exact x a u r
 ·obtain⟨_,q⟩:=x a _ r;exact q
def Mut:Option HO->Prop
 |some (.lst _)=>True
 |some (.dK _)=>True
 |some (.dT _)=>True
 |some (.set _ _)=>True
 |some (.ins _ _ _)=>True
 |some (.ext _)=>True
 |_=>False
section
variable {P:y6}{w:y0}{H:Hp}{h h':yd}{x e:yc}{o':HO}
theorem HOk.write(ok:HOk P w H h)(mu:Mut (H x))(he:e=x\/H e=some (.own x))(k:∀b u,b≠e->h.get? b=some u->h'.get? b=some u)(heo:∃u,h'.get? e=some u)
  (new:W4 P w (upd H x o') h' x o'):HOk P w (upd H x o') h':=λb u q=>by
 have nown:∀c y,H c=some (.own y)->c≠x:=λc y r z=>by subst z;rw[r]at mu;exact mu
 have ntup:∀c xs,H c=some (.tup xs)->c≠x:=λc xs r z=>by subst z;rw[r]at mu;exact mu
 by_cases hb:b=x
 ·subst hb;rw[Zw]at q;cases q;exact new
 ·rw[Zu hb]at q;by_cases hbe:b=e
  ·have q':H b=some (.own x):=by
    rcases he with z|z
    ·exact absurd (hbe.trans z) hb
    ·rw[hbe];exact z
   rw[q]at q';cases q';obtain⟨v,hv⟩:=heo;exact⟨v,by rw[hbe];exact hv⟩
  ·refine(ok b u q).stay (λc v hc r=>k c v ?_ r) (λc r=>by rw[Zu (nown c b r)];exact r) λc xs r=>by rw[Zu (ntup c xs r)];exact r
   rcases hc with rfl|hc
   ·exact hbe
   ·rintro rfl
    rcases he with z|z
    ·exact nown c b hc z
    ·rw[hc]at z;cases z;exact hb rfl
end
structure Un(fs ex:List yc)(H H':Hp)(h h':yd):Prop where
 keep:∀b o,h.get? b=some o->H b=none->b∉fs->b∉ex->h'.get? b=some o
 slot:∀b o,h.get? b=some o->H b=none->b∈fs->b∉ex->∃sl,h'.get? b=some { o with slots:=sl }
 free:∀b o,h.get? b=some o->H b=none->b∉ex->H' b=none
 there:∀b o,h.get? b=some o->b∉ex->∃o',h'.get? b=some o'
 tups:∀b xs,H b=some (.tup xs)->H' b=some (.tup xs)
 frzs:∀b o u,H b=some (.frz o u)->H' b=some (.frz o u)
 tbls:∀b ps,H b=some (.tbl ps)->∃more,H' b=some (.tbl (ps++more))
section
variable {fs fs' ex ex':List yc}{H H1 H2:Hp}{h h1 h2 h':yd}{a x e:yc}{o:HO}
theorem Un.any(u:Un fs ex H H1 h h1){b:yc}{ob:Obj}(q:h.get? b=some ob)(n:H b=none)(hx:b∉ex):∃sl,h1.get? b=some { ob with slots:=sl }:=by
 by_cases hb:b∈fs
 ·exact u.slot b ob q n hb hx
 ·exact⟨ob.slots,u.keep b ob q n hb hx⟩
theorem Un.kept(k:∀b u,h.get? b=some u->h'.get? b=some u):Un fs ex H H h h':=
 ⟨λb ob q _ _ _=>k b ob q,λb ob q _ _ _=>⟨ob.slots,k b ob q⟩,λ_ _ _ n _=>n,λb ob q _=>⟨ob,k b ob q⟩,λ_ _ q=>q,λ_ _ _ q=>q,λ_ ps q=>⟨#[],by rw[q];simp⟩⟩
theorem Un.refl:Un fs ex H H h h:=Un.kept λ_ _ q=>q
theorem Un.laid(k:∀b u,h.get? b=some u->h'.get? b=some u)(hp:h.objs.size<=a)(hn:H a=none):Un fs ex H (upd H a o) h h' where
 keep:=λb u q _ _ _=>k b u q
 slot:=λb u q _ _ _=>⟨u.slots,k b u q⟩
 free:=λb u q n _=>by rw[Zu (yU (ja (yF q) hp))];exact n
 there:=λb u q _=>⟨u,k b u q⟩
 tups:=λb xs q=>by rw[Zu (Z3 q hn)];exact q
 frzs:=λb u xs q=>by rw[Zu (Z3 q hn)];exact q
 tbls:=λb ps q=>⟨#[],by rw[Zu (Z3 q hn),q];simp⟩
theorem Un.write(mu:Mut (H x))(he:e=x\/H e=some (.own x))(k:∀b u,b≠e->h.get? b=some u->h'.get? b=some u)(heo:∃u,h'.get? e=some u):Un fs ex H (upd H x o) h h':=by
 have hx:∀b,H b=none->b≠x:=λb n z=>by subst z;rw[n]at mu;exact mu
 have hb:∀b,H b=none->b≠e:=λb n z=>by
  subst z;rcases he with r|r
  ·exact hx b n r
  ·rw[n]at r;cases r
 have hm:∀b u,H b=some u->¬Mut (some u)->b≠x:=λb u q nm z=>by subst z;rw[q]at mu;exact nm mu
 refine⟨λb u q n _ _=>k b u (hb b n) q,λb u q n _ _=>⟨u.slots,k b u (hb b n) q⟩,λb u q n _=>by rw[Zu (hx b n)];exact n,λb u q _=>?_,
  λb xs q=>by rw[Zu (hm b _ q λz=>z)];exact q,λb u xs q=>by rw[Zu (hm b _ q λz=>z)];exact q,λb ps q=>⟨#[],by rw[Zu (hm b _ q λz=>z),q];simp⟩⟩
 by_cases hbe:b=e
 ·subst hbe;exact heo
 ·exact⟨u,k b u hbe q⟩
end
def trk(h:yd)(H:Hp):List yc:=(y4 h.objs.size).filter λa=>(H a).isSome
def hidT(h:yd)(H:Hp):yd:=qg h (trk h H)
theorem zlI(h:yd)(H:Hp):(hidT h H).objs.size=h.objs.size:=PySem.W.hideAll_size _ _
theorem hidT_get{h:yd}{H:Hp}{b:yc}{o:Obj}(e:h.get? b=some o)(n:H b=none):(hidT h H).get? b=some o:=
 yc8 _ e λhm=>by
  have q:(H b).isSome=true:=(j8.mp hm).2;rw[n]at q;simp at q
theorem of_hidT{h:yd}{H:Hp}{b:yc}{o:Obj}(e:(hidT h H).get? b=some o):h.get? b=some o/\H b=none:=by
 have e':h.get? b=some o:=yc9 (trk h H) e;refine⟨e',?_⟩;cases q:H b with
 |none=>rfl
 |some x=>
  have hm:b∈trk h H:=j8.mpr ⟨jq.mpr (yF e'),by simp[q]⟩
  have z:(hidT h H).get? b=none:=yc6 (trk h H) hm;rw[z]at e;cases e
structure Mod(K:yh)(mg:Str->Option yb)(base:yd):Prop where
 kin:K.In base
 glob:base.Ns yn mg
 blt:∃mb,base.Ns yah mb/\∀x:Str,x≠"__name__" -> mb x=yP x
 nolimit:base.NoLimit
structure Cx where
 prog:y6
 w:y0
 K:yh
 mg:Str->Option yb
 base:yd
 A:yD
 N:List Str
 s₀:ye
 H₀:Hp
 env:Env
 outer:List Env
 stack:List Env
 ex:List yc
 fn:Str->Bool
 calm:Bool
 pn:List (yc×Obj)
 xe:yb->ye->Prop
def frs(l:List Env):List yc:=l.filterMap (·.frame)
abbrev Cx.fs(X:Cx):List yc:=frs X.outer
def Vis(sc:yJ)(x:Str):Prop:=sc.names.lookup x=some .local\/sc.names.lookup x=some .cell\/sc.names.lookup x=some .free
def Loc(sc:yJ)(x:Str):Prop:=sc.names.lookup x=some .local\/sc.names.lookup x=some .cell
def Look(env:Env)(h:yd)(m:Str->Option yb)(x:Str)(u:yb):Prop:=(env.kindOf x=some .local/\m x=some u)\/((env.kindOf x=some .cell\/env.kindOf x=some .free)/\∃c,env.cells.lookup x=some c/\h.IsCell c (some u))
structure Cx.Ok(X:Cx):Prop where
 mod:Mod X.K X.mg X.base
 kind:X.env.scope.kind=.function
 glob:X.env.globals=yn
 blt:X.env.builtins=yah
 above:X.s₀.heap.objs.size<=X.env.locals
 inj:∀x y c,X.env.cells.lookup x=some c->X.env.cells.lookup y=some c->x=y
 has:∀x,(X.env.kindOf x=some .cell\/X.env.kindOf x=some .free)->∃c,X.env.cells.lookup x=some c
 cab:∀x c,X.fn x=true->X.env.cells.lookup x=some c->X.s₀.heap.objs.size<=c
 hd:X.calm=true->X.A.handled=none
 frames:X.A.frames=some X.stack
 stk:X.stack=X.outer\/(X.stack=X.env::X.outer/\X.env.frame=some X.env.locals)
 exf:∀b∈X.ex,b≠X.env.locals/\∀x c,X.env.cells.lookup x=some c->c≠b
 bs:∀b o,X.base.get? b=some o->X.s₀.heap.get? b=some o/\X.H₀ b=none
 bsz:X.base.objs.size<=X.s₀.heap.objs.size
 noex:∀b o,X.base.get? b=some o->b∉X.ex
 exfs:∀b∈X.ex,b∉X.fs
 funs:X.s₀.heap.FunFrames X.base X.outer
 frf:∀b∈X.fs,X.H₀ b=none
structure Inv(X:Cx)(pins:List (yc×Obj))(σ:List (Option V))(H:Hp)(s:ye):Prop where
 ok:X.Ok
 os:s.os=X.s₀.os
 bare:AllBare s.gens
 base:Un X.fs X.ex X.H₀ H X.s₀.heap s.heap
 loc:∃m,s.heap.Ns X.env.locals m/\∀(i:Nat) (x:Str) (v:V),X.N[i]? = some x->σ[i]? = some (some v)->Vis X.env.scope x->∃u,ax v u/\Look X.env s.heap m x u
 cell:∀x c,X.env.cells.lookup x=some c->∃v,s.heap.IsCell c v
 free:H X.env.locals=none
 freeC:∀x c,X.env.cells.lookup x=some c->H c=none
 pin:∀p∈X.pn++pins,s.heap.get? p.1=some p.2/\H p.1=none/\p.1≠X.env.locals/\p.1∉X.fs/\∀v,p.2.data≠.cell v
 hok:HOk X.prog X.w H s.heap
 len:σ.length=X.N.length
section
variable {X:Cx}{pins:List (yc×Obj)}{σ:List (Option V)}{H H':Hp}{s:ye}{h':yd}
theorem Cx.Ok.nofr(ok:X.Ok){b:yc}{o:Obj}(e:X.base.get? b=some o):b∉X.fs:=λhb=>by
 have:=(ok.funs.mem hb).1;rw[e]at this;cases this
theorem Inv.bs(I:Inv X pins σ H s):∀b o,X.base.get? b=some o->s.heap.get? b=some o/\H b=none:=λb o e=>
 ⟨I.base.keep b o (I.ok.bs b o e).1 (I.ok.bs b o e).2 (I.ok.nofr e) (I.ok.noex b o e),I.base.free b o (I.ok.bs b o e).1 (I.ok.bs b o e).2 (I.ok.noex b o e)⟩
theorem Inv.bk(I:Inv X pins σ H s):∀b o,X.base.get? b=some o->s.heap.get? b=some o:=λb o e=>(I.bs b o e).1
theorem Inv.mod(I:Inv X pins σ H s):Mod X.K X.mg X.base:=I.ok.mod
theorem Inv.kIn(I:Inv X pins σ H s):X.K.In s.heap:=I.ok.mod.kin.keeps I.bk
theorem Inv.nolimit(I:Inv X pins σ H s):s.heap.NoLimit:=I.ok.mod.nolimit.keeps I.bk
theorem Inv.lt(I:Inv X pins σ H s):X.env.locals<s.heap.objs.size:=let⟨_,hn,_⟩:=I.loc;hn.lt
theorem Inv.sz(I:Inv X pins σ H s):X.s₀.heap.objs.size<=s.heap.objs.size:=yE I.ok.above (jB I.lt)
theorem Inv.nofs(I:Inv X pins σ H s){a:yc}(h:s.heap.objs.size<=a):a∉X.fs:=λhb=>by
 obtain⟨_,o,ho,_⟩:=I.ok.funs.mem hb;exact absurd (ja (yF ho) (yE I.sz h)) (jY _)
theorem Inv.cne(I:Inv X pins σ H s):∀x c,X.env.cells.lookup x=some c->c≠X.env.locals:=λx c e z=>by
 obtain⟨v,o,ho,hd⟩:=I.cell x c e;obtain⟨m,⟨o',es,ep,ho',hd',_⟩,_⟩:=I.loc;rw[z,ho']at ho;cases ho;rw[hd']at hd;cases hd
theorem Inv.funs(I:Inv X pins σ H s):s.heap.FunFrames X.base X.outer:=by
 have all:∀(l:List Env),(∀b∈frs l,b∈X.fs)->X.s₀.heap.FunFrames X.base l->s.heap.FunFrames X.base l:=by
  intro l
  induction l with
  |nil=>intro _ _;trivial
  |cons env r ih=>
   intro hs hl;obtain⟨hk,⟨L,o,hf,hn,ho,hd⟩,hr⟩:=hl;have hL:L∈X.fs:=hs L (by unfold frs;rw[ybq,hf];exact yX)
   obtain⟨sl,e⟩:=I.base.slot L o ho (I.ok.frf L hL) hL λz=>I.ok.exfs L z hL
   exact⟨hk,⟨L,_,hf,hn,e,hd⟩,ih (λb hb=>hs b (by unfold frs;rw[ybq,hf];exact yS _ hb)) hr⟩
 exact all X.outer (λ_ hb=>hb) I.ok.funs
theorem Inv.stack(I:Inv X pins σ H s):s.heap.FunFrames X.base X.stack:=by
 rcases I.ok.stk with e|⟨e,hf⟩
 ·rw[e];exact I.funs
 ·rw[e];obtain⟨m,hn,_⟩:=I.loc;refine .cons (by rw[I.ok.kind];decide) hf hn ?_ I.funs
  exact yd.get?_none_of_le (yE I.ok.bsz I.ok.above)
theorem Inv.stkSub(I:Inv X pins σ H s):∀b∈frs X.stack,b∈X.env.locals::X.fs:=λb hb=>by
 rcases I.ok.stk with e|⟨e,hf⟩
 ·rw[e]at hb;exact yS _ hb
 ·rw[e]at hb;unfold frs at hb;rw[ybq,hf]at hb;exact hb
theorem Inv.stkFree(I:Inv X pins σ H s):∀b∈frs X.stack,H b=none:=λb hb=>by
 rcases yG.mp (I.stkSub b hb) with e|hb
 ·rw[e];exact I.free
 ·obtain⟨_,o,ho,_⟩:=I.ok.funs.mem hb;exact I.base.free b o ho (I.ok.frf b hb) λz=>I.ok.exfs b z hb
theorem Inv.step{g':Array GenState}{t':Nat}{d':Drawn}{ch:List yc}(I:Inv X pins σ H s)
  (hch:∀b∈ch,(b∈X.ex\/X.s₀.heap.objs.size<=b)/\b≠X.env.locals/\(∀x c,X.env.cells.lookup x=some c->c≠b)/\∀p∈X.pn++pins,p.1≠b)
  (keep:∀b o,b≠X.env.locals->b∉X.fs->b∉ch->s.heap.get? b=some o->H b=none->h'.get? b=some o)
  (slot:∀b o,b≠X.env.locals->b∈X.fs->b∉ch->s.heap.get? b=some o->H b=none->∃sl,h'.get? b=some { o with slots:=sl }) (free:∀b o,b∉ch->s.heap.get? b=some o->H b=none->H' b=none)
  (there:∀b o,b∉ch->s.heap.get? b=some o->∃o',h'.get? b=some o')
  (tups:∀b xs,H b=some (.tup xs)->H' b=some (.tup xs)) (frzs:∀b o u,H b=some (.frz o u)->H' b=some (.frz o u)) (tbls:∀b ps,H b=some (.tbl ps)->∃more,H' b=some (.tbl (ps++more)))
  (ns:∀m,s.heap.Ns X.env.locals m->h'.Ns X.env.locals m) (hok:HOk X.prog X.w H' h') (hg:AllBare g'):
  Inv X pins σ H' { s with heap:=h',gens:=g',drawn:=d',toks:=t' }:=by
 have neL:∀b o,X.s₀.heap.get? b=some o->b≠X.env.locals:=λb o e=>yU (ja (yF e) I.ok.above)
 have neC:∀b o,X.s₀.heap.get? b=some o->b∉X.ex->b∉ch:=λb o e hx hb=>by
  rcases(hch b hb).1 with z|z
  ·exact hx z
  ·exact absurd (ja (yF e) z) (jY _)
 have cellK:∀x c,X.env.cells.lookup x=some c->∀v,s.heap.IsCell c v->h'.IsCell c v:=λx c e v ⟨o,ho,hd⟩=>by
  have nch:c∉ch:=λz=>(hch c z).2.2.1 x c e rfl
  by_cases hc:c∈X.fs
  ·obtain⟨sl,q⟩:=slot c o (I.cne x c e) hc nch ho (I.freeC x c e);exact⟨_,q,hd⟩
  ·exact⟨o,keep c o (I.cne x c e) hc nch ho (I.freeC x c e),hd⟩
 refine⟨I.ok,I.os,hg,⟨λb o e n hb hx=>?_,λb o e n hb hx=>?_,λb o e n hx=>?_,λb o e hx=>?_,λb xs e=>tups b xs (I.base.tups b xs e),λb o xs e=>frzs b o xs (I.base.frzs b o xs e),λb ps e=>?_⟩,?_,λx c e=>?_,?_,λx c e=>?_,λp hp=>?_,hok,I.len⟩
 ·exact keep b o (neL b o e) hb (neC b o e hx) (I.base.keep b o e n hb hx) (I.base.free b o e n hx)
 ·obtain⟨sl,e1⟩:=I.base.slot b o e n hb hx;obtain⟨sl',e2⟩:=slot b _ (neL b o e) hb (neC b o e hx) e1 (I.base.free b o e n hx);exact⟨sl',e2⟩
 ·obtain⟨o',e1⟩:=I.base.there b o e hx;exact free b o' (neC b o e hx) e1 (I.base.free b o e n hx)
 ·obtain⟨o',e1⟩:=I.base.there b o e hx;exact there b o' (neC b o e hx) e1
 ·obtain⟨m1,e1⟩:=I.base.tbls b ps e;obtain⟨m2,e2⟩:=tbls b _ e1;exact⟨m1++m2,by rw[e2,Array.append_assoc]⟩
 ·obtain⟨m,hn,hl⟩:=I.loc;refine⟨m,ns m hn,λi x v e1 e2 e3=>?_⟩
  obtain⟨u,r,l⟩:=hl i x v e1 e2 e3;refine⟨u,r,?_⟩;rcases l with l|⟨k,c,e,z⟩
  ·exact .inl l
  ·exact .inr ⟨k,c,e,cellK x c e _ z⟩
 ·obtain⟨v,z⟩:=I.cell x c e;exact⟨v,cellK x c e v z⟩
 ·obtain⟨m,⟨o,_,_,ho,_⟩,_⟩:=I.loc;exact free _ o (λz=>(hch _ z).2.1 rfl) ho I.free
 ·obtain⟨v,o,ho,hd⟩:=I.cell x c e;exact free c o (λz=>(hch c z).2.2.1 x c e rfl) ho (I.freeC x c e)
 ·obtain⟨e,n,ne,nf,d⟩:=I.pin p hp;have nch:p.1∉ch:=λz=>(hch p.1 z).2.2.2 p hp rfl
  exact⟨keep p.1 p.2 ne nf nch e n,free p.1 p.2 nch e n,ne,nf,d⟩
theorem Inv.un{t':Nat}(I:Inv X pins σ H s)(u:Un X.fs [] H H' s.heap h')(hok:HOk X.prog X.w H' h'):Inv X pins σ H' { s with heap:=h',toks:=t' }:=by
 obtain⟨m,⟨o,es,ep,ho,r⟩,_⟩:=id I.loc;obtain⟨sl,hL⟩:=u.any ho I.free (by simp)
 exact I.step (g':=s.gens) (d':=s.drawn) (ch:=[]) (λ_ z=>nomatch z) (λb o _ hb _ e n=>u.keep b o e n hb (by simp)) (λb o _ hb _ e n=>u.slot b o e n hb (by simp)) (λb o _ e n=>u.free b o e n (by simp)) (λb o _ e=>u.there b o e (by simp)) u.tups u.frzs u.tbls (λm' hm=>by
  obtain⟨o',es',ep',ho',r'⟩:=hm;rw[ho]at ho';cases ho';exact⟨_,es',ep',hL,r'⟩) hok I.bare
theorem Inv.call{g':Array GenState}{t':Nat}{d':Drawn}{ch:List yc}(I:Inv X pins σ H s)(u:Un (frs X.stack) ch H H' s.heap h')(hok:HOk X.prog X.w H' h')(hg:AllBare g')
  (hch:∀b∈ch,(b∈X.ex\/X.s₀.heap.objs.size<=b)/\b≠X.env.locals/\(∀x c,X.env.cells.lookup x=some c->c≠b)/\∀p∈X.pn++pins,p.1≠b):
  Inv X pins σ H' { s with heap:=h',gens:=g',drawn:=d',toks:=t' }:=by
 obtain⟨m,⟨o,es,ep,ho,r⟩,_⟩:=id I.loc;obtain⟨sl,hL⟩:=u.any ho I.free λz=>(hch _ z).2.1 rfl
 exact I.step (ch:=ch) hch (λb o hL hb hc e n=>u.keep b o e n (λz=>(yG.mp (I.stkSub b z)).elim hL hb) hc) (λb o _ _ hc e n=>u.any e n hc) (λb o hc e n=>u.free b o e n hc) (λb o hc e=>u.there b o e hc) u.tups u.frzs u.tbls (λm' hm=>by
  obtain⟨o',es',ep',ho',r'⟩:=hm;rw[ho]at ho';cases ho';exact⟨_,es',ep',hL,r'⟩) hok hg
theorem Inv.turned{t':Nat}{it:yc}(I:Inv X pins σ H s)(k:∀b o,b≠it->s.heap.get? b=some o->h'.get? b=some o)(hn:H it=none)(hL:it≠X.env.locals)
  (h1:it∈X.ex\/X.s₀.heap.objs.size<=it) (h2:∀x c,X.env.cells.lookup x=some c->c≠it) (h3:∀p∈X.pn++pins,p.1≠it):Inv X pins σ H { s with heap:=h',toks:=t' }:=by
 have nit:∀b u,H b=some u->b≠it:=λb u e z=>by rw[z,hn]at e;cases e
 refine I.step (g':=s.gens) (d':=s.drawn) (ch:=[it]) (λb hb=>?_) (λb o _ _ hc e _=>k b o (λz=>hc (by simp[z])) e) (λb o _ _ hc e _=>⟨o.slots,k b o (λz=>hc (by simp[z])) e⟩) (λ_ _ _ _ n=>n)
  (λb o hc e=>⟨o,k b o (λz=>hc (by simp[z])) e⟩) (λ_ _ e=>e) (λ_ _ _ e=>e) (λb ps e=>⟨#[],by rw[e];simp⟩) (λm hm=>?_) (λb u e=>?_) I.bare
 ·have e:b=it:=by simpa using hb
  subst e;exact⟨h1,hL,h2,h3⟩
 ·obtain⟨o,es,ep,ho,r⟩:=hm;exact⟨o,es,ep,k _ o (Ne.symm hL) ho,r⟩
 ·refine(I.hok b u e).stay (λc v hc q=>k c v ?_ q) (λ_ q=>q) λ_ _ q=>q
  rcases hc with z|z
  ·rw[z];exact nit b u e
  ·exact nit c _ z
theorem Inv.tok(I:Inv X pins σ H s)(t:Nat):Inv X pins σ H { s with toks:=t }:=I.un (h':=s.heap) (t':=t) Un.refl I.hok
theorem Inv.kept{t':Nat}(I:Inv X pins σ H s)(k:∀b u,s.heap.get? b=some u->h'.get? b=some u):Inv X pins σ H { s with heap:=h',toks:=t' }:=I.un (Un.kept k) (I.hok.kept k)
theorem Inv.laid{a:yc}{o:HO}{t':Nat}(I:Inv X pins σ H s)(k:∀b u,s.heap.get? b=some u->h'.get? b=some u)(hp:s.heap.objs.size<=a)(new:W4 X.prog X.w (upd H a o) h' a o):
  Inv X pins σ (upd H a o) { s with heap:=h',toks:=t' }:=I.un (Un.laid k hp (I.hok.fresh hp)) (I.hok.laid k hp new)
theorem Inv.write{x e:yc}{o:HO}{t':Nat}(I:Inv X pins σ H s)(mu:Mut (H x))(he:e=x\/H e=some (.own x))(k:∀b u,b≠e->s.heap.get? b=some u->h'.get? b=some u)(heo:∃u,h'.get? e=some u)
  (new:W4 X.prog X.w (upd H x o) h' x o):Inv X pins σ (upd H x o) { s with heap:=h',toks:=t' }:=I.un (Un.write mu he k heo) (I.hok.write mu he k heo new)
theorem Inv.pins_of{pins':List (yc×Obj)}(I:Inv X pins σ H s)(h:∀p∈pins',s.heap.get? p.1=some p.2/\H p.1=none/\p.1≠X.env.locals/\p.1∉X.fs/\∀v,p.2.data≠.cell v):Inv X pins' σ H s:=
 ⟨I.ok,I.os,I.bare,I.base,I.loc,I.cell,I.free,I.freeC,λp hp=>(jN.mp hp).elim (λz=>I.pin p (yad _ z)) (h p),I.hok,I.len⟩
theorem zir{N:List Str}(hN:N.Nodup){i j:Nat}{x:Str}(a:N[i]? = some x)(b:N[j]? = some x):i=j:=by
 obtain⟨h1,e1⟩:=yV.mp a;obtain⟨h2,e2⟩:=yV.mp b;exact(List.getElem_inj hN).mp (e1.trans e2.symm)
theorem zf3{M:Model}{A:yD}{E:yb->ye->Prop}{i:Nat}{x:Str}{v:V}{u:yb}{Q:Unit->ye->Prop}(I:Inv X pins σ H s)(hN:X.N.Nodup)(hi:X.N[i]? = some x)(hx:Loc X.env.scope x)(r:ax v u)
  (h:∀s',Inv X pins (σ.set i (some v)) H s'->(∃a,qz a s.heap s'.heap/\(a=X.env.locals\/X.env.cells.lookup x=some a))->Q () s') (hf:X.fn x=true\/X.env.scope.names.lookup x=some .local:=by first|exact .inl rfl|exact .inr rfl|assumption):yi M A (storeName X.env x u) Q E s:=by
 obtain⟨m,hn,hl⟩:=id I.loc;have hcls:(X.env.scope.kind == .class || (X.env.scope.kind == .module && X.env.locals != X.env.globals))=false:=by rw[I.ok.kind];rfl
 have hiσ:i<σ.length:=by rw[I.len];exact(yV.mp hi).1
 have cne:=I.cne;have tracked:∀{a:yc}{h':yd},(∃o,s.heap.get? a=some o/\H a=none)->qz a s.heap h'->HOk X.prog X.w H h':=λ{a h'} ha hs b ob e=>by
  obtain⟨_,_,hfree⟩:=ha;refine(I.hok b ob e).stay (λc w' hc q=>(hs.2 c ?_).trans q) (λ_ q=>q) λ_ _ q=>q
  rintro rfl
  rcases hc with rfl|hc
  ·rw[hfree]at e;cases e
  ·rw[hfree]at hc;cases hc
 rcases hx with hk|hk
 ·refine wpAny_storeName_local hk hn (λh' hn' hs=>?_) hcls
  obtain⟨oL,_,_,hoL,_⟩:=id hn;refine h _ ⟨I.ok,I.os,I.bare,⟨λb o e n hb hx=>?_,λb o e n hb hx=>?_,I.base.free,λb o e hx=>?_,I.base.tups,I.base.frzs,I.base.tbls⟩,⟨_,hn',λj y v' e1 e2 e3=>?_⟩,λy c e=>?_,I.free,I.freeC,λp hp=>?_,tracked ⟨oL,hoL,I.free⟩ hs,by simpa using I.len⟩ ⟨_,hs,.inl rfl⟩
  ·exact(hs.2 b (yU (ja (yF e) I.ok.above))).trans (I.base.keep b o e n hb hx)
  ·obtain⟨sl,e1⟩:=I.base.slot b o e n hb hx;exact⟨sl,(hs.2 b (yU (ja (yF e) I.ok.above))).trans e1⟩
  ·obtain⟨o',e1⟩:=I.base.there b o e hx;exact⟨o',(hs.2 b (yU (ja (yF e) I.ok.above))).trans e1⟩
  ·by_cases hj:j=i
   ·subst hj;rw[hi]at e1;cases e1;rw[j3 hiσ]at e2;cases e2;exact⟨u,r,.inl ⟨hk,by simp⟩⟩
   ·rw[jo (Ne.symm hj)]at e2;obtain⟨u',r',q⟩:=hl j y v' e1 e2 e3;refine⟨u',r',?_⟩;rcases q with ⟨k,e⟩|⟨k,c,e,z⟩
    ·refine .inl ⟨k,?_⟩;have:y≠x:=λe=>hj (zir hN e1 (e ▸ hi))
     simp[this,e]
    ·exact .inr ⟨k,c,e,z.sameBut hs (cne y c e)⟩
  ·obtain⟨w',z⟩:=I.cell y c e;exact⟨w',z.sameBut hs (cne y c e)⟩
  ·obtain⟨e,n,ne,nf,d⟩:=I.pin p hp;exact⟨(hs.2 p.1 ne).trans e,n,ne,nf,d⟩
 ·have hfn:X.fn x=true:=by
   rcases hf with z|z
   ·exact z
   ·rw[z]at hk;cases hk
  obtain⟨c,hc⟩:=I.ok.has x (.inl hk);obtain⟨w',z⟩:=I.cell x c hc;refine wpAny_storeName_cell I.ok.kind hk hc z (λh' hc' hs=>?_)
  obtain⟨oc,hoc,hocd⟩:=id z;refine h { s with heap:=h' } ⟨I.ok,I.os,I.bare,⟨λb o e n hb hx=>?_,λb o e n hb hx=>?_,I.base.free,λb o e hx=>?_,I.base.tups,I.base.frzs,I.base.tbls⟩,⟨m,hn.sameBut hs (Ne.symm (cne x c hc)),λj y v' e1 e2 e3=>?_⟩,λy c' e=>?_,I.free,I.freeC,λp hp=>?_,tracked ⟨oc,hoc,I.freeC x c hc⟩ hs,by simpa using I.len⟩ ⟨c,hs,.inr hc⟩
  ·exact(hs.2 b (yU (ja (yF e) (I.ok.cab x c hfn hc)))).trans (I.base.keep b o e n hb hx)
  ·obtain⟨sl,e1⟩:=I.base.slot b o e n hb hx;exact⟨sl,(hs.2 b (yU (ja (yF e) (I.ok.cab x c hfn hc)))).trans e1⟩
  ·obtain⟨o',e1⟩:=I.base.there b o e hx;exact⟨o',(hs.2 b (yU (ja (yF e) (I.ok.cab x c hfn hc)))).trans e1⟩
  ·by_cases hj:j=i
   ·subst hj;rw[hi]at e1;cases e1;rw[j3 hiσ]at e2;cases e2;exact⟨u,r,.inr ⟨.inl hk,c,hc,hc'⟩⟩
   ·rw[jo (Ne.symm hj)]at e2;obtain⟨u',r',q⟩:=hl j y v' e1 e2 e3;refine⟨u',r',?_⟩;rcases q with q|⟨k,c',e,z'⟩
    ·exact .inl q
    ·refine .inr ⟨k,c',e,z'.sameBut hs ?_⟩
     rintro rfl
     exact hj (zir hN e1 (I.ok.inj _ _ _ e hc ▸ hi))
  ·by_cases hcc:c'=c
   ·subst hcc;exact⟨_,hc'⟩
   ·obtain⟨w2,z2⟩:=I.cell y c' e;exact⟨w2,z2.sameBut hs hcc⟩
  ·obtain⟨e,n,ne,nf,d⟩:=I.pin p hp;refine⟨(hs.2 p.1 ?_).trans e,n,ne,nf,d⟩;intro q;rw[q,hoc]at e;have q':oc=p.2:=jr.inj e;exact d w' (by rw[<- q'];exact hocd)
theorem zh5{M:Model}{A:yD}{E:yb->ye->Prop}{i:Nat}{x:Str}{v:V}{u:yb}{Q:Unit->ye->Prop}(I:Inv X pins σ H s)(hN:X.N.Nodup)(hi:X.N[i]? = some x)(hx:Loc X.env.scope x)(r:ax v u)
  (h:∀s',Inv X pins (σ.set i (some v)) H s'->Q () s') (hf:X.fn x=true\/X.env.scope.names.lookup x=some .local:=by first|exact .inl rfl|exact .inr rfl|assumption):yi M A (storeName X.env x u) Q E s:=
 zf3 I hN hi hx r (λs' I' _=>h s' I') hf
theorem Inv.call'{s':ye}{ch:List yc}(I:Inv X pins σ H s)(ho:s'.os=s.os)(u:Un (frs X.stack) ch H H' s.heap s'.heap)(hok:HOk X.prog X.w H' s'.heap)(hg:AllBare s'.gens)
  (hch:∀b∈ch,(b∈X.ex\/X.s₀.heap.objs.size<=b)/\b≠X.env.locals/\(∀x c,X.env.cells.lookup x=some c->c≠b)/\∀p∈X.pn++pins,p.1≠b):Inv X pins σ H' s':=by
 obtain⟨h',g',d',t',o'⟩:=s';have e:o'=s.os:=ho;subst e;exact I.call (g':=g') (t':=t') (d':=d') u hok hg hch
end
abbrev XK:=yb->Option yc->Hp->Prop
abbrev St:=List (Option V)
abbrev VK:=V->Hp->Prop
abbrev TE:=St->Hp->VK->Prop
abbrev TT:=St->Hp->(Bool->Hp->Prop)->Prop
abbrev TA:=St->Hp->(List V->Hp->Prop)->Prop
structure Ends where
 nx:St->Hp->Prop
 rt:VK
 bk:St->Hp->Prop:=λ_ _=>False
 ct:St->Hp->Prop:=λ_ _=>False
abbrev TS:=Ends->St->Hp->Prop
def EP(X:Cx)(pins:List (yc×Obj))(σ:St)(Q:VK)(u:yb)(s':ye):Prop:=∃v H',Inv X pins σ H' s'/\ax v u/\Q v H'
def TP(X:Cx)(pins:List (yc×Obj))(σ:St)(Q:Bool->Hp->Prop)(b:Bool)(s':ye):Prop:=∃H',Inv X pins σ H' s'/\Q b H'
def AP(X:Cx)(pins:List (yc×Obj))(σ:St)(Q:List V->Hp->Prop)(us:List yb)(s':ye):Prop:=∃vs H',Inv X pins σ H' s'/\Vals vs us/\Q vs H'
def SP(X:Cx)(pins:List (yc×Obj))(D:Ends)(f:Flow)(s':ye):Prop:=
 match f with
 |.next=>∃σ' H',Inv X pins σ' H' s'/\D.nx σ' H'
 |.brk=>∃σ' H',Inv X pins σ' H' s'/\D.bk σ' H'
 |.cont=>∃σ' H',Inv X pins σ' H' s'/\D.ct σ' H'
 |.ret u=>∃v σ' H',Inv X pins σ' H' s'/\ax v u/\D.rt v H'
def PE(X:Cx)(e:yj)(t:TE):Prop:=
 ∀(pins:List (yc×Obj)) (s:ye) (σ:St) (H:Hp) (Q:VK),Inv X pins σ H s->t σ H Q->yi (ym X.prog X.w) X.A (yz e X.env) (EP X pins σ Q) X.xe s
def PT(X:Cx)(e:yj)(t:TT):Prop:=
 ∀(pins:List (yc×Obj)) (s:ye) (σ:St) (H:Hp) (Q:Bool->Hp->Prop),Inv X pins σ H s->t σ H Q->yi (ym X.prog X.w) X.A (isTrue e X.env (yz e X.env)) (TP X pins σ Q) X.xe s
def PW(X:Cx)(e:yj)(t:TT):Prop:=
 ∀(whole:Sem yb) (pins:List (yc×Obj)) (s:ye) (σ:St) (H:Hp) (Q:Bool->Hp->Prop),Inv X pins σ H s->t σ H Q->yi (ym X.prog X.w) X.A (isTrue e X.env whole) (TP X pins σ Q) X.xe s
theorem PW.pt{X:Cx}{e:yj}{t:TT}(h:PW X e t):PT X e t:=h _
def PA(X:Cx)(es:List yj)(t:TA):Prop:=
 ∀(pos:Pos) (pins:List (yc×Obj)) (s:ye) (σ:St) (H:Hp) (Q:List V->Hp->Prop),Inv X pins σ H s->t σ H Q->yi (ym X.prog X.w) X.A (spliced (jc pos (yp es X.env))) (AP X pins σ Q) X.xe s
def PS(X:Cx)(st:yk)(t:TS):Prop:=
 ∀(pins:List (yc×Obj)) (s:ye) (σ:St) (H:Hp) (D:Ends),Inv X pins σ H s->t D σ H->yi (ym X.prog X.w) X.A (exec st X.env) (SP X pins D) X.xe s
def PSs(X:Cx)(st:List yk)(t:TS):Prop:=
 ∀(pins:List (yc×Obj)) (s:ye) (σ:St) (H:Hp) (D:Ends),Inv X pins σ H s->t D σ H->yi (ym X.prog X.w) X.A (execs st X.env) (SP X pins D) X.xe s
theorem thn{α:Type}{t:Sem α}{Q Q':α->ye->Prop}{M:Model}{A:yD}{E:yb->ye->Prop}{s:ye}(h:yi M A t Q E s)(hQ:∀a s,Q a s->Q' a s):yi M A t Q' E s:=yI h hQ λ_ _ x=>x
section
variable {X:Cx}
def tVar(i:Nat):TE:=λσ H Q=>∃v,σ[i]? = some (some v)/\Q v H
def tC(v:V):TE:=λ_ H Q=>Q v H
theorem QS{i:Nat}{x:Str}{pos:Pos}(hN:X.N[i]? = some x)(hv:Vis X.env.scope x)(hd:(x == ("__debug__" : Str))=false:=by decide)(hcd:(x == ("__classdict__" : Str))=false:=by decide):PE X (.Name x pos) (tVar i):=by
 intro pins s σ H Q I h;obtain⟨v,e,h⟩:=h;obtain⟨m,hn,hl⟩:=I.loc;obtain⟨u,r,l⟩:=hl i x v hN e hv;have fin:EP X pins σ Q u s:=⟨v,H,I,r,h⟩;rcases l with ⟨hk,hm⟩|⟨hk,c,hc,hcell⟩
 ·exact wpAny_Name (wpAny_loadName_local I.ok.kind hk hn hm fin) hd
 ·rcases hk with hk|hk
  ·exact wpAny_Name (wpAny_loadName_cell I.ok.kind hk hc hcell fin) hd
  ·exact wpAny_Name (wpAny_loadName_free I.ok.kind hk hc hcell fin hcd) hd
theorem pe_int{i j pos}:PE X (.Constant (.int i) j pos) (tC (.int i)):=λ_ _ _ H _ I h=>wpAny_Constant_int ⟨.int i,H,I.tok _,⟨_,rfl⟩,h⟩
theorem pe_bl{b j pos}:PE X (.Constant (.bool b) j pos) (tC (.bl b)):=λ_ _ _ H _ I h=>Constant_bool ⟨.bl b,H,I,rfl,h⟩
theorem pe_non{j pos}:PE X (.Constant .none j pos) (tC .non):=λ_ _ _ H _ I h=>Constant_none ⟨.non,H,I,rfl,h⟩
theorem pe_str{x j pos}:PE X (.Constant (.str x) j pos) (tC (.str x)):=λ_ _ _ H _ I h=>Calls.Constant_str ⟨.str x,H,I.tok _,⟨_,rfl⟩,h⟩
def Gl(X:Cx)(x:Str):Prop:=X.env.kindOf x=some .globalImplicit
theorem zby{E:yb->ye->Prop}{pins:List (yc×Obj)}{s:ye}{σ:St}{H:Hp}{x:Str}{u:yb}{pos:Pos}{Q:yb->ye->Prop}(I:Inv X pins σ H s)(hg:Gl X x)(hm:X.mg x=some u)(h:Q u s)
  (hd:(x == ("__debug__" : Str))=false:=by decide):yi (ym X.prog X.w) X.A (yz (.Name x pos) X.env) Q E s:=
 Calls.Name_function_global I.ok.kind hg (Calls.loadGlobal_global (by rw[I.ok.glob];exact I.mod.glob.keeps I.bk) hm h) hd
theorem zcN{E:yb->ye->Prop}{pins:List (yc×Obj)}{s:ye}{σ:St}{H:Hp}{x:Str}{u:yb}{pos:Pos}{Q:yb->ye->Prop}(I:Inv X pins σ H s)(hg:Gl X x)(hm:X.mg x=none)(hv:yP x=some u)(h:Q u s)
  (hn:x≠"__name__":=by decide) (hd:(x == ("__debug__" : Str))=false:=by decide):yi (ym X.prog X.w) X.A (yz (.Name x pos) X.env) Q E s:=by
 obtain⟨mb,h1,h2⟩:=I.mod.blt;exact Calls.Name_function_global I.ok.kind hg (Calls.loadGlobal_builtin (by rw[I.ok.glob];exact I.mod.glob.keeps I.bk) hm (by rw[I.ok.blt];exact h1.keeps I.bk) ((h2 x hn).trans hv) h) hd
theorem pe_glob{x:Str}{v:V}{u:yb}{pos:Pos}(hg:Gl X x)(hm:X.mg x=some u)(r:ax v u)(hd:(x == ("__debug__" : Str))=false:=by decide):PE X (.Name x pos) (tC v):=
 λ_ _ _ H _ I h=>zby I hg hm ⟨v,H,I,r,h⟩ hd
theorem pe_bltn{x:Str}{v:V}{u:yb}{pos:Pos}(hg:Gl X x)(hm:X.mg x=none)(hv:yP x=some u)(r:ax v u)(hn:x≠"__name__":=by decide)(hd:(x == ("__debug__" : Str))=false:=by decide):PE X (.Name x pos) (tC v):=
 λ_ _ _ H _ I h=>zcN I hg hm hv ⟨v,H,I,r,h⟩ hn hd
variable {a b:yj}{ta tb:TE}{pos:Pos}
def PC(X:Cx)(op:CmpOp)(a b:yj)(t:TE):Prop:=
 ∀(pins:List (yc×Obj)) (s:ye) (σ:St) (H:Hp) (Q:VK),Inv X pins σ H s->t σ H Q ->
  yi (ym X.prog X.w) X.A (yz a X.env) (λv s₁=>yi (ym X.prog X.w) X.A (yz b X.env) (λu s₂=>yi (ym X.prog X.w) X.A (ji op v u) (EP X pins σ Q) X.xe s₂) X.xe s₁) X.xe s
theorem zfk(b:yj){op:CmpOp}(h:op≠.In)(h2:op≠.NotIn):jU op b=false:=by
 have e1:(op == CmpOp.In)=false:=by cases op<;>first|rfl|exact absurd rfl h
 have e2:(op == CmpOp.NotIn)=false:=by cases op<;>first|rfl|exact absurd rfl h2
 cases b<;>simp[jU,e1,e2]
def tIsN(ta:TE):TE:=λσ H Q=>ta σ H λx H1=>Q (.bl (decide (x=.non))) H1
def tNotN(ta:TE):TE:=λσ H Q=>ta σ H λx H1=>Q (.bl (!decide (x=.non))) H1
theorem ax.none_iff{x:V}{v:yb}(r:ax x v):(v == yb.none)=decide (x=.non):=by
 cases x with
 |non=>cases r;rfl
 |bl _=>cases r;rfl
 |int _=>obtain⟨t,rfl⟩:=r;rfl
 |str _=>obtain⟨t,rfl⟩:=r;rfl
 |byt _=>obtain⟨t,rfl⟩:=r;rfl
 |flt _=>obtain⟨t,rfl⟩:=r;rfl
 |ref _=>cases r;rfl
 |ty _=>cases r;rfl
theorem pc_isN{j pos'}(ha:PE X a ta):PC X .Is a (.Constant .none j pos') (tIsN ta):=by
 intro pins s σ H Q I h;refine thn (ha pins s σ H _ I h) λv s1 ⟨x,H1,I1,r1,q1⟩=>?_
 exact Constant_none (is_none_gen ⟨.bl _,H1,I1,by rw[r1.none_iff];rfl,q1⟩)
theorem pc_notN{j pos'}(ha:PE X a ta):PC X .IsNot a (.Constant .none j pos') (tNotN ta):=by
 intro pins s σ H Q I h;refine thn (ha pins s σ H _ I h) λv s1 ⟨x,H1,I1,r1,q1⟩=>?_
 exact Constant_none (isnot_none_gen ⟨.bl _,H1,I1,by rw[r1.none_iff];rfl,q1⟩)
def tB(t:TE):TT:=λσ H Q=>t σ H λx H1=>∃c,x=.bl c/\Q c H1
theorem zkS{op:CmpOp}{t:TE}(h:PC X op a b t)(h1:jU op b=false:=by first|exact zfk _ (by decide) (by decide)|rfl):PT X (.Compare a [op] [b] pos) (tB t):=by
 intro pins s σ H Q I hw;refine wpAny_isTrue_Compare1 (thn (h pins s σ H _ I hw) λv s1 h1=>thn h1 λu s2 h2=>thn h2 λc s3 ⟨x,H1,I1,r1,q1⟩=>?_) h1
 obtain⟨d,rfl,q⟩:=q1;cases r1;exact qj ⟨H1,I1,q⟩
variable {tA tB':TT}{rest:List yj}
def tAnd(t u:TT):TT:=λσ H Q=>t σ H λc H1=>if c=true then u σ H1 Q else Q false H1
def tOr(t u:TT):TT:=λσ H Q=>t σ H λc H1=>if c=true then Q true H1 else u σ H1 Q
def aC(t:TT):TT:=λσ H Q=>t σ H λc H1=>Q (!c) H1
theorem pw_and1(ha:PT X a tA):PW X (.BoolOp .And [a] pos) tA:=by
 intro wh pins s σ H Q I h;refine isTrue_and (thn (ha pins s σ H Q I h) λc s1 e=>?_)
 cases c with
 |true=>exact isTrue_and_nil e
 |false=>exact e
theorem pw_or1(ha:PT X a tA):PW X (.BoolOp .Or [a] pos) tA:=by
 intro wh pins s σ H Q I h;refine isTrue_or (thn (ha pins s σ H Q I h) λc s1 e=>?_)
 cases c with
 |false=>exact isTrue_or_nil e
 |true=>exact e
theorem pw_and(ha:PT X a tA)(hb:PW X (.BoolOp .And (b::rest) pos) tB'):PW X (.BoolOp .And (a::b::rest) pos) (tAnd tA tB'):=by
 intro wh pins s σ H Q I h;refine isTrue_and (thn (ha pins s σ H _ I h) λc s1 ⟨H1,I1,q1⟩=>?_)
 cases c with
 |true=>exact hb wh pins s1 σ H1 Q I1 q1
 |false=>exact⟨H1,I1,q1⟩
theorem pw_or(ha:PT X a tA)(hb:PW X (.BoolOp .Or (b::rest) pos) tB'):PW X (.BoolOp .Or (a::b::rest) pos) (tOr tA tB'):=by
 intro wh pins s σ H Q I h;refine isTrue_or (thn (ha pins s σ H _ I h) λc s1 ⟨H1,I1,q1⟩=>?_)
 cases c with
 |true=>exact⟨H1,I1,q1⟩
 |false=>exact hb wh pins s1 σ H1 Q I1 q1
theorem pt_not(ha:PT X a tA):PT X (.UnaryOp .Not a pos) (aC tA):=by
 intro pins s σ H Q I h;exact isTrue_not (ha pins s σ H (λc H1=>Q (!c) H1) I h)
def tAndV(ta tb:TE):TE:=λσ H Q=>ta σ H λx H1=>∃c,x=.bl c/\if c=true then tb σ H1 Q else Q (.bl false) H1
def tOrV(ta tb:TE):TE:=λσ H Q=>ta σ H λx H1=>∃c,x=.bl c/\if c=true then Q (.bl true) H1 else tb σ H1 Q
def tNotV(ta:TE):TE:=λσ H Q=>ta σ H λx H1=>∃c,x=.bl c/\Q (.bl (!c)) H1
theorem pe_one{op}{t:TE}(h:PE X a t):PE X (.BoolOp op [a] pos) t:=λpins s σ H Q I hw=>BoolOp_one (h pins s σ H Q I hw)
theorem pe_and(ha:PE X a ta)(hb:PE X (.BoolOp .And (b::rest) pos) tb):PE X (.BoolOp .And (a::b::rest) pos) (tAndV ta tb):=by
 intro pins s σ H Q I h;refine BoolOp_and (thn (ha pins s σ H _ I h) λv s1 ⟨x,H1,I1,r1,q1⟩=>?_)
 obtain⟨c,rfl,q1⟩:=q1;cases r1;refine qj ?_;cases c with
 |true=>exact hb pins s1 σ H1 Q I1 q1
 |false=>exact⟨.bl false,H1,I1,rfl,q1⟩
theorem pe_or(ha:PE X a ta)(hb:PE X (.BoolOp .Or (b::rest) pos) tb):PE X (.BoolOp .Or (a::b::rest) pos) (tOrV ta tb):=by
 intro pins s σ H Q I h;refine BoolOp_or (thn (ha pins s σ H _ I h) λv s1 ⟨x,H1,I1,r1,q1⟩=>?_)
 obtain⟨c,rfl,q1⟩:=q1;cases r1;refine qj ?_;cases c with
 |false=>exact hb pins s1 σ H1 Q I1 q1
 |true=>exact⟨.bl true,H1,I1,rfl,q1⟩
theorem pe_not(ha:PE X a ta):PE X (.UnaryOp .Not a pos) (tNotV ta):=by
 intro pins s σ H Q I h;refine UnaryOp_ (thn (ha pins s σ H _ I h) λv s1 ⟨x,H1,I1,r1,q1⟩=>?_)
 obtain⟨c,rfl,q1⟩:=q1;cases r1;exact not_of (qj ⟨.bl (!c),H1,I1,rfl,q1⟩)
def tIf(t:TT)(ta tb:TE):TE:=λσ H Q=>t σ H λc H1=>if c=true then ta σ H1 Q else tb σ H1 Q
theorem pe_ifExp{c:yj}(hc:PT X c tA)(ha:PE X a ta)(hb:PE X b tb):PE X (.IfExp c a b pos) (tIf tA ta tb):=by
 intro pins s σ H Q I h;refine wpAny_IfExp (thn (hc pins s σ H _ I h) λd s1 ⟨H1,I1,q1⟩=>?_)
 cases d with
 |true=>exact ha pins s1 σ H1 Q I1 q1
 |false=>exact hb pins s1 σ H1 Q I1 q1
end
def SqL(K:yh)(H:Hp)(a:yc)(xs:List V):Prop:=
 Rd H a (.lst xs) \/
  ∃(o:Obj) (its:Array yb) (n:Nat),K.lookup a=some o/\o.cls=.type "list" /\ o.dict=none/\o.data=.seq its n/\its.size<=y7/\Vals xs its.toList
def SqT(K:yh)(H:Hp)(a:yc)(xs:List V):Prop:=
 Rd H a (.tup xs) \/
  ∃(o:Obj) (its:Array yb) (n:Nat),K.lookup a=some o/\o.cls=.type "tuple" /\ o.data=.seq its n/\its.size<=y7/\Vals xs its.toList
def absV:yb->Option V
 |.none=>some .non
 |.bool b=>some (.bl b)
 |.int i _=>some (.int i)
 |.str x _=>some (.str x)
 |.bytes b _=>some (.byt b)
 |.float b _=>some (.flt b)
 |.ref a=>some (.ref a)
 |.type n=>some (.ty n)
 |_=>none
theorem ax.abs{x:V}{u:yb}(r:ax x u):absV u=some x:=by
 cases x with
 |non=>cases r;rfl
 |bl _=>cases r;rfl
 |int _=>obtain⟨t,rfl⟩:=r;rfl
 |str _=>obtain⟨t,rfl⟩:=r;rfl
 |byt _=>obtain⟨t,rfl⟩:=r;rfl
 |flt _=>obtain⟨t,rfl⟩:=r;rfl
 |ref _=>cases r;rfl
 |ty _=>cases r;rfl
theorem ax.inj{x y:V}{u:yb}(r:ax x u)(q:ax y u):x=y:=jr.inj (r.abs.symm.trans q.abs)
theorem Vals.inj:∀{xs ys:List V}{us:List yb},Vals xs us->Vals ys us->xs=ys
 |_,_,_,.nil,.nil=>rfl
 |_,_,_,.cons r t,.cons r' t'=>by rw[r.inj r',Vals.inj t t']
section
variable {X:Cx}{pins:List (yc×Obj)}{σ:St}{H:Hp}{s:ye}{a:yc}{xs ys:List V}
theorem SqL.of{K:yh}(h:H a=some (.lst xs)):SqL K H a xs:=.inl (.inl h)
theorem Inv.list(I:Inv X pins σ H s)(h:SqL X.K H a xs):∃its:List yb,Vals xs its/\PlainL s.heap a its.toArray/\xs.length<=y7:=by
 rcases h with h|⟨o,its,n,hk,hc,hd,hs,hz,r⟩
 ·obtain⟨z,its,n,r,e⟩:=h.ok I.hok;exact⟨its,r,⟨_,n,e,rfl,rfl,rfl⟩,z⟩
 ·refine⟨its.toList,r,⟨o,n,I.kIn a o hk,hc,hd,by simpa using hs⟩,?_⟩
  have e:=r.length;simp only[ya0]at e;omega
theorem Inv.tuple(I:Inv X pins σ H s)(h:SqT X.K H a xs):∃its:List yb,Vals xs its/\IsTup s.heap a its.toArray/\xs.length<=y7:=by
 rcases h with h|⟨o,its,n,hk,hc,hs,hz,r⟩
 ·obtain⟨z,its,r,p⟩:=h.ok I.hok;exact⟨its,r,p,z⟩
 ·refine⟨its.toList,r,⟨o,I.kIn a o hk,hc,n,by simpa using hs⟩,?_⟩
  have e:=r.length;simp only[ya0]at e;omega
theorem Inv.list_inj(I:Inv X pins σ H s)(h:SqL X.K H a xs)(h':SqL X.K H a ys):xs=ys:=by
 obtain⟨its,r,⟨o,n,e,_,_,d⟩,_⟩:=I.list h;obtain⟨its',r',⟨o',n',e',_,_,d'⟩,_⟩:=I.list h';rw[e]at e';cases e';rw[d]at d'
 injection d' with d1 _
 have:its=its':=by simpa using congrArg Array.toList d1
 subst this;exact r.inj r'
theorem Inv.tuple_inj(I:Inv X pins σ H s)(h:SqT X.K H a xs)(h':SqT X.K H a ys):xs=ys:=by
 obtain⟨its,r,⟨o,e,_,n,d⟩,_⟩:=I.tuple h;obtain⟨its',r',⟨o',e',_,n',d'⟩,_⟩:=I.tuple h';rw[e]at e';cases e';rw[d]at d'
 injection d' with d1 _
 have:its=its':=by simpa using congrArg Array.toList d1
 subst this;exact r.inj r'
end
abbrev Cx.wish(X:Cx)(E:yb->ye->Prop):Cx:={ X with xe:=E }
abbrev Cx.nox(X:Cx):Cx:=X.wish λ_ _=>False
theorem Cx.Ok.wish{X:Cx}(ok:X.Ok)(E:yb->ye->Prop):(X.wish E).Ok:=
 ⟨ok.mod,ok.kind,ok.glob,ok.blt,ok.above,ok.inj,ok.has,ok.cab,ok.hd,ok.frames,ok.stk,ok.exf,ok.bs,ok.bsz,ok.noex,ok.exfs,ok.funs,ok.frf⟩
theorem Cx.Ok.unwish{X:Cx}{E:yb->ye->Prop}(ok:(X.wish E).Ok):X.Ok:=
 ⟨ok.mod,ok.kind,ok.glob,ok.blt,ok.above,ok.inj,ok.has,ok.cab,ok.hd,ok.frames,ok.stk,ok.exf,ok.bs,ok.bsz,ok.noex,ok.exfs,ok.funs,ok.frf⟩
section
variable {X:Cx}{pins:List (yc×Obj)}{σ:St}{H:Hp}{s:ye}{E:yb->ye->Prop}
theorem Inv.wish(I:Inv X pins σ H s)(E:yb->ye->Prop):Inv (X.wish E) pins σ H s:=⟨I.ok.wish E,I.os,I.bare,I.base,I.loc,I.cell,I.free,I.freeC,I.pin,I.hok,I.len⟩
theorem Inv.unwish(I:Inv (X.wish E) pins σ H s):Inv X pins σ H s:=⟨I.ok.unwish,I.os,I.bare,I.base,I.loc,I.cell,I.free,I.freeC,I.pin,I.hok,I.len⟩
theorem SP.unwish{D:Ends}{f:Flow}{s':ye}(h:SP (X.wish E) pins D f s'):SP X pins D f s':=by
 cases f with
 |next=>obtain⟨σ',H',I,q⟩:=h;exact⟨σ',H',I.unwish,q⟩
 |brk=>obtain⟨σ',H',I,q⟩:=h;exact⟨σ',H',I.unwish,q⟩
 |cont=>obtain⟨σ',H',I,q⟩:=h;exact⟨σ',H',I.unwish,q⟩
 |ret u=>obtain⟨v,σ',H',I,r,q⟩:=h;exact⟨v,σ',H',I.unwish,r,q⟩
theorem PSs.nox{st:List yk}{t:TS}(h:PSs X.nox st t):PSs X st t:=λpins s σ H D I hw=>
 yI (h pins s σ H D (I.wish _) hw) (λ_ _ q=>q.unwish) λ_ _ z=>False.elim z
end
section
variable {X:Cx}{st:yk}{rest:List yk}{t u:TS}{e:yj}{te:TE}{pos:Pos}
def tNext:TS:=λD σ H=>D.nx σ H
def tSeq(t u:TS):TS:=λD σ H=>t { D with nx:=u D } σ H
theorem pss_nil:PSs X [] tNext:=λ_ _ σ H _ I h=>yac ⟨σ,H,I,h⟩
theorem ze6(h1:PS X st t)(h2:PSs X rest u):PSs X (st::rest) (tSeq t u):=by
 intro pins s σ H D I h;refine ycv (thn (h1 pins s σ H { D with nx:=u D } I h) λf s1 q=>?_)
 cases f with
 |next=>
  obtain⟨σ',H',I',q⟩:=q;exact h2 pins s1 σ' H' D I' q
 |ret v=>exact q
 |brk=>exact q
 |cont=>exact q
theorem zkT(h1:PS X st t):PSs X [st] t:=by
 intro pins s σ H D I h;refine ycv (thn (h1 pins s σ H D I h) λf s1 q=>?_)
 cases f with
 |next=>exact yac q
 |ret v=>exact q
 |brk=>exact q
 |cont=>exact q
theorem Inv.quiet{pins:List (yc×Obj)}{σ:St}{H:Hp}{s:ye}(I:Inv X pins σ H s):interactive X.env=false:=by simp[interactive,I.ok.kind]
def tDrop(te:TE):TS:=λD σ H=>te σ H λ_ H1=>D.nx σ H1
theorem zhq(he:PE X e te)(hs:jz e none pos.line X.env=pure false:=by rfl):PS X (.Expr e pos) (tDrop te):=by
 intro pins s σ H D I h;exact wpAny_Expr_any (thn (he pins s σ H _ I h) λv s1 ⟨x,H1,I1,r1,q1⟩=>⟨σ,H1,I1,q1⟩) I.quiet hs
def tRet(te:TE):TS:=λD σ H=>te σ H D.rt
theorem zkV(he:PE X e te):PS X (.Return (some e) pos) (tRet te):=by
 intro pins s σ H D I h;exact wpAny_Return_some (thn (he pins s σ H _ I h) λv s1 ⟨x,H1,I1,r1,q1⟩=>⟨x,σ,H1,I1,r1,q1⟩)
def tIfS(c:TT)(t u:TS):TS:=λD σ H=>c σ H λb H1=>if b=true then t D σ H1 else u D σ H1
theorem ps_if{c:yj}{a b:List yk}{tc:TT}(hc:PT X c tc)(ha:PSs X a t)(hb:PSs X b u):PS X (.If c a b pos) (tIfS tc t u):=by
 intro pins s σ H D I h;refine wpAny_If (thn (hc pins s σ H _ I h) λd s1 ⟨H1,I1,q1⟩=>?_)
 cases d with
 |true=>exact ha pins s1 σ H1 D I1 q1
 |false=>exact hb pins s1 σ H1 D I1 q1
def tNever:TS:=λ_ _ _=>False
theorem ps_never:PS X st tNever:=λ_ _ _ _ _ _ h=>h.elim
end
abbrev TG:=V->St->Hp->(St->Hp->Prop)->Prop
abbrev TGs:=List V->St->Hp->(St->Hp->Prop)->Prop
def PG(X:Cx)(target:yj)(t:TG):Prop:=
 ∀(pins:List (yc×Obj)) (s:ye) (σ:St) (H:Hp) (v:V) (u:yb) (Q:St->Hp->Prop),Inv X pins σ H s->ax v u->t v σ H Q ->
  yi (ym X.prog X.w) X.A (jI target X.env u) (λ_ s'=>∃σ' H',Inv X pins σ' H' s'/\Q σ' H') X.xe s
def PGs(X:Cx)(ts:List yj)(t:TGs):Prop:=
 ∀(pins:List (yc×Obj)) (s:ye) (σ:St) (H:Hp) (vs:List V) (us:List yb) (Q:St->Hp->Prop),Inv X pins σ H s->Vals vs us->t vs σ H Q ->
  yi (ym X.prog X.w) X.A (assignInOrder ((j7 ts X.env).map (·.2)) us) (λ_ s'=>∃σ' H',Inv X pins σ' H' s'/\Q σ' H') X.xe s
abbrev TSet:=V->V->V->Hp->(Hp->Prop)->Prop
def PSet(X:Cx)(t:TSet):Prop:=
 ∀(pins:List (yc×Obj)) (s:ye) (σ:St) (H:Hp) (o i v:V) (ov iv u:yb) (Q:Hp->Prop),Inv X pins σ H s->ax o ov->ax i iv->ax v u->t o i v H Q ->
  yi (ym X.prog X.w) X.A (setItem ov iv u) (λ_ s'=>∃H',Inv X pins σ H' s'/\Q H') X.xe s
section
variable {X:Cx}{pos:Pos}
def gName(i:Nat):TG:=λv σ H Q=>Q (σ.set i (some v)) H
theorem zhr{i:Nat}{x:Str}(hN:X.N.Nodup)(hi:X.N[i]? = some x)(hx:Loc X.env.scope x)(hf:X.fn x=true\/X.env.scope.names.lookup x=some .local:=by first|exact .inl rfl|exact .inr rfl|assumption):PG X (.Name x pos) (gName i):=by
 intro pins s σ H v u Q I r h;exact wpAny_assign_Name (zh5 I hN hi hx r (λs' I'=>⟨_,H,I',h⟩) hf)
def gNil:TGs:=λvs σ H Q=>vs=[]/\Q σ H
def gCons(t:TG)(u:TGs):TGs:=λvs σ H Q=>∃v r,vs=v::r/\t v σ H λσ' H'=>u r σ' H' Q
theorem pgs_nil:PGs X [] gNil:=by
 intro pins s σ H vs us Q I r h;obtain⟨e,h⟩:=h;subst e;cases r;exact assignInOrder_nil ⟨σ,H,I,h⟩
theorem zik{e:yj}{es:List yj}{t:TG}{u:TGs}(h1:PG X e t)(h2:PGs X es u)
  (hs:(j7 (e::es) X.env).map (·.2)=jI e X.env::(j7 es X.env).map (·.2):=by rfl):PGs X (e::es) (gCons t u):=by
 intro pins s σ H vs us Q I r h;obtain⟨v,vr,e1,h⟩:=h;subst e1;cases r with
 |cons r rr=>
  rw[hs];refine assignInOrder_cons (thn (h1 pins s σ H _ _ _ I r h) λ_ s1 ⟨σ1,H1,I1,q1⟩=>?_)
  exact h2 pins s1 σ1 H1 _ _ Q I1 rr q1
def gTup(K:yh)(n:Nat)(t:TGs):TG:=λv σ H Q=>∃a xs,v=.ref a/\SqT K H a xs/\xs.length=n/\t xs σ H Q
theorem pg_tup{es:List yj}{k:Nat}{t:TGs}{n:Nat}(hc:X.calm=true)(h:PGs X es t)
  (hn:(j7 es X.env).length=n:=by rfl) (hst:(j7 es X.env).findIdx? (·.1)=none:=by rfl):PG X (.Tuple es k pos) (gTup X.K n t):=by
 intro pins s σ H v u Q I r hw;obtain⟨a,xs,e1,hq,hl,hw⟩:=hw;subst e1;cases r;obtain⟨its,rv,ht,hz⟩:=I.tuple hq;refine assign_Tuple_tuple (I.ok.hd hc) ht (by simp[hn,<- hl,rv.length]) hst λh' hx=>?_
 have I1:Inv X pins σ H { s with heap:=h' }:=I.kept (t':=s.toks) λb o e=>hx b o (yU (yF e)) e
 exact h pins _ σ H xs _ Q I1 (by simpa using rv) hw
def gSub(to ti:TE)(t:TSet):TG:=λv σ H Q=>to σ H λo H1=>ti σ H1 λi H2=>t o i v H2 λH3=>Q σ H3
theorem pg_sub{o i:yj}{to ti:TE}{t:TSet}(ho:PE X o to)(hi:PE X i ti)(hs:PSet X t)
  (ha:∀v,jI (.Subscript o i pos) X.env v=(do
   let ov <- jP [v] (yz o X.env)
   let iv <- jP [v,ov] (yz i X.env)
   standAt pos
   jP [v,ov,iv] (setItem ov iv v)
   release [v,ov,iv] []):=by intro _;rfl):PG X (.Subscript o i pos) (gSub to ti t):=by
 intro pins s σ H v u Q I r h;rw[ha];refine yf (qc (thn (ho pins s σ H _ I h) λov s1 ⟨x,H1,I1,r1,q1⟩=>?_))
 refine yf (qc (thn (hi pins s1 σ H1 _ I1 q1) λiv s2 ⟨y,H2,I2,r2,q2⟩=>?_))
 refine yf (ybr (yf (qc (thn (hs pins s2 σ H2 x y v ov iv u _ I2 r1 r2 r q2) λ_ s3 ⟨H3,I3,q3⟩=>?_))))
 exact wpAny_release ⟨σ,H3,I3,q3⟩
def tAsg(te:TE)(g:TG):TS:=λD σ H=>te σ H λx H1=>g x σ H1 D.nx
theorem ps_asg{tg e:yj}{te:TE}{g:TG}(he:PE X e te)(hg:PG X tg g)(hs:swapsWithSole [tg] e pos.line X.env=pure false:=by rfl)(hw:swappedStores [tg] e X.env=pure none:=by rfl)
  (h1:(j7 [tg] X.env).map (·.2)=[jI tg X.env]:=by rfl):PS X (.Assign [tg] e pos) (tAsg te g):=by
 intro pins s σ H D I h;refine wpAny_Assign_stores (thn (he pins s σ H _ I h) λv s1 ⟨x,H1,I1,r1,q1⟩=>?_) hs hw
 rw[h1];exact thn (hg pins s1 σ H1 x v _ I1 r1 q1) λ_ s2 q=>q
theorem zkU{i:Nat}{x:Str}{e:yj}{te:TE}{pos':Pos}(hN:X.N.Nodup)(hi:X.N[i]? = some x)(hx:Loc X.env.scope x)(he:PE X e te)(hs:jz e (some (.Name x pos')) pos.line X.env=pure false:=by rfl)(hf:X.fn x=true\/X.env.scope.names.lookup x=some .local:=by first|exact .inl rfl|exact .inr rfl|assumption):
  PS X (.Assign [.Name x pos'] e pos) (tAsg te (gName i)):=by
 intro pins s σ H D I h;refine wpAny_Assign_Name (thn (he pins s σ H _ I h) λv s1 ⟨y,H1,I1,r1,q1⟩=>?_) hs
 exact zh5 I1 hN hi hx r1 (λs2 I2=>⟨_,H1,I2,q1⟩) hf
end
section
variable {X:Cx}{pos:Pos}
def tWhile(c:TT)(tb:TS):TS:=λD σ H=>∃W:Nat->St->Hp->Prop,(∃m,W m σ H)/\∀m σ H,W m σ H ->
 c σ H λb H1=>if b=true then ∃N:St->Hp->Prop,(∀σ' H',N σ' H'->∃m',m' < m/\W m' σ' H')/\tb { D with nx:=N,ct:=N,bk:=D.nx } σ H1 else D.nx σ H1
theorem ps_while{c:yj}{body:List yk}{tc:TT}{tb:TS}(hp:yY (ym X.prog X.w) X.A X.env X.xe)(hc:PT X c tc)(hb:PSs X body tb):PS X (.While c body [] pos) (tWhile tc tb):=by
 intro pins s σ H D I h;obtain⟨W,⟨m0,w0⟩,turn⟩:=h;refine wpAny_While (codeAny_whileLoop (λn s'=>∃σ' H',Inv X pins σ' H' s'/\W n σ' H') ?_ m0 ⟨σ,H,I,w0⟩)
 rintro n s1 ⟨σ1,H1,I1,w1⟩
 refine qI hp (thn (hc pins s1 σ1 H1 _ I1 (turn n σ1 H1 w1)) λb s2 ⟨H2,I2,q2⟩=>?_)
 cases b with
 |true=>
  obtain⟨N,hN,q2⟩:=q2;rw[if_pos rfl];refine qI hp (thn (hb pins s2 σ1 H2 _ I2 q2) λf s3 q3=>?_)
  cases f with
  |next=>
   obtain⟨σ3,H3,I3,n3⟩:=q3;obtain⟨m',hm,w3⟩:=hN σ3 H3 n3;exact⟨m',hm,σ3,H3,I3,w3⟩
  |cont=>
   obtain⟨σ3,H3,I3,n3⟩:=q3;obtain⟨m',hm,w3⟩:=hN σ3 H3 n3;exact⟨m',hm,σ3,H3,I3,w3⟩
  |brk=>exact q3
  |ret v=>exact q3
 |false=>
  rw[if_neg jy];exact yac ⟨σ1,H2,I2,q2⟩
end
structure It where
 go:Nat->Hp->Prop
 yld:Nat->Hp->V->Hp->Prop
 stop:Nat->Hp->Prop
def FpOk(X:Cx)(pins:List (yc×Obj))(H:Hp)(b:yc):Prop:=
 H b=none/\b≠X.env.locals/\b∉X.fs/\(b∈X.ex\/X.s₀.heap.objs.size<=b)/\(∀x c,X.env.cells.lookup x=some c->c≠b)/\∀p∈X.pn++pins,p.1≠b
theorem Inv.fpOk{X:Cx}{pins:List (yc×Obj)}{σ:St}{H H':Hp}{s:ye}{b:yc}(I:Inv X pins σ H s)(hb:s.heap.objs.size<=b)(hn:H' b=none):FpOk X pins H' b:=by
 refine⟨hn,yar (ja I.lt hb),I.nofs hb,.inr (yE I.sz hb),λx c e z=>?_,λp hp z=>?_⟩
 ·obtain⟨v,q⟩:=I.cell x c e;exact absurd (ja q.lt (by rw[z];exact hb)) (jY _)
 ·exact absurd (ja (yF (I.pin p hp).1) (by rw[z];exact hb)) (jY _)
structure Turn(P:y6)(w:y0)(K:yh)(tg:yj)(J:It)(fp:List yc)(it:yc)(tn:Nat->yd->Prop):Prop where
 mem:it∈fp
 obj:∀i h,tn i h->∀b∈fp,∃o,h.get? b=some o/\∀v,o.data≠.cell v
 keep:∀i h h',tn i h->(∀b∈fp,∀o,h.get? b=some o->h'.get? b=some o)->tn i h'
 item:∀(X:Cx),X.prog=P->X.w=w->X.K=K->X.calm=true->∀(i:Nat) (pins:List (yc×Obj)) (s:ye) (σ:St) (H:Hp) (E:yb->ye->Prop),Inv X pins σ H s->(∀b∈fp,FpOk X pins H b)->tn i s.heap->J.go i H ->
  yi (ym P w) X.A (j2 (.ref it)) (λr s1=>∃u,r=some u /\
   yi (ym P w) X.A (ybm tg (.ref it) u) (λ_ s2=>∃x H',Inv X pins σ H' s2/\ax x u/\J.yld i H x H'/\tn (i+1) s2.heap/\∀b∈fp,H' b=none) E s1) E s
 done:∀(X:Cx),X.prog=P->X.w=w->X.K=K->X.calm=true->∀(i:Nat) (pins:List (yc×Obj)) (s:ye) (σ:St) (H:Hp) (E:yb->ye->Prop),Inv X pins σ H s->(∀b∈fp,FpOk X pins H b)->tn i s.heap->J.stop i H ->
  yi (ym P w) X.A (j2 (.ref it)) (λr s1=>r=none/\Inv X pins σ H s1) E s
 self:∀(A:yD) (i:Nat) (s:ye) (Q:yb->ye->Prop) (E:yb->ye->Prop),tn i s.heap->Q (.ref it) s->yi (ym P w) A (pyIter (.ref it)) Q E s
abbrev TI:=St->Hp->(It->Hp->Prop)->Prop
def PIE(X:Cx)(pins:List (yc×Obj))(σ:St)(tg:yj)(R:It->Hp->Prop)(itv:yb)(s2:ye):Prop:=
 ∃(it:yc) (fp:List yc) (tn:Nat->yd->Prop) (J:It) (H':Hp),itv=.ref it/\Inv X pins σ H' s2/\Turn X.prog X.w X.K tg J fp it tn/\tn 0 s2.heap/\(∀b∈fp,FpOk X pins H' b)/\R J H'
def PI(X:Cx)(tg iter:yj)(wi:TI):Prop:=
 ∀(pins:List (yc×Obj)) (s:ye) (σ:St) (H:Hp) (R:It->Hp->Prop),Inv X pins σ H s->wi σ H R ->
  yi (ym X.prog X.w) X.A (yz iter X.env) (λv s1=>yi (ym X.prog X.w) X.A (pyIter v) (PIE X pins σ tg R) X.xe s1) X.xe s
theorem go_of{M:Model}{A:yD}{E:yb->ye->Prop}{s:ye}{tg:yj}{it:yc}{u:yb}{o:Obj}{n:String}{vs:Array yb}{Q:Unit->ye->Prop}(ho:s.heap.get? it=some o)(hc:o.cls=.type n)(hd:o.data=.fields vs)
  (hn:["enumerate","zip","dict_itemiterator","dict_reverseitemiterator","odict_iterator","itertools.zip_longest","itertools.pairwise"].contains n=false) (hQ:Q () s):yi M A (ybm tg (.ref it) u) Q E s:=by
 unfold ybm;cases tg<;>first
  |exact yx hQ
  |(cases u<;>first
    |exact yx hQ
    | (refine yf (wpAny_load ho ?_)
       rw[hc,hd];show yi M A (if(["enumerate","zip","dict_itemiterator","dict_reverseitemiterator","odict_iterator","itertools.zip_longest","itertools.pairwise"].contains n && vs[0]? == some (yW _))=true then _ else _) Q E s
       rw[if_neg (by intro h;rw[hn,Bool.false_and]at h;cases h)]
       exact yx hQ))
def Itl(K:yh)(a:yc):It:=
 ⟨λi H=>∃xs x,SqL K H a xs/\xs[i]? = some x,λi H x H'=>H'=H/\∀xs,SqL K H a xs->xs[i]? = some x,λi H=>∃xs,SqL K H a xs/\xs.length<=i⟩
def Itt(K:yh)(a:yc):It:=
 ⟨λi H=>∃xs x,SqT K H a xs/\xs[i]? = some x,λi H x H'=>H'=H/\∀xs,SqT K H a xs->xs[i]? = some x,λi H=>∃xs,SqT K H a xs/\xs.length<=i⟩
def Itr(lo:Int)(n:Nat):It:=⟨λi _=>i<n,λi H x H'=>H'=H/\x=.int (lo+i),λi _=>n<=i⟩
theorem zkd{P:y6}{w:y0}{K:yh}{tg:yj}(a it:yc):Turn P w K tg (Itl K a) [it] it (λi h=>h.IsListIter it a i) where
 mem:=by simp
 obj:=λi h st b hb=>by
  have e:b=it:=by simpa using hb
  subst e;obtain⟨o,e,c,d⟩:=st;exact⟨o,e,λv z=>by rw[d]at z;cases z⟩
 keep:=λi h h' st k=>st.at λo e=>k it (by simp) o e
 item:=by
  intro X hP hw hK hc i pins s σ H E I hf st hg;subst hP hw hK;obtain⟨xs,x,hq,hx⟩:=hg;obtain⟨its,rv,p,hz⟩:=I.list hq;obtain⟨u,hu,ru⟩:=rv.get hx;obtain⟨f0,f1,f2,f3,f4,f5⟩:=hf it (by simp)
  refine wpAny_pyNext_list_item st p.isList (x:=u) (by simpa using hu) λh' st' sb=>?_
  have I1:Inv X pins σ H { s with heap:=h' }:=I.turned (t':=s.toks) (λb o hb e=>(sb.2 b hb).trans e) f0 f1 f3 f4 f5
  obtain⟨o,e,c,d⟩:=id st';exact⟨u,rfl,go_of (s:={ s with heap:=h' }) e c d (by decide) ⟨x,H,I1,ru,⟨rfl,λys hy=>by rw[I.list_inj hy hq];exact hx⟩,st',λb hb=>(hf b hb).1⟩⟩
 done:=by
  intro X hP hw hK hc i pins s σ H E I hf st hg;subst hP hw hK;obtain⟨xs,hq,hx⟩:=hg;obtain⟨its,rv,p,hz⟩:=I.list hq;obtain⟨f0,f1,f2,f3,f4,f5⟩:=hf it (by simp)
  have hl:=rv.length;exact wpAny_pyNext_list_end (I.ok.hd hc) st p.isList (by simp;omega) λh' eb=>⟨rfl,I.turned (t':=s.toks) (λb o hb e=>eb b o hb e) f0 f1 f3 f4 f5⟩
 self:=λ_ _ _ _ _ st h=>wpAny_pyIter_listiter st h
theorem zje{P:y6}{w:y0}{K:yh}{tg:yj}(a it:yc):Turn P w K tg (Itt K a) [it] it (λi h=>h.IsTupleIter it a i) where
 mem:=by simp
 obj:=λi h st b hb=>by
  have e:b=it:=by simpa using hb
  subst e;obtain⟨o,e,c,d⟩:=st;exact⟨o,e,λv z=>by rw[d]at z;cases z⟩
 keep:=λi h h' st k=>st.at λo e=>k it (by simp) o e
 item:=by
  intro X hP hw hK hc i pins s σ H E I hf st hg;subst hP hw hK;obtain⟨xs,x,hq,hx⟩:=hg;obtain⟨its,rv,p,hz⟩:=I.tuple hq;obtain⟨u,hu,ru⟩:=rv.get hx;obtain⟨f0,f1,f2,f3,f4,f5⟩:=hf it (by simp)
  refine wpAny_pyNext_tuple_item st (show s.heap.IsTuple a its.toArray from p) (x:=u) (by simpa using hu) λh' st' sb=>?_
  have I1:Inv X pins σ H { s with heap:=h' }:=I.turned (t':=s.toks) (λb o hb e=>(sb.2 b hb).trans e) f0 f1 f3 f4 f5
  obtain⟨o,e,c,d⟩:=id st';exact⟨u,rfl,go_of (s:={ s with heap:=h' }) e c d (by decide) ⟨x,H,I1,ru,⟨rfl,λys hy=>by rw[I.tuple_inj hy hq];exact hx⟩,st',λb hb=>(hf b hb).1⟩⟩
 done:=by
  intro X hP hw hK hc i pins s σ H E I hf st hg;subst hP hw hK;obtain⟨xs,hq,hx⟩:=hg;obtain⟨its,rv,p,hz⟩:=I.tuple hq;obtain⟨f0,f1,f2,f3,f4,f5⟩:=hf it (by simp)
  have hl:=rv.length;exact wpAny_pyNext_tuple_end (I.ok.hd hc) st (show s.heap.IsTuple a its.toArray from p) (by simp;omega) λh' eb=>⟨rfl,I.turned (t':=s.toks) (λb o hb e=>eb b o hb e) f0 f1 f3 f4 f5⟩
 self:=λ_ _ _ _ _ st h=>wpAny_pyIter_tupleiter st h
theorem zjf{P:y6}{w:y0}{K:yh}{tg:yj}(it:yc)(lo:Int)(n:Nat):Turn P w K tg (Itr lo n) [it] it (λi h=>IsRangeIter h it (lo+(i:Nat) * 1) ((n:Int) - (i:Nat)) 1) where
 mem:=by simp
 obj:=λi h st b hb=>by
  have e:b=it:=by simpa using hb
  subst e;exact⟨_,st,λv z=>by
   have z':Data.fields _=Data.cell v:=z;cases z'⟩
 keep:=λi h h' st k=>k it (by simp) _ st
 item:=by
  intro X hP hw hK hc i pins s σ H E I hf st hg;subst hP hw hK;obtain⟨f0,f1,f2,f3,f4,f5⟩:=hf it (by simp)
  have W:=Walks.range (prog:=X.prog) (w:=X.w) (I.ok.hd hc) it lo 1 n;refine W.item i s _ _ hg st λv h' tk hv st' kk=>?_
  obtain⟨t,rfl⟩:=hv;have I1:Inv X pins σ H { s with heap:=h',toks:=tk }:=I.turned (λb o hb e=>kk b o (by simpa using hb) e) f0 f1 f3 f4 f5
  refine⟨_,rfl,go_of (s:={ s with heap:=h',toks:=tk }) (n:="range_iterator") st' rfl rfl (by decide) ⟨.int (lo+i),H,I1,⟨t,?_⟩,⟨rfl,rfl⟩,st',λb hb=>(hf b hb).1⟩⟩
  rw[qB]
 done:=by
  intro X hP hw hK hc i pins s σ H E I hf st hg;subst hP hw hK;obtain⟨f0,f1,f2,f3,f4,f5⟩:=hf it (by simp)
  exact wpAny_pyNext_range_end (I.ok.hd hc) st (by have:n<=i:=hg;omega) λh' eb=>⟨rfl,I.turned (t':=s.toks) (λb o hb e=>eb b o hb e) f0 f1 f3 f4 f5⟩
 self:=λ_ _ _ _ _ st h=>wpAny_pyIter_rangeiter st h
section
variable {X:Cx}{tg:yj}
theorem range_it{pins:List (yc×Obj)}{σ:St}{H:Hp}{s:ye}{R:It->Hp->Prop}{E:yb->ye->Prop}{lo hi:Int}{t u v:Tok}{tk:Nat}(I:Inv X pins σ H s)(h1:-(2 ^ 62)<=lo)(h2:lo<2 ^ 62)(h3:-(2 ^ 62)<=hi)(h4:hi<2 ^ 62)
  (q:R (Itr lo (hi - lo).toNat) H):yi (ym X.prog X.w) X.A (pyIter (.ref s.heap.objs.size)) (PIE X pins σ tg R) E { s with heap:=s.heap.push { cls:=.type "range",data:=.fields #[.int lo t,.int hi u,.int 1 v] },toks:=tk }:=by
 refine wpAny_pyIter_range (IsRange.new ..) (small_one h1 h2 h3 h4) ?_;have I1:Inv X pins σ H { s with heap:=s.heap.push { cls:=.type "range",data:=.fields #[.int lo t,.int hi u,.int 1 v] },toks:=tk }:=I.kept λb o e=>yA _ e
 refine⟨(s.heap.push { cls:=.type "range",data:=.fields #[.int lo t,.int hi u,.int 1 v] }).objs.size,[(s.heap.push { cls:=.type "range",data:=.fields #[.int lo t,.int hi u,.int 1 v] }).objs.size],_,_,H,rfl,
  I1.kept (t':=tk) λb o e=>yA _ e,zjf _ lo (hi - lo).toNat,?_,λb hb=>?_,q⟩
 ·have e1:lo+((0:Nat):Int) * 1=lo:=by simp
  have e2:(((hi - lo).toNat:Nat):Int) - ((0:Nat):Int)=yB.Range.rangeSize lo hi 1:=by rw[rangeSize_one];split<;>omega
  show IsRangeIter _ _ (lo+((0:Nat):Int) * 1) ((((hi - lo).toNat:Nat):Int) - ((0:Nat):Int)) 1;rw[e1,e2];exact yO _ rfl
 ·have e:b=(s.heap.push { cls:=.type "range",data:=.fields #[.int lo t,.int hi u,.int 1 v] }).objs.size:=by simpa using hb
  subst e;exact I1.fpOk (yu _) (I1.hok.fresh (yu _))
def iRng1(ta:TA):TI:=λσ H R=>ta σ H λvs H1=>∃j:Int,vs=[.int j]/\-(2 ^ 62)<=j/\j<2 ^ 62/\R (Itr 0 j.toNat) H1
theorem zk0{a:yj}{ta:TA}{p pos:Pos}(hg:Gl X "range")(hm:X.mg "range"=none)(ha:PA X [a] ta)(hs:yp [a] X.env=[(false,yz a X.env)]:=by rfl):PI X tg (.Call (.Name "range" p) [a] [] pos) (iRng1 ta):=by
 intro pins s σ H R I h;refine Call_ (zcN I hg hm boot_range (PyProof.Rows.callWith_type1 (thn (ha pos pins s σ H _ I h) λus s1 ⟨vs,H1,I1,r1,q1⟩=>?_) hs rfl))
 obtain⟨j,e,q1,q2,q⟩:=q1;subst e;cases r1 with
 |cons r rr=>
  cases rr;obtain⟨t,rfl⟩:=r;exact call_range_1 (range_it I1 (by omega) (by omega) q1 q2 (by simpa using q))
def tFor(wi:TI)(g:TG)(tb:TS):TS:=λD σ H=>wi σ H λJ H1=>∃W:Nat->Nat->St->Hp->Prop,(∃m,W 0 m σ H1)/\∀i m σ H,W i m σ H -> (J.stop i H/\D.nx σ H)\/(J.go i H/\∃N:St->Hp->Prop,(∀σ' H',N σ' H'->∃m',m' < m/\W (i+1) m' σ' H')/\∀x H',J.yld i H x H'->g x σ H' λσ2 H2=>tb { D with nx:=N,ct:=N,bk:=D.nx } σ2 H2)
def VN(fp:List yc)(h:yd):List (yc×Obj):=fp.filterMap λb=>(h.get? b).map λo=>(b,o)
theorem JA{fp:List yc}{h:yd}{b:yc}{o:Obj}(hb:b∈fp)(e:h.get? b=some o):(b,o)∈VN fp h:=yda.mpr ⟨b,hb,by rw[e];rfl⟩
theorem zle{fp:List yc}{h:yd}{p:yc×Obj}(hp:p∈VN fp h):p.1∈fp/\h.get? p.1=some p.2:=by
 obtain⟨b,hb,e⟩:=yda.mp hp;cases q:h.get? b with
 |none=>rw[q]at e;cases e
 |some o=>
  rw[q]at e;have e':(b,o)=p:=jr.inj e;subst e';exact⟨hb,q⟩
theorem Inv.pinned{pins:List (yc×Obj)}{σ:St}{H:Hp}{s:ye}{fp:List yc}(I:Inv X pins σ H s)(hf:∀b∈fp,FpOk X pins H b)(ho:∀b∈fp,∃o,s.heap.get? b=some o/\∀v,o.data≠.cell v):Inv X (pins++VN fp s.heap) σ H s:=
 I.pins_of λp hp=>(jN.mp hp).elim (λz=>I.pin p (yZ _ z)) λz=>by
  obtain⟨hb,e⟩:=zle z;obtain⟨f0,f1,f2,_⟩:=hf p.1 hb;obtain⟨o,e',d⟩:=ho p.1 hb;rw[e]at e';cases e';exact⟨e,f0,f1,f2,d⟩
theorem Inv.unpinned{pins pl:List (yc×Obj)}{σ:St}{H:Hp}{s:ye}(I:Inv X (pins++pl) σ H s):Inv X pins σ H s:=I.pins_of λp hp=>I.pin p (yZ _ (yad _ hp))
theorem ps_for{iter:yj}{body:List yk}{wi:TI}{g:TG}{tb:TS}{pos:Pos}(hp:yY (ym X.prog X.w) X.A X.env X.xe)(hc:X.calm=true)(hi:PI X tg iter wi)(hg:PG X tg g)(hb:PSs X body tb)
  (hs:∀x,qF iter X.env x=pure x:=by intro _;rfl):PS X (.For tg iter body [] pos) (tFor wi g tb):=by
 intro pins s σ H D I h;refine wpAny_For (thn (hi pins s σ H _ I h) λv s1 h1=>thn h1 λitv s2 h2=>?_) hs
 obtain⟨it,fp,tn,J,H2,e,I2,T,st2,f2,W,⟨m0,w0⟩,turn⟩:=h2;subst e
 -- what stays true of the iterator's objects through the loop
 have stat:∀{H':Hp},(∀b∈fp,H' b=none)->∀b∈fp,FpOk X pins H' b:=λhn b hb=>⟨hn b hb,(f2 b hb).2⟩
 refine codeAny_forLoop_any (λn s'=>∃i σ' H',Inv X pins σ' H' s'/\tn i s'.heap/\(∀b∈fp,H' b=none)/\W i n σ' H') ?_ m0 ⟨0,σ,H2,I2,st2,λb hb=>(f2 b hb).1,w0⟩
 rintro n s3 ⟨i,σ3,H3,I3,st3,fr3,w3⟩
 rcases turn i n σ3 H3 w3 with ⟨stop,qn⟩|⟨go,N,hN,step⟩
 ·refine qI hp (thn (T.done X rfl rfl rfl hc i pins s3 σ3 H3 X.xe I3 (stat fr3) st3 stop) λr s4 ⟨hr,I4⟩=>?_)
  subst hr;exact yac ⟨σ3,H3,I4,qn⟩
 ·refine qI hp (thn (T.item X rfl rfl rfl hc i pins s3 σ3 H3 X.xe I3 (stat fr3) st3 go) λr s4 ⟨u,hr,h4⟩=>?_)
  subst hr;refine qI hp (thn h4 λ_ s5 ⟨x,H5,I5,r5,y5,st5,fr5⟩=>?_)
  have I5':=I5.pinned (stat fr5) (T.obj _ _ st5);refine qI hp (thn (hg _ s5 σ3 H5 x u _ I5' r5 (step x H5 y5)) λ_ s6 ⟨σ6,H6,I6,q6⟩=>?_)
  refine qI hp (thn (hb _ s6 σ6 H6 _ I6 q6) λf s7 q7=>?_)
  have again:∀{σ7:St}{H7:Hp},Inv X (pins++VN fp s5.heap) σ7 H7 s7->N σ7 H7->∃m,m<n/\∃i σ' H',Inv X pins σ' H' s7/\tn i s7.heap/\(∀b∈fp,H' b=none)/\W i m σ' H':=λ{σ7 H7} I7 n7=>by
   obtain⟨m',hm,w7⟩:=hN σ7 H7 n7;refine⟨m',hm,i+1,σ7,H7,I7.unpinned,T.keep _ _ _ st5 λb hb o e=>(I7.pin (b,o) (yZ _ (yZ _ (JA hb e)))).1,λb hb=>?_,w7⟩
   obtain⟨o,e,d⟩:=T.obj _ _ st5 b hb;exact(I7.pin (b,o) (yZ _ (yZ _ (JA hb e)))).2.1
  cases f with
  |next=>obtain⟨σ7,H7,I7,n7⟩:=q7;exact again I7 n7
  |cont=>obtain⟨σ7,H7,I7,n7⟩:=q7;exact again I7 n7
  |brk=>obtain⟨σ7,H7,I7,q7⟩:=q7;exact⟨σ7,H7,I7.unpinned,q7⟩
  |ret v=>obtain⟨x7,σ7,H7,I7,r7,q7⟩:=q7;exact⟨x7,σ7,H7,I7.unpinned,r7,q7⟩
end
abbrev R2:=V->V->Hp->VK->Prop
def OpR(X:Cx)(f:yb->yb->Sem yb)(r:R2):Prop:=
 ∀(pins:List (yc×Obj)) (s:ye) (σ:St) (H:Hp) (x y:V) (v u:yb) (Q:VK),Inv X pins σ H s->ax x v->ax y u->r x y H Q ->
  yi (ym X.prog X.w) X.A (f v u) (EP X pins σ Q) X.xe s
def UnR(X:Cx)(f:yb->Sem yb)(r:V->Hp->VK->Prop):Prop:=
 ∀(pins:List (yc×Obj)) (s:ye) (σ:St) (H:Hp) (x:V) (v:yb) (Q:VK),Inv X pins σ H s->ax x v->r x H Q ->
  yi (ym X.prog X.w) X.A (f v) (EP X pins σ Q) X.xe s
def zdz(X:Cx)(f:yb)(r:List V->Hp->VK->Prop):Prop:=
 ∀(pins:List (yc×Obj)) (s:ye) (σ:St) (H:Hp) (xs:List V) (us:List yb) (Q:VK),Inv X pins σ H s->Vals xs us->r xs H Q ->
  yi (ym X.prog X.w) X.A (call f us) (EP X pins σ Q) X.xe s
def TruR(X:Cx)(r:V->Hp->(Bool->Hp->Prop)->Prop):Prop:=
 ∀(pins:List (yc×Obj)) (s:ye) (σ:St) (H:Hp) (x:V) (v:yb) (Q:Bool->Hp->Prop),Inv X pins σ H s->ax x v->r x H Q ->
  yi (ym X.prog X.w) X.A (truthy v) (TP X pins σ Q) X.xe s
def tOp(r:R2)(ta tb:TE):TE:=λσ H Q=>ta σ H λx H1=>tb σ H1 λy H2=>r x y H2 Q
def tUn(r:V->Hp->VK->Prop)(ta:TE):TE:=λσ H Q=>ta σ H λx H1=>r x H1 Q
def rI(C:Int->Int->Prop)(g:Int->Int->V):R2:=λx y H Q=>∃i j,x=.int i/\y=.int j/\C i j/\Q (g i j) H
def rI0(g:Int->Int->V):R2:=λx y H Q=>∃i j,x=.int i/\y=.int j/\Q (g i j) H
def rU(g:Int->V):V->Hp->VK->Prop:=λx H Q=>∃i,x=.int i/\Q (g i) H
section
variable {X:Cx}{a b c:yj}{ta tb tc:TE}{pos:Pos}
theorem binT(ha:PE X a ta)(hb:PE X b tb){pins:List (yc×Obj)}{s:ye}{σ:St}{H:Hp}{R:V->V->Hp->Prop}(I:Inv X pins σ H s)
  (h:ta σ H λx H1=>tb σ H1 λy H2=>R x y H2) {Q:yb->ye->Prop}{f:yb->yb->Sem yb}
  (hf:∀v u s2 x y H2,Inv X pins σ H2 s2->ax x v->ax y u->R x y H2->yi (ym X.prog X.w) X.A (f v u) Q X.xe s2):
  yi (ym X.prog X.w) X.A (yz a X.env) (λv s₁=>yi (ym X.prog X.w) X.A (yz b X.env) (λu s₂=>yi (ym X.prog X.w) X.A (f v u) Q X.xe s₂) X.xe s₁) X.xe s:=by
 refine thn (ha pins s σ H _ I h) λv s1 ⟨x,H1,I1,r1,q1⟩=>?_
 refine thn (hb pins s1 σ H1 _ I1 q1) λu s2 ⟨y,H2,I2,r2,q2⟩=>?_
 exact hf v u s2 x y H2 I2 r1 r2 q2
theorem pe_op{op:Operator}{r:R2}(ho:OpR X (jm op) r)(ha:PE X a ta)(hb:PE X b tb):PE X (.BinOp a op b pos) (tOp r ta tb):=by
 intro pins s σ H Q I h;exact wpAny_BinOp (binT ha hb I h λv u s2 x y H2 I2 rx ry q=>ho pins s2 σ H2 x y v u Q I2 rx ry q)
theorem pe_un{op:UnaryOp}{r:V->Hp->VK->Prop}(ho:UnR X (unaryOp op) r)(ha:PE X a ta):PE X (.UnaryOp op a pos) (tUn r ta):=by
 intro pins s σ H Q I h;exact UnaryOp_ (thn (ha pins s σ H _ I h) λv s1 ⟨x,H1,I1,r1,q1⟩=>ho pins s1 σ H1 x v Q I1 r1 q1)
theorem opI{f:yb->yb->Sem yb}{C:Int->Int->Prop}{g:Int->Int->Int}
  (rule:∀(i j:Int) (t u:Tok) (s:ye) (Q:yb->ye->Prop) (E:yb->ye->Prop),C i j->Q (.int (g i j) s.toks) { s with toks:=s.toks+1 }->yi (ym X.prog X.w) X.A (f (.int i t) (.int j u)) Q E s):
  OpR X f (rI C λi j=>.int (g i j)):=by
 intro pins s σ H x y v u Q I rx ry h;obtain⟨i,j,rfl,rfl,hc,q⟩:=h;obtain⟨t,rfl⟩:=rx;obtain⟨t',rfl⟩:=ry;exact rule i j t t' s _ _ hc ⟨.int (g i j),H,I.tok _,⟨_,rfl⟩,q⟩
theorem opI0{f:yb->yb->Sem yb}{g:Int->Int->Int}
  (rule:∀(i j:Int) (t u:Tok) (s:ye) (Q:yb->ye->Prop) (E:yb->ye->Prop),Q (.int (g i j) s.toks) { s with toks:=s.toks+1 }->yi (ym X.prog X.w) X.A (f (.int i t) (.int j u)) Q E s):
  OpR X f (rI0 λi j=>.int (g i j)):=by
 intro pins s σ H x y v u Q I rx ry h;obtain⟨i,j,rfl,rfl,q⟩:=h;obtain⟨t,rfl⟩:=rx;obtain⟨t',rfl⟩:=ry;exact rule i j t t' s _ _ ⟨.int (g i j),H,I.tok _,⟨_,rfl⟩,q⟩
theorem opB0{f:yb->yb->Sem yb}{g:Int->Int->Bool}
  (rule:∀(i j:Int) (t u:Tok) (s:ye) (Q:yb->ye->Prop) (E:yb->ye->Prop),Q (.bool (g i j)) s->yi (ym X.prog X.w) X.A (f (.int i t) (.int j u)) Q E s):
  OpR X f (rI0 λi j=>.bl (g i j)):=by
 intro pins s σ H x y v u Q I rx ry h;obtain⟨i,j,rfl,rfl,q⟩:=h;obtain⟨t,rfl⟩:=rx;obtain⟨t',rfl⟩:=ry;exact rule i j t t' s _ _ ⟨.bl (g i j),H,I,rfl,q⟩
def CPow(i j:Int):Prop:=0<=j/\j<=1000000/\i.natAbs<2 ^ 64
theorem op_add:OpR X (jm .Add) (rI0 λi j=>.int (i+j)):=opI0 λ_ _ _ _ _ _ _ q=>add_int q
theorem op_sub:OpR X (jm .Sub) (rI0 λi j=>.int (i - j)):=opI0 λ_ _ _ _ _ _ _ q=>sub_int q
theorem op_modN:OpR X (jm .Mod) (rI (λ_ j=>j≠0) λi j=>.int (i.fmod j)):=opI λ_ _ _ _ _ _ _ hc q=>mod_int' hc q
theorem op_pow:OpR X (jm .Pow) (rI CPow λi j=>.int (i ^ j.toNat)):=opI λ_ _ _ _ _ _ _ hc q=>pow_int_small hc.1 hc.2.1 hc.2.2 q
theorem unI{f:yb->Sem yb}{g:Int->Int}
  (rule:∀(i:Int) (t:Tok) (s:ye) (Q:yb->ye->Prop) (E:yb->ye->Prop),Q (.int (g i) s.toks) { s with toks:=s.toks+1 }->yi (ym X.prog X.w) X.A (f (.int i t)) Q E s):
  UnR X f (rU λi=>.int (g i)):=by
 intro pins s σ H x v Q I rx h;obtain⟨i,rfl,q⟩:=h;obtain⟨t,rfl⟩:=rx;exact rule i t s _ _ ⟨.int (g i),H,I.tok _,⟨_,rfl⟩,q⟩
theorem un_neg:UnR X (unaryOp .USub) (rU λi=>.int (-i)):=unI λ_ _ _ _ _ q=>neg_int q
end
section
variable {X:Cx}{a b c:yj}{ta tb tc:TE}{pos:Pos}
theorem op_lt:OpR X (ji .Lt) (rI0 λi j=>.bl (decide (i<j))):=opB0 λ_ _ _ _ _ _ _ q=>lt_int q
theorem op_le:OpR X (ji .LtE) (rI0 λi j=>.bl (decide (i<=j))):=opB0 λ_ _ _ _ _ _ _ q=>le_int q
theorem op_gt:OpR X (ji .Gt) (rI0 λi j=>.bl (decide (j<i))):=opB0 λ_ _ _ _ _ _ _ q=>gt_int q
theorem op_ge:OpR X (ji .GtE) (rI0 λi j=>.bl (decide (j<=i))):=opB0 λ_ _ _ _ _ _ _ q=>ge_int q
theorem OpR.or{f:yb->yb->Sem yb}{r r':R2}(h:OpR X f r)(h':OpR X f r'):OpR X f (λx y H Q=>r x y H Q\/r' x y H Q):=by
 intro pins s σ H x y v u Q I rx ry q;rcases q with q|q
 ·exact h pins s σ H x y v u Q I rx ry q
 ·exact h' pins s σ H x y v u Q I rx ry q
theorem Zr(b:yj){op:CmpOp}(h:op≠.In:=by decide)(h2:op≠.NotIn:=by decide):jU op b=false:=by
 have e1:(op == CmpOp.In)=false:=by cases op<;>first|rfl|exact absurd rfl h
 have e2:(op == CmpOp.NotIn)=false:=by cases op<;>first|rfl|exact absurd rfl h2
 cases b<;>simp[jU,e1,e2]
theorem pe_cmpR{op:CmpOp}{r:R2}(ho:OpR X (ji op) r)(ha:PE X a ta)(hb:PE X b tb)(hm:jU op b=false):PE X (.Compare a [op] [b] pos) (tOp r ta tb):=by
 intro pins s σ H Q I h;exact wpAny_Compare1 (binT ha hb I h λv u s2 x y H2 I2 rx ry q=>ho pins s2 σ H2 x y v u Q I2 rx ry q) hm
def tTest(t:TE):TT:=λσ H Q=>t σ H λx H'=>∃k,x=.bl k/\Q k H'
theorem pt_cmpR{op:CmpOp}{r:R2}(ho:OpR X (ji op) r)(ha:PE X a ta)(hb:PE X b tb)(hm:jU op b=false):PT X (.Compare a [op] [b] pos) (tTest (tOp r ta tb)):=by
 intro pins s σ H Q I h;refine wpAny_isTrue_Compare1 (thn (ha pins s σ H _ I h) λv s1 ⟨x,H1,I1,r1,q1⟩=>thn (hb pins s1 σ H1 _ I1 q1) λu s2 ⟨y,H2,I2,r2,q2⟩=>
  thn (ho pins s2 σ H2 x y v u _ I2 r1 r2 q2) λc s3 ⟨z,H3,I3,r3,k,e,q3⟩=>?_) hm
 subst e;cases r3;exact qj ⟨H3,I3,q3⟩
def TruV(K:yh)(x:V)(H:Hp)(k:Bool):Prop:=
 match x with
 |.non=>k=false
 |.bl b=>k=b
 |.int i=>k=(i != 0)
 |.str y=>y.length<=y7/\k=((y.length:Int) != 0)
 |.byt y=>y.size<=y7/\k=((y.size:Int) != 0)
 |.ref p=>(∃xs,SqL K H p xs/\k = !xs.isEmpty)\/(∃xs,SqT K H p xs/\k = !xs.isEmpty)\/∃kvs,H p=some (.dK kvs)/\k = !kvs.isEmpty
 |_=>False
theorem zjM{κ:Type}{kvs:List (κ×V)}{vs:List (κ×yb)}(r:KV kvs vs):(!vs.isEmpty) = !kvs.isEmpty:=by
 cases r<;>rfl
theorem zel{xs:List V}{its:List yb}(r:Vals xs its):(!its.toArray.isEmpty) = !xs.isEmpty:=by
 cases r<;>simp
theorem zgu:(y7:Nat)<2 ^ 63:=by rw[j6];decide
theorem tru_ok:TruR X (λx H Q=>∃k,TruV X.K x H k/\Q k H):=by
 intro pins s σ H x v Q I rx h;obtain⟨k,e,q⟩:=h;have hl:=zgu;have hs:y7=16777216:=j6;cases x with
 |non=>
  cases rx;have e':k=false:=e;subst e';exact truthy_none ⟨H,I,q⟩
 |bl b=>
  cases rx;have e':k=b:=e;subst e';exact qj ⟨H,I,q⟩
 |int i=>
  obtain⟨t,rfl⟩:=rx;have e':k=(i != 0):=e;subst e';exact PySem.P.truthy_int ⟨H,I,q⟩
 |str y=>
  obtain⟨t,rfl⟩:=rx;obtain⟨hy,e'⟩:y.length<=y7/\k=((y.length:Int) != 0):=e;subst e';exact PySem.P.truthy_str (by omega) ⟨H,I.tok _,q⟩
 |byt y=>
  obtain⟨t,rfl⟩:=rx;obtain⟨hy,e'⟩:y.size<=y7/\k=((y.size:Int) != 0):=e;subst e';exact PySem.W.truthy_bytes (by omega) ⟨H,I.tok _,q⟩
 |ref p=>
  cases rx;have e':(∃xs,SqL X.K H p xs/\k = !xs.isEmpty)\/(∃xs,SqT X.K H p xs/\k = !xs.isEmpty)\/∃kvs,H p=some (.dK kvs)/\k = !kvs.isEmpty:=e;rcases e' with ⟨xs,hx,e'⟩|⟨xs,hx,e'⟩|⟨kvs,hx,e'⟩
  ·subst e';obtain⟨its,r,pl,hz⟩:=I.list hx;have hlen:=r.length;exact wpAny_truthy_list pl.isList (by simp only[yL];omega) ⟨H,I.tok _,by rw[zel r];exact q⟩
  ·subst e';obtain⟨its,r,pl,hz⟩:=I.tuple hx;have hlen:=r.length;exact truthy_tuple pl (by simp only[yL];omega) ⟨H,I.tok _,by rw[zel r];exact q⟩
  ·subst e';obtain⟨hz,hS,vs,r,m⟩:kvs.length<=y7/\(p == jM)=false/\∃vs,KV kvs vs/\s.heap.DictOf (Wa X.prog X.w) p vs:=I.hok p _ hx;have hlen:kvs.length=vs.length:=Paired.length r;exact wpAny_truthy_dict hS m (by omega) ⟨H,I.tok _,by rw[zjM r];exact q⟩
 |_=>exact(show False from e).elim
theorem pt_truth(ha:PE X a ta)(he:∀whole,isTrue a X.env whole=(do let v <- whole;standAt a.pos;jP [v] (truthy v))):
  PT X a (λσ H Q=>ta σ H λx H'=>∃k,TruV X.K x H' k/\Q k H'):=by
 intro pins s σ H Q I h;exact isTrue_plain (thn (ha pins s σ H _ I h) λv s1 ⟨x,H1,I1,r1,q1⟩=>tru_ok pins s1 σ H1 x v Q I1 r1 q1) (he _)
theorem zeI{x:V}{us:List yb}(r:Vals [x] us):∃u,us=[u]/\ax x u:=by
 cases r with
 |cons r1 r2=>cases r2;exact⟨_,rfl,r1⟩
theorem vals2{x y:V}{us:List yb}(r:Vals [x,y] us):∃u w',us=[u,w']/\ax x u/\ax y w':=by
 cases r with
 |cons r1 r2=>
  cases r2 with
  |cons r3 r4=>cases r4;exact⟨_,_,rfl,r1,r3⟩
theorem call_abs:zdz X (.builtin "abs") (λxs H Q=>∃i,xs=[.int i]/\Q (.int (if i<0 then -i else i)) H):=by
 intro pins s σ H xs us Q I r h;obtain⟨i,rfl,q⟩:=h;obtain⟨u,rfl,t,rfl⟩:=zeI r;exact call_abs_int λu tk=>⟨.int (if i<0 then -i else i),H,I.tok _,⟨_,rfl⟩,q⟩
theorem zmk(hc:X.calm=true):zdz X (.builtin "max") (λxs H Q=>∃i j,xs=[.int i,.int j]/\Q (.int (if j > i then j else i)) H):=by
 intro pins s σ H xs us Q I r h;obtain⟨i,j,rfl,q⟩:=h;obtain⟨u,w',rfl,⟨t,rfl⟩,⟨t',rfl⟩⟩:=vals2 r;refine max_two_ints (I.ok.hd hc) λh' tk k=>⟨_,H,I.kept k,?_,q⟩
 by_cases hj:j > i
 ·rw[if_pos hj,if_pos hj];exact⟨_,rfl⟩
 ·rw[if_neg hj,if_neg hj];exact⟨_,rfl⟩
end
structure ObjM(h:yd)(x dx C:yc)(mA:Str->Option yb):Prop where
 obj:h.get? x=some (qo C dx)
 ns:h.Ns1 dx mA
 ne:dx≠x
theorem zll{h:yd}{dx:yc}{mA:Str->Option yb}(n:h.Ns1 dx mA):∃od,h.get? dx=some od/\∀name,ydw name od=some (mA name):=by
 obtain⟨o,es,ep,ho,hd,hk,_,hm⟩:=n;refine⟨o,ho,λname=>?_⟩
 have e:=hm name;unfold nsFind findBy at e;rw[<- Array.find?_toList]at e;unfold ydw;rw[hd]
 dsimp only
 split
 ·rename_i y q;rw[q]at e;exact congrArg some e
 ·rename_i q;rw[q]at e;have a:es.toList.any (·.refKey)=false:=by
   rw[List.any_eq_false];intro y hy;obtain⟨z,t,hkey⟩:=hk y (Array.mem_toList_iff.mp hy);simp[qP.refKey,hkey]
  have a':¬es.toList.any (·.refKey)=true:=by rw[a];exact jy
  rw[if_neg a'];exact congrArg some e
theorem ObjM.look{h:yd}{x dx C:yc}{mA:Str->Option yb}(I:ObjM h x dx C mA):∃od,PySem.W.InstAt h x (qo C dx) C (some od)/\∀name,ydw name od=some (mA name):=
 let⟨od,ho,hl⟩:=zll I.ns
 ⟨od,⟨I.obj,rfl,rfl,ho⟩,hl⟩
section
variable {prog:y6}{w:y0}{A:yD}{E:yb->ye->Prop}{s:ye}{K:yh}{x dx C f:yc}{mA:Str->Option yb}{name:Str}{v:yb}
theorem get_map{expr:Bool}{Q:yb->ye->Prop}(X:K.In s.heap)(I:ObjM s.heap x dx C mA)(hg:yb4 K C name=true)(hh:yb0 K C=true)
  (ha:jG K (.ref C) name=some none) (hv:mA name=some v) (hv':PySem.W.handedIn v=true) (h:Q v { s with toks:=s.toks+1 }):
  yi (ym prog w) A (getAttr (.ref x) name expr) Q E s:=by
 obtain⟨od,J,hl⟩:=I.look;exact PySem.W.get_value X J (PySem.W.plainGet_of hg).1 (PySem.W.findObj_own hh ha rfl (by rw[hl,hv])) hv' h
theorem set_map{ns:List Str}{Q:Unit->ye->Prop}(X:K.In s.heap)(I:ObjM s.heap x dx C mA)
  (hs:jG K (.ref C) "__setattr__"=some (some (.builtin "object.__setattr__"))) (hp:ydg K C=true) (ht:ydo K C name=some none) (hh:yb0 K C=true)
  (hw:PySem.Within mA ns) (hsz:ns.length<=y7)
  (h:∀h',ObjM h' x dx C (λy=>if y=name then some v else mA y)->qz dx s.heap h'->Q () { s with heap:=h',toks:=s.toks+2 }):
  yi (ym prog w) A (setAttr (.ref x) name v) Q E s:=by
 obtain⟨od,J,hl⟩:=I.look;refine PySem.W.set_plain X J hs (PySem.W.osa_open (s:={ s with toks:=s.toks+1 }) (r:=none) X J hp ht λb=>?_)
 obtain⟨cd,hc,hd'⟩:=PySem.W.any_some hh;have hx:s.heap.get? x=some ⟨.ref C,some dx,.plain,#[]⟩:=I.obj;refine yf (yx (yf (yf (wpAny_loadPart hx (yf (PySem.W.Looks.here (s:={ s with toks:=s.toks+1 }) (PySem.W.looks_clsIn X hc) ?_))))))
 rw[hd'];refine yx (a:=some dx) (yf (yx (yf ?_)));refine wpAny_nsSet1 (s:={ s with toks:=s.toks+1 }) I.ns λh' hn2 hs2=>?_
 obtain⟨oD,esD,epD,hoD,hdD,hcD⟩:=hn2.count (PySem.Within.cons name v hw);refine yf (wpAny_lookBehind hoD (by rw[hdD];exact pastItsLine_dict (yE hcD (by rw[ju];omega))) ?_)
 exact yx (h _ ⟨(hs2.2 _ (Ne.symm I.ne)).trans I.obj,hn2,I.ne⟩ hs2)
theorem make_map{R:Result->ye->Prop}{vs:List yb}{kw:List (Str×yb)}(X:K.In s.heap)(hm:ydp K C=true)
  (hi:jG K (.ref C) "__init__"=some (some (.ref f))) (hf:PySem.W.typeIn K (.ref f)=some (.type "function"))
  (h:jQ (ym prog w) (A.under (.builtin "type.__call__" ⟨.ref C::vs,kw⟩)) (.call (.ref f) ⟨.ref (s.heap.objs.size+1)::vs,kw⟩) (PySem.W.InitBack (s.heap.objs.size+1) R)
   { s with heap:=(s.heap.push qf).push (qo C s.heap.objs.size) }):
  jQ (ym prog w) A (.call (.ref C) ⟨vs,kw⟩) R s:=by
 obtain⟨hh,g,d,t,os⟩:=s;exact PySem.W.make_core (PySem.W.makes_of X hm) (PySem.W.looks_findIn X hi) (λself=>PySem.W.bind_fn X self hf) (.inl rfl) h
end
def putF(f:Str)(v:V):List (Str×V)->List (Str×V)
 |[]=>[(f,v)]
 |(g,x)::r=>if g=f then(g,v)::r else(g,x)::putF f v r
theorem zcJ(f g:Str)(v:V):∀fs:List (Str×V),(putF f v fs).lookup g=if g=f then some v else fs.lookup g
 |[]=>by
  show qC g [(f,v)]=_;by_cases h:g=f
  ·have hb:(g == f)=true:=beq_iff_eq.mpr h;simp only[qC,hb,if_pos h]
  ·have hb:(g == f)=false:=beq_eq_false_iff_ne.mpr h;simp only[qC,hb,if_neg h]
 |(k,x)::r=>by
  have ih:=zcJ f g v r;rw[show putF f v ((k,x)::r)=(if k=f then(k,v)::r else(k,x)::putF f v r) from rfl]
  by_cases hk:k=f
  ·rw[if_pos hk];by_cases h:g=k
   ·have hb:(g == k)=true:=beq_iff_eq.mpr h;simp only[qC,hb,if_pos (h.trans hk)]
   ·have hb:(g == k)=false:=beq_eq_false_iff_ne.mpr h;simp only[qC,hb,if_neg (λe:g=f=>h (e.trans hk.symm))]
  ·rw[if_neg hk];by_cases h:g=k
   ·have hb:(g == k)=true:=beq_iff_eq.mpr h;simp only[qC,hb,if_neg (λe:g=f=>hk (h.symm.trans e))]
   ·have hb:(g == k)=false:=beq_eq_false_iff_ne.mpr h;simp only[qC,hb];exact ih
theorem zcQ(f:Str)(v:V):∀fs:List (Str×V),f∈(putF f v fs).map (·.1)/\∀g,g∈fs.map (·.1)->g∈(putF f v fs).map (·.1)
 |[]=>⟨by simp[putF],λg h=>by simp at h⟩
 |(k,x)::r=>by
  obtain⟨i1,i2⟩:=zcQ f v r;rw[show putF f v ((k,x)::r)=(if k=f then(k,v)::r else(k,x)::putF f v r) from rfl]
  by_cases hk:k=f
  ·rw[if_pos hk];subst hk;exact⟨by simp,λg h=>by simpa using h⟩
  ·rw[if_neg hk];refine⟨?_,λg h=>?_⟩
   ·rw[yH];exact yS _ i1
   ·rw[yH]at h ⊢;rcases yG.mp h with e|e
    ·exact yG.mpr (.inl e)
    ·exact yS _ (i2 g e)
theorem zcL(f:Str)(v:V):∀fs:List (Str×V),(putF f v fs).length<=fs.length+1
 |[]=>by simp[putF]
 |(k,x)::r=>by
  have ih:=zcL f v r;rw[show putF f v ((k,x)::r)=(if k=f then(k,v)::r else(k,x)::putF f v r) from rfl]
  by_cases hk:k=f
  ·rw[if_pos hk,ju,ju];omega
  ·rw[if_neg hk,ju,ju];omega
theorem RelO.some_of{v:V}{o:Option yb}(r:RelO (some v) o):∃u,o=some u/\ax v u:=by
 cases o with
 |none=>exact(show False from r).elim
 |some u=>exact⟨u,rfl,r⟩
theorem zlJ{v:V}{u:yb}(r:ax v u):PySem.W.handedIn u=true:=by
 cases v with
 |non=>cases(show u=yb.none from r);rfl
 |bl b=>cases(show u=yb.bool b from r);rfl
 |int i=>obtain⟨t,e⟩:=(show ∃t,u=yb.int i t from r);cases e;rfl
 |str x=>obtain⟨t,e⟩:=(show ∃t,u=yb.str x t from r);cases e;rfl
 |byt b=>obtain⟨t,e⟩:=(show ∃t,u=yb.bytes b t from r);cases e;rfl
 |flt b=>obtain⟨t,e⟩:=(show ∃t,u=yb.float b t from r);cases e;rfl
 |ref a=>cases(show u=yb.ref a from r);rfl
 |ty n=>cases(show u=yb.type n from r);rfl
section
variable {P:y6}{w:y0}{H H':Hp}{h h':yd}{a C dx:yc}{fs fs':List (Str×V)}
theorem zlG(hok:HOk P w H h)(e:H a=some (.ins C dx fs)):∃mA,ObjM h a dx C mA/\(∀f,RelO (fs.lookup f) (mA f))/\PySem.Within mA (fs.map (·.1))/\fs.length<=1000/\H dx=some (.own a):=by
 obtain⟨d,z,ne,ob,mA,n,r,q⟩:=(show W4 P w H h a (.ins C dx fs) from hok a _ e);exact⟨mA,⟨ob,n,ne⟩,r,q,z,d⟩
end
structure Cls(K:yh)(C:yc):Prop where
 pg:yb4 K C Str.empty=true
 hd:yb0 K C=true
 po:ydg K C=true
 sa:jG K (.ref C) "__setattr__"=some (some (.builtin "object.__setattr__"))
theorem Cls.get{K:yh}{C:yc}(c:Cls K C)(f:Str):yb4 K C f=true:=c.pg
def UJ(K:yh)(C:yc)(f:Str):Prop:=jG K (.ref C) f=some none
theorem UJ.taker{K:yh}{C:yc}{f:Str}(n:UJ K C f):ydo K C f=some none:=by
 unfold ydo;rw[show jG K (.ref C) f=some none from n]
 rfl
section
variable {X:Cx}{pins:List (yc×Obj)}{σ:St}{H:Hp}{s:ye}{a C dx:yc}{fs:List (Str×V)}{f:Str}{v:V}{A:yD}{E:yb->ye->Prop}
theorem zjS{b:Bool}{Q:yb->ye->Prop}(I:Inv X pins σ H s)(e:H a=some (.ins C dx fs))(c:Cls X.K C)(n:UJ X.K C f)(l:fs.lookup f=some v)
  (h:∀u s',Inv X pins σ H s'->ax v u->Q u s'):yi (ym X.prog X.w) A (getAttr (.ref a) f b) Q E s:=by
 obtain⟨mA,O,r,_,_,_⟩:=zlG I.hok e;obtain⟨u,hu,ru⟩:=RelO.some_of (v:=v) (o:=mA f) (by rw[<- l];exact r f)
 exact get_map I.kIn O (c.get f) c.hd n hu (zlJ ru) (h u _ (I.tok _) ru)
theorem zjj{y:V}{u:yb}{Q:Unit->ye->Prop}(I:Inv X pins σ H s)(e:H a=some (.ins C dx fs))(c:Cls X.K C)(n:UJ X.K C f)(hl:fs.length<1000)(ry:ax y u)
  (h:∀s',Inv X pins σ (upd H a (.ins C dx (putF f y fs))) s'->Q () s'):yi (ym X.prog X.w) A (setAttr (.ref a) f u) Q E s:=by
 obtain⟨mA,O,r,wi,_,ho⟩:=zlG I.hok e;have hz:(fs.map (·.1)).length<=y7:=by rw[yQ,j6];omega
 refine set_map I.kIn O c.sa c.po n.taker c.hd wi hz λh' O' sb=>h _ ?_
 have hd:∃o,h'.get? dx=some o:=let⟨o,_,_,e',_⟩:=O'.ns;⟨o,e'⟩
 refine I.write (x:=a) (e:=dx) (by rw[e];exact True.intro) (.inr ho) (λb q hb z=>(sb.2 b hb).trans z) hd ?_
 refine⟨by rw[Zu O.ne];exact ho,?_,O.ne,O'.obj,_,O'.ns,λg=>?_,λg hg=>?_⟩
 ·have:=zcL f y fs;omega
 ·show RelO ((putF f y fs).lookup g) (if g=f then some u else mA g)
  rw[zcJ];by_cases q:g=f
  ·rw[if_pos q,if_pos q];exact ry
  ·rw[if_neg q,if_neg q];exact r g
 ·by_cases q:g=f
  ·rw[q];exact(zcQ f y fs).1
  ·refine(zcQ f y fs).2 g (wi g λz=>hg ?_)
   show(if g=f then some u else mA g)=none
   rw[if_neg q];exact z
theorem Inv.made(I:Inv X pins σ H s):Inv X pins σ (upd (upd H s.heap.objs.size (.own (s.heap.objs.size+1))) (s.heap.objs.size+1) (.ins C s.heap.objs.size []))
  { s with heap:=(s.heap.push qf).push (qo C s.heap.objs.size) }:=by
 have e1:(s.heap.push qf).get? s.heap.objs.size=some qf:=yO s.heap rfl;have e2:((s.heap.push qf).push (qo C s.heap.objs.size)).get? (s.heap.objs.size+1)=some (qo C s.heap.objs.size):=by
  have:=yO (s.heap.push qf) (o:=qo C s.heap.objs.size) rfl
  rwa [qr]at this
 have e3:(s.heap.push qf).Ns s.heap.objs.size (λ_=>none):=⟨qf,#[],_,e1,rfl,(λe he=>absurd he (by simp)),λ_=>rfl⟩
 have I1:=I.laid (a:=s.heap.objs.size) (o:=.own (s.heap.objs.size+1)) (h':=s.heap.push qf) (t':=s.toks) (λb u q=>yA _ q) (yu _) ⟨_,e1⟩
 refine I1.laid (a:=s.heap.objs.size+1) (o:=.ins C s.heap.objs.size []) (t':=s.toks) (λb u q=>yA _ q) (Nat.le_of_eq (qr _ _)) ?_
 have ne:s.heap.objs.size≠s.heap.objs.size+1:=yU (ya5 _);refine⟨by rw[Zu ne,Zw],qi _,ne,e2,λ_=>none,(yd.Ns1.of_empty e3).at λo q=>yA _ q,λ_=>True.intro,λy hy=>absurd rfl hy⟩
theorem attr_of{prog:y6}{w:y0}{env:Env}{e:yj}{f:Str}{pos:Pos}{s:ye}{Q:yb->ye->Prop}(hb:yae e f env (yz e env)=yz e env)
  (h:yi (ym prog w) A (yz e env) (λo s₁=>yi (ym prog w) A (getAttr o f true) Q E s₁) E s):yi (ym prog w) A (yz (.Attribute e f pos) env) Q E s:=
 Attribute_any_ h (by rw[arm_eval_Attribute,hb])
end
def tFld(K:yh)(ta:TE)(f:Str):TE:=λσ H Q=>ta σ H λx H1=>∃a C dx fs v,x=.ref a/\H1 a=some (.ins C dx fs)/\Cls K C/\UJ K C f/\fs.lookup f=some v/\Q v H1
def sFld(K:yh)(ta tv:TE)(f:Str):TS:=λD σ H=>tv σ H λy H1=>ta σ H1 λx H2=>∃a C dx fs,x=.ref a/\H2 a=some (.ins C dx fs)/\Cls K C/\UJ K C f/\fs.length<1000 /\
 D.nx σ (upd H2 a (.ins C dx (putF f y fs)))
section
variable {X:Cx}{o e value:yj}{f:Str}{pos pos' tpos:Pos}{ta tv:TE}
theorem pe_fld(he:PE X e ta)(hb:yae e f X.env (yz e X.env)=yz e X.env):PE X (.Attribute e f pos) (tFld X.K ta f):=by
 intro pins s σ H Q I h;refine attr_of hb (thn (he pins s σ H _ I h) λu s1 ⟨x,H1,I1,rx,a,C,dx,fs,v,ex,ea,c,n,l,q⟩=>?_)
 subst ex;obtain rfl:u=yb.ref a:=rx;exact zjS I1 ea c n l λu' s2 I2 ru=>⟨v,H1,I2,ru,q⟩
theorem zkW(ha:PE X o ta)(hv:PE X value tv)(hs:jz value (some (.Attribute o f pos')) pos.line X.env=pure false):PS X (.Assign [.Attribute o f pos'] value pos) (sFld X.K ta tv f):=by
 intro pins s σ H D I h;refine plainObj_wpAny_Assign_Attribute (thn (hv pins s σ H _ I h) λu s1 ⟨y,H1,I1,ry,q⟩=>thn (ha pins s1 σ H1 _ I1 q) λov s2 ⟨x,H2,I2,rx,a,C,dx,fs,ex,ea,c,n,l,q2⟩=>?_) hs
 subst ex;obtain rfl:ov=yb.ref a:=rx;exact zjj I2 ea c n l ry λs3 I3=>⟨σ,_,I3,q2⟩
end
structure Room(k:Nat)(A:yD):Prop where
 hd:A.handled=none
 dp:A.depth+3 * k+5<recursionLimit
 un:A.units+16 * k+200<jv
theorem Room.mono{j k:Nat}{A:yD}(r:Room k A)(h:j<=k):Room j A:=⟨r.hd,by have:=r.dp;omega,by have:=r.un;omega⟩
theorem Room.deeper{k:Nat}{A:yD}(r:Room (k+1) A)(env:Env):Room k (A.deeper env):=
 ⟨r.hd,by have:=r.dp;show A.depth+1+3 * k+5<_;omega,by have:=r.un;show A.units+3+16 * k+200<_;omega⟩
theorem Room.in1{k:Nat}{A:yD}(r:Room (k+1) A):Room k A.in1:=
 ⟨r.hd,by have:=r.dp;show A.depth+3 * k+5<_;omega,by have:=r.un;show A.units+1+16 * k+200<_;omega⟩
theorem zjJ{A:yD}{C:yc}{us:List yb}{kw:List (Str×yb)}:(A.under (.builtin "type.__call__" ⟨.ref C::us,kw⟩)).depth=A.depth+1:=by
 first|rfl|simp[yD.under,Code.weight,Code.isCreation,Code.isGuard,Code.isCaller,Code.frames,Code.isFrame,guardIds]
theorem zjI{A:yD}{C:yc}{us:List yb}{kw:List (Str×yb)}:(A.under (.builtin "type.__call__" ⟨.ref C::us,kw⟩)).units=A.units+1:=by
 first|rfl|simp[yD.under,Code.cUnits,Code.frames,Code.isFrame]
theorem Room.make{k:Nat}{A:yD}(r:Room (k+1) A)(C:yc)(us:List yb)(kw:List (Str×yb)):Room k (A.under (.builtin "type.__call__" ⟨.ref C::us,kw⟩)):=
 ⟨r.hd,by have:=r.dp;rw[zjJ];omega,by have:=r.un;rw[zjI];omega⟩
theorem Room.depth{k:Nat}{A:yD}(r:Room k A):A.depth<recursionLimit:=by have:=r.dp;omega
theorem Room.units{k:Nat}{A:yD}(r:Room k A):A.units+64<jv:=by have:=r.un;omega
def tNil:TA:=λ_ H Q=>Q [] H
def zki(ta:TE)(tr:TA):TA:=λσ H Q=>ta σ H λx H1=>tr σ H1 λxs H2=>Q (x::xs) H2
section
variable {X:Cx}{e:yj}{es:List yj}{te:TE}{t:TA}{pos:Pos}
theorem W5:PA X [] tNil:=λ_ _ _ _ H Q I h=>Calls.spliced_nil ⟨[],H,I,.nil,h⟩
theorem Y3(ha:PE X e te)(hr:PA X es t)(hs:yp (e::es) X.env=(false,yz e X.env)::yp es X.env:=by rfl):PA X (e::es) (zki te t):=by
 intro pos pins s σ H Q I h;rw[hs];show yi _ _ (spliced ((false,yz e X.env)::jc pos (yp es X.env))) _ _ s;refine Calls.spliced_cons (thn (ha pins s σ H _ I h) λu s1 ⟨x,H1,I1,r1,q1⟩=>?_)
 exact thn (hr pos pins s1 σ H1 _ I1 q1) λus s2 ⟨xs,H2,I2,r2,q2⟩=>⟨x::xs,H2,I2,.cons r1 r2,q2⟩
def tTup(t:TA):TE:=λσ H Q=>t σ H λxs H1=>xs.length<=y7/\∀p,H1 p=none->Q (.ref p) (upd H1 p (.tup xs))
def tLst(t:TA):TE:=λσ H Q=>t σ H λxs H1=>xs.length<=y7/\∀p,H1 p=none->Q (.ref p) (upd H1 p (.lst xs))
theorem pe_tup{x1}(h:PA X es t):PE X (.Tuple es x1 pos) (tTup t):=by
 intro pins s σ H Q I hq;refine wpAny_Tuple_spliced (thn (h pos pins s σ H _ I hq) λus s1 ⟨xs,H1,I1,r,z,q⟩=>⟨by rw[<- r.length];exact z,?_⟩)
 have hf:H1 s1.heap.objs.size=none:=I1.hok.fresh (yu _);refine⟨.ref s1.heap.objs.size,upd H1 s1.heap.objs.size (.tup xs),I1.laid (t':=s1.toks) (λb u e=>yA _ e) (yu _) ?_,rfl,q _ hf⟩
 exact⟨z,us,r,⟨_,yO _ rfl,rfl,_,rfl⟩⟩
theorem pe_lst(h:PA X es t):PE X (.List es pos) (tLst t):=by
 intro pins s σ H Q I hq;refine wpAny_List_spliced (thn (h pos pins s σ H _ I hq) λus s1 ⟨xs,H1,I1,r,z,q⟩=>⟨by rw[<- r.length];exact z,?_⟩)
 have hf:H1 s1.heap.objs.size=none:=I1.hok.fresh (yu _);refine⟨.ref s1.heap.objs.size,upd H1 s1.heap.objs.size (.lst xs),I1.laid (t':=s1.toks) (λb u e=>yA _ e) (yu _) ?_,rfl,q _ hf⟩
 exact⟨z,us,0,r,yO _ rfl⟩
end
abbrev Sp:=List V->Hp->VK->XK->Prop
abbrev CXT:=List Env->Hp->ye->XK->yb->ye->Prop
structure Env0(P:y6)(w:y0)(K:yh)(mg:Str->Option yb)(base:yd)(A:yD)(outer:List Env)(s:ye)(H:Hp):Prop where
 frames:A.frames=some outer
 mod:Mod K mg base
 bs:∀b o,base.get? b=some o->s.heap.get? b=some o/\H b=none
 bsz:base.objs.size<=s.heap.objs.size
 funs:s.heap.FunFrames base outer
 frf:∀b∈frs outer,H b=none
 hok:HOk P w H s.heap
 bare:AllBare s.gens
def CE(outer:List Env)(P:y6)(w:y0)(H:Hp)(s:ye)(Q:VK)(u:yb)(s':ye):Prop:=
 ∃v H',s'.os=s.os/\AllBare s'.gens/\Un (frs outer) [] H H' s.heap s'.heap/\HOk P w H' s'.heap/\ax v u/\Q v H'
def CR(CX:CXT)(outer:List Env)(P:y6)(w:y0)(H:Hp)(s:ye)(Q:VK)(E:XK)(r:Result)(s':ye):Prop:=
 match r with
 |.ok (.ret u)=>CE outer P w H s Q u s'
 |.ok _=>False
 |.error e=>CX outer H s E e s'
structure FnOk(P:y6)(w:y0)(K:yh)(mg:Str->Option yb)(base:yd)(CX:CXT)(k:Nat)(f:yc)(fd:yM)(ps:List Str)(sp:Sp):Prop where
 len:∀vs H Q E,sp vs H Q E->vs.length=ps.length
 run:∀(A:yD) (outer:List Env) (s:ye) (H:Hp) (args:Args) (us:List yb) (vs:List V) (Q:VK) (E:XK),Room k A->Env0 P w K mg base A outer s H->BindsTo s fd args (ps.zip us)->Vals vs us->sp vs H Q E ->
  jQ (ym P w) A (.call (.ref f) args) (CR CX outer P w H s Q E) s
theorem FnOk.mono{P:y6}{w:y0}{K:yh}{mg:Str->Option yb}{base:yd}{CX:CXT}{j k:Nat}{f:yc}{fd:yM}{ps:List Str}{sp:Sp}(F:FnOk P w K mg base CX j f fd ps sp)(h:j<=k):
  FnOk P w K mg base CX k f fd ps sp:=⟨F.len,λA outer s H args us vs Q E hr=>F.run A outer s H args us vs Q E (hr.mono h)⟩
theorem FnOk.imp{P:y6}{w:y0}{K:yh}{mg:Str->Option yb}{base:yd}{CX:CXT}{k:Nat}{f:yc}{fd:yM}{ps:List Str}{sp sp':Sp}(F:FnOk P w K mg base CX k f fd ps sp)
  (h:∀vs H Q E,sp' vs H Q E->sp vs H Q E):FnOk P w K mg base CX k f fd ps sp':=
 ⟨λvs H Q E q=>F.len vs H Q E (h _ _ _ _ q),λA outer s H args us vs Q E hr he hb hv hs=>F.run A outer s H args us vs Q E hr he hb hv (h _ _ _ _ hs)⟩
theorem Env0.make{P:y6}{w:y0}{K:yh}{mg:Str->Option yb}{base:yd}{A:yD}{outer:List Env}{s:ye}{H:Hp}(e:Env0 P w K mg base A outer s H)(C:yc)(us:List yb)(kw:List (Str×yb)):
  Env0 P w K mg base (A.under (.builtin "type.__call__" ⟨.ref C::us,kw⟩)) outer s H:=⟨by first|exact e.frames|(simpa[yD.under,Code.envs,Code.isFrame,pushEnvs] using e.frames),e.mod,e.bs,e.bsz,e.funs,e.frf,e.hok,e.bare⟩
section
variable {X:Cx}{pins:List (yc×Obj)}{σ:St}{H:Hp}{s s':ye}
theorem Inv.env0(I:Inv X pins σ H s):Env0 X.prog X.w X.K X.mg X.base X.A X.stack s H:=
 ⟨I.ok.frames,I.ok.mod,I.bs,yE I.ok.bsz I.sz,I.stack,I.stkFree,I.hok,I.bare⟩
theorem Inv.after{Q:VK}{u:yb}(I:Inv X pins σ H s)(h:CE X.stack X.prog X.w H s Q u s'):EP X pins σ Q u s':=by
 obtain⟨v,H',os,bare,un,hok,r,q⟩:=h;obtain⟨hh,g,d,t,os'⟩:=s';obtain rfl:os'=s.os:=os;exact⟨v,H',I.call (h':=hh) (g':=g) (d':=d) (t':=t) (ch:=[]) un hok bare (λb z=>absurd z (by simp)),r,q⟩
end
def tCall(sp:Sp)(dvs:List V)(E:XK)(t:TA):TE:=λσ H Q=>t σ H λvs H1=>sp (vs++dvs) H1 Q E
def tMake(C:yc)(sp:Sp)(dvs:List V)(E:XK)(t:TA):TE:=λσ H Q=>t σ H λvs H1=>∀x dx,H1 x=none->H1 dx=none->dx≠x ->
 sp (.ref x::(vs++dvs)) (upd (upd H1 dx (.own x)) x (.ins C dx [])) (λv H2=>v=.non/\Q (.ref x) H2) E
def ZB(K:yh)(fd:yM)(ps:List Str)(ds:List yb):Prop:=
 ∀(s:ye) (us:List yb),K.In s.heap->(us++ds).length=ps.length->BindsTo s fd ⟨us,[]⟩ (ps.zip (us++ds))
theorem ZB.all{K:yh}{fd:yM}{ps:List Str}(h:∀us:List yb,us.length=ps.length->bindArgs fd ⟨us,[]⟩=pure (ps.zip us)):ZB K fd ps []:=λs us _ hl=>by
 rw[jF]at hl ⊢;exact .of_eq (h us hl)
def zb7(CX:CXT)(X:Cx)(E:XK):Prop:=∀(pins:List (yc×Obj)) (σ:St) (H:Hp) (s:ye) (e:yb) (s':ye),Inv X pins σ H s->CX X.stack H s E e s'->X.xe e s'
section
variable {X:Cx}{CX:CXT}{k:Nat}{f C:yc}{fd:yM}{ps:List Str}{sp:Sp}{dvs:List V}{ds:List yb}{E:XK}{x m:Str}{p pos apos:Pos}{e o:yj}{es:List yj}{ta:TE}{t:TA}
theorem run_fn{pins:List (yc×Obj)}{σ:St}{H:Hp}{s:ye}{Q:VK}{us:List yb}{vs:List V}(F:FnOk X.prog X.w X.K X.mg X.base CX k f fd ps sp)(hr:Room k X.A)(hb:ZB X.K fd ps ds)(hd:Vals dvs ds)(hx:zb7 CX X E)
  (I:Inv X pins σ H s) (r:Vals vs us) (h:sp (vs++dvs) H Q E):yi (ym X.prog X.w) X.A (call (.ref f) us) (EP X pins σ Q) X.xe s:=by
 have r2:Vals (vs++dvs) (us++ds):=r.append hd;have hl:(us++ds).length=ps.length:=by rw[<- r2.length];exact F.len _ _ _ _ h
 refine wpAny_call (ya1 (F.run X.A X.stack s H ⟨us,[]⟩ (us++ds) (vs++dvs) Q E hr I.env0 (hb s us I.kIn hl) r2 h) λr s' hq=>?_)
 cases r with
 |error e=>exact hx pins σ H s e s' I hq
 |ok fl=>
  cases fl with
  |ret u=>exact I.after hq
  |next=>exact False.elim hq
  |brk=>exact False.elim hq
  |cont=>exact False.elim hq
theorem zk2(F:FnOk X.prog X.w X.K X.mg X.base CX k f fd ps sp)(hr:Room k X.A)(hg:Gl X x)(hm:X.mg x=some (.ref f))(hk:yq X.K (.ref f)=true)(hb:ZB X.K fd ps ds)(hd:Vals dvs ds)(hx:zb7 CX X E)
  (ha:PA X (e::es) t) (hdb:(x == ("__debug__" : Str))=false:=by decide) (he:yp (e::es) X.env=(false,yz e X.env)::yp es X.env:=by rfl) (hpl:(jc pos (yp es X.env)).any (·.1)=false:=by rfl):
  PE X (.Call (.Name x p) (e::es) [] pos) (tCall sp dvs E t):=by
 intro pins s σ H Q I h;refine yaa (zby I hg hm ?_ hdb);refine ydb (h₀:=X.base) I.ok.mod.kin hk (thn (ha pos pins s σ H _ I h) λus s1 ⟨vs,H1,I1,r,q⟩=>⟨I1.kIn,?_⟩) he hpl
 exact run_fn F hr hb hd hx I1 r q
structure Mk(K:yh)(C f:yc):Prop where
 makes:ydp K C=true
 init:jG K (.ref C) "__init__"=some (some (.ref f))
 fn:PySem.W.isFn K (.ref f)=true
 kp:yq K (.ref C)=true
theorem run_make{pins:List (yc×Obj)}{σ:St}{H:Hp}{s:ye}{Q:VK}{us:List yb}{vs:List V}(M:Mk X.K C f)(F:FnOk X.prog X.w X.K X.mg X.base CX k f fd ps sp)(hr:Room (k+1) X.A)(hb:ZB X.K fd ps ds)(hd:Vals dvs ds)
  (hx:zb7 CX X E) (I:Inv X pins σ H s) (r:Vals vs us)
  (h:∀x dx,H x=none->H dx=none->dx≠x->sp (.ref x::(vs++dvs)) (upd (upd H dx (.own x)) x (.ins C dx [])) (λv H2=>v=.non/\Q (.ref x) H2) E):
  yi (ym X.prog X.w) X.A (call (.ref C) us) (EP X pins σ Q) X.xe s:=by
 have hq:=h (s.heap.objs.size+1) s.heap.objs.size (I.hok.fresh (yat _)) (I.hok.fresh (yu _)) (yU (ya5 _));have I2:=Inv.made (C:=C) I;have r2:Vals (V.ref (s.heap.objs.size+1)::(vs++dvs)) (yb.ref (s.heap.objs.size+1)::(us++ds)):=.cons rfl (r.append hd);have hl:(yb.ref (s.heap.objs.size+1)::us++ds).length=ps.length:=by
  have e:=r2.length;rw[F.len _ _ _ _ hq]at e;exact e.symm
 refine wpAny_call (make_map (f:=f) I.kIn M.makes M.init (beq_iff_eq.mp M.fn) (ya1 (F.run _ X.stack _ _ ⟨yb.ref (s.heap.objs.size+1)::us,[]⟩ (yb.ref (s.heap.objs.size+1)::(us++ds)) _ _ E (hr.make C us [])
  (I2.env0.make C us []) (hb _ (yb.ref (s.heap.objs.size+1)::us) I2.kIn hl) r2 hq) λr s' hq'=>?_))
 cases r with
 |error e=>exact hx pins σ _ _ e s' I2 hq'
 |ok fl=>
  cases fl with
  |ret u=>
   obtain⟨v,H',I3,rv,ev,q3⟩:=I2.after hq';subst ev;exact⟨rv,⟨V.ref (s.heap.objs.size+1),H',I3,rfl,q3⟩⟩
  |next=>exact False.elim hq'
  |brk=>exact False.elim hq'
  |cont=>exact False.elim hq'
theorem pe_make(M:Mk X.K C f)(F:FnOk X.prog X.w X.K X.mg X.base CX k f fd ps sp)(hr:Room (k+1) X.A)(hg:Gl X x)(hm:X.mg x=some (.ref C))(hb:ZB X.K fd ps ds)(hd:Vals dvs ds)(hx:zb7 CX X E)
  (ha:PA X (e::es) t) (hdb:(x == ("__debug__" : Str))=false:=by decide) (he:yp (e::es) X.env=(false,yz e X.env)::yp es X.env:=by rfl) (hpl:(jc pos (yp es X.env)).any (·.1)=false:=by rfl):
  PE X (.Call (.Name x p) (e::es) [] pos) (tMake C sp dvs E t):=by
 intro pins s σ H Q I h;refine yaa (zby I hg hm ?_ hdb);refine ydb (h₀:=X.base) I.ok.mod.kin M.kp (thn (ha pos pins s σ H _ I h) λus s1 ⟨vs,H1,I1,r,q⟩=>⟨I1.kIn,?_⟩) he hpl
 exact run_make M F hr hb hd hx I1 r q
end
def PK(X:Cx)(kws:List qw)(t:TA):Prop:=
 ∀(pos:Pos) (pins:List (yc×Obj)) (s:ye) (σ:St) (H:Hp) (Q:List V->Hp->Prop),Inv X pins σ H s->t σ H Q->yi (ym X.prog X.w) X.A (evalAll ((backToKw pos (ya2 kws X.env)).map (·.2))) (AP X pins σ Q) X.xe s
section
variable {X:Cx}{CX:CXT}{k:Nat}{f C:yc}{fd:yM}{ps ks:List Str}{sp:Sp}{E:XK}{x m:Str}{p pos apos kpos:Pos}{e o:yj}{es:List yj}{kws:List qw}{te ta:TE}{t tk:TA}{nm:Option Str}
theorem pk_nil:PK X [] tNil:=λ_ _ _ _ H Q I h=>wpAny_evalAll_nil ⟨[],H,I,.nil,h⟩
theorem zkY(ha:PE X e te)(hr:PK X kws t):PK X (⟨nm,e,kpos⟩::kws) (zki te t):=by
 intro pos pins s σ H Q I h;show yi _ _ (evalAll ((do let v <- yz e X.env;standAt pos;pure v)::(backToKw pos (ya2 kws X.env)).map (·.2))) _ _ s
 refine wpAny_evalAll_cons (yf (thn (ha pins s σ H _ I h) λu s1 ⟨x,H1,I1,r1,q1⟩=>yf (ybr (yx ?_))))
 exact thn (hr pos pins s1 σ H1 _ I1 q1) λus s2 ⟨xs,H2,I2,r2,q2⟩=>⟨x::xs,H2,I2,.cons r1 r2,q2⟩
variable {g:List yb->List yb->List yb}{gV:List V->List V->List V}
end
structure ae(N P:List Str)(sc:yJ):Prop where
 kind:sc.kind=.function
 co:sc.isCoroutine=false
 gen:sc.isGenerator=false
 nd:N.Nodup
 pre:N.take P.length=P
 par:∀x∈P,sc.names.lookup x=some .local\/sc.names.lookup x=some .cell
 nofree:∀y∈sc.names,y.2≠.free
theorem zg0{kindOf:Str->Option jh}{x:Str}:∀{binds:List (Str×yb)}{m:Str->Option yb},(∀v,(x,v)∉binds)->bindL kindOf binds m x=m x
 |[],_,_=>rfl
 |(n,v)::r,m,h=>by
  unfold bindL;rw[zg0 λw hw=>h w (yS _ hw)]
  split
  ·have:x≠n:=by rintro rfl;exact h v yX
   simp[this]
  ·rfl
theorem zg2{kindOf:Str->Option jh}{x:Str}:∀{binds:List (Str×yb)}{m:Str->Option yb},(∀v,(x,v)∉binds)->bindC kindOf binds m x=m x
 |[],_,_=>rfl
 |(n,v)::r,m,h=>by
  unfold bindC;rw[zg2 λw hw=>h w (yS _ hw)]
  split
  ·rfl
  ·have:x≠n:=by rintro rfl;exact h v yX
   simp[this]
theorem zg1{kindOf:Str->Option jh}{x:Str}{v:yb}:∀{P:List Str}{vs:List yb}{i:Nat}{m:Str->Option yb},P.Nodup->P[i]? = some x->vs[i]? = some v->kindOf x=some .local ->
  bindL kindOf (P.zip vs) m x=some v
 |[],_,_,_,_,h,_,_=>by simp at h
 |_::_,[],_,_,_,_,h,_=>by simp at h
 |p::P,w::vs,0,m,nd,h1,h2,hk=>by
  simp at h1 h2;subst h1;subst h2;show bindL kindOf ((p,w)::P.zip vs) m p=_;unfold bindL;rw[zg0 λv hv=>(ya8.mp nd).1 (j1 hv).1,if_pos hk]
  simp
 |p::P,w::vs,i+1,m,nd,h1,h2,hk=>by
  show bindL kindOf ((p,w)::P.zip vs) m x=_;unfold bindL;exact zg1 (i:=i) (ya8.mp nd).2 (by simpa using h1) (by simpa using h2) hk
theorem zg3{kindOf:Str->Option jh}{x:Str}{v:yb}:∀{P:List Str}{vs:List yb}{i:Nat}{m:Str->Option yb},P.Nodup->P[i]? = some x->vs[i]? = some v->kindOf x≠some .local ->
  bindC kindOf (P.zip vs) m x=some v
 |[],_,_,_,_,h,_,_=>by simp at h
 |_::_,[],_,_,_,_,h,_=>by simp at h
 |p::P,w::vs,0,m,nd,h1,h2,hk=>by
  simp at h1 h2;subst h1;subst h2;show bindC kindOf ((p,w)::P.zip vs) m p=_;unfold bindC;rw[zg2 λv hv=>(ya8.mp nd).1 (j1 hv).1,if_neg hk]
  simp
 |p::P,w::vs,i+1,m,nd,h1,h2,hk=>by
  show bindC kindOf ((p,w)::P.zip vs) m x=_;unfold bindC;exact zg3 (i:=i) (ya8.mp nd).2 (by simpa using h1) (by simpa using h2) hk
def start(N:List Str)(vs:List V):St:=vs.map some++y3 (N.length - vs.length) none
def cxOf(CX:CXT)(P:y6)(w:y0)(K:yh)(mg:Str->Option yb)(base:yd)(N:List Str)(qual:Str)(scope:yJ)(f:yc)(cd:yb)(A:yD)(outer:List Env)(s:ye)(H:Hp)(E:XK):Cx where
 prog:=P
 w:=w
 K:=K
 mg:=mg
 base:=base
 A:=A.deeper (envOfC qual scope s.heap.objs.size f cd)
 N:=N
 s₀:=s
 H₀:=H
 env:=envOfC qual scope s.heap.objs.size f cd
 outer:=outer
 stack:=envOfC qual scope s.heap.objs.size f cd::outer
 ex:=[]
 calm:=true
 fn:=λ_=>true
 pn:=[]
 xe:=λe s'=>yi (ym P w) (A.deeper (envOfC qual scope s.heap.objs.size f cd)) (leaving (envOfC qual scope s.heap.objs.size f cd) e) (λ_ s''=>CX outer H s E e s'') (λe' s''=>CX outer H s E e' s'') s'
theorem zi7{sc:yJ}{n:Nat}{x:Str}(h:sc.names.lookup x=some .cell):∃c,(cellsFrom n sc.names []).lookup x=some c:=by
 have q:=yec sc.names n [] (.inl h);exact Option.isSome_iff_exists.mp q
theorem zlE{CX:CXT}{P:y6}{w:y0}{K:yh}{mg:Str->Option yb}{base:yd}{N ps:List Str}{qual:Str}{scope:yJ}{f:yc}{cd:yb}{A:yD}{outer:List Env}{s s1:ye}{H:Hp}{E:XK}{us:List yb}{vs:List V}
  (S:ae N ps scope) (hd:A.handled=none) (e0:Env0 P w K mg base A outer s H) (hl:vs.length=ps.length) (r:Vals vs us)
  (x:InCallC s s.heap.objs.size (bindL (envOfC qual scope s.heap.objs.size f cd).kindOf (ps.zip us) λ_=>none) (cellsFrom (s.heap.objs.size+1) scope.names []) (bindC (envOfC qual scope s.heap.objs.size f cd).kindOf (ps.zip us) λ_=>none) s1):
  Inv (cxOf CX P w K mg base N qual scope f cd A outer s H E) [] (start N vs) H s1:=by
 have hpl:ps.length<=N.length:=by have:=congrArg List.length S.pre;rw[ya6]at this;omega
 obtain⟨h1,tk,rfl,hk⟩:=x.done;have noA:∀b:yc,b∉(cxOf CX P w K mg base N qual scope f cd A outer s H E).ex:=λb z=>absurd (show b∈([]:List yc) from z) (by simp)
 refine⟨⟨e0.mod,S.kind,rfl,rfl,yu _,λy z c h1 h2=>?_,λy hy=>?_,λy c _ h=>?_,λ_=>hd,yD.frames_deeper e0.frames,.inr ⟨rfl,rfl⟩,λb z=>absurd z (noA b),e0.bs,e0.bsz,λb _ _=>noA b,λb z=>absurd z (noA b),e0.funs,e0.frf⟩,
  rfl,e0.bare,Un.kept hk,⟨_,x.toInCall.ns,λi y v h1 h2 h3=>?_⟩,λy c h=>⟨_,x.cell y c h⟩,e0.hok.fresh (yu _),λy c h=>?_,λp hp=>absurd (show p∈([]:List (yc×Obj)) from hp) (by simp),e0.hok.kept hk,?_⟩
 ·exact name_of_addr x.apart (PySem.mem_of_lookup h1) (PySem.mem_of_lookup h2)
 ·have hy:scope.names.lookup y=some .cell\/scope.names.lookup y=some .free:=hy;rcases hy with hy|hy
  ·exact zi7 hy
  ·exact absurd rfl (S.nofree _ (PySem.mem_of_lookup hy))
 ·exact jB (x.above y c (PySem.mem_of_lookup h))
 ·have hi:i<vs.length:=by
   unfold start at h2;by_cases hi:i<vs.length
   ·exact hi
   ·rw[jC (by simpa using hi)]at h2
    rw[qG]at h2;split at h2<;>cases h2
  have ha:vs[i]? = some v:=by
   unfold start at h2;rw[jK (by simpa using hi),jb]at h2
   cases e:vs[i]? with
   |none=>rw[e]at h2;cases h2
   |some a=>rw[e]at h2;cases h2;rfl
  obtain⟨u,hu,rv⟩:=r.get ha;have hp:ps[i]? = some y:=by
   rw[<- S.pre,List.getElem?_take_of_lt (by omega)];exact h1
  have ndP:ps.Nodup:=by rw[<- S.pre];exact S.nd.sublist (List.take_sublist _ _)
  refine⟨u,rv,?_⟩;rcases S.par y (qb hp) with k|k
  ·exact .inl ⟨k,zg1 ndP hp hu k⟩
  ·obtain⟨c,e⟩:=zi7 (n:=s.heap.objs.size+1) k;refine .inr ⟨.inl k,c,e,?_⟩;have q:=x.cell y c e;rw[zg3 ndP hp hu (by show scope.names.lookup y≠_;rw[k];decide)]at q
   exact q
 ·exact e0.hok.fresh (jB (x.above y c (PySem.mem_of_lookup h)))
 ·unfold start;show _=N.length;rw[qe,yQ,List.length_replicate];omega
theorem fn_of{CX:CXT}{P:y6}{w:y0}{K:yh}{mg:Str->Option yb}{base:yd}{k:Nat}{f:yc}{name qual:Str}{params:yak}{body:List yk}{scope:yJ}{dV kV doc pm cdv ct oc:yb}{an od:Option yc}
  {osl:Array (Option yb)}{N ps:List Str}{sp:Sp}(lk:K.lookup f=some ⟨oc,od,.func (yt name qual params body scope dV kV doc pm an cdv ct),osl⟩) (hcd:yw K cdv qual=true) (S:ae N ps scope)
  (len:∀vs H Q E,sp vs H Q E->vs.length=ps.length)
  (hbody:∀(A:yD) (outer:List Env) (s:ye) (H:Hp) (vs:List V) (Q:VK) (E:XK),Room k (A.deeper (envOfC qual scope s.heap.objs.size f cdv))->sp vs H Q E ->
   ∃t,PSs (cxOf CX P w K mg base N qual scope f cdv A outer s H E) body t/\t { nx:=λ_ H'=>Q .non H',rt:=Q } (start N vs) H):
  FnOk P w K mg base CX (k+1) f (yt name qual params body scope dV kV doc pm an cdv ct) ps sp:=by
 refine⟨len,λA outer s H args us vs Q E hr e0 hb r hsp=>?_⟩
 have hl:=len _ _ _ _ hsp;have KX:K.In s.heap:=e0.mod.kin.keeps λb o e=>(e0.bs b o e).1
 have lim:s.heap.NoLimit:=e0.mod.nolimit.keeps λb o e=>(e0.bs b o e).1
 have hkind:∀y∈ps.zip us,scope.names.lookup y.1=some .local\/(scope.names.lookup y.1=some .cell/\((cellsFrom (s.heap.objs.size+1) scope.names []).lookup y.1).isSome=true):=λ⟨n,v⟩ hy=>by
  rcases S.par n (j1 hy).1 with q|q
  ·exact .inl q
  ·exact .inr ⟨q,yec _ _ _ (.inl q)⟩
 refine codeAny_call_function hr.depth (KX _ _ lk) rfl S.co S.gen rfl (PySem.W.codeRec_of KX hcd) (hb _ _ _ _ ?_);refine wpAny_newFunctionEnv_cells S.kind hkind λenv he s1 x=>?_
 subst he;refine⟨lim.keeps x.toInCall.keep,codeAny_func ?_⟩;obtain⟨t,ht,hq⟩:=hbody A outer s H vs Q E (hr.deeper _) hsp;have I:Inv (cxOf CX P w K mg base N qual scope f cdv A outer s H E) [] (start N vs) H s1:=zlE S hr.hd e0 hl r x;refine yI (ht [] s1 (start N vs) H _ I hq) (λfl s' hs=>?_) λe s' hs=>hs
 have fin:∀{σ':St}{H':Hp}{v:V}{u:yb},Inv (cxOf CX P w K mg base N qual scope f cdv A outer s H E) [] σ' H' s'->ax v u->Q v H'->CE outer P w H s Q u s':=
  λ{σ' H' v u} J rv q=>⟨v,H',J.os,J.bare,J.base,J.hok,rv,q⟩
 cases fl with
 |ret u=>
  obtain⟨v,σ',H',J,rv,q⟩:=hs;exact fin J rv q
 |next=>
  obtain⟨σ',H',J,q⟩:=hs;exact fin (v:=V.non) (u:=yb.none) J rfl q
 |brk=>
  obtain⟨_,_,_,q⟩:=hs;exact False.elim q
 |cont=>
  obtain⟨_,_,_,q⟩:=hs;exact False.elim q
section
variable {X:Cx}{x:Str}{p pos:Pos}{e:yj}{es:List yj}{t:TA}{id T:String}{r:List V->Hp->VK->Prop}
def tCB(r:List V->Hp->VK->Prop)(t:TA):TE:=λσ H Q=>t σ H λvs H1=>r vs H1 Q
theorem zaC(hc:zdz X (.builtin id) r)(hg:Gl X x)(hm:X.mg x=none)(hv:yP x=some (.builtin id))(ha:PA X (e::es) t)(hn:x≠"__name__":=by decide)(hdb:(x == ("__debug__" : Str))=false:=by decide)
  (he:yp (e::es) X.env=(false,yz e X.env)::yp es X.env:=by rfl) (hpl:(jc pos (yp es X.env)).any (·.1)=false:=by rfl):PE X (.Call (.Name x p) (e::es) [] pos) (tCB r t):=by
 intro pins s σ H Q I h;refine yaa (zcN I hg hm hv ?_ hn hdb);exact PyProof.Rows.callWith_builtin1 (thn (ha pos pins s σ H _ I h) λus s1 ⟨vs,H1,I1,r1,q1⟩=>hc pins s1 σ H1 vs us Q I1 r1 q1) he hpl
theorem U8(hc:zdz X (.type T) r)(hg:Gl X x)(hm:X.mg x=none)(hv:yP x=some (.type T))(ha:PA X (e::es) t)(hn:x≠"__name__":=by decide)(hdb:(x == ("__debug__" : Str))=false:=by decide)
  (he:yp (e::es) X.env=(false,yz e X.env)::yp es X.env:=by rfl) (hpl:(jc pos (yp es X.env)).any (·.1)=false:=by rfl):PE X (.Call (.Name x p) (e::es) [] pos) (tCB r t):=by
 intro pins s σ H Q I h;refine yaa (zcN I hg hm hv ?_ hn hdb);exact PyProof.Rows.callWith_type1 (thn (ha pos pins s σ H _ I h) λus s1 ⟨vs,H1,I1,r1,q1⟩=>hc pins s1 σ H1 vs us Q I1 r1 q1) he hpl
end
end L2
namespace HT
open PySem PyProof.Rows
def zjK:List Int->List Int->Bool
 |[],[]=>false
 |[],_::_=>true
 |_::_,[]=>false
 |x::xs,y::ys=>if x=y then zjK xs ys else decide (x<y)
theorem lexLt_cons(x y:Int)(xs ys:List Int):zjK (x::xs) (y::ys)=if x=y then zjK xs ys else decide (x<y):=rfl
theorem lexLt_nil_nil:zjK [] []=false:=rfl
theorem lexLt_nil_cons(y:Int)(ys:List Int):zjK [] (y::ys)=true:=rfl
theorem lexLt_cons_nil(x:Int)(xs:List Int):zjK (x::xs) []=false:=rfl
section
open PySem.SeqAt
open PySem.AutoSeq1 (wpAny_loadPart')
open PySem.MeetsSeq PySem.MeetsSeq2 PySem.MeetsSeq3
end
section
variable {prog:y6}{w:y0}{A:yD}{E:yb->ye->Prop}{s:ye}
theorem cat_tup{t b:yc}{vs ws:List yb}{Q:yb->ye->Prop}(ht:IsTup s.heap t vs.toArray)(hb:IsTup s.heap b ws.toArray)(hv:vs≠[])
  (h1:ws=[]->Q (.ref t) s) (h2:ws≠[]->Q (.ref s.heap.objs.size) { s with heap:=s.heap.push { cls:=.type "tuple",data:=.seq (vs++ws).toArray } })
  (hsz:vs.length+ws.length<=y7):yi (ym prog w) A (jm .Add (.ref t) (.ref b)) Q E s:=by
 obtain⟨⟨cls,dd,data,sl⟩,ho,hc,n,hd⟩:=id ht;obtain⟨⟨cls2,dd2,data2,sl2⟩,ho2,hc2,n2,hd2⟩:=id hb;simp only at hc hd hc2 hd2;subst hc hd hc2 hd2;have e:vs.toArray++ws.toArray=(vs++ws).toArray:=by simp
 by_cases hw:ws=[]
 ·exact ybw ⟨_,ho,rfl⟩ ⟨_,ho2,rfl⟩ ycx seq_tuple_add ycw ycs (ycq _ _)
   (tuple_addW1 t b vs.toArray ws.toArray n n2 dd dd2 sl sl2 (by simpa using hv) (by simp[hw])) ⟨ho,ho2,h1 hw⟩
 ·refine ybw ⟨_,ho,rfl⟩ ⟨_,ho2,rfl⟩ ycx seq_tuple_add ycw ycs (ycq _ _)
   (tuple_addW2 t b vs.toArray ws.toArray n n2 dd dd2 sl sl2 (by simpa using hv) (by simpa using hw) (by rw[yL,yL];exact hsz)) ⟨ho,ho2,?_⟩
  rw[e];exact h2 hw
def sIx(n d:Nat):Option Int->Nat
 |none=>d
 |some v=>if v<0 then(v+(n:Int)).toNat else min v.toNat n
theorem sIx_none(n d:Nat):sIx n d none=d:=rfl
theorem sIx_le(n d:Nat)(hd:d<=n)(o:Option Int):sIx n d o<=n:=by
 cases o with
 |none=>exact hd
 |some v=>
  show(if v<0 then(v+(n:Int)).toNat else min v.toNat n)<=n
  by_cases hv:v<0
  ·rw[if_pos hv];omega
  ·rw[if_neg hv];exact Nat.min_le_right _ _
theorem zmh(v:Int)(n d:Nat):(if v<0 then max (v+(n:Int)) 0 else min v (n:Int))=((sIx n d (some v):Nat):Int):=by
 show(if v<0 then max (v+(n:Int)) 0 else min v (n:Int))=(((if v<0 then(v+(n:Int)).toNat else min v.toNat n):Nat):Int)
 by_cases hv:v<0
 ·simp only[if_pos hv];omega
 ·simp only[if_neg hv];omega
theorem zj5(lo hi:Option Int)(n:Nat):yB.Slice.sliceAdjust lo hi 1 (n:Int)=(((sIx n 0 lo:Nat):Int),((sIx n n hi:Nat):Int)):=by
 have h1:¬((1:Int)<0):=by omega
 unfold yB.Slice.sliceAdjust;simp only[h1,if_false];refine Prod.ext ?_ ?_
 ·cases lo with
  |none=>rfl
  |some v=>exact zmh v n 0
 ·cases hi with
  |none=>rfl
  |some v=>exact zmh v n n
theorem zjs(i j:Nat):yB.Slice.slicePlaces (i:Int) (j:Int) 1=j - i:=by
 unfold yB.Slice.slicePlaces;have h1:(1:Int) > 0:=by omega
 simp only[h1,if_true,Int.ediv_one];split<;>omega
theorem zd2{v:yb}{o:Option Int}{Q:Option Int->ye->Prop}(p:IsPart v o)(h:Q o s):yi (ym prog w) A (yB.Slice.slicePartIndex v) Q E s:=by
 cases p with
 |none=>exact slicePart_none h
 |int i t=>exact slicePart_int h
theorem zb8{sl:yc}{vl vu:yb}{lo hi:Option Int}{n:Nat}{Q:Int×Int×Nat->ye->Prop}(hs:s.heap.IsSliceOf sl vl vu .none)(pl:IsPart vl lo)(pu:IsPart vu hi)
  (h:Q (((sIx n 0 lo:Nat):Int),1,sIx n n hi - sIx n 0 lo) s):yi (ym prog w) A (yB.Slice.sliceApplied (.ref sl) (pure (n:Int))) Q E s:=by
 obtain⟨os,hos,hcs,hds⟩:=id hs;unfold yB.Slice.sliceApplied yB.Slice.sliceFields;refine yf (yf (jg hos hds (x:=vl) rfl (yf (jg hos hds (x:=vu) rfl (yf (jg hos hds (x:=.none) rfl (yx ?_)))))));refine yf (slicePart_none ?_);show yi _ _ (if((1:Int) == 0)=true then _ else _) _ _ s
 rw[if_neg (by decide)]
 refine yf (zd2 pl (yf (zd2 pu (yf (yx ?_)))));show yi _ _ (match yB.Slice.sliceAdjust lo hi 1 (n:Int) with|(lo,hi)=>pure (lo,(1:Int),yB.Slice.slicePlaces lo hi 1)) _ _ s
 rw[zj5 lo hi n];show yi _ _ (pure (((sIx n 0 lo:Nat):Int),(1:Int),yB.Slice.slicePlaces ((sIx n 0 lo:Nat):Int) ((sIx n n hi:Nat):Int) 1)) _ _ s;rw[zjs];exact yx h
theorem pick_gen(xs:Array yb)(i k:Nat):((y4 k).filterMap λ(m:Nat)=>xs[((i:Int)+(m:Int) * 1).toNat]?).toArray=((xs.toList.drop i).take k).toArray:=by
 have e:(λ(m:Nat)=>xs[((i:Int)+(m:Int) * 1).toNat]?)=λm=>xs[i+m]?:=by
  funext m
  have:((i:Int)+(m:Int) * 1).toNat=i+m:=by omega
  rw[this]
 rw[e];have:=pick_run xs i k;rw[List.filterMap_map]at this;have e2:((λx=>xs[x]?) ∘ λx=>i+x)=λm=>xs[i+m]?:=rfl
 rw[e2]at this;rw[this]
theorem getItem_tuple_cut{t sl:yc}{items:Array yb}{vl vu:yb}{lo hi:Option Int}{Q:yb->ye->Prop}(ht:IsTup s.heap t items)(hs:s.heap.IsSliceOf sl vl vu .none)(pl:IsPart vl lo)(pu:IsPart vu hi)
  (hw:¬(sIx items.size 0 lo=0/\sIx items.size items.size hi=items.size))
  (h:Q (.ref s.heap.objs.size) { s with heap:=s.heap.push { cls:=.type "tuple",data:=.seq ((items.toList.drop (sIx items.size 0 lo)).take (sIx items.size items.size hi - sIx items.size 0 lo)).toArray } })
  (hsz:items.size<=y7):yi (ym prog w) A (qx (.ref t) (.ref sl)) Q E s:=by
 have htake:sizeOk (.seq ((items.toList.drop (sIx items.size 0 lo)).take (sIx items.size items.size hi - sIx items.size 0 lo)).toArray):=by
  show((items.toList.drop (sIx items.size 0 lo)).take (sIx items.size items.size hi - sIx items.size 0 lo)).toArray.size<=y7;rw[yL,ya6,ydl,ya0];omega
 have hj:sIx items.size items.size hi<=items.size:=sIx_le _ _ (yu _) hi;obtain⟨os,hos,hcs,hds⟩:=id hs;have hTs:s.TypeIs (.ref sl) "slice":=⟨os,hos,hcs⟩;unfold qx
 try with_reducible refine qc ?_
 first|refine yf (yx ?_)|skip
 refine yf (wpAny_sequenceKey ht.typeIs (by decide) ?_)
 refine yf (qE (name:=Str.ofString "__getitem__") ht.typeIs PyProof.Rows.slot_tuple_getitem
  (qk PyProof.Rows.slot_tuple_getitem ht.typeIs entry_tuple_getitem ?_ (args_tuple_getitem _ _)))
 show yi _ _ (yB.Tuple.tupleItemsOf (.ref t) >>= _) _ _ s;refine yf (tupleItemsOf_ ht ?_);refine yf (wpAny_typeOf hTs ?_);rw[if_pos (by decide)]
 refine yf (zb8 hs pl pu ?_);have hno:¬((((sIx items.size 0 lo:Nat):Int) == 0 && (1:Int) == 1 && (sIx items.size items.size hi - sIx items.size 0 lo) == items.size)=true):=by
  intro q;rw[jl,jl]at q;have q1:((sIx items.size 0 lo:Nat):Int)=0:=eq_of_beq q.1.1;have q2:sIx items.size items.size hi - sIx items.size 0 lo=items.size:=eq_of_beq q.2;exact hw ⟨by omega,by omega⟩
 show yi _ _ (if(((sIx items.size 0 lo:Nat):Int) == 0 && (1:Int) == 1 && (sIx items.size items.size hi - sIx items.size 0 lo) == items.size)=true then _ else _) _ _ s
 rw[if_neg hno,pick_gen]
 first
  |exact yf (m:=yB.Tuple.tupleExact _) (jT (yx ⟨_,rfl,yx h⟩) htake)
  |exact yf (m:=yB.Tuple.tupleExact _) (jT (yf (yx (yx ⟨_,rfl,yx h⟩))) htake)
  |exact yf (yf (m:=yB.Tuple.tupleExact _) (jT (yx (yx ⟨_,rfl,yx h⟩)) htake))
  |exact yf (yf (m:=yB.Tuple.tupleExact _) (jT (yx ⟨_,rfl,yx h⟩) htake))
end
end HT
namespace L2
open PySem PySem.Spec PyProof.Rows
abbrev TO:=St->Hp->(Option Int->Hp->Prop)->Prop
def PO(X:Cx)(e:Option yj)(t:TO):Prop:=
 ∀(pins:List (yc×Obj)) (s:ye) (σ:St) (H:Hp) (Q:Option Int->Hp->Prop),Inv X pins σ H s->t σ H Q ->
  yi (ym X.prog X.w) X.A (evalPart e X.env) (λu s'=>∃o H',Inv X pins σ H' s'/\IsPart u o/\Q o H') X.xe s
def tNoPart:TO:=λ_ H Q=>Q none H
def tPart(t:TE):TO:=λσ H Q=>t σ H λx H1=>∃i,x=.int i/\Q (some i) H1
section
variable {X:Cx}{e:yj}{te:TE}{lo hi:Option yj}{tl th:TO}{pos p2:Pos}
theorem po_none:PO X none tNoPart:=by
 intro pins s σ H Q I h;rw[evalPart_none];exact yx ⟨none,H,I,.none,h⟩
theorem po_some(h:PE X e te):PO X (some e) (tPart te):=by
 intro pins s σ H Q I hw;rw[evalPart_some];refine thn (h pins s σ H _ I hw) λu s1 ⟨x,H1,I1,r1,q1⟩=>?_
 obtain⟨i,rfl,q⟩:=q1;obtain⟨t,rfl⟩:=r1;exact⟨some i,H1,I1,.int i t,q⟩
def SlR(X:Cx)(r:V->Option Int->Option Int->Hp->VK->Prop):Prop:=
 ∀(pins:List (yc×Obj)) (s:ye) (σ:St) (H:Hp) (x:V) (v vl vu:yb) (lo hi:Option Int) (sl:yc) (Q:VK),Inv X pins σ H s->ax x v->s.heap.IsSliceOf sl vl vu .none->IsPart vl lo->IsPart vu hi->r x lo hi H Q ->
  ∃T id,typeLookup (.type T) "__getitem__"=pure (some (.builtin id))/\s.TypeIs v T/\yi (ym X.prog X.w) X.A (qx v (.ref sl)) (EP X pins σ Q) X.xe s
def tSl(r:V->Option Int->Option Int->Hp->VK->Prop)(te:TE)(tl th:TO):TE:=λσ H Q=>te σ H λx H1=>tl σ H1 λl H2=>th σ H2 λu H3=>r x l u H3 Q
theorem zil{r:V->Option Int->Option Int->Hp->VK->Prop}(hr:SlR X r)(he:PE X e te)(hl:PO X lo tl)(hu:PO X hi th):PE X (.Subscript e (.Slice lo hi none p2) pos) (tSl r te tl th):=by
 intro pins s σ H Q I h;refine Subscript_ (thn (he pins s σ H _ I h) λv s1 ⟨x,H1,I1,r1,q1⟩=>?_)
 refine wpAny_Slice (thn (hl pins s1 σ H1 _ I1 q1) λvl s2 ⟨l,H2,I2,pl,q2⟩=>thn (hu pins s2 σ H2 _ I2 q2) λvu s3 ⟨u,H3,I3,pu,q3⟩=>?_)
 rw[evalPart_none];refine yx ?_;have I4:Inv X pins σ H3 { s3 with heap:=s3.heap.push { cls:=.type "slice",data:=.fields #[vl,vu,.none] } }:=I3.kept (t':=s3.toks) λb ob q=>yA _ q
 obtain⟨T,id,hT,ht,hg⟩:=hr pins { s3 with heap:=s3.heap.push { cls:=.type "slice",data:=.fields #[vl,vu,.none] } } σ H3 x v vl vu l u s3.heap.objs.size Q I4 r1 (yd.IsSliceOf.new ..) pl pu q3
 show yi (ym X.prog X.w) X.A (subscriptTail e (.Slice lo hi none p2) v (.ref s3.heap.objs.size)) (EP X pins σ Q) X.xe { s3 with heap:=s3.heap.push { cls:=.type "slice",data:=.fields #[vl,vu,.none] } }
 exact tail_any (ops:=[.ref s3.heap.objs.size,v]) ht hT hg (by with_unfolding_all rfl)
def cutV(xs:List V)(lo hi:Option Int):List V:=(xs.drop (HT.sIx xs.length 0 lo)).take (HT.sIx xs.length xs.length hi - HT.sIx xs.length 0 lo)
theorem zds(xs:List V)(lo hi:Option Int):(cutV xs lo hi).length<=xs.length:=by
 unfold cutV;rw[ya6,ydl];omega
def rSlT(K:yh):V->Option Int->Option Int->Hp->VK->Prop:=λx lo hi H Q=>∃a xs,x=.ref a/\SqT K H a xs /\
 ¬(HT.sIx xs.length 0 lo=0/\HT.sIx xs.length xs.length hi=xs.length)/\∀p,H p=none->Q (.ref p) (upd H p (.tup (cutV xs lo hi)))
theorem sl_tup:SlR X (rSlT X.K):=by
 intro pins s σ H x v vl vu lo hi sl Q I rx hs pl pu h;obtain⟨a,xs,rfl,hx,hw,q⟩:=h;cases rx;obtain⟨its,r,ht,hz⟩:=I.tuple hx;have hlen:its.toArray.size=xs.length:=by rw[yL];exact r.length.symm
 refine⟨"tuple",_,PyProof.Rows.slot_tuple_getitem.lookup,ht.typeIs,?_⟩;refine HT.getItem_tuple_cut ht hs pl pu (by rw[hlen];exact hw) ?_ (by rw[hlen];exact hz)
 rw[hlen];refine⟨.ref s.heap.objs.size,_,I.laid (t':=s.toks) (o:=.tup (cutV xs lo hi)) (λb ob q=>yA _ q) (yu _) ?_,rfl,q _ (I.hok.fresh (yu _))⟩
 exact⟨yE (zds xs lo hi) hz,_,(r.drop (HT.sIx xs.length 0 lo)).take (HT.sIx xs.length xs.length hi - HT.sIx xs.length 0 lo),IsTup.new _ _⟩
def rCatT(K:yh):R2:=λx y H Q=>∃a b xs ys,x=.ref a/\y=.ref b/\SqT K H a xs/\SqT K H b ys/\xs≠[]/\xs.length+ys.length<=y7 /\ (ys=[]->Q (.ref a) H)/\(ys≠[]->∀p,H p=none->Q (.ref p) (upd H p (.tup (xs++ys))))
theorem Vals.nil_iff{xs:List V}{us:List yb}(r:Vals xs us):us=[]↔xs=[]:=by
 cases r with
 |nil=>simp
 |cons _ _=>simp
theorem op_catT:OpR X (jm .Add) (rCatT X.K):=by
 intro pins s σ H x y v u Q I rx ry h;obtain⟨a,b,xs,ys,rfl,rfl,ha,hb,hx,hz,q1,q2⟩:=h;cases rx;cases ry;obtain⟨its,r1,p1,_⟩:=I.tuple ha;obtain⟨its2,r2,p2,_⟩:=I.tuple hb;refine HT.cat_tup p1 p2 (λz=>hx (r1.nil_iff.mp z)) (λz=>⟨.ref a,H,I,rfl,q1 (r2.nil_iff.mp z)⟩) (λz=>?_) (by rw[<- r1.length,<- r2.length];exact hz)
 refine⟨.ref s.heap.objs.size,_,I.laid (t':=s.toks) (o:=.tup (xs++ys)) (λb ob q=>yA _ q) (yu _) ?_,rfl,q2 (λw=>z (r2.nil_iff.mpr w)) _ (I.hok.fresh (yu _))⟩
 exact⟨by rw[qe];exact hz,_,r1.append r2,IsTup.new _ _⟩
end
def ixN(n:Nat)(i:Int):Option Nat:=if 0<=i then(if i<n then some i.toNat else none) else if -(n:Int)<=i then some (i+n).toNat else none
def atI{α:Type}(xs:List α)(i:Int):Option α:=(ixN xs.length i).bind λj=>xs[j]?
theorem zlB{n:Nat}{i:Int}{j:Nat}(h:ixN n i=some j):seqIndex? i n=some j/\j<n/\-(n:Int)<=i/\i<n:=by
 unfold ixN at h;by_cases h0:0<=i
 ·rw[if_pos h0]at h;by_cases h1:i<n
  ·rw[if_pos h1]at h;have e:i.toNat=j:=jr.inj h;exact⟨by rw[seqIndex_of h0 h1,e],by omega,by omega,h1⟩
  ·rw[if_neg h1]at h;cases h
 ·rw[if_neg h0]at h;by_cases h1:-(n:Int)<=i
  ·rw[if_pos h1]at h;have e:(i+n).toNat=j:=jr.inj h;exact⟨by rw[seqIndex_neg (by omega) h1,e],by omega,h1,by omega⟩
  ·rw[if_neg h1]at h;cases h
theorem zms{α:Type}{xs:List α}{i:Int}{v:α}(h:atI xs i=some v):∃j,seqIndex? i xs.length=some j/\xs[j]? = some v/\j<xs.length/\-(xs.length:Int)<=i/\i<xs.length:=by
 unfold atI at h;cases e:ixN xs.length i with
 |none=>rw[e]at h;cases h
 |some j=>
  rw[e]at h;obtain⟨h1,h2,h3,h4⟩:=zlB e;exact⟨j,h1,h,h2,h3,h4⟩
def zhV(b:yj):Prop:=∀o i,yb1 b false o i=operate [o,i] (qx o i)
def IxR(X:Cx)(r:R2):Prop:=
 ∀(value slice:yj) (pins:List (yc×Obj)) (s:ye) (σ:St) (H:Hp) (x y:V) (v u:yb) (Q:VK),Inv X pins σ H s->ax x v->ax y u->r x y H Q ->
  yb1 slice false v u=operate [v,u] (qx v u)->yi (ym X.prog X.w) X.A (subscriptTail value slice v u) (EP X pins σ Q) X.xe s
def MtR(X:Cx)(id:String)(r:V->List V->Hp->VK->Prop):Prop:=
 ∀(pins:List (yc×Obj)) (s:ye) (σ:St) (H:Hp) (x:V) (xs:List V) (v:yb) (us:List yb) (Q:VK),Inv X pins σ H s->ax x v->Vals xs us->r x xs H Q ->
  yi (ym X.prog X.w) X.A (call (.builtin id) (v::us)) (EP X pins σ Q) X.xe s
section
variable {X:Cx}{a b:yj}{ta tb:TE}{pos:Pos}
theorem IxR.or{r r':R2}(h:IxR X r)(h':IxR X r'):IxR X (λx y H Q=>r x y H Q\/r' x y H Q):=by
 intro value slice pins s σ H x y v u Q I rx ry q hs;rcases q with q|q
 ·exact h value slice pins s σ H x y v u Q I rx ry q hs
 ·exact h' value slice pins s σ H x y v u Q I rx ry q hs
theorem pe_ix{r:R2}(hr:IxR X r)(ha:PE X a ta)(hb:PE X b tb)(hs:zhV b):PE X (.Subscript a b pos) (tOp r ta tb):=by
 intro pins s σ H Q I h;exact Subscript_ (binT ha hb I h λv u s2 x y H2 I2 rx ry q=>hr a b pins s2 σ H2 x y v u Q I2 rx ry q (hs _ _))
def rIxL(K:yh):R2:=λx y H Q=>∃p xs i v,x=.ref p/\y=.int i/\SqL K H p xs/\atI xs i=some v/\Q v H
def rIxT(K:yh):R2:=λx y H Q=>∃p xs i v,x=.ref p/\y=.int i/\SqT K H p xs/\atI xs i=some v/\Q v H
theorem zlz:IxR X (rIxL X.K):=by
 intro value slice pins s σ H x y v u Q I rx ry h hs;obtain⟨p,xs,i,z,rfl,rfl,hq,he,q⟩:=h;cases rx;obtain⟨t,rfl⟩:=ry;obtain⟨its,r,pl,hz⟩:=I.list hq;obtain⟨j,h1,h2,h3,h4,h5⟩:=zms he;obtain⟨w,ew,rw'⟩:=r.get h2;have hl:=r.length;have hn:=zgu;have fin:EP X pins σ Q w s:=⟨z,H,I,rw',q⟩;by_cases h0:0<=i
 ·have hj:i.toNat=j:=by
   rw[seqIndex_of h0 h5]at h1;exact jr.inj h1
  exact item_listR pl.isList h0 (by omega) (by rw[hj];simpa using ew) fin hs
 ·have hj:(i+(its.toArray.size:Int)).toNat=j:=by
   rw[seqIndex_neg (by omega) h4]at h1
   rw[yL,<- hl];exact jr.inj h1
  exact subscriptTail_builtinR (x:=w) pl.isList.typeIs slot_list_getitem.lookup
   (wpAny_getItem_list_neg (Q:=λr s'=>r=w/\EP X pins σ Q r s') pl.isList (by omega) (by rw[yL]<;>omega) (by omega) (by rw[hj];simpa using ew) ⟨rfl,fin⟩) hs
theorem ix_tup:IxR X (rIxT X.K):=by
 intro value slice pins s σ H x y v u Q I rx ry h hs;obtain⟨p,xs,i,z,rfl,rfl,hq,he,q⟩:=h;cases rx;obtain⟨t,rfl⟩:=ry;obtain⟨its,r,pl,hz⟩:=I.tuple hq;obtain⟨j,h1,h2,h3,h4,h5⟩:=zms he;obtain⟨w,ew,rw'⟩:=r.get h2;have hl:=r.length;have hn:=zgu;have fin:EP X pins σ Q w s:=⟨z,H,I,rw',q⟩;exact subscriptTail_builtinR (x:=w) pl.typeIs slot_tuple_getitem.lookup
  (getItem_tuple (j:=j) (Q:=λr s'=>r=w/\EP X pins σ Q r s') pl (by omega) (by omega) (by rw[yL,<- hl];exact h1) (by simpa using ew) ⟨rfl,fin⟩) hs
theorem zjH(its:List yb)(n j:Nat)(u:yb):jJ (·.setIfInBounds j u) { cls:=.type "list",data:=.seq its.toArray n }={ cls:=.type "list",data:=.seq (its.set j u).toArray n }:=by
 simp[jJ]
theorem Inv.lst{pins:List (yc×Obj)}{σ:St}{H:Hp}{s:ye}{p:yc}{xs:List V}(I:Inv X pins σ H s)(h:H p=some (.lst xs)):
  ∃(its:List yb) (n:Nat),Vals xs its/\s.heap.get? p=some { cls:=.type "list",data:=.seq its.toArray n }/\xs.length<=y7:=by
 obtain⟨z,its,n,r,e⟩:=I.hok p _ h;exact⟨its,n,r,e,z⟩
theorem Inv.lstUpd{pins:List (yc×Obj)}{σ:St}{H:Hp}{s:ye}{p:yc}{xs ys:List V}{its its':List yb}{n n':Nat}{f:Obj->Obj}(I:Inv X pins σ H s)(h:H p=some (.lst xs))
  (ho:s.heap.get? p=some { cls:=.type "list",data:=.seq its.toArray n }) (hf:f { cls:=.type "list",data:=.seq its.toArray n }={ cls:=.type "list",data:=.seq its'.toArray n' }) (r:Vals ys its') (hz:ys.length<=y7) (t:Nat):
  Inv X pins σ (upd H p (.lst ys)) { s with heap:=s.heap.update p f,toks:=t }:=by
 have e:(s.heap.update p f).get? p=some { cls:=.type "list",data:=.seq its'.toArray n' }:=by
  rw[ybn f ho (by rw[hf]<;>rfl),hf]
 refine I.write (x:=p) (e:=p) (by rw[h];trivial) (.inl rfl) (λb u hb q=>(ycy _ _ (Ne.symm hb)).trans q) ⟨_,e⟩ ?_
 exact⟨hz,its',n',r,e⟩
def rSetL:V->V->V->Hp->(Hp->Prop)->Prop:=λo i v H Q=>∃p xs k j,o=.ref p/\i=.int k/\H p=some (.lst xs)/\ixN xs.length k=some j/\Q (upd H p (.lst (xs.set j v)))
theorem set_list:PSet X rSetL:=by
 intro pins s σ H o i v ov iv u Q I ro ri rv h;obtain⟨p,xs,k,j,rfl,rfl,hp,hj,q⟩:=h;cases ro;obtain⟨t,rfl⟩:=ri;obtain⟨its,n,r,ho,hz⟩:=I.lst hp;obtain⟨h1,h2,h3,h4⟩:=zlB hj;have hl:=r.length;have hn:=zgu;have I':Inv X pins σ (upd H p (.lst (xs.set j v))) { s with heap:=s.heap.update p (jJ (·.setIfInBounds j u)) }:=
  I.lstUpd hp ho (zjH its n j u) (r.set rv j) (by rw[jV];exact hz) s.toks
 by_cases h0:0<=k
 ·have hk:k.toNat=j:=by
   rw[seqIndex_of h0 h4]at h1;exact jr.inj h1
  exact PySem.W.ki_setAt ho h0 (by omega) (by rw[yL,<- hl];exact h4) (by rw[hk];exact⟨_,I',q⟩)
 ·have hk:(k+(its.toArray.size:Int)).toNat=j:=by
   rw[seqIndex_neg (by omega) h3]at h1
   rw[yL,<- hl];exact jr.inj h1
  exact PySem.W.ki_setBack ho (by omega) (by rw[yL,<- hl];exact h3) (by omega) (by rw[hk];exact⟨_,I',q⟩)
theorem zf5(lo hi:Option Int)(n:Nat):(qL lo hi none n).1=((HT.sIx n 0 lo:Nat):Int)/\(qL lo hi none n).2.1=((HT.sIx n n hi:Nat):Int)/\(qL lo hi none n).2.2=1:=by
 refine⟨?_,?_,rfl⟩
 ·cases lo with
  |none=>simp[qL,HT.sIx]
  |some i=>
   simp only[qL,HT.sIx,Option.getD_none,show(1:Int) > 0 by decide,if_true]
   by_cases h:i<0
   ·simp only[h,if_true]<;>omega
   ·simp only[h,if_false]<;>omega
 ·cases hi with
  |none=>simp[qL,HT.sIx]
  |some i=>
   simp only[qL,HT.sIx,Option.getD_none,show(1:Int) > 0 by decide,if_true]
   by_cases h:i<0
   ·simp only[h,if_true]<;>omega
   ·simp only[h,if_false]<;>omega
theorem zeR(its:List yb)(lo hi:Option Int):slicePick its.toArray lo hi none=((its.drop (HT.sIx its.length 0 lo)).take (HT.sIx its.length its.length hi - HT.sIx its.length 0 lo)).toArray:=by
 obtain⟨h1,h2,h3⟩:=zf5 lo hi its.toArray.size;unfold slicePick;rw[h1,h2,h3];simp only[sliceRange_one,pick_run,yL]<;>rfl
def rSlL(K:yh):V->Option Int->Option Int->Hp->VK->Prop:=λx lo hi H Q=>∃a xs,x=.ref a/\SqL K H a xs/\∀p,H p=none->Q (.ref p) (upd H p (.lst (cutV xs lo hi)))
theorem sl_list:SlR X (rSlL X.K):=by
 intro pins s σ H x v vl vu lo hi sl Q I rx hs pl pu h;obtain⟨a,xs,rfl,hx,q⟩:=h;cases rx;obtain⟨its,r,ht,hz⟩:=I.list hx;have hlen:=r.length;refine⟨"list",_,slot_list_getitem.lookup,ht.isList.typeIs,?_⟩;refine wpAny_getItem_list_slice ht.isList hs pl pu .none (by simp) ?_ (by rw[yL]<;>omega)
 rw[zeR,<- hlen];refine⟨.ref s.heap.objs.size,_,I.laid (t':=s.toks) (o:=.lst (cutV xs lo hi)) (λb ob q=>yA _ q) (yu _) ?_,rfl,q _ (I.hok.fresh (yu _))⟩
 exact⟨yE (zds xs lo hi) hz,_,0,(r.drop (HT.sIx xs.length 0 lo)).take (HT.sIx xs.length xs.length hi - HT.sIx xs.length 0 lo),yO _ rfl⟩
theorem zgZ:zdz X (.builtin "len") (λxs H Q=>∃p ys,xs=[.ref p]/\(SqL X.K H p ys\/SqT X.K H p ys)/\Q (.int ys.length) H):=by
 intro pins s σ H xs us Q I r h;obtain⟨p,ys,rfl,hq,q⟩:=h;obtain⟨u,rfl,rx⟩:=zeI r;cases rx;have hn:=zgu;rcases hq with hq|hq
 ·obtain⟨its,r',pl,hz⟩:=I.list hq;have hlen:=r'.length;exact Calls.call_len_list pl.isList (by simp only[yL]<;>omega) ⟨.int ys.length,H,I.tok _,⟨s.toks+1,by rw[yL,hlen]⟩,q⟩
 ·obtain⟨its,r',pl,hz⟩:=I.tuple hq;have hlen:=r'.length;exact len_tuple pl (by simp only[yL]<;>omega) ⟨.int ys.length,H,I.tok _,⟨s.toks+1,by rw[yL,hlen]⟩,q⟩
theorem zgY:zdz X (.type "list") (λxs H Q=>∃p ys,xs=[.ref p]/\(SqL X.K H p ys\/SqT X.K H p ys)/\∀l,H l=none->Q (.ref l) (upd H l (.lst ys))):=by
 intro pins s σ H xs us Q I r h;obtain⟨p,ys,rfl,hq,q⟩:=h;obtain⟨u,rfl,rx⟩:=zeI r;cases rx;have fin:∀(its:List yb),Vals ys its->ys.length<=y7->∀(h':yd) (c':Nat),(∀b o',s.heap.get? b=some o'->h'.get? b=some o') ->
   h'.get? s.heap.objs.size=some { cls:=.type "list",dict:=none,data:=.seq its.toArray c',slots:=#[] }->EP X pins σ Q (.ref s.heap.objs.size) { s with heap:=h' }:=λits r' hz h' c' kp e=>
  ⟨.ref s.heap.objs.size,_,I.laid (t':=s.toks) kp (yu _) (show W4 X.prog X.w _ h' _ (.lst ys) from⟨hz,its,c',r',e⟩),rfl,q _ (I.hok.fresh (yu _))⟩
 rcases hq with hq|hq
 ·obtain⟨its,r',pl,hz⟩:=I.list hq;have hlen:=r'.length;obtain⟨o,ho,hc,n,hd⟩:=pl.isList;exact call_list_seq p (.inl rfl) ho hc hd (λh' c' kp e=>fin its r' hz h' c' kp e) (by simp only[yL]<;>omega)
 ·obtain⟨its,r',pl,hz⟩:=I.tuple hq;have hlen:=r'.length;obtain⟨o,ho,hc,n,hd⟩:=pl;exact call_list_seq p (.inr rfl) ho hc hd (λh' c' kp e=>fin its r' hz h' c' kp e) (by simp only[yL]<;>omega)
theorem zfS:zdz X (.type "tuple") (λxs H Q=>∃p ys,xs=[.ref p]/\((SqL X.K H p ys/\∀l,H l=none->Q (.ref l) (upd H l (.tup ys)))\/(SqT X.K H p ys/\Q (.ref p) H))):=by
 intro pins s σ H xs us Q I r h;obtain⟨p,ys,rfl,h⟩:=h;obtain⟨u,rfl,rx⟩:=zeI r;cases rx;rcases h with ⟨hq,q⟩|⟨hq,q⟩
 ·obtain⟨its,r',pl,hz⟩:=I.list hq;have hlen:=r'.length;refine call_tuple_list pl.isList (λh' kp=>?_) (by simp only[yL]<;>omega)
  have I1:Inv X pins σ H { s with heap:=h' }:=I.kept (t':=s.toks) kp
  have I2:Inv X pins σ (upd H h'.objs.size (.tup ys)) { s with heap:=h'.push { cls:=.type "tuple",data:=.seq its.toArray } }:=
   I1.laid (t':=s.toks) (λb o e=>yA _ e) (yu _) (show W4 X.prog X.w _ _ _ (.tup ys) from⟨hz,its,r',IsTup.new _ _⟩)
  exact⟨.ref h'.objs.size,_,I2,rfl,q _ (I1.hok.fresh (yu _))⟩
 ·obtain⟨its,r',pl,hz⟩:=I.tuple hq;exact call_tuple_same pl ⟨.ref p,H,I,rfl,q⟩
def tyV(K:yh)(T:String)(x:V)(H:Hp):Prop:=match x with
 |.str _=>T = "str"
 |.int _=>T = "int"
 |.ref p=>(T = "list" /\ ∃xs,SqL K H p xs)\/(T = "tuple" /\ ∃o,K.lookup p=some o/\o.cls=.type "tuple" /\ o.dict=none) \/ (T = "dict" /\ ((∃kvs,H p=some (.dK kvs))\/∃kvs,H p=some (.dT kvs)))\/(T = "set" /\ ∃S n,H p=some (.set S n))
 |_=>False
theorem tyV_is{pins:List (yc×Obj)}{σ:St}{H:Hp}{s:ye}{T:String}{x:V}{v:yb}(I:Inv X pins σ H s)(r:ax x v)(ty:tyV X.K T x H):
  s.TypeIs v T/\∀a,v=.ref a->∃ob,s.heap.get? a=some ob/\ob.dict=none:=by
 cases x with
 |str z=>
  obtain⟨t,rfl⟩:=r;cases(show T = "str" from ty);exact⟨typeIs_str s z t,λ_ e=>nomatch e⟩
 |int i=>
  obtain⟨t,rfl⟩:=r;cases(show T = "int" from ty);exact⟨typeIs_int s i t,λ_ e=>nomatch e⟩
 |ref p=>
  cases r;rcases ty with ⟨rfl,xs,hq⟩|⟨rfl,o,hk,hc,hd⟩|⟨rfl,hk⟩|⟨rfl,S,n,hk⟩
  ·obtain⟨its,_,pl,_⟩:=I.list hq;refine⟨pl.isList.typeIs,λa e=>?_⟩
   cases e;obtain⟨o,n,e,c,hd,_⟩:=pl;exact⟨o,e,hd⟩
  ·refine⟨⟨o,I.kIn p o hk,hc⟩,λa e=>?_⟩
   cases e;exact⟨o,I.kIn _ o hk,hd⟩
  ·have z:∃o,s.heap.get? p=some o/\o.ExactDict:=by
    rcases hk with ⟨kvs,hk⟩|⟨kvs,hk⟩
    ·obtain⟨_,_,_,_,o,_,_,e,ex,_⟩:=I.hok p _ hk;exact⟨o,e,ex⟩
    ·obtain⟨_,_,_,_,o,_,_,e,ex,_⟩:=I.hok p _ hk;exact⟨o,e,ex⟩
   obtain⟨o,e,ex⟩:=z;refine⟨⟨o,e,ex.1⟩,λa e2=>?_⟩
   cases e2;exact⟨o,e,ex.2.1⟩
  ·obtain⟨o,_,_,_,e,ex,_⟩:=I.hok p _ hk;refine⟨⟨o,e,ex.1⟩,λa e2=>?_⟩
   cases e2;exact⟨o,e,ex.2.1⟩
 |_=>exact False.elim ty
def tBM(K:yh)(T:String)(r:V->List V->Hp->VK->Prop)(to:TE)(t:TA):TE:=λσ H Q=>to σ H λx H1=>tyV K T x H1/\t σ H1 λxs H2=>r x xs H2 Q
variable {o e:yj}{es:List yj}{to:TE}{t:TA}{name:Str}{apos cpos:Pos}{T id:String}{r:V->List V->Hp->VK->Prop}
theorem pe_bm(pa:PlainAttrs T)(slot:Slot T name id)(hty:typeOf (.builtin id)=pure (.type "method_descriptor"))(hm:MtR X id r)(ho:PE X o to)(ha:PA X (e::es) t)
  (hbase:yae o name X.env (yz o X.env)=yz o X.env:=by rfl)
  (hfew:((jc cpos (yp (e::es) X.env)).all (λx=>!x.1) && (backToKw cpos (ya2 [] X.env)).all (λx=>x.1.isSome)
   && decide ((e::es).length+([]:List qw).length+(if([]:List qw).isEmpty then 0 else 1)<30))=true:=by rfl)
  (hline:(apos.endLine == cpos.line)=true:=by rfl) (hs:yp (e::es) X.env=(false,yz e X.env)::yp es X.env:=by rfl) (hplain:(jc cpos (yp es X.env)).any (·.1)=false:=by rfl):
  PE X (.Call (.Attribute o name apos) (e::es) [] cpos) (tBM X.K T r to t):=by
 intro pins s σ H Q I h;refine wpAny_Call_method_late hbase hfew hline rfl (thn (ho pins s σ H _ I h) λv s1 ⟨x,H1,I1,r1,ty,q1⟩=>?_)
 obtain⟨h1,h2⟩:=tyV_is I1 r1 ty;refine⟨T,id,pa,slot,hty,h1,h2,?_⟩;have hA:=ha cpos pins s1 σ H1 _ I1 q1;rw[hs]at hA ⊢;refine Calls.callWith_builtin (by show(false || (jc cpos (yp es X.env)).any (·.1))=false;rw[hplain]<;>rfl) (Calls.evalArgs_plain ?_)
 exact thn hA λus s2 ⟨vs,H2,I2,r2,q2⟩=>hm pins s2 σ H2 x vs v us Q I2 r1 r2 q2
end
def MtM(X:Cx)(id:String)(r:V->List V->Hp->VK->Prop):Prop:=
 ∀(pins:List (yc×Obj)) (s:ye) (σ:St) (H:Hp) (x:V) (xs:List V) (v:yb) (us:List yb) (Q:VK),Inv X pins σ H s->ax x v->Vals xs us->r x xs H Q ->
  yi (ym X.prog X.w) X.A (call (.builtin id) (v::us)) (EP X pins σ Q) X.xe s
theorem Vals.one:∀{x:V}{us:List yb},Vals [x] us->∃u,us=[u]/\ax x u
 |_,_,.cons r .nil=>⟨_,rfl,r⟩
theorem Vals.rep{xs:List V}{us:List yb}(h:Vals xs us):∀k:Nat,Vals (y3 k xs).flatten (y3 k us).flatten
 |0=>.nil
 |k+1=>by
  rw[qd,qd,qM,qM];exact Vals.append h (Vals.rep h k)
theorem zgB(its:List yb):∀(k:Nat) (acc:List yb),
  yck (λx1 x2=>x1++x2) acc.toArray (y3 k its.toArray)=(acc++(y3 k its).flatten).toArray
 |0,acc=>by simp
 |k+1,acc=>by
  have e:acc.toArray++its.toArray=(acc++its).toArray:=by simp
  have e2:(acc++its)++(y3 k its).flatten=acc++(y3 (k+1) its).flatten:=by
   rw[qd,qM,yb2]
  rw[<- e2,<- zgB its k (acc++its),<- e,qd,List.foldl_cons]
section
variable {X:Cx}{pins:List (yc×Obj)}{σ:St}{H:Hp}{s:ye}{l b:yc}{xs ys zs:List V}
theorem Inv.lset{its its':List yb}{n:Nat}{f:Array yb->Array yb}{t':Nat}(I:Inv X pins σ H s)(hH:H l=some (.lst xs))
  (e:s.heap.get? l=some { cls:=.type "list",data:=.seq its.toArray n }) (hf:f its.toArray=its'.toArray) (hv:Vals ys its') (hz:ys.length<=y7):
  Inv X pins σ (upd H l (.lst ys)) { s with heap:=s.heap.update l (jJ f),toks:=t' }:=by
 have q:=PySem.IsL.update e f;rw[hf]at q;refine I.write (x:=l) (e:=l) (by rw[hH];exact trivial) (.inl rfl) (λb' u hb hu=>(ycy s.heap (jJ f) (Ne.symm hb)).trans hu) ⟨_,q⟩ ?_
 exact⟨hz,its',_,hv,q⟩
theorem Inv.lnew{its:List yb}{t':Nat}(I:Inv X pins σ H s)(hv:Vals ys its)(hz:ys.length<=y7):
  Inv X pins σ (upd H s.heap.objs.size (.lst ys)) { s with heap:=s.heap.push { cls:=.type "list",data:=.seq its.toArray },toks:=t' }:=
 I.laid (λ_ _ q=>yA _ q) (yu _) ⟨hz,its,0,hv,yO _ rfl⟩
theorem Inv.fresh(I:Inv X pins σ H s):H s.heap.objs.size=none:=I.hok.fresh (yu _)
theorem Inv.lstM(I:Inv X pins σ H s)(hH:H l=some (.lst xs)):xs.length<=y7/\∃(its:List yb) (n:Nat),Vals xs its/\xs.length=its.length/\s.heap.get? l=some { cls:=.type "list",data:=.seq its.toArray n }:=by
 obtain⟨z,its,n,r,e⟩:=I.hok l _ hH;exact⟨z,its,n,r,r.length,e⟩
theorem zio{n:Nat}(h:n<=y7):yB.List.listTooLong n=false:=by
 unfold yB.List.listTooLong;exact decide_eq_false (by omega)
end
section
variable {X:Cx}
def rAppend:V->List V->Hp->VK->Prop:=λx vs H Q=>∃l xs y,x=.ref l/\vs=[y]/\H l=some (.lst xs)/\xs.length<y7/\Q .non (upd H l (.lst (xs++[y])))
theorem zgs:MtM X "list.append" rAppend:=by
 intro pins s σ H x vs v us Q I rx rv h;obtain⟨l,xs,y,rfl,rfl,hH,hz,q⟩:=h;cases rx;obtain⟨u,rfl,ru⟩:=rv.one;obtain⟨z,its,n,r,hl,e⟩:=I.lstM hH;refine call_meets F.slot_list_append ⟨_,e,rfl⟩ F.entry_list_append (F.args_list_append_2 _ _) (PySem.list_append l its.toArray n u (by rw[yL];omega)) ⟨e,?_⟩
 refine⟨.non,_,I.lset (its':=its++[u]) hH e (by simp) (r.append (.cons ru .nil)) ?_,rfl,q⟩
 rw[qe,List.length_singleton];omega
def rExtend:V->List V->Hp->VK->Prop:=λx vs H Q=>∃l b xs zs,x=.ref l/\vs=[.ref b]/\H l=some (.lst xs)/\H b=some (.lst zs)/\xs.length+zs.length<=y7/\Q .non (upd H l (.lst (xs++zs)))
theorem zlj:MtM X "list.extend" rExtend:=by
 intro pins s σ H x vs v us Q I rx rv h;obtain⟨l,b,xs,zs,rfl,rfl,hH,hB,hz,q⟩:=h;cases rx;obtain⟨u,rfl,ru⟩:=rv.one;cases ru;obtain⟨z,its,n,r,hl,e⟩:=I.lstM hH;obtain⟨z2,its2,n2,r2,hl2,e2⟩:=I.lstM hB;have hsz:its.toArray.size+its2.toArray.size<=y7:=by rw[yL,yL];omega
 have hlong:¬(!its.toArray.isEmpty && yB.List.listTooLong (its.toArray.size+its2.toArray.size))=true:=by
  rw[zio hsz,Bool.and_false];exact jy
 refine call_meets F.slot_list_extend ⟨_,e,rfl⟩ F.entry_list_extend (F.args_list_extend_2 _ _)
  (AutoSeq1.list_extend_list_list_0 l its.toArray n b its2.toArray n2 hlong (by rw[yL];omega) (by omega)) ⟨e,e2,?_⟩
 refine⟨.non,_,I.lset (its':=its++its2) hH e (by simp) (r.append r2) ?_,rfl,q⟩
 rw[qe];omega
def rRep:R2:=λx y H Q=>∃l k xs,x=.ref l/\y=.int k/\H l=some (.lst xs)/\-(2 ^ 63)<=k/\k<2 ^ 63/\xs.length * k.toNat<=y7 /\
 ∀p,H p=none->Q (.ref p) (upd H p (.lst (y3 k.toNat xs).flatten))
theorem len_rep{α:Type}(xs:List α)(k:Nat):(y3 k xs).flatten.length=k * xs.length:=by
 induction k with
 |zero=>simp
 |succ k ih=>rw[qd,qM,qe,ih,ycf,qV]
theorem op_rep:OpR X (jm .Mult) rRep:=by
 intro pins s σ H x y v u Q I rx ry h;obtain⟨l,k,xs,rfl,rfl,hH,h1,h2,hz,q⟩:=h;cases rx;obtain⟨t,rfl⟩:=ry;obtain⟨z,its,n,r,hl,e⟩:=I.lstM hH;have hlen:its.toArray.size * k.toNat<=y7:=by rw[yL,<- hl];exact hz
 have hcap:¬its.toArray.size * k.toNat > (2 ^ 63 - 1) / 8:=by
  have:(y7:Nat)<=(2 ^ 63 - 1) / 8:=by decide
  omega
 have hfit:¬(!yB.List.listFitsIndex k)=true:=by
  rw[fitsIndex_both h1 h2];exact jy
 have hlong:¬yB.List.listTooLong (its.toArray.size * k.toNat)=true:=by
  rw[zio hlen];exact jy
 have hnew:yck (λx1 x2=>x1++x2) #[] (y3 (if its.toArray.isEmpty=true then 0 else k.toNat) its.toArray)=(y3 k.toNat its).flatten.toArray:=by
  have f0:∀m:Nat,yck (λx1 x2=>x1++x2) #[] (y3 m its.toArray)=(y3 m its).flatten.toArray:=λm=>by
   have:=zgB its m [];rw[yal]at this;exact this
  rw[f0];cases its with
  |nil=>simp
  |cons a r'=>rw[if_neg (by simp)]
 refine wpAny_binaryOp_repeat_ref (T:="list") (U:="int") (by decide) ⟨_,e,rfl⟩ (λs'=>typeIs_int s' k t) noFill_list_mul F.fills_int_mul F.slot_int_rmul repeat_list F.slot_int_index.lookup
  (call_meets F.slot_int_rmul (typeIs_int s k t) F.entry_int_rmul (F.args_int_rmul_2 _ _) (int___rmul___int_list k t l its.toArray n)
   ⟨e,rfl,⟨_,e,rfl⟩,call_meets F.slot_list_mul ⟨_,e,rfl⟩ F.entry_list_mul (F.args_list_mul_2 _ _) (AutoListH.list___mul___list_int_3 l its.toArray n k t hfit hcap hlong) ⟨e,?_⟩⟩)
 rw[hnew];exact⟨.ref _,_,I.lnew (t':=s.toks) (r.rep k.toNat) (by rw[len_rep,Nat.mul_comm];exact hz),rfl,q _ I.fresh⟩
end
end L2
namespace Att
open PySem PySem.W PySem.Calls PyProof.Rows
theorem zcR{P:Params}{h:yd}:∀(ns:List Int) (vs:List yb),WellAll P h vs (ns.map WData.int)->IntsAre vs ns:=by
 intro ns
 induction ns with
 |nil=>
  intro vs w;rw[qW]at w;cases w;exact .nil
 |cons n ns ih=>
  intro vs w;rw[yH]at w;cases w with
  |cons a b=>
   cases a;exact .cons _ _ (ih _ b)
theorem zkz{l:OpenLaw}{n:Nat}(hn:l.most=some n){P:Params}{h:yd}{args:List WData}{vals:List yb}
  (hpre:l.row.toRowW.claim.pre args=true) (hwl:WellAll P h vals args):
  ∃a vs ns,vals=[yb.ref a]/\args=[WData.list (ns.map WData.int)]/\h.get? a=some { cls:=.type "list",data:=.seq vs.toArray }/\IntsAre vs ns/\ns.length<=n:=by
 have hsh:WShape.hasAll [] args [.list .int]=true:=(pre_splitW hpre).1;have hc:l.pre.holds [] { args:=args }=true:=(pre_splitW hpre).2;obtain⟨d,r,rfl,h1,h2⟩:=hasAllW_cons hsh;obtain rfl:=hasAllW_nil h2;obtain⟨xs,rfl,h3⟩:=hasW_list h1;obtain⟨ns,rfl⟩:=items_int h3;have hlen:ns.length<=n:=by
  unfold OpenLaw.pre at hc;have h4:(WTm.not (.lt (.lit (.int (n:Int))) (.len (.arg 0)))).holds [] { args:=[.list (ns.map .int)] }=true:=by
   have h4:=(holds_andW hc).1;rw[hn]at h4;exact h4
  have h5:=condW_of h4 (w_not (w_lt w_lit (w_len_list (w_arg rfl))));rw[yQ]at h5;refine Nat.le_of_not_lt λq=>?_
  have q':(n:Int)<((ns.length:Nat):Int):=by omega
  first
   |(rw[decide_eq_true q']at h5;exact absurd h5 (by decide))
   |(simp at h5;omega)
 cases hwl with
 |cons w1 w2=>
  cases w2;cases w1 with
  |list ho hall=>exact⟨_,_,ns,rfl,rfl,ho,zcR ns _ hall,hlen⟩
theorem zkX(l:OpenLaw)(args:List WData):l.row.toRowW.claim.post args (.bool true) args=true:=
 postW_of (r:=l.row.toRowW) (X:=(true == true))
  (show WShape.has [] (.bool true) .bool=true by first|rfl|decide|simp[WShape.has,WShape.arms,WShape.armsAll])
  (show(WTm.eq .res (.lit (.bool true))).value [] { args:=args,res:=some (.bool true),after:=args }=some (.bool (true == true)) from w_eq_bool (w_res rfl) w_lit) rfl
theorem attach_call{l:OpenLaw}{n:Nat}{q:y6}{loose:List Str}{XP:(Str->Option yb)->yd->Prop}{YP:y0->yd->Prop}{d:DefRec}
  (hn:l.most=some n) (hdf:d.params.defaults=[])
  (call:∀(w:y0) (s₀ s₁:ye) (mg mb:Str->Option yb) (fa:yc) (o:Obj) (pm cd doc:yb) (a:yc) (vs:List yb) (ns:List Int),
   Ground q loose [] XP w s₀ mg mb s₁.heap->YP w s₁.heap ->
   s₁.heap.get? fa=some o->o.data=.func (docDef d.name d.params d.body d.scope pm cd doc)->s₁.heap.CodeRec cd d.name->mg d.name=some (.ref fa) ->
   s₁.heap.get? a=some { cls:=.type "list",data:=.seq vs.toArray }->IntsAre vs ns->ns.length<=n->s₁.gens=#[] ->
   jQ (ym l.prog w) qT (.call (.ref fa) ⟨[.ref a],[]⟩) (λr s'=>r=.ok (.ret (.bool true))/\OldK s₁.heap s'.heap/\s'.os=s₁.os/\AllBare s'.gens) s₁):
  WalkO q loose XP YP l.row.toRowW d [] (λf vs=>PySem.call f vs):=by
 intro w s₀ s₁ mg mb G Y fa o pm cd doc dV kV ho hd hcd hD hmg hg args vals as hpre hlay hrd hwl hlo;obtain rfl:dV=.none:=Dflts.none hD hdf;obtain rfl:kV=.none:=Dflts.noKw hD;obtain⟨a,vs,ns,rfl,rfl,hobj,hints,hlen⟩:=zkz hn hpre hwl;refine enter_call (ya1 (call w s₀ s₁ mg mb fa o pm cd doc a vs ns G Y ho (fd_plain hd) hcd hmg hobj hints hlen hg) λr s' hq=>?_)
 obtain⟨rfl,h2,h3,h4⟩:=hq;exact⟨.inl ⟨.bool true,.bool true,[],rfl,λ_=>rfl,.bool true,zkX l _,λ_=>⟨List.Pairwise.nil,λ_ hm=>(nomatch hm)⟩⟩,h2,h3,h4⟩
end Att
namespace L2
open PySem PySem.Spec PyProof.Rows
theorem zfY:∀{vs:List yb}{ns:List Int},IntsAre vs ns->Vals (ns.map V.int) vs
 |_,_,.nil=>.nil
 |_,_,.cons n t h=>.cons ⟨t,rfl⟩ (zfY h)
def Zn(s:yk):yak:=match s with
 |.FunctionDef _ a _ _ _ _ _ _ _ _=>a
 |_=>{ posonlyargs:=[],args:=[],vararg:=none,kwonlyargs:=[],kw_defaults:=[],kwarg:=none,defaults:=[] }
def Zl(s:yk):List yk:=match s with
 |.FunctionDef _ _ b _ _ _ _ _ _ _=>b
 |_=>[]
def Ze(s:yk):yJ:=match s with
 |.FunctionDef _ _ _ _ _ _ sc _ _ _=>sc
 |_=>{ kind:=.function,names:=[],isGenerator:=false,isCoroutine:=false }
abbrev CX0:CXT:=λ_ _ _ _ _ _=>False
abbrev E0:XK:=λ_ _ _=>False
theorem pass0{X:Cx}:zb7 CX0 X E0:=λ_ _ _ _ _ _ _ h=>h.elim
structure Fun(K:yh)(x qual:Str)(st:yk)(f:yc)(fd:yM):Prop where
 ex:∃(oc:yb) (od:Option yc) (kV doc pm:yb) (an:Option yc) (cdv ct:yb) (osl:Array (Option yb)),
  fd=yt x qual (Zn st) (Zl st) (Ze st) .none kV doc pm an cdv ct/\K.lookup f=some ⟨oc,od,.func fd,osl⟩/\yw K cdv qual=true
 kp:yq K (.ref f)=true
section
variable {P:y6}{w:y0}{K:yh}{mg:Str->Option yb}{base:yd}
theorem Fun.ok{x qual:Str}{st:yk}{f:yc}{fd:yM}{N ps:List Str}{k:Nat}{sp:Sp}(F:Fun K x qual st f fd)(S:ae N ps (Ze st))(len:∀vs H Q E,sp vs H Q E->vs.length=ps.length)
  (hbody:∀(cdv:yb) (A:yD) (outer:List Env) (s:ye) (H:Hp) (vs:List V) (Q:VK) (E:XK),Room k (A.deeper (envOfC qual (Ze st) s.heap.objs.size f cdv))->sp vs H Q E ->
   ∃t,PSs (cxOf CX0 P w K mg base N qual (Ze st) f cdv A outer s H E).nox (Zl st) t/\t { nx:=λ_ H'=>Q .non H',rt:=Q } (start N vs) H):FnOk P w K mg base CX0 (k+1) f fd ps sp:=by
 obtain⟨oc,od,kV,doc,pm,an,cdv,ct,osl,rfl,lk,hcd⟩:=F.ex;refine fn_of lk hcd S len λA outer s H vs Q E hr hsp=>?_
 obtain⟨t,h,q⟩:=hbody cdv A outer s H vs Q E hr hsp;exact⟨t,h.nox,q⟩
theorem Fun.binds{x qual:Str}{st:yk}{f:yc}{fd:yM}{ps:List Str}(F:Fun K x qual st f fd)
  (h:∀(kV doc pm:yb) (an:Option yc) (cdv ct:yb) (us:List yb),us.length=ps.length->bindArgs (yt x qual (Zn st) (Zl st) (Ze st) .none kV doc pm an cdv ct) ⟨us,[]⟩=pure (ps.zip us)):ZB K fd ps []:=by
 obtain⟨oc,od,kV,doc,pm,an,cdv,ct,osl,rfl,lk,hcd⟩:=F.ex;exact .all (h kV doc pm an cdv ct)
theorem Zs{x qual:Str}{st:yk}{f:yc}{oc:yb}{od an:Option yc}{osl:Array (Option yb)}{kV doc pm cdv ct:yb}(l:K.lookup f=some ⟨oc,od,.func (yt x qual (Zn st) (Zl st) (Ze st) .none kV doc pm an cdv ct),osl⟩)
  (c:yw K cdv qual=true) (k:yq K (.ref f)=true):Fun K x qual st f (yt x qual (Zn st) (Zl st) (Ze st) .none kV doc pm an cdv ct):=⟨⟨oc,od,kV,doc,pm,an,cdv,ct,osl,rfl,l,c⟩,k⟩
end
section
variable {X:Cx}
theorem pv(i:Nat){x:Str}{pos:Pos}(hN:X.N[i]? = some x:=by rfl)(hv:Vis X.env.scope x:=by first|exact yg rfl|exact yC (yg rfl)|exact yC (yC rfl))(hd:(x == ("__debug__" : Str))=false:=by decide)
  (hcd:(x == ("__classdict__" : Str))=false:=by decide):PE X (.Name x pos) (tVar i):=QS hN hv hd hcd
end
theorem iteF{A B:Prop}(h:B):if false=true then A else B:=by
 rw[if_neg jy];exact h
theorem iteT{A B:Prop}(h:A):if true=true then A else B:=by
 rw[if_pos rfl];exact h
end L2
namespace Fx
open PySem
inductive Sl where
 |emp|val (t:ya)|own (xs:List ya)|dct (es:List (ya×ya))
inductive Res (α:Type) where
 |ok (a:α)|exc (c:Str)|stuck
def Res.bind{α β:Type}(r:Res α)(f:α->Res β):Res β:=
 match r with
 |.ok a=>f a
 |.exc c=>.exc c
 |.stuck=>.stuck
@[simp] theorem Res.bind_ok {α β : Type} (a : α) (f : α -> Res β) : Res.bind (.ok a) f = f a := rfl
@[simp] theorem Res.bind_exc {α β : Type} (c : Str) (f : α -> Res β) : Res.bind (.exc c) f = .exc c := rfl
@[simp] theorem Res.bind_stuck {α β : Type} (f : α -> Res β) : Res.bind .stuck f = .stuck := rfl
abbrev DE:=List Sl->Res ya
abbrev DT:=List Sl->Res Bool
abbrev DA:=List Sl->Res (List ya)
inductive Out where
 |nx (G:List Sl)|rt (t:ya)|bk (G:List Sl)|ct (G:List Sl)
abbrev DS:=List Sl->Res Out
abbrev DF:=List ya->Res ya
@[simp] def frz1 (G : List Sl) (i : Nat) : List Sl :=
 match G[i]? with
 |some (.own xs)=>G.set i (.val (.list xs))
 |_=>G
@[simp] def frz (is : List Nat) (G : List Sl) : List Sl := is.foldl frz1 G
@[simp] def az : List Sl -> List Sl
 |[]=>[]
 |.own xs::r=>.val (.list xs)::az r
 |.emp::r=>.emp::az r
 |.val t::r=>.val t::az r
 |.dct _::r=>.emp::az r
@[simp] def frzS : Sl -> Sl
 |.own xs=>.val (.list xs)
 |.emp=>.emp
 |.val t=>.val t
 |.dct _=>.emp
@[simp] theorem frzA_cons (s : Sl) (G : List Sl) : az (s :: G) = frzS s :: az G := by cases s <;> simp
mutual
def W3:ya->Bool
 |.none|.bool _|.int _|.str _=>true
 |.tuple xs=>Uf xs
 |.list _=>false
 |.dict _=>false
def Uf:List ya->Bool
 |[]=>true
 |x::xs=>W3 x && Uf xs
end
@[simp] theorem scalT_int (b : Int) : W3 (.int b) = true := by simp [W3]
@[simp] theorem scalT_tuple (xs : List ya) : W3 (.tuple xs) = Uf xs := by simp [W3]
@[simp] theorem scalT_dict (xs : List (ya × ya)) : W3 (.dict xs) = false := by simp [W3]
@[simp] theorem scalT_list (xs : List ya) : W3 (.list xs) = false := by simp [W3]
@[simp] theorem scalAll_nil : Uf [] = true := by simp [Uf]
@[simp] theorem zf9 (x : ya) (xs : List ya) : Uf (x :: xs) = (W3 x && Uf xs) := by simp [Uf]
@[simp] def dC (t : ya) : DE := λ_ => .ok t
@[simp] def aa (i : Nat) : DE := λG => match G[i]? with
 |some (.val t)=>.ok t
 |_=>.stuck
@[simp] def d1 (f : ya -> Res ya) (a : DE) : DE := λG => (a G).bind f
@[simp] def d2 (f : ya -> ya -> Res ya) (a b : DE) : DE := λG => (a G).bind λx => (b G).bind λy => f x y
@[simp] def ac : DA := λ_ => .ok []
@[simp] def Zc (a : DE) (r : DA) : DA := λG => (a G).bind λx => (r G).bind λxs => .ok (x :: xs)
@[simp] def zlo (xs : List ya) : Bool := decide (xs.length <= 16777216)
@[simp] def au (a : DA) : DE := λG => (a G).bind λxs => if zlo xs then .ok (.tuple xs) else .stuck
@[simp] def dLst (a : DA) : DE := λG => (a G).bind λxs => if zlo xs then .ok (.list xs) else .stuck
@[simp] def Zj (f : DF) (a : DA) : DE := λG => (a G).bind f
@[simp] def dIfE (c : DT) (a b : DE) : DE := λG => (c G).bind λk => if k then a G else b G
@[simp] def za6 (a b : DE) : DE := λG => (a G).bind λx => match x with
 |.bool k=>if k then b G else .ok (.bool false)
 |_=>.stuck
@[simp] def dOrV (a b : DE) : DE := λG => (a G).bind λx => match x with
 |.bool k=>if k then .ok (.bool true) else b G
 |_=>.stuck
@[simp] def zjX (a : DE) : DE := λG => (a G).bind λx => match x with
 |.bool k=>.ok (.bool (!k))
 |_=>.stuck
def Xj(i j:Int):Bool:=decide (i.natAbs.log2+j.natAbs.log2+2<=134217728) || decide (i.natAbs<18446744073709551616) || decide (j.natAbs<18446744073709551616)
def zcZ(j:Int):Bool:=decide (j≠0) && decide (j.natAbs.log2<9000)
@[simp] def aF : ya -> ya -> Res ya
 |.int i,.int j=>.ok (.int (i+j))
 |.list xs,.list ys=>if xs.length+ys.length<=16777216 then .ok (.list (xs++ys)) else .stuck
 |_,_=>.stuck
@[simp] def fSub : ya -> ya -> Res ya
 |.int i,.int j=>.ok (.int (i - j))
 |_,_=>.stuck
@[simp] def aA : ya -> ya -> Res ya
 |.int i,.int j=>if Xj i j then .ok (.int (i * j)) else .stuck
 |_,_=>.stuck
@[simp] def fDiv : ya -> ya -> Res ya
 |.int i,.int j=>if zcZ j then .ok (.int (i.fdiv j)) else .stuck
 |_,_=>.stuck
@[simp] def fMod : ya -> ya -> Res ya
 |.int i,.int j=>if j=0 then .stuck else .ok (.int (i.fmod j))
 |_,_=>.stuck
@[simp] def fPow : ya -> ya -> Res ya
 |.int i,.int j=>if 0<=j/\j<=1000000/\i.natAbs<2 ^ 64 then .ok (.int (i ^ j.toNat)) else .stuck
 |_,_=>.stuck
@[simp] def fNeg : ya -> Res ya
 |.int i=>.ok (.int (-i))
 |_=>.stuck
@[simp] def fLt : ya -> ya -> Res ya
 |.int i,.int j=>.ok (.bool (decide (i<j)))
 |_,_=>.stuck
@[simp] def fLe : ya -> ya -> Res ya
 |.int i,.int j=>.ok (.bool (decide (i<=j)))
 |_,_=>.stuck
@[simp] def fGt : ya -> ya -> Res ya
 |.int i,.int j=>.ok (.bool (decide (j<i)))
 |_,_=>.stuck
@[simp] def fGe : ya -> ya -> Res ya
 |.int i,.int j=>.ok (.bool (decide (j<=i)))
 |_,_=>.stuck
def Wm(d:ya):Bool:=d.canLay0 && decide (d.depth<=64)
def fEq:ya->ya->Res ya
 |.int i,.int j=>.ok (.bool (decide (i=j)))
 |x,y=>if Wm x && Wm y then .ok (.bool (x.eqv y)) else .stuck
def fNe:ya->ya->Res ya
 |.int i,.int j=>.ok (.bool (!decide (i=j)))
 |x,y=>if Wm x && Wm y then .ok (.bool (!x.eqv y)) else .stuck
@[simp] def fIsN : ya -> Res ya
 |.none=>.ok (.bool true)
 |_=>.ok (.bool false)
@[simp] def zaM : ya -> Res ya
 |.none=>.ok (.bool false)
 |_=>.ok (.bool true)
@[simp] def aB : ya -> Res ya
 |.list xs=>.ok (.int xs.length)
 |.tuple xs=>.ok (.int xs.length)
 |_=>.stuck
@[simp] def fAbs : ya -> Res ya
 |.int i=>.ok (.int (if i<0 then -i else i))
 |_=>.stuck
def ixP(n:Nat)(i:Int):Option Nat:=if 0<=i then(if i<n then some i.toNat else none) else if -(n:Int)<=i then some (i+n).toNat else none
def atP(xs:List ya)(i:Int):Option ya:=(ixP xs.length i).bind λj=>xs[j]?
@[simp] def ofO {α : Type} : Option α -> Res α
 |some a=>.ok a
 |none=>.stuck
@[simp] def ag : ya -> ya -> Res ya
 |.list xs,.int i=>ofO (atP xs i)
 |.tuple xs,.int i=>ofO (atP xs i)
 |_,_=>.stuck
@[simp] def isInt : ya -> Bool
 |.int _=>true
 |.bool _=>true
 |_=>false
@[simp] def zlD : ya -> Bool
 |.bool _=>true
 |_=>false
@[simp] def zft : ya -> Bool
 |.tuple _=>true
 |_=>false
@[simp] def isList : ya -> Bool
 |.list _=>true
 |_=>false
@[simp] def fIs (p : ya -> Bool) : ya -> Res ya
 |.dict _=>.stuck
 |.none=>.ok (.bool (p .none))
 |.bool b=>.ok (.bool (p (.bool b)))
 |.int b=>.ok (.bool (p (.int b)))
 |.str b=>.ok (.bool (p (.str b)))
 |.list b=>.ok (.bool (p (.list b)))
 |.tuple b=>.ok (.bool (p (.tuple b)))
@[simp] def fList : ya -> Res (List ya)
 |.list xs=>.ok xs
 |.tuple xs=>.ok xs
 |_=>.stuck
@[simp] def zaL : ya -> Res ya
 |.list xs=>.ok (.tuple xs)
 |.tuple xs=>.ok (.tuple xs)
 |_=>.stuck
@[simp] def truth : ya -> Res Bool
 |.none=>.ok false
 |.bool b=>.ok b
 |.int i=>.ok (i != 0)
 |.list xs=>.ok (!xs.isEmpty)
 |.tuple xs=>.ok (!xs.isEmpty)
 |_=>.stuck
@[simp] def tV (a : DE) : DT := λG => (a G).bind truth
@[simp] def tAnd (a b : DT) : DT := λG => (a G).bind λk => if k then b G else .ok false
@[simp] def tOr (a b : DT) : DT := λG => (a G).bind λk => if k then .ok true else b G
@[simp] def aC (a : DT) : DT := λG => (a G).bind λk => .ok (!k)
@[simp] def ad (a b : DS) : DS := λG => (a G).bind λo => match o with
 |.nx G'=>b G'
 |.rt t=>.ok (.rt t)
 |.bk G'=>.ok (.bk G')
 |.ct G'=>.ok (.ct G')
@[simp] def ZH : DS := λG => .ok (.nx G)
@[simp] def dNev : DS := λ_ => .stuck
@[simp] def VG (c : Str) (a : DA) : DS := λG => (a (az G)).bind λ_ => .exc c
def aj(i:Nat)(is:List Nat)(e:DE):DS:=λG=>(e (frz is G)).bind λt=>.ok (.nx ((if W3 t then G else frz is G).set i (.val t)))
@[simp] theorem zi2 (i : Nat) (e : DE) (G : List Sl) : aj i [] e G = (e G).bind λt => .ok (.nx (G.set i (.val t))) := by
 unfold aj;show(e G).bind _=_
 congr 1
 funext t
 show Res.ok (Out.nx ((if W3 t=true then G else G).set i (.val t)))=_
 rw[ite_self]
@[simp] theorem dSet_cons (i j : Nat) (is : List Nat) (e : DE) (G : List Sl) : aj i (j :: is) e G = (e (frz (j :: is) G)).bind λt => .ok (.nx ((if W3 t then G else frz (j :: is) G).set i (.val t))) := rfl
@[simp] def zan (i : Nat) (is : List Nat) (e : DA) : DS := λG => (e (frz is G)).bind λxs => if i < G.length then .ok (.nx ((frz is G).set i (.own xs))) else .stuck
@[simp] def ak (e : DE) : DS := λG => (e (az G)).bind λt => .ok (.rt t)
@[simp] def aE (c : DT) (a b : DS) : DS := λG => (c (az G)).bind λk => if k then a G else b G
@[simp] def zdY (e : DE) : DS := λG => (e (az G)).bind λ_ => .ok (.nx G)
@[simp] def zmt (i : Nat) (G' : List Sl) (t : ya) : Res Out :=
 match G'[i]? with
 |some (.own xs)=>if xs.length<16777216 then .ok (.nx (G'.set i (.own (xs++[t])))) else .stuck
 |_=>.stuck
@[simp] def zfv (G : List Sl) (i : Nat) : Bool := match G[i]? with
 |some (.own _)=>true
 |_=>false
def dApp(i:Nat)(is:List Nat)(e:DE):DS:=λG=>if zfv G i then(e (frz is G)).bind λt=>zmt i (if W3 t then G else frz is G) t else .stuck
@[simp] theorem dApp_cons (i j : Nat) (is : List Nat) (e : DE) (G : List Sl) : dApp i (j :: is) e G = if zfv G i then (e (frz (j :: is) G)).bind λt => zmt i (if W3 t then G else frz (j :: is) G) t else .stuck := rfl
def forL(st:ya->List Sl->Res (List Sl))(b:DS):List ya->List Sl->Res Out
 |[],G=>.ok (.nx G)
 |t::ts,G=>(st t G).bind λG1=>(b G1).bind λo=>match o with
  |.nx G'=>forL st b ts G'
  |.ct G'=>forL st b ts G'
  |.bk G'=>.ok (.nx G')
  |.rt t=>.ok (.rt t)
@[simp] def dFor (st : ya -> List Sl -> Res (List Sl)) (is : List Nat) (it : DA) (b : DS) : DS := λG => (it (frz is G)).bind λts => forL st b ts (frz is G)
@[simp] def Zt (i : Nat) : ya -> List Sl -> Res (List Sl) := λt G => .ok (G.set i (.val t))
def YN(c:DT)(b:DS):Nat->List Sl->Res Out
 |0,_=>.stuck
 |n+1,G=>(c (az G)).bind λk=>if k then(b G).bind λo=>match o with
   |.nx G'=>YN c b n G'
   |.ct G'=>YN c b n G'
   |.bk G'=>.ok (.nx G')
   |.rt t=>.ok (.rt t)
  else .ok (.nx G)
@[simp] def JS (fuel : List Sl -> Nat) (c : DT) (b : DS) : DS := λG => YN c b (fuel G) G
@[simp] def noX {α : Type} : Res α -> Res α
 |.ok a=>.ok a
 |_=>.stuck
@[simp] def dTry (b : DS) (sub : Str -> Bool) (h : DS) : DS := λG => match b G with
 |.exc c=>if sub c then noX (h G) else .stuck
 |.ok o=>.ok o
 |.stuck=>.stuck
@[simp] def zi3 (f : DF) (a : DA) : DE := λG => (noX (a G)).bind f
def ai(n np:Nat)(b:DS):DF:=λts=>if ts.length=np then(b (ts.map .val++y3 (n - np) .emp)).bind λo=>match o with
  |.rt t=>.ok t
  |.nx _=>.ok .none
  |_=>.stuck
 else .stuck
theorem zcI{α:Type}(r:Res α):(∃a,noX r=.ok a)\/noX r=.stuck:=by
 cases r
 ·exact .inl ⟨_,rfl⟩
 ·exact .inr rfl
 ·exact .inr rfl
theorem zlh{α:Type}{r:Res α}{a:α}(h:noX r=.ok a):r=.ok a:=by
 cases r<;>simp at h
 rw[h]
def ah(n np:Nat)(b:DS):DF:=λts=>noX (ai n np b ts)
theorem ze1(n np:Nat)(b:DS)(ts:List ya)(c:Str):ah n np b ts≠.exc c:=by
 unfold ah;cases ai n np b ts<;>simp
def aw(lo:Int)(n:Nat):List ya:=(y4 n).map λ(k:Nat)=>.int (lo+(k:Int))
def Uw(j:Int):Bool:=decide (j.natAbs<=1000000000000)
theorem Yn{n:Nat}(h:n<=1000000000):Uw (n:Int)=true:=by
 unfold Uw;exact decide_eq_true (by omega)
theorem Jy{j:Int}(h:Uw j=true):-(2 ^ 62)<=j/\j<2 ^ 62:=by
 have h':j.natAbs<=1000000000000:=of_decide_eq_true h;omega
@[simp] def iRng (a : DE) : DA := λG => (a G).bind λx => match x with
 |.int j=>if Uw j=true then .ok (aw 0 j.toNat) else .stuck
 |_=>.stuck
@[simp] def iRng2 (a b : DE) : DA := λG => (a G).bind λx => (b G).bind λy => match x, y with
 |.int i,.int j=>if Uw i=true/\Uw j=true then .ok (aw i (j - i).toNat) else .stuck
 |_,_=>.stuck
theorem fLt_b:∀x y,(∃k,fLt x y=.ok (.bool k))\/fLt x y=.stuck:=by intro x y;cases x<;>cases y<;>simp
theorem fGt_b:∀x y,(∃k,fGt x y=.ok (.bool k))\/fGt x y=.stuck:=by intro x y;cases x<;>cases y<;>simp
theorem fGe_b:∀x y,(∃k,fGe x y=.ok (.bool k))\/fGe x y=.stuck:=by intro x y;cases x<;>cases y<;>simp
theorem fEq_b:∀x y,(∃k,fEq x y=.ok (.bool k))\/fEq x y=.stuck:=by
 intro x y;unfold fEq;split
 ·exact .inl ⟨_,rfl⟩
 ·split
  ·exact .inl ⟨_,rfl⟩
  ·exact .inr rfl
theorem fNe_b:∀x y,(∃k,fNe x y=.ok (.bool k))\/fNe x y=.stuck:=by
 intro x y;unfold fNe;split
 ·exact .inl ⟨_,rfl⟩
 ·split
  ·exact .inl ⟨_,rfl⟩
  ·exact .inr rfl
@[simp] def av (a : DE) : DA := λG => (a G).bind λx => match x with
 |.list xs=>.ok xs
 |.tuple xs=>.ok xs
 |_=>.stuck
def zcY:Nat->List ya->List ya
 |_,[]=>[]
 |n,x::r=>.tuple [.int n,x]::zcY (n+1) r
def zipT:List ya->List ya->List ya
 |x::xs,y::ys=>.tuple [x,y]::zipT xs ys
 |_,_=>[]
@[simp] def iEnum (a : DA) : DA := λG => (a G).bind λxs => .ok (zcY 0 xs)
@[simp] def iZip (a b : DA) : DA := λG => (a G).bind λxs => (b G).bind λys => .ok (zipT xs ys)
@[simp] def Uv (i j : Nat) : ya -> List Sl -> Res (List Sl)
 |.tuple [x,y],G=>.ok ((G.set i (.val x)).set j (.val y))
 |_,_=>.stuck
@[simp] def aD (cap : List Nat) (G : List Sl) : List Sl := cap.map λi => match (G[i]? : Option Sl) with
 |some (.val t)=>.val t
 |_=>.emp
def Xf(st:ya->List Sl->Res (List Sl))(c:DT)(e:DE)(C:List Sl):List ya->Res (List ya)
 |[]=>.ok []
 |t::ts=>(noX (st t C)).bind λG1=>(c G1).bind λk=>if k then(e G1).bind λy=>(Xf st c e C ts).bind λys=>.ok (y::ys) else Xf st c e C ts
@[simp] def Y4 (nv : Nat) (cap : List Nat) (st : ya -> List Sl -> Res (List Sl)) (it : DA) (c : DT) (e : DE) : DA := λG => (it G).bind λts => if ts.length <= 16777216 then Xf st c e (y3 nv .emp ++ aD cap G) ts else .stuck
@[simp] def tT : DT := λ_ => .ok true
@[simp] def dIxN (i : Nat) (k : DE) : DE := λG => match G[i]? with
 |some (.own xs)=>(k G).bind λy=>ag (.list xs) y
 |some (.val t)=>(k G).bind λy=>ag t y
 |_=>.stuck
def sIxT(n d:Nat):Option Int->Nat
 |none=>d
 |some i=>if i<0 then(i+n).toNat else min i.toNat n
def cutT(xs:List ya)(lo hi:Option Int):List ya:=(xs.drop (sIxT xs.length 0 lo)).take (sIxT xs.length xs.length hi - sIxT xs.length 0 lo)
abbrev DP:=List Sl->Res (Option Int)
@[simp] def pNo : DP := λ_ => .ok none
@[simp] def pAt (a : DE) : DP := λG => (a G).bind λx => match x with
 |.int i=>.ok (some i)
 |_=>.stuck
@[simp] def oCut (a : DE) (lo hi : DP) : DA := λG => (a G).bind λx => (lo G).bind λl => (hi G).bind λh => match x with
 |.list xs=>.ok (cutT xs l h)
 |_=>.stuck
@[simp] def subs (l : List Str) (c : Str) : Bool := l.contains c
@[simp] def dL (a : DA) : DE := λG => (a G).bind λxs => .ok (.list xs)
@[simp] def oLst (a : DA) : DA := λG => (a G).bind λxs => if zlo xs then .ok xs else .stuck
@[simp] def zfi (a : DE) : DA := λG => (a G).bind fList
def allT:List ya->Res Bool
 |[]=>.ok true
 |.bool k::r=>(allT r).bind λm=>.ok (k && m)
 |_=>.stuck
theorem zmu:∀{xs:List ya}{k:Bool},allT xs=.ok k->∃bs:List Bool,xs=bs.map .bool/\k=bs.all id
 |[],k,h=>by simp[allT]at h;exact⟨[],rfl,by simp[<- h]⟩
 |x::r,k,h=>by
  cases x with
  |bool b=>
   simp only[allT]at h;cases e:allT r with
   |ok m=>
    rw[e]at h;simp at h;obtain⟨bs,h1,h2⟩:=zmu e;exact⟨b::bs,by simp[h1],by simp[<- h,h2]⟩
   |exc c=>rw[e]at h;cases h
   |stuck=>rw[e]at h;cases h
  |none=>simp[allT]at h
  |int _=>simp[allT]at h
  |str _=>simp[allT]at h
  |list _=>simp[allT]at h
  |tuple _=>simp[allT]at h
  |dict _=>simp[allT]at h
theorem zjb:∀(xs:List ya) (c:Str),allT xs≠.exc c
 |[],c=>by simp[allT]
 |x::r,c=>by
  cases x with
  |bool b=>
   simp only[allT];cases e:allT r with
   |ok m=>simp
   |exc c'=>exact absurd e (zjb r c')
   |stuck=>simp
  |none=>simp[allT]
  |int _=>simp[allT]
  |str _=>simp[allT]
  |list _=>simp[allT]
  |tuple _=>simp[allT]
  |dict _=>simp[allT]
@[simp] def fAll : ya -> Res ya
 |.list xs=>(allT xs).bind λk=>.ok (.bool k)
 |_=>.stuck
@[simp] def zf7 (i : Nat) (G' : List Sl) (t kt : ya) : Res Out :=
 match G'[i]?,kt with
 |some (.own xs),.int j=>match ixP xs.length j with
  |some m=>.ok (.nx (G'.set i (.own (xs.set m t))))
  |none=>.stuck
 |_,_=>.stuck
def VS(i:Nat)(is:List Nat)(k e:DE):DS:=λG=>(e (frz is G)).bind λt=>if zfv (if W3 t then G else frz is G) i then(k (frz is G)).bind λkt=>zf7 i (if W3 t then G else frz is G) t kt else .stuck
@[simp] theorem dSetIt_nil (i : Nat) (k e : DE) (G : List Sl) : VS i [] k e G = (e G).bind λt => if zfv G i then (k G).bind λkt => zf7 i G t kt else .stuck := by
 unfold VS;show(e G).bind _=_
 congr 1
 funext t
 show(if zfv (if W3 t=true then G else G) i=true then(k G).bind λkt=>zf7 i (if W3 t=true then G else G) t kt else .stuck)=_
 rw[ite_self]
@[simp] theorem dSetIt_cons (i j : Nat) (is : List Nat) (k e : DE) (G : List Sl) : VS i (j :: is) k e G = (e (frz (j :: is) G)).bind λt => if zfv (if W3 t then G else frz (j :: is) G) i then (k (frz (j :: is) G)).bind λkt => zf7 i (if W3 t then G else frz (j :: is) G) t kt else .stuck := rfl
theorem zkG{i:Nat}:∀t G c,Zt i t G≠.exc c:=by intro t G c;simp
theorem zkF{i j:Nat}:∀t G c,Uv i j t G≠.exc c:=by
 intro t G c;unfold Uv;split<;>simp
def zg8(nv:Nat)(st:ya->List Sl->Res (List Sl)):Prop:=∀t G G1,st t G=.ok G1->G1.length=G.length/\∀i,nv<=i->G1[i]? = G[i]?
theorem ZS{nv i:Nat}(h:i<nv):zg8 nv (Zt i):=by
 intro t G G1 e;simp at e;subst e;refine⟨by simp,λj hj=>?_⟩
 rw[jo (by omega)]
theorem QT{nv i j:Nat}(h:i<nv)(h2:j<nv):zg8 nv (Uv i j):=by
 intro t G G1 e;unfold Uv at e;split at e
 ·cases e;refine⟨by simp,λk hk=>?_⟩
  rw[jo (by omega),jo (by omega)]
 ·cases e
@[simp] def dRetO (i : Nat) : DS := λG => match G[i]? with
 |some (.own xs)=>.ok (.rt (.list xs))
 |_=>.stuck
@[simp] def asL : ya -> Res (List ya)
 |.list xs=>.ok xs
 |_=>.stuck
@[simp] def oCall (f : DF) (a : DA) : DA := λG => (a G).bind λts => (f ts).bind asL
def dUnp(st:ya->List Sl->Res (List Sl))(is:List Nat)(e:DE):DS:=λG=>(e (frz is G)).bind λt=>(st t (if W3 t then G else frz is G)).bind λG'=>.ok (.nx G')
@[simp] theorem dUnp_cons (st : ya -> List Sl -> Res (List Sl)) (i : Nat) (is : List Nat) (e : DE) (G : List Sl) : dUnp st (i :: is) e G = (e (frz (i :: is) G)).bind λt => (st t (if W3 t then G else frz (i :: is) G)).bind λG' => .ok (.nx G') := rfl
@[simp] def set2 (i j : Nat) (G : List Sl) : List ya -> Res Out
 |[x,y]=>.ok (.nx ((G.set i (.val x)).set j (.val y)))
 |_=>.stuck
def dPar(i j:Nat)(is:List Nat)(d:DA):DS:=λG=>(d (frz is G)).bind λts=>set2 i j (if Uf ts then G else frz is G) ts
@[simp] theorem dPar_cons (i j k : Nat) (is : List Nat) (d : DA) (G : List Sl) : dPar i j (k :: is) d G = (d (frz (k :: is) G)).bind λts => set2 i j (if Uf ts then G else frz (k :: is) G) ts := rfl
@[simp] def fMax : ya -> ya -> Res ya
 |.int i,.int j=>.ok (.int (if j > i then j else i))
 |_,_=>.stuck
def lkp(f:Str):List (ya×ya)->Option ya
 |[]=>none
 |(.str n,t)::r=>if n=f then some t else lkp f r
 |_=>none
def ay(f:Str):ya->Res ya
 |.dict kvs=>ofO (lkp f kvs)
 |_=>.stuck
def zipK:List Str->List ya->List (ya×ya)
 |n::ns,t::ts=>(.str n,t)::zipK ns ts
 |_,_=>[]
@[simp] def dMk (ns : List Str) (d : DA) : DE := λG => (d G).bind λxs => if xs.length = ns.length /\ ns ≠ [] then .ok (.dict (zipK ns xs)) else .stuck
@[simp] def oRep (a : DA) (b : DE) : DA := λG => (a G).bind λxs => (b G).bind λy => match y with
 |.int k=>if Uw k=true/\xs.length * k.toNat<=16777216 then .ok (y3 k.toNat xs).flatten else .stuck
 |_=>.stuck
@[simp] def zjD (a : DA) : DA := λG => (a G).bind λxs => if xs.length <= 16777216 then .ok xs else .stuck
def minL(key:ya->Res ya):ya->Int->List ya->Res ya
 |b,_,[]=>.ok b
 |b,m,x::r=>(key x).bind λy=>match y with
  |.int k=>if k<m then minL key x k r else minL key b m r
  |_=>.stuck
def minT(key:ya->Res ya):List ya->Res ya
 |[]=>.ok .none
 |x::r=>(key x).bind λy=>match y with
  |.int k=>minL key x k r
  |_=>.stuck
@[simp] def dMinK (cap : List Nat) (da : DE) (de : DE) : DE := λG => (da G).bind λx => match x with
 |.list xs=>minT (λt=>noX (de (.val t::aD cap G))) xs
 |_=>.stuck
@[simp] def zgT (a : DE) (lo hi : DP) : DE := λG => (a G).bind λx => (lo G).bind λl => (hi G).bind λh => match x with
 |.tuple xs=>if sIxT xs.length 0 l=0/\sIxT xs.length xs.length h=xs.length then .stuck else .ok (.tuple (cutT xs l h))
 |_=>.stuck
@[simp] def fAddU : ya -> ya -> Res ya
 |.tuple xs,.tuple ys=>if xs.length+ys.length<=16777216 then .ok (.tuple (xs++ys)) else .stuck
 |_,_=>.stuck
end Fx
namespace Fx
open PySem PySem.Spec PyProof.Rows L2
def LD(o:HO):Prop:=(∃vs,o=.lst vs)\/∃kvs,o=.dT kvs
def CO(c:yc)(q:Str):HO:=.ext λh=>∃oc vs t,h.get? c=some oc/\oc.data=.fields vs/\vs[1]? = some (.str q t)
def UC:List Str:=["raising_column"]
def lamQ(x:Str):Str:=x ++ ".<locals>." ++ "<lambda>"
def Qm(K:yh)(H:Hp):Prop:=∀x c T,x∈UC->jA K x=some (c,T) ->
 ∃ps,H T=some (.tbl ps)/\TriplesOk ps.toList/\∀pos cv,qQ pos ps.toList=some cv->∃c',cv=.ref c'/\H c'=some (CO c' (lamQ x))
def Nt(o:HO):Prop:=∀ps,o≠.tbl ps
theorem not_nt{o:HO}(h:¬Nt o):∃ps,o=.tbl ps:=js λz=>h λps e=>z ⟨ps,e⟩
theorem zaG{xs:List V}:Nt (.lst xs):=λ_ z=>by cases z
theorem nt_tup{xs:List V}:Nt (.tup xs):=λ_ z=>by cases z
theorem nt_ins{C dx:yc}{fs:List (Str×V)}:Nt (.ins C dx fs):=λ_ z=>by cases z
theorem zeh{o:Obj}{u:HO}:Nt (.frz o u):=λ_ z=>by cases z
theorem zlg{φ:yd->Prop}:Nt (.ext φ):=λ_ z=>by cases z
theorem nt_dT{kvs:List (List Key×V)}:Nt (.dT kvs):=λ_ z=>by cases z
theorem LD.nt{o:HO}(h:LD o):Nt o:=by rcases h with ⟨_,rfl⟩|⟨_,rfl⟩<;>exact λ_ z=>by cases z
structure Same(H H':Hp):Prop where
 kp:∀b o,H b=some o->Nt o->H' b=some o
 free:∀{b},H' b=none->H b=none
 tab:∀K,Qm K H->Qm K H'
 tbk:∀b ps,H b=some (.tbl ps)->∃qs,H' b=some (.tbl qs)
theorem Same.refl(H:Hp):Same H H:=⟨λ_ _ h _=>h,λh=>h,λ_ h=>h,λ_ ps h=>⟨ps,h⟩⟩
theorem Same.trans{H H1 H2:Hp}(a:Same H H1)(b:Same H1 H2):Same H H2:=⟨λc o h n=>b.kp c o (a.kp c o h n) n,λh=>a.free (b.free h),λK h=>b.tab K (a.tab K h),λc ps h=>let⟨qs,h1⟩:=a.tbk c ps h;b.tbk c qs h1⟩
theorem Qm.mono{K:yh}{H H':Hp}(h:Qm K H)(e:∀b o,H b=some o->¬LD o->H' b=some o):Qm K H':=λx c T hx ht=>by
 obtain⟨ps,h1,h2,h3⟩:=h x c T hx ht;refine⟨ps,e _ _ h1 (λz=>by rcases z with ⟨_,z⟩|⟨_,z⟩<;>cases z),h2,λpos cv hc=>?_⟩
 obtain⟨c',e1,e2⟩:=h3 pos cv hc;exact⟨c',e1,e _ _ e2 (λz=>by rcases z with ⟨_,z⟩|⟨_,z⟩<;>cases z)⟩
theorem Same.of{H H':Hp}(e:∀b o,H b=some o->H' b=some o):Same H H' where
 kp:=λb o h _=>e b o h
 free:=λ{b} h=>by
  cases q:H b with
  |none=>rfl
  |some o=>rw[e b o q]at h;cases h
 tab:=λK h=>Qm.mono h λb o q _=>e b o q
 tbk:=λb ps h=>⟨ps,e b _ h⟩
structure Pv where
 own:Nat->Option yc
 fb:yc->Prop
def Off(P:Pv)(a:yc):Prop:=(∀i,P.own i≠some a)/\¬P.fb a
def Tr(H:Hp)(P:Pv)(H':Hp)(P':Pv):Prop:=∀a o,H a=some o->Nt o->Off P a->H' a=some o/\Off P' a
theorem Tr.refl(H:Hp)(P:Pv):Tr H P H P:=λ_ _ h _ o=>⟨h,o⟩
theorem Tr.same{H H':Hp}{P:Pv}(e:Same H H'):Tr H P H' P:=λa o h n q=>⟨e.kp a o h n,q⟩
structure Go(H:Hp)(P:Pv)(H':Hp)(P':Pv):Prop where
 mv:∀a o,H a=some o->Nt o->(∀i,P.own i≠some a)->H' a=some o/\∀i,P'.own i≠some a
 fbe:P'.fb=P.fb
 free:∀{b},H' b=none->H b=none
 tab:∀K,Qm K H->Qm K H'
 tbk:∀b ps,H b=some (.tbl ps)->∃qs,H' b=some (.tbl qs)
theorem Go.refl(H:Hp)(P:Pv):Go H P H P:=⟨λ_ _ h _ o=>⟨h,o⟩,rfl,λh=>h,λ_ h=>h,λ_ ps h=>⟨ps,h⟩⟩
theorem Go.trans{H H1 H2:Hp}{P P1 P2:Pv}(a:Go H P H1 P1)(b:Go H1 P1 H2 P2):Go H P H2 P2:=⟨λc o h n q=>
 let⟨h1,q1⟩:=a.mv c o h n q
 b.mv c o h1 n q1,b.fbe.trans a.fbe,λh=>a.free (b.free h),λK h=>b.tab K (a.tab K h),λc ps h=>let⟨qs,h1⟩:=a.tbk c ps h;b.tbk c qs h1⟩
theorem Go.same{H H':Hp}{P:Pv}(e:Same H H'):Go H P H' P:=⟨λa o h n q=>⟨e.kp a o h n,q⟩,rfl,λh=>e.free h,e.tab,e.tbk⟩
theorem Go.tr{H H':Hp}{P P':Pv}(g:Go H P H' P'):Tr H P H' P':=λa o h n q=>⟨(g.mv a o h n q.1).1,(g.mv a o h n q.1).2,by rw[g.fbe];exact q.2⟩
theorem Go.all{H H':Hp}{P P':Pv}(g:Go H P H' P')(ho:∀i,P.own i=none):Same H H':=⟨λb o e n=>(g.mv b o e n λi=>by rw[ho i];exact λz=>by cases z).1,λh=>g.free h,g.tab,g.tbk⟩
def ModL(K:yh)(a:yc)(xs:List V):Prop:=
 ∃(o:Obj) (its:Array yb) (n:Nat),K.lookup a=some o/\o.cls=.type "list" /\ o.dict=none/\o.data=.seq its n/\its.size<=y7/\Vals xs its.toList
def SL(K:yh)(H:Hp)(P:Pv)(a:yc)(xs:List V):Prop:=(Rd H a (.lst xs)/\Off P a)\/ModL K a xs
def ST(K:yh)(H:Hp)(P:Pv)(a:yc)(xs:List V):Prop:=H a=some (.tup xs)/\Off P a
theorem SL.sq{K:yh}{H:Hp}{P:Pv}{a:yc}{xs:List V}(h:SL K H P a xs):SqL K H a xs:=by
 rcases h with ⟨h,_⟩|h
 ·exact .inl h
 ·exact .inr h
theorem ST.sq{K:yh}{H:Hp}{P:Pv}{a:yc}{xs:List V}(h:ST K H P a xs):SqT K H a xs:=.inl (.inl h.1)
theorem Rd.go{H H':Hp}{P P':Pv}{a:yc}{u:HO}(g:Tr H P H' P')(n:Nt u)(h:Rd H a u)(o:Off P a):Rd H' a u/\Off P' a:=by
 rcases h with h|⟨ob,h⟩
 ·exact⟨.inl (g _ _ h n o).1,(g _ _ h n o).2⟩
 ·exact⟨.inr ⟨ob,(g _ _ h zeh o).1⟩,(g _ _ h zeh o).2⟩
theorem SL.go{K:yh}{H H':Hp}{P P':Pv}{a:yc}{xs:List V}(g:Tr H P H' P')(h:SL K H P a xs):SL K H' P' a xs:=by
 rcases h with ⟨h,o⟩|h
 ·exact .inl (Fx.Rd.go g zaG h o)
 ·exact .inr h
theorem ST.go{K:yh}{H H':Hp}{P P':Pv}{a:yc}{xs:List V}(g:Tr H P H' P')(h:ST K H P a xs):ST K H' P' a xs:=g _ _ h.1 nt_tup h.2
def XO(K:yh)(a:yc):HO:=.ext λh=>∃ob C,h.get? a=some ob/\ob.cls=.ref C/\yaq K (.ref C) (.type "ValueError")=some true
mutual
def Rl(K:yh)(H:Hp)(P:Pv):ya->V->Prop
 |.none,v=>v=.non
 |.bool b,v=>v=.bl b
 |.int i,v=>v=.int i
 |.str x,v=>v=.str x
 |.list xs,v=>∃a vs,v=.ref a/\SL K H P a vs/\Rls K H P xs vs
 |.tuple xs,v=>∃a vs,v=.ref a/\ST K H P a vs/\Rls K H P xs vs
 |.dict xs,v=>(xs=[]/\∃a,v=.ref a/\H a=some (XO K a)/\Off P a)\/(xs≠[]/\∃a C dx fs,v=.ref a/\H a=some (.ins C dx fs)/\Off P a/\Cls K C/\Rlp K H P C xs fs) \/
   ∃a ob kvs,v=.ref a/\H a=some (.frz ob (.dT kvs))/\Off P a/\Rld K H P xs kvs
def Rls(K:yh)(H:Hp)(P:Pv):List ya->List V->Prop
 |[],vs=>vs=[]
 |x::xs,vs=>∃v r,vs=v::r/\Rl K H P x v/\Rls K H P xs r
def Rlp(K:yh)(H:Hp)(P:Pv)(C:yc):List (ya×ya)->List (Str×V)->Prop
 |[],fs=>fs=[]
 |(k,t)::xs,fs=>∃n v r,fs=(n,v)::r/\k=.str n/\UJ K C n/\Rl K H P t v/\Rlp K H P C xs r
def Rld(K:yh)(H:Hp)(P:Pv):List (ya×ya)->List (List Key×V)->Prop
 |[],_=>False
 |(k,t)::xs,kvs=>k=.none/\t=.none/\Rlk K H P xs kvs
def Rlk(K:yh)(H:Hp)(P:Pv):List (ya×ya)->List (List Key×V)->Prop
 |[],kvs=>kvs=[]
 |(k,t)::xs,kvs=>∃ns v r,kvs=(yau Sum.inl ns,v)::r/\k=.tuple (yau .int ns)/\Rl K H P t v/\Rlk K H P xs r
end
mutual
theorem Rl.go{K:yh}{H H':Hp}{P P':Pv}(g:Tr H P H' P'):∀(t:ya) (v:V),Rl K H P t v->Rl K H' P' t v
 |.none,v,h=>by simpa only[Rl] using h
 |.bool b,v,h=>by simpa only[Rl] using h
 |.int i,v,h=>by simpa only[Rl] using h
 |.str x,v,h=>by simpa only[Rl] using h
 |.list xs,v,h=>by
  simp only[Rl]at h ⊢;obtain⟨a,vs,e,s,r⟩:=h;exact⟨a,vs,e,s.go g,Rls.go g xs vs r⟩
 |.tuple xs,v,h=>by
  simp only[Rl]at h ⊢;obtain⟨a,vs,e,s,r⟩:=h;exact⟨a,vs,e,s.go g,Rls.go g xs vs r⟩
 |.dict xs,v,h=>by
  simp only[Rl]at h ⊢;rcases h with ⟨e,a,e2,s,o⟩|⟨e,a,C,dx,fs,e2,s,o,c,r⟩|⟨a,ob,kvs,e2,s,o,r⟩
  ·exact .inl ⟨e,a,e2,g a _ s zlg o⟩
  ·exact .inr (.inl ⟨e,a,C,dx,fs,e2,(g a _ s nt_ins o).1,(g a _ s nt_ins o).2,c,Rlp.go g xs fs r⟩)
  ·exact .inr (.inr ⟨a,ob,kvs,e2,(g a _ s zeh o).1,(g a _ s zeh o).2,Rld.go g xs kvs r⟩)
theorem Rls.go{K:yh}{H H':Hp}{P P':Pv}(g:Tr H P H' P'):∀(ts:List ya) (vs:List V),Rls K H P ts vs->Rls K H' P' ts vs
 |[],vs,h=>by simpa only[Rls] using h
 |x::xs,vs,h=>by
  simp only[Rls]at h ⊢;obtain⟨v,r,e,q,t⟩:=h;exact⟨v,r,e,Rl.go g x v q,Rls.go g xs r t⟩
theorem Rlp.go{K:yh}{H H':Hp}{P P':Pv}{C:yc}(g:Tr H P H' P'):∀(ts:List (ya×ya)) (fs:List (Str×V)),Rlp K H P C ts fs->Rlp K H' P' C ts fs
 |[],vs,h=>by simpa only[Rlp] using h
 |(k,t)::xs,vs,h=>by
  simp only[Rlp]at h ⊢;obtain⟨n,v,r,e,e2,na,q,z⟩:=h;exact⟨n,v,r,e,e2,na,Rl.go g t v q,Rlp.go g xs r z⟩
theorem Rld.go{K:yh}{H H':Hp}{P P':Pv}(g:Tr H P H' P'):∀(ts:List (ya×ya)) (kvs:List (List Key×V)),Rld K H P ts kvs->Rld K H' P' ts kvs
 |[],kvs,h=>by simp only[Rld]at h
 |(k,t)::xs,kvs,h=>by
  simp only[Rld]at h ⊢;exact⟨h.1,h.2.1,Rlk.go g xs kvs h.2.2⟩
theorem Rlk.go{K:yh}{H H':Hp}{P P':Pv}(g:Tr H P H' P'):∀(ts:List (ya×ya)) (kvs:List (List Key×V)),Rlk K H P ts kvs->Rlk K H' P' ts kvs
 |[],kvs,h=>by simpa only[Rlk] using h
 |(k,t)::xs,kvs,h=>by
  simp only[Rlk]at h ⊢;obtain⟨ns,v,r,e,e2,q,z⟩:=h;exact⟨ns,v,r,e,e2,Rl.go g t v q,Rlk.go g xs r z⟩
end
section
variable {K:yh}{H H':Hp}{P P':Pv}
theorem Vf{v:V}:Rl K H P .none v↔v=.non:=by simp only[Rl]
theorem X8{b:Bool}{v:V}:Rl K H P (.bool b) v↔v=.bl b:=by simp only[Rl]
theorem Ym{i:Int}{v:V}:Rl K H P (.int i) v↔v=.int i:=by simp only[Rl]
theorem zcy{x:Str}{v:V}:Rl K H P (.str x) v↔v=.str x:=by simp only[Rl]
theorem YJ{xs:List ya}{v:V}:Rl K H P (.list xs) v↔∃a vs,v=.ref a/\SL K H P a vs/\Rls K H P xs vs:=by simp only[Rl]
theorem Yb{xs:List ya}{v:V}:Rl K H P (.tuple xs) v↔∃a vs,v=.ref a/\ST K H P a vs/\Rls K H P xs vs:=by simp only[Rl]
theorem ze4{xs:List (ya×ya)}{v:V}:Rl K H P (.dict xs) v↔(xs=[]/\∃a,v=.ref a/\H a=some (XO K a)/\Off P a)\/(xs≠[]/\∃a C dx fs,v=.ref a/\H a=some (.ins C dx fs)/\Off P a/\Cls K C/\Rlp K H P C xs fs)\/∃a ob kvs,v=.ref a/\H a=some (.frz ob (.dT kvs))/\Off P a/\Rld K H P xs kvs:=by simp only[Rl]
theorem ze2{k t:ya}{xs:List (ya×ya)}{kvs:List (List Key×V)}:Rld K H P ((k,t)::xs) kvs↔k=.none/\t=.none/\Rlk K H P xs kvs:=by simp only[Rld]
theorem zac{kvs:List (List Key×V)}:Rlk K H P [] kvs↔kvs=[]:=by simp only[Rlk]
theorem VU{k t:ya}{xs:List (ya×ya)}{kvs:List (List Key×V)}:Rlk K H P ((k,t)::xs) kvs↔∃ns v r,kvs=(yau Sum.inl ns,v)::r/\k=.tuple (yau .int ns)/\Rl K H P t v/\Rlk K H P xs r:=by simp only[Rlk]
theorem rl_obj{n:Str}{t:ya}{xs:List (ya×ya)}{v:V}:Rl K H P (.dict ((.str n,t)::xs)) v↔∃a C dx fs,v=.ref a/\H a=some (.ins C dx fs)/\Off P a/\Cls K C/\Rlp K H P C ((.str n,t)::xs) fs:=by
 rw[ze4];refine⟨λh=>?_,λh=>.inr (.inl ⟨by simp,h⟩)⟩
 rcases h with ⟨z,_⟩|⟨_,h⟩|⟨a,ob,kvs,_,_,_,r⟩
 ·cases z
 ·exact h
 ·cases(ze2.mp r).1
abbrev dictV(es:List (ya×ya)):ya:=.dict ((.none,.none)::es)
theorem ze3{es:List (ya×ya)}{v:V}:Rl K H P (dictV es) v↔∃a ob kvs,v=.ref a/\H a=some (.frz ob (.dT kvs))/\Off P a/\Rlk K H P es kvs:=by
 rw[ze4];refine⟨λh=>?_,λ⟨a,ob,kvs,h1,h2,h3,h4⟩=>.inr (.inr ⟨a,ob,kvs,h1,h2,h3,ze2.mpr ⟨rfl,rfl,h4⟩⟩)⟩
 rcases h with ⟨z,_⟩|⟨_,a,C,dx,fs,_,_,_,_,r⟩|⟨a,ob,kvs,h1,h2,h3,r⟩
 ·cases z
 ·simp only[Rlp]at r;obtain⟨n,v,r,_,z,_⟩:=r;cases z
 ·exact⟨a,ob,kvs,h1,h2,h3,(ze2.mp r).2.2⟩
theorem zkM{C:yc}{fs:List (Str×V)}:Rlp K H P C [] fs↔fs=[]:=by simp only[Rlp]
theorem zif{C:yc}{k t:ya}{xs:List (ya×ya)}{fs:List (Str×V)}:Rlp K H P C ((k,t)::xs) fs↔∃n v r,fs=(n,v)::r/\k=.str n/\UJ K C n/\Rl K H P t v/\Rlp K H P C xs r:=by simp only[Rlp]
theorem Yy{vs:List V}:Rls K H P [] vs↔vs=[]:=by simp only[Rls]
theorem ZY{x:ya}{xs:List ya}{vs:List V}:Rls K H P (x::xs) vs↔∃v r,vs=v::r/\Rl K H P x v/\Rls K H P xs r:=by simp only[Rls]
theorem Rls.length:∀{ts:List ya}{vs:List V},Rls K H P ts vs->ts.length=vs.length
 |[],vs,h=>by rw[Yy.mp h];rfl
 |t::ts,vs,h=>by
  obtain⟨v,r,rfl,_,q⟩:=ZY.mp h;simp only[ju,Rls.length q]
theorem Rls.get:∀{ts:List ya}{vs:List V}{i:Nat}{v:V},Rls K H P ts vs->vs[i]? = some v->∃t,ts[i]? = some t/\Rl K H P t v
 |[],vs,i,v,h,e=>by rw[Yy.mp h]at e;simp at e
 |t::ts,vs,0,v,h,e=>by
  obtain⟨v',r,rfl,q,_⟩:=ZY.mp h;simp at e;subst e;exact⟨t,rfl,q⟩
 |t::ts,vs,i+1,v,h,e=>by
  obtain⟨v',r,rfl,_,q⟩:=ZY.mp h;exact Rls.get (i:=i) q (by simpa using e)
theorem Rls.getT:∀{ts:List ya}{vs:List V}{i:Nat}{t:ya},Rls K H P ts vs->ts[i]? = some t->∃v,vs[i]? = some v/\Rl K H P t v
 |[],vs,i,v,h,e=>by simp at e
 |t::ts,vs,0,t',h,e=>by
  obtain⟨v',r,rfl,q,_⟩:=ZY.mp h;simp at e;subst e;exact⟨v',rfl,q⟩
 |t::ts,vs,i+1,t',h,e=>by
  obtain⟨v',r,rfl,_,q⟩:=ZY.mp h;exact Rls.getT (i:=i) q (by simpa using e)
theorem Rls.append:∀{ts us:List ya}{vs ws:List V},Rls K H P ts vs->Rls K H P us ws->Rls K H P (ts++us) (vs++ws)
 |[],us,vs,ws,h,q=>by rw[Yy.mp h];exact q
 |t::ts,us,vs,ws,h,q=>by
  obtain⟨v,r,rfl,a,b⟩:=ZY.mp h;exact ZY.mpr ⟨v,r++ws,rfl,a,Rls.append b q⟩
theorem Rls.set:∀{ts:List ya}{vs:List V}{t:ya}{v:V}(i:Nat),Rls K H P ts vs->Rl K H P t v->Rls K H P (ts.set i t) (vs.set i v)
 |[],vs,t,v,i,h,q=>by rw[Yy.mp h];exact Yy.mpr rfl
 |t'::ts,vs,t,v,0,h,q=>by
  obtain⟨v',r,rfl,a,b⟩:=ZY.mp h;exact ZY.mpr ⟨v,r,rfl,q,b⟩
 |t'::ts,vs,t,v,i+1,h,q=>by
  obtain⟨v',r,rfl,a,b⟩:=ZY.mp h;exact ZY.mpr ⟨v',r.set i v,rfl,a,Rls.set i b q⟩
theorem Rls.drop:∀{ts:List ya}{vs:List V}(n:Nat),Rls K H P ts vs->Rls K H P (ts.drop n) (vs.drop n)
 |ts,vs,0,h=>h
 |[],vs,n+1,h=>by rw[Yy.mp h];exact Yy.mpr rfl
 |t::ts,vs,n+1,h=>by
  obtain⟨v',r,rfl,a,b⟩:=ZY.mp h;exact Rls.drop n b
theorem Rls.take:∀{ts:List ya}{vs:List V}(n:Nat),Rls K H P ts vs->Rls K H P (ts.take n) (vs.take n)
 |ts,vs,0,h=>Yy.mpr rfl
 |[],vs,n+1,h=>by rw[Yy.mp h];exact Yy.mpr rfl
 |t::ts,vs,n+1,h=>by
  obtain⟨v',r,rfl,a,b⟩:=ZY.mp h;exact ZY.mpr ⟨v',r.take n,rfl,a,Rls.take n b⟩
theorem zie(ns:List Int):Rls K H P (ns.map .int) (ns.map V.int):=by
 induction ns with
 |nil=>exact Yy.mpr rfl
 |cons n ns ih=>exact ZY.mpr ⟨.int n,_,rfl,Ym.mpr rfl,ih⟩
end
def SlOk(K:yh)(H:Hp)(P:Pv)(i:Nat)(x:Option V):Sl->Prop
 |.emp=>True
 |.val t=>∃v,x=some v/\Rl K H P t v
 |.own xs=>∃p vs,x=some (.ref p)/\P.own i=some p/\H p=some (.lst vs)/\Rls K H P xs vs
 |.dct es=>∃p kvs,x=some (.ref p)/\P.own i=some p/\H p=some (.dT kvs)/\Rlk K H P es kvs
def Sl.mine:Sl->Prop
 |.own _|.dct _=>True
 |_=>False
structure Hol(K:yh)(H:Hp)(P:Pv)(σ:L2.St)(G:List Sl):Prop where
 sl:∀i s,G[i]? = some s->SlOk K H P i (σ.getD i none) s
 inj:∀i j a,P.own i=some a->P.own j=some a->i=j
 only:∀i a,P.own i=some a->∃s,G[i]? = some s/\s.mine
 fbd:∀a,P.fb a->∃o,H a=some o/\LD o
 nfb:∀i a,P.own i=some a->¬P.fb a
 len:σ.length=G.length
 tab:Qm K H
theorem getD_some{σ:L2.St}{i:Nat}{v:V}(h:σ.getD i none=some v):σ[i]? = some (some v):=by
 rw[y9]at h;cases e:σ[i]? with
 |none=>rw[e]at h;cases h
 |some x=>rw[e]at h;simp at h;rw[h]
section
variable {K:yh}{H H':Hp}{P P':Pv}{σ:L2.St}{G:List Sl}
theorem Hol.dom(h:Hol K H P σ G){i:Nat}{a:yc}(e:P.own i=some a):∃o,H a=some o/\LD o:=by
 obtain⟨s,q,m⟩:=h.only i a e;have z:=h.sl i _ q;cases s with
 |emp=>exact m.elim
 |val t=>exact m.elim
 |own xs=>
  obtain⟨p,vs,_,e',q',_⟩:=z;rw[e]at e';cases e';exact⟨_,q',.inl ⟨vs,rfl⟩⟩
 |dct es=>
  obtain⟨p,vs,_,e',q',_⟩:=z;rw[e]at e';cases e';exact⟨_,q',.inr ⟨vs,rfl⟩⟩
theorem Hol.nofb(h:Hol K H P σ G){p:yc}(e:H p=none):¬P.fb p:=λz=>by obtain⟨o,q,_⟩:=h.fbd p z;rw[e]at q;cases q
theorem Hol.off_new(h:Hol K H P σ G){p:yc}(e:H p=none):Off P p:=by
 refine⟨λi z=>?_,h.nofb e⟩
 obtain⟨vs,q,_⟩:=h.dom z;rw[e]at q;cases q
theorem Hol.ld(h:Hol K H P σ G){a:yc}(z:¬Off P a):∃o,H a=some o/\LD o:=by
 by_cases q:∃i,P.own i=some a
 ·obtain⟨i,q⟩:=q;exact h.dom q
 ·by_cases w:P.fb a
  ·exact h.fbd a w
  ·exact(z ⟨λi e=>q ⟨i,e⟩,w⟩).elim
theorem Hol.tup_off(h:Hol K H P σ G){a:yc}{xs:List V}(e:H a=some (.tup xs)):Off P a:=js λz=>by
 obtain⟨o,q,m⟩:=h.ld z;rw[e]at q;cases q;rcases m with ⟨_,m⟩|⟨_,m⟩<;>cases m
theorem Hol.same(h:Hol K H P σ G)(e:Same H H'):Hol K H' P σ G where
 sl:=λi s q=>by
  have z:=h.sl i s q;cases s with
  |emp=>trivial
  |val t=>obtain⟨v,e1,r⟩:=z;exact⟨v,e1,Rl.go (.same e) t v r⟩
  |own xs=>obtain⟨p,vs,e1,e2,e3,r⟩:=z;exact⟨p,vs,e1,e2,e.kp _ _ e3 zaG,Rls.go (.same e) xs vs r⟩
  |dct es=>obtain⟨p,vs,e1,e2,e3,r⟩:=z;exact⟨p,vs,e1,e2,e.kp _ _ e3 nt_dT,Rlk.go (.same e) es vs r⟩
 inj:=h.inj
 only:=h.only
 fbd:=λa z=>let⟨o,q,m⟩:=h.fbd a z;⟨o,e.kp _ _ q m.nt,m⟩
 nfb:=h.nfb
 len:=h.len
 tab:=e.tab K h.tab
def Pv.del(P:Pv)(i:Nat):Pv:=⟨λj=>if j=i then none else P.own j,P.fb⟩
def Pv.put(P:Pv)(i:Nat)(p:yc):Pv:=⟨λj=>if j=i then some p else P.own j,P.fb⟩
theorem Tr.del{i:Nat}:Tr H P H (P.del i):=λa o h _ q=>⟨h,λj z=>by
 have z':(if j=i then none else P.own j)=some a:=z
 split at z'
 ·cases z'
 ·exact q.1 j z',q.2⟩
theorem Go.del{i:Nat}:Go H P H (P.del i):=⟨λa o h _ q=>⟨h,λj z=>by
 have z':(if j=i then none else P.own j)=some a:=z
 split at z'
 ·cases z'
 ·exact q j z'⟩,rfl,λh=>h,λ_ h=>h,λ_ ps h=>⟨ps,h⟩⟩
theorem Go.put{i:Nat}{p:yc}(hp:H p=none):Go H P H (P.put i p):=⟨λa o h _ q=>⟨h,λj z=>by
 have z':(if j=i then some p else P.own j)=some a:=z
 split at z'
 ·cases z';rw[hp]at h;cases h
 ·exact q j z'⟩,rfl,λh=>h,λ_ h=>h,λ_ ps h=>⟨ps,h⟩⟩
theorem Qw{σ:L2.St}{i:Nat}{x:Option V}(h:i<σ.length):(σ.set i x).getD i none=x:=by
 rw[y9,j3 h];rfl
theorem zaf{σ:L2.St}{i j:Nat}{x:Option V}(h:j≠i):(σ.set i x).getD j none=σ.getD j none:=by
 rw[y9,y9,jo (Ne.symm h)]
theorem Hol.setVal(h:Hol K H P σ G)(i:Nat){t:ya}{v:V}(r:Rl K H P t v):Hol K H (P.del i) (σ.set i (some v)) (G.set i (.val t)) where
 sl:=λj s q=>by
  by_cases e:j=i
  ·subst e;have hl:j<G.length:=by
    have:=(yV.mp q).1;simpa using this
   rw[j3 hl]at q;cases q;refine⟨v,?_,Rl.go .del t v r⟩;exact Qw (by rw[h.len];exact hl)
  ·rw[jo (Ne.symm e)]at q;have z:=h.sl j s q;rw[zaf e];cases s with
   |emp=>trivial
   |val t'=>obtain⟨v',e1,r'⟩:=z;exact⟨v',e1,Rl.go .del t' v' r'⟩
   |own xs=>obtain⟨p,vs,e1,e2,e3,r'⟩:=z;exact⟨p,vs,e1,(by show(if j=i then none else P.own j)=_;rw[if_neg e];exact e2),e3,Rls.go .del xs vs r'⟩
   |dct es=>obtain⟨p,vs,e1,e2,e3,r'⟩:=z;exact⟨p,vs,e1,(by show(if j=i then none else P.own j)=_;rw[if_neg e];exact e2),e3,Rlk.go .del es vs r'⟩
 inj:=λa b c h1 h2=>by
  have h1':(if a=i then none else P.own a)=some c:=h1
  have h2':(if b=i then none else P.own b)=some c:=h2
  split at h1'
  ·cases h1'
  ·split at h2'
   ·cases h2'
   ·exact h.inj a b c h1' h2'
 only:=λj a z=>by
  have z':(if j=i then none else P.own j)=some a:=z
  split at z'
  ·cases z'
  ·rename_i ne;obtain⟨xs,q,m⟩:=h.only j a z';exact⟨xs,by rw[jo (Ne.symm ne)];exact q,m⟩
 fbd:=h.fbd
 nfb:=λj a z=>by
  have z':(if j=i then none else P.own j)=some a:=z
  split at z'
  ·cases z'
  ·exact h.nfb j a z'
 len:=by rw[jV,jV];exact h.len
 tab:=h.tab
theorem ZJ{p:yc}{o:HO}(h:H p=none):Same H (upd H p o):=.of λb u q=>by rw[Zu (Z3 q h)];exact q
theorem Hol.upOwn(h:Hol K H P σ G){i:Nat}{ys xs:List ya}{vs:List V}{p:yc}(hi:G[i]? = some (.own ys))(hp:P.own i=some p)(r:Rls K H P xs vs):Hol K (upd H p (.lst vs)) P σ (G.set i (.own xs))/\Go H P (upd H p (.lst vs)) P:=by
 have hpl:=h.dom hp;have g0:Go H P (upd H p (.lst vs)) P:=⟨λa o e _ q=>⟨by rw[Zu (λz=>q i (by rw[z];exact hp))];exact e,q⟩,rfl,λ{b} w=>by
  by_cases z:b=p
  ·rw[z,Zw]at w;cases w
  ·rw[Zu z]at w;exact w,λK t=>Qm.mono t λb o e nl=>by
  rw[Zu (λz=>by obtain⟨us,w,m⟩:=hpl;rw[z,w]at e;cases e;exact nl m)];exact e,λb ps e=>⟨ps,by rw[Zu (λz=>by obtain⟨us,w,m⟩:=hpl;rw[z,w]at e;cases e;rcases m with ⟨_,m⟩|⟨_,m⟩<;>cases m)];exact e⟩⟩
 have gg:=g0.tr;have hl:i<G.length:=(yV.mp hi).1;refine⟨⟨λj s q=>?_,h.inj,λj a z=>?_,λa z=>?_,h.nfb,by rw[jV];exact h.len,g0.tab K h.tab⟩,g0⟩
 ·by_cases e:j=i
  ·subst e;rw[j3 hl]at q;cases q;obtain⟨p',vs',e1,e2,_,_⟩:=h.sl j _ hi;rw[hp]at e2;cases e2;exact⟨p,vs,e1,hp,Zw,Rls.go gg xs vs r⟩
  ·rw[jo (Ne.symm e)]at q;have z:=h.sl j s q;cases s with
   |emp=>trivial
   |val t'=>obtain⟨v',e1,r'⟩:=z;exact⟨v',e1,Rl.go gg t' v' r'⟩
   |own xs'=>
    obtain⟨p',vs',e1,e2,e3,r'⟩:=z;refine⟨p',vs',e1,e2,?_,Rls.go gg xs' vs' r'⟩;rw[Zu (λz=>e (h.inj j i p' e2 (by rw[z];exact hp)))]
    exact e3
   |dct xs'=>
    obtain⟨p',vs',e1,e2,e3,r'⟩:=z;refine⟨p',vs',e1,e2,?_,Rlk.go gg xs' vs' r'⟩;rw[Zu (λz=>e (h.inj j i p' e2 (by rw[z];exact hp)))]
    exact e3
 ·by_cases e:j=i
  ·subst e;exact⟨_,j3 hl,trivial⟩
  ·obtain⟨xs',q,m⟩:=h.only j a z;exact⟨xs',by rw[jo (Ne.symm e)];exact q,m⟩
 ·rw[Zu (λe=>h.nfb i p hp (by rw[<- e];exact z))]
  exact h.fbd a z
end
section
variable {K:yh}{H H':Hp}{P P':Pv}{σ:L2.St}{G:List Sl}
theorem Hol.frz1(h:Hol K H P σ G)(i:Nat):∃P',Hol K H P' σ (Fx.frz1 G i)/\Go H P H P':=by
 unfold Fx.frz1;split
 ·rename_i xs q;obtain⟨p,vs,e1,e2,e3,r⟩:=h.sl i _ q;have off:Off (P.del i) p:=⟨λj z=>by
   have z':(if j=i then none else P.own j)=some p:=z
   split at z'
   ·cases z'
   ·rename_i ne;exact ne (h.inj j i p z' e2),h.nfb i p e2⟩
  have r0:Rl K H (P.del i) (.list xs) (.ref p):=YJ.mpr ⟨p,vs,rfl,.inl ⟨.inl e3,off⟩,Rls.go .del xs vs r⟩;refine⟨P.del i,⟨λj s z=>?_,?_,?_,h.fbd,?_,by rw[jV];exact h.len,h.tab⟩,.del⟩
  ·by_cases e:j=i
   ·subst e;rw[j3 (yV.mp q).1]at z;cases z;exact⟨.ref p,e1,r0⟩
   ·rw[jo (Ne.symm e)]at z;have z:=h.sl j s z;cases s with
    |emp=>trivial
    |val t'=>obtain⟨v',e1,r'⟩:=z;exact⟨v',e1,Rl.go .del t' v' r'⟩
    |own xs=>obtain⟨p,vs,e1,e2,e3,r'⟩:=z;exact⟨p,vs,e1,(by show(if j=i then none else P.own j)=_;rw[if_neg e];exact e2),e3,Rls.go .del xs vs r'⟩
    |dct es=>obtain⟨p,vs,e1,e2,e3,r'⟩:=z;exact⟨p,vs,e1,(by show(if j=i then none else P.own j)=_;rw[if_neg e];exact e2),e3,Rlk.go .del es vs r'⟩
  ·intro a b c h1 h2;have h1':(if a=i then none else P.own a)=some c:=h1
   have h2':(if b=i then none else P.own b)=some c:=h2
   split at h1'
   ·cases h1'
   ·split at h2'
    ·cases h2'
    ·exact h.inj a b c h1' h2'
  ·intro j a z;have z':(if j=i then none else P.own j)=some a:=z
   split at z'
   ·cases z'
   ·rename_i ne;obtain⟨xs,q,m⟩:=h.only j a z';exact⟨xs,by rw[jo (Ne.symm ne)];exact q,m⟩
  ·intro j a z;have z':(if j=i then none else P.own j)=some a:=z
   split at z'
   ·cases z'
   ·exact h.nfb j a z'
 ·exact⟨P,h,.refl _ _⟩
theorem Hol.frz(is:List Nat):∀{P:Pv}{G:List Sl},Hol K H P σ G->∃P',Hol K H P' σ (Fx.frz is G)/\Go H P H P':=by
 induction is with
 |nil=>exact λ{P G} h=>⟨P,h,.refl _ _⟩
 |cons i is ih=>
  intro P G h;obtain⟨P1,h1,g1⟩:=h.frz1 i;obtain⟨P2,h2,g2⟩:=ih h1;exact⟨P2,h2,g1.trans g2⟩
theorem Qx:∀(G:List Sl) (i:Nat),(az G)[i]? = (G[i]?).map λs=>match s with|.own xs=>.val (.list xs)|.dct _=>.emp|s=>s
 |[],i=>by simp[az]
 |.own xs::r,0=>by simp[az]
 |.emp::r,0=>by simp[az]
 |.val t::r,0=>by simp[az]
 |.dct t::r,0=>by simp[az]
 |.own xs::r,i+1=>by simp[az,Qx r i]
 |.emp::r,i+1=>by simp[az,Qx r i]
 |.val t::r,i+1=>by simp[az,Qx r i]
 |.dct t::r,i+1=>by simp[az,Qx r i]
theorem Uj:∀(G:List Sl),(az G).length=G.length
 |[]=>rfl
 |.own xs::r=>by simp[az,Uj r]
 |.emp::r=>by simp[az,Uj r]
 |.val t::r=>by simp[az,Uj r]
 |.dct t::r=>by simp[az,Uj r]
def Pv.bare(P:Pv):Pv:=⟨λ_=>none,P.fb⟩
theorem Hol.az(h:Hol K H P σ G):Hol K H P.bare σ (Fx.az G)/\Go H P H P.bare:=by
 have g0:Go H P H P.bare:=⟨λa o e _ q=>⟨e,λ_ z=>(by cases z)⟩,rfl,λh=>h,λ_ h=>h,λ_ ps h=>⟨ps,h⟩⟩
 have gg:=g0.tr;refine⟨⟨λj s z=>?_,λ_ _ _ z=>(by cases z),λ_ _ z=>(by cases z),h.fbd,λ_ _ z=>(by cases z),by rw[Uj];exact h.len,h.tab⟩,g0⟩
 rw[Qx]at z;cases q:G[j]? with
 |none=>rw[q]at z;cases z
 |some s'=>
  rw[q]at z;have w:=h.sl j s' q;cases s' with
  |emp=>cases z;trivial
  |val t=>cases z;obtain⟨v,e,r⟩:=w;exact⟨v,e,Rl.go gg t v r⟩
  |dct t=>cases z;trivial
  |own xs=>
   cases z;obtain⟨p,vs,e1,e2,e3,r⟩:=w;exact⟨.ref p,e1,YJ.mpr ⟨p,vs,rfl,.inl ⟨.inl e3,λ_ z=>(by cases z),h.nfb j p e2⟩,Rls.go gg xs vs r⟩⟩
end
def X7(K:yh)(W:Str->Hp->Prop)(H:Hp)(P:Pv)(r:Res ya)(Q:VK):Prop:=
 match r with
 |.ok t=>∀v H',Same H H'->Rl K H' P t v->Q v H'
 |.exc c=>∀H',Same H H'->W c H'
 |.stuck=>False
def tF(K:yh)(W:Str->Hp->Prop)(d:DE):TE:=λσ H Q=>∃G P,Hol K H P σ G/\X7 K W H P (d G) Q
def zj7(K:yh)(W:Str->Hp->Prop)(H:Hp)(P:Pv)(r:Res (List ya))(Q:List V->Hp->Prop):Prop:=
 match r with
 |.ok ts=>∀vs H',Same H H'->Rls K H' P ts vs->Q vs H'
 |.exc c=>∀H',Same H H'->W c H'
 |.stuck=>False
def tFA(K:yh)(W:Str->Hp->Prop)(d:DA):TA:=λσ H Q=>∃G P,Hol K H P σ G/\zj7 K W H P (d G) Q
def zdy(W:Str->Hp->Prop)(H:Hp)(r:Res Bool)(Q:Bool->Hp->Prop):Prop:=
 match r with
 |.ok b=>∀H',Same H H'->Q b H'
 |.exc c=>∀H',Same H H'->W c H'
 |.stuck=>False
def tFT(K:yh)(W:Str->Hp->Prop)(d:DT):TT:=λσ H Q=>∃G P,Hol K H P σ G/\zdy W H (d G) Q
def Pv.fbd(P:Pv)(p:yc):Pv:=⟨P.own,λa=>P.fb a\/a=p⟩
def NewL(K:yh)(H:Hp)(P:Pv)(H':Hp)(P':Pv)(t:ya)(v:V):Prop:=
 ∃p us xs,v=.ref p/\t=.list xs/\H' p=some (.lst us)/\Rls K H' (P'.fbd p) xs us/\∀o,H p=some o->Nt o->∃i,P.own i=some p
theorem NewL.back{K:yh}{H H1 H':Hp}{P P1 P':Pv}{t:ya}{v:V}(g:Go H P H1 P1)(n:NewL K H1 P1 H' P' t v):NewL K H P H' P' t v:=by
 obtain⟨p,us,xs,e1,e2,e3,r,q⟩:=n;refine⟨p,us,xs,e1,e2,e3,r,λo e nt=>js λz=>?_⟩
 have:=g.mv p o e nt λi w=>z ⟨i,w⟩
 obtain⟨i,w⟩:=q o this.1 nt;exact this.2 i w
def VZ(K:yh)(W:Str->Hp->Prop)(fl:Bool)(H:Hp)(P:Pv)(r:Res Out)(D:Ends):Prop:=
 match r with
 |.ok (.nx G')=>∀σ' H' P',Go H P H' P'->Hol K H' P' σ' G'->D.nx σ' H'
 |.ok (.bk G')=>∀σ' H' P',Go H P H' P'->Hol K H' P' σ' G'->D.bk σ' H'
 |.ok (.ct G')=>∀σ' H' P',Go H P H' P'->Hol K H' P' σ' G'->D.ct σ' H'
 |.ok (.rt t)=>∀v H' P',Go H P H' P'->Rl K H' P' t v->(fl=true->NewL K H P H' P' t v)->D.rt v H'
 |.exc c=>∀H' P',Go H P H' P'->W c H'
 |.stuck=>False
def tFS(K:yh)(W:Str->Hp->Prop)(fl:Bool)(d:DS):TS:=λD σ H=>∃G P,Hol K H P σ G/\VZ K W fl H P (d G) D
def EV(X:Cx)(W:Str->Hp->Prop)(e:yj)(d:DE):Prop:=PE X e (tF X.K W d)
def AV(X:Cx)(W:Str->Hp->Prop)(es:List yj)(d:DA):Prop:=PA X es (tFA X.K W d)
def TV(X:Cx)(W:Str->Hp->Prop)(e:yj)(d:DT):Prop:=PT X e (tFT X.K W d)
def TW(X:Cx)(W:Str->Hp->Prop)(e:yj)(d:DT):Prop:=PW X e (tFT X.K W d)
def SV(X:Cx)(W:Str->Hp->Prop)(fl:Bool)(st:yk)(d:DS):Prop:=PS X st (tFS X.K W fl d)
def SVs(X:Cx)(W:Str->Hp->Prop)(fl:Bool)(st:List yk)(d:DS):Prop:=PSs X st (tFS X.K W fl d)
theorem Z7{X:Cx}{e:yj}{t t':TE}(h:PE X e t)(w:∀σ H Q,t' σ H Q->t σ H Q):PE X e t':=λpins s σ H Q I q=>h pins s σ H Q I (w σ H Q q)
theorem zk4{X:Cx}{e:List yj}{t t':TA}(h:PA X e t)(w:∀σ H Q,t' σ H Q->t σ H Q):PA X e t':=λpos pins s σ H Q I q=>h pos pins s σ H Q I (w σ H Q q)
theorem ze5{X:Cx}{e:yj}{t t':TT}(h:PT X e t)(w:∀σ H Q,t' σ H Q->t σ H Q):PT X e t':=λpins s σ H Q I q=>h pins s σ H Q I (w σ H Q q)
theorem zkP{X:Cx}{e:yj}{t t':TT}(h:PW X e t)(w:∀σ H Q,t' σ H Q->t σ H Q):PW X e t':=λwh pins s σ H Q I q=>h wh pins s σ H Q I (w σ H Q q)
theorem X9{X:Cx}{e:yk}{t t':TS}(h:PS X e t)(w:∀D σ H,t' D σ H->t D σ H):PS X e t':=λpins s σ H D I q=>h pins s σ H D I (w D σ H q)
theorem zij{X:Cx}{e:List yk}{t t':TS}(h:PSs X e t)(w:∀D σ H,t' D σ H->t D σ H):PSs X e t':=λpins s σ H D I q=>h pins s σ H D I (w D σ H q)
theorem Z1{K:yh}{W:Str->Hp->Prop}{σ:L2.St}{G:List Sl}{H:Hp}{P:Pv}{a:DE}(h:Hol K H P σ G){Q:VK}
  (hx:∀c,a G=.exc c->∀H',Same H H'->W c H') (hs:a G≠.stuck)
  (q:∀t v H',a G=.ok t->Same H H'->Hol K H' P σ G->Rl K H' P t v->Q v H'):tF K W a σ H Q:=by
 refine⟨G,P,h,?_⟩;unfold X7;cases e:a G with
 |ok t=>exact λv H' s r=>q t v H' e s (h.same s) r
 |exc c=>exact hx c e
 |stuck=>exact hs e
theorem Qo{K:yh}{W:Str->Hp->Prop}{σ:L2.St}{G:List Sl}{H:Hp}{P:Pv}{a:DT}(h:Hol K H P σ G){Q:Bool->Hp->Prop}
  (hx:∀c,a G=.exc c->∀H',Same H H'->W c H') (hs:a G≠.stuck)
  (q:∀t H',a G=.ok t->Same H H'->Hol K H' P σ G->Q t H'):tFT K W a σ H Q:=by
 refine⟨G,P,h,?_⟩;unfold zdy;cases e:a G with
 |ok t=>exact λH' s=>q t H' e s (h.same s)
 |exc c=>exact hx c e
 |stuck=>exact hs e
theorem Qp{K:yh}{W:Str->Hp->Prop}{σ:L2.St}{G:List Sl}{H:Hp}{P:Pv}{a:DA}(h:Hol K H P σ G){Q:List V->Hp->Prop}
  (hx:∀c,a G=.exc c->∀H',Same H H'->W c H') (hs:a G≠.stuck)
  (q:∀t v H',a G=.ok t->Same H H'->Hol K H' P σ G->Rls K H' P t v->Q v H'):tFA K W a σ H Q:=by
 refine⟨G,P,h,?_⟩;unfold zj7;cases e:a G with
 |ok t=>exact λv H' s r=>q t v H' e s (h.same s) r
 |exc c=>exact hx c e
 |stuck=>exact hs e
section
variable {X:Cx}{W:Str->Hp->Prop}{a b c e:yj}{es:List yj}{da db:DE}{pos:Pos}
theorem Za(i:Nat){x:Str}{pos:Pos}(hN:X.N[i]? = some x:=by rfl)(hv:Vis X.env.scope x:=by first|exact yg rfl|exact yC (yg rfl)|exact yC (yC rfl))(hd:(x == ("__debug__" : Str))=false:=by decide)
  (hcd:(x == ("__classdict__" : Str))=false:=by decide):EV X W (.Name x pos) (aa i):=
 Z7 (QS hN hv hd hcd) λσ H Q ⟨G,P,h,q⟩=>by
  unfold aa at q;cases e:G[i]? with
  |none=>rw[e]at q;exact q.elim
  |some s=>
   rw[e]at q;cases s with
   |emp=>exact q.elim
   |own xs=>exact q.elim
   |dct xs=>exact q.elim
   |val t=>
    obtain⟨v,e1,r⟩:=h.sl i _ e;exact⟨v,getD_some e1,q v H (Same.refl H) r⟩
theorem Zd{i j pos}:EV X W (.Constant (.int i) j pos) (dC (.int i)):=Z7 pe_int λσ H Q ⟨G,P,h,q⟩=>q _ H (Same.refl H) (Ym.mpr rfl)
theorem Vn{b j pos}:EV X W (.Constant (.bool b) j pos) (dC (.bool b)):=Z7 pe_bl λσ H Q ⟨G,P,h,q⟩=>q _ H (Same.refl H) (X8.mpr rfl)
theorem zcX{j pos}:EV X W (.Constant .none j pos) (dC .none):=Z7 pe_non λσ H Q ⟨G,P,h,q⟩=>q _ H (Same.refl H) (Vf.mpr rfl)
theorem Yo{x j pos}:EV X W (.Constant (.str x) j pos) (dC (.str x)):=Z7 pe_str λσ H Q ⟨G,P,h,q⟩=>q _ H (Same.refl H) (zcy.mpr rfl)
theorem zfA{x:Str}{i:Int}{t:Tok}{pos:Pos}(hg:Gl X x)(hm:X.mg x=some (.int i t))(hd:(x == ("__debug__" : Str))=false:=by decide):EV X W (.Name x pos) (dC (.int i)):=
 Z7 (pe_glob (v:=.int i) hg hm ⟨t,rfl⟩ hd) λσ H Q ⟨G,P,h,q⟩=>q _ H (Same.refl H) (Ym.mpr rfl)
def Fop(X:Cx)(W:Str->Hp->Prop)(r:R2)(f:ya->ya->Res ya):Prop:=
 ∀(H:Hp) (P:Pv) (σ:L2.St) (G:List Sl) (x y:V) (tx ty:ya) (Q:VK),Hol X.K H P σ G->Rl X.K H P tx x->Rl X.K H P ty y->X7 X.K W H P (f tx ty) Q->r x y H Q
theorem QG{a:Res ya}{f:ya->Res ya}{K:yh}{H:Hp}{P:Pv}{Q:VK}(q:X7 K W H P (a.bind f) Q):
  (∀c,a=.exc c->∀H',Same H H'->W c H')/\a≠.stuck/\∀t,a=.ok t->X7 K W H P (f t) Q:=by
 cases a with
 |ok t=>exact⟨λc e=>(by cases e),(by intro e;cases e),λt' e=>by cases e;exact q⟩
 |exc c=>exact⟨λc' e=>by cases e;exact q,(by intro e;cases e),λt e=>by cases e⟩
 |stuck=>exact q.elim
theorem X7.up{K:yh}{H H':Hp}{P:Pv}{r:Res ya}{Q:VK}(q:X7 K W H P r Q)(s:Same H H'):X7 K W H' P r Q:=by
 cases r with
 |ok t=>exact λv H2 s2 r2=>q v H2 (s.trans s2) r2
 |exc c=>exact λH2 s2=>q H2 (s.trans s2)
 |stuck=>exact q
theorem zh3{r:R2}{f:ya->ya->Res ya}(hf:Fop X W r f){σ:L2.St}{H:Hp}{Q:VK}(h:tF X.K W (d2 f da db) σ H Q):tOp r (tF X.K W da) (tF X.K W db) σ H Q:=by
 obtain⟨G,P,h,q⟩:=h;unfold d2 at q;obtain⟨q1,q2,q3⟩:=QG q;refine Z1 h q1 q2 λtx x H1 ex s1 h1 rx=>?_
 obtain⟨q4,q5,q6⟩:=QG (q3 tx ex);refine Z1 h1 (λc e H' s=>q4 c e H' (s1.trans s)) q5 λty y H2 ey s2 h2 ry=>?_
 exact hf H2 P σ G x y tx ty Q h2 (Rl.go (.same s2) tx x rx) ry ((q6 ty ey).up (s1.trans s2))
theorem ZF{op:Operator}{r:R2}{f:ya->ya->Res ya}(ho:OpR X (jm op) r/\Fop X W r f)(ha:EV X W a da)(hb:EV X W b db):EV X W (.BinOp a op b pos) (d2 f da db):=
 Z7 (pe_op ho.1 ha hb) λσ H Q h=>zh3 ho.2 h
theorem Wi{op:CmpOp}{r:R2}{f:ya->ya->Res ya}(ho:OpR X (ji op) r/\Fop X W r f)(ha:EV X W a da)(hb:EV X W b db)(hm:jU op b=false):EV X W (.Compare a [op] [b] pos) (d2 f da db):=
 Z7 (pe_cmpR ho.1 ha hb hm) λσ H Q h=>zh3 ho.2 h
theorem ziI{C:Int->Int->Prop}{g:Int->Int->V}{f:ya->ya->Res ya}
  (h:∀(H:Hp) (P:Pv) (tx ty:ya) (Q:VK),X7 X.K W H P (f tx ty) Q->∃i j,tx=.int i/\ty=.int j/\C i j/\Q (g i j) H):Fop X W (rI C g) f:=λH P σ G x y tx ty Q hh rx ry q=>by
 obtain⟨i,j,rfl,rfl,c,q'⟩:=h H P tx ty Q q;exact⟨i,j,Ym.mp rx,Ym.mp ry,c,q'⟩
theorem zcU{g:Int->Int->V}{f:ya->ya->Res ya}
  (h:∀(H:Hp) (P:Pv) (tx ty:ya) (Q:VK),X7 X.K W H P (f tx ty) Q->∃i j,tx=.int i/\ty=.int j/\Q (g i j) H):Fop X W (rI0 g) f:=λH P σ G x y tx ty Q hh rx ry q=>by
 obtain⟨i,j,rfl,rfl,q'⟩:=h H P tx ty Q q;exact⟨i,j,Ym.mp rx,Ym.mp ry,q'⟩
theorem WT{K:yh}{H:Hp}{P:Pv}{Q:VK}{i:Int}(q:X7 K W H P (.ok (.int i)) Q):Q (.int i) H:=q _ H (Same.refl H) (Ym.mpr rfl)
theorem Yz{K:yh}{H:Hp}{P:Pv}{Q:VK}{i:Bool}(q:X7 K W H P (.ok (.bool i)) Q):Q (.bl i) H:=q _ H (Same.refl H) (X8.mpr rfl)
theorem SL.off{K:yh}{H:Hp}{P:Pv}{a:yc}{xs:List V}(h:H a=some (.lst xs))(o:Off P a):SL K H P a xs:=.inl ⟨.inl h,o⟩
def rCatS(K:yh):R2:=λx y H Q=>∃l b xs zs,x=.ref l/\y=.ref b/\SqL K H l xs/\SqL K H b zs/\xs.length+zs.length<=y7/\∀p,H p=none->Q (.ref p) (upd H p (.lst (xs++zs)))
theorem op_catS:OpR X (jm .Add) (rCatS X.K):=by
 intro pins s σ H x y v u Q I rx ry h;obtain⟨l,b,xs,zs,rfl,rfl,hH,hB,hz,q⟩:=h;cases rx;cases ry;obtain⟨its,r,⟨o,n,e,hc,hd,hs⟩,z⟩:=I.list hH;obtain⟨its2,r2,⟨o2,n2,e2,hc2,hd2,hs2⟩,z2⟩:=I.list hB;obtain⟨c1,c2,c3,c4⟩:=o;obtain⟨k1,k2,k3,k4⟩:=o2;simp only at hc hd hs hc2 hd2 hs2;subst hc hd hs hc2 hd2 hs2;have l1:=r.length;have l2:=r2.length;refine ybw ⟨_,e,rfl⟩ ⟨_,e2,rfl⟩ noFill_list_add seq_list_add PySem.F.slot_list_add PySem.F.entry_list_add (PySem.F.args_list_add_2 _ _) (list_addW l b its.toArray its2.toArray n n2 none none c4 k4 (by simp;omega)) ⟨e,e2,?_⟩
 have ea:its.toArray++its2.toArray=(its++its2).toArray:=by simp
 rw[ea];exact⟨.ref _,_,I.lnew (t':=s.toks) (r.append r2) (by rw[qe];omega),rfl,q _ I.fresh⟩
theorem YA:OpR X (jm .Add) (λx y H Q=>rI0 (λi j=>.int (i+j)) x y H Q\/rCatS X.K x y H Q)/\Fop X W (λx y H Q=>rI0 (λi j=>.int (i+j)) x y H Q\/rCatS X.K x y H Q) aF:=
 ⟨op_add.or op_catS,λH P σ G x y tx ty Q h rx ry q=>by
  cases tx<;>cases ty<;>try exact q.elim
  ·exact .inl ⟨_,_,Ym.mp rx,Ym.mp ry,WT q⟩
  ·rename_i xs ys;refine .inr ?_;obtain⟨l,us,rfl,s1,r1⟩:=YJ.mp rx;obtain⟨m,ws,rfl,s2,r2⟩:=YJ.mp ry;simp only[aF]at q;split at q
   ·rename_i hz;have e1:=r1.length;have e2:=r2.length;refine⟨l,m,us,ws,rfl,rfl,s1.sq,s2.sq,by rw[j6];omega,λp hp=>q _ _ (ZJ hp) (YJ.mpr ⟨p,us++ws,rfl,.off Zw (h.off_new hp),?_⟩)⟩
    exact(Rls.go (.same (ZJ hp)) xs us r1).append (Rls.go (.same (ZJ hp)) ys ws r2)
   ·exact q.elim⟩
theorem UM:OpR X (jm .Sub) (rI0 λi j=>.int (i - j))/\Fop X W (rI0 λi j=>.int (i - j)) fSub:=
 ⟨op_sub,zcU λH P tx ty Q q=>by
  cases tx<;>cases ty<;>try exact q.elim
  exact⟨_,_,rfl,rfl,WT q⟩⟩
theorem mulOk_ok{i j:Int}(h:Xj i j=true):IntMulOk i j:=by
 have bits:∀k:Int,yB.Int.intBits k<=k.natAbs.log2+1:=λk=>by
  unfold yB.Int.intBits;split<;>omega
 simp only[Xj,qp,decide_eq_true_eq]at h;rcases h with (h|h)|h
 ·have h1:=bits i;have h2:=bits j;unfold IntMulOk;intro z;simp only[jl,decide_eq_true_eq,yB.Int.intTooBig]at z;have:=z.2;simp only[bitsLine]at this;omega
 ·exact .of_left (intBits_le_64 (by omega) (by omega))
 ·exact .of_right (intBits_le_64 (by omega) (by omega))
theorem Z9:OpR X (jm .Mult) (rI (λi j=>Xj i j=true) λi j=>.int (i * j))/\Fop X W (rI (λi j=>Xj i j=true) λi j=>.int (i * j)) aA:=
 ⟨opI λ_ _ _ _ _ _ _ hc q=>mul_int q (mulOk_ok hc),ziI λH P tx ty Q q=>by
  cases tx<;>cases ty<;>try exact q.elim
  simp only[aA]at q;split at q
  ·rename_i hc;exact⟨_,_,rfl,rfl,hc,WT q⟩
  ·exact q.elim⟩
theorem ziO{i j:Int}(h:zcZ j=true):j≠0/\yB.divisionGoesByPylong i j=false:=by
 simp only[zcZ,jl,decide_eq_true_eq]at h;refine⟨h.1,?_⟩;unfold yB.divisionGoesByPylong;have e:(j == 0)=false:=by simpa using h.1
 simp only[e];have:¬(j.natAbs.log2 / 30+1 > 300):=by omega
 simp[this]
theorem zbs:OpR X (jm .FloorDiv) (rI (λ_ j=>zcZ j=true) λi j=>.int (i.fdiv j))/\Fop X W (rI (λ_ j=>zcZ j=true) λi j=>.int (i.fdiv j)) fDiv:=
 ⟨opI λ_ _ _ _ _ _ _ hc q=>floordiv_int (ziO (i:=0) hc).1 q (.inl (ziO hc).2),ziI λH P tx ty Q q=>by
  cases tx<;>cases ty<;>try exact q.elim
  simp only[fDiv]at q;split at q
  ·rename_i hc;exact⟨_,_,rfl,rfl,hc,WT q⟩
  ·exact q.elim⟩
theorem Vg:OpR X (jm .Mod) (rI (λ_ j=>j≠0) λi j=>.int (i.fmod j))/\Fop X W (rI (λ_ j=>j≠0) λi j=>.int (i.fmod j)) fMod:=
 ⟨op_modN,ziI λH P tx ty Q q=>by
  cases tx<;>cases ty<;>try exact q.elim
  simp only[fMod]at q;split at q
  ·exact q.elim
  ·rename_i hc;exact⟨_,_,rfl,rfl,hc,WT q⟩⟩
theorem op_powF:OpR X (jm .Pow) (rI CPow λi j=>.int (i ^ j.toNat))/\Fop X W (rI CPow λi j=>.int (i ^ j.toNat)) fPow:=
 ⟨op_pow,ziI λH P tx ty Q q=>by
  cases tx<;>cases ty<;>try exact q.elim
  simp only[fPow]at q;split at q
  ·rename_i hc;exact⟨_,_,rfl,rfl,hc,WT q⟩
  ·exact q.elim⟩
theorem WU:OpR X (ji .Lt) (rI0 λi j=>.bl (decide (i<j)))/\Fop X W (rI0 λi j=>.bl (decide (i<j))) fLt:=
 ⟨op_lt,zcU λH P tx ty Q q=>by
  cases tx<;>cases ty<;>try exact q.elim
  exact⟨_,_,rfl,rfl,Yz q⟩⟩
theorem op_leF:OpR X (ji .LtE) (rI0 λi j=>.bl (decide (i<=j)))/\Fop X W (rI0 λi j=>.bl (decide (i<=j))) fLe:=
 ⟨op_le,zcU λH P tx ty Q q=>by
  cases tx<;>cases ty<;>try exact q.elim
  exact⟨_,_,rfl,rfl,Yz q⟩⟩
theorem Qa:OpR X (ji .Gt) (rI0 λi j=>.bl (decide (j<i)))/\Fop X W (rI0 λi j=>.bl (decide (j<i))) fGt:=
 ⟨op_gt,zcU λH P tx ty Q q=>by
  cases tx<;>cases ty<;>try exact q.elim
  exact⟨_,_,rfl,rfl,Yz q⟩⟩
theorem zk6:OpR X (ji .GtE) (rI0 λi j=>.bl (decide (j<=i)))/\Fop X W (rI0 λi j=>.bl (decide (j<=i))) fGe:=
 ⟨op_ge,zcU λH P tx ty Q q=>by
  cases tx<;>cases ty<;>try exact q.elim
  exact⟨_,_,rfl,rfl,Yz q⟩⟩
mutual
theorem Rl.reads{pins:List (yc×Obj)}{σ:L2.St}{H:Hp}{s:ye}{P:Pv}(I:Inv X pins σ H s):∀(t:ya) (v:V) (u:yb),t.canLay0=true->Rl X.K H P t v->ax v u->∃as,Reads s.heap u t as
 |.none,v,u,_,h,r=>by rw[Vf.mp h]at r;cases r;exact⟨_,.none⟩
 |.bool b,v,u,hl,h,r=>by rw[X8.mp h]at r;cases r;exact⟨_,.bool b⟩
 |.int i,v,u,hl,h,r=>by rw[Ym.mp h]at r;obtain⟨t,rfl⟩:=r;exact⟨_,.int i t⟩
 |.str x,v,u,hl,h,r=>by rw[zcy.mp h]at r;obtain⟨t,rfl⟩:=r;exact⟨_,.str x t⟩
 |.list xs,v,u,hl,h,r=>by
  obtain⟨a,vs,rfl,sl,rs⟩:=YJ.mp h;cases r;obtain⟨its,rv,⟨o,n,e,hc,hd,hs⟩,z⟩:=I.list sl.sq;obtain⟨as,ra⟩:=Rls.reads I xs vs its (by simpa[ya.canLay0] using hl) rs rv
  exact⟨_,.list e hc hs (by simpa using ra)⟩
 |.tuple xs,v,u,hl,h,r=>by
  obtain⟨a,vs,rfl,sl,rs⟩:=Yb.mp h;cases r;obtain⟨its,rv,⟨o,e,hc,n,hs⟩,z⟩:=I.tuple sl.sq;obtain⟨as,ra⟩:=Rls.reads I xs vs its (by simpa[ya.canLay0] using hl) rs rv
  exact⟨_,.tuple e hc hs (by simpa using ra)⟩
 |.dict _,v,u,hl,h,r=>by simp[ya.canLay0]at hl
theorem Rls.reads{pins:List (yc×Obj)}{σ:L2.St}{H:Hp}{s:ye}{P:Pv}(I:Inv X pins σ H s):∀(ts:List ya) (vs:List V) (us:List yb),ya.canLayAll0 ts=true->Rls X.K H P ts vs->Vals vs us->∃as,ReadsAll s.heap us ts as
 |[],vs,us,_,h,r=>by rw[Yy.mp h]at r;cases r;exact⟨_,.nil⟩
 |t::ts,vs,us,hl,h,r=>by
  simp only[ya.canLayAll0,jl]at hl;obtain⟨v,vs',rfl,h1,h2⟩:=ZY.mp h;cases r with
  |cons r1 r2=>
   obtain⟨as,ra⟩:=Rl.reads I t v _ hl.1 h1 r1;obtain⟨bs,rb⟩:=Rls.reads I ts vs' _ hl.2 h2 r2;exact⟨_,.cons ra rb⟩
end
theorem Jq{t:ya}(h:Wm t=true):t.canLay0=true:=by
 unfold Wm at h;rw[jl]at h;exact h.1
def rEqD(K:yh)(k:Bool->Bool):R2:=λx y H Q=>∃P tx ty,Rl K H P tx x/\Rl K H P ty y/\Wm tx=true/\Wm ty=true/\Q (.bl (k (tx.eqv ty))) H
theorem op_eqD(hu:X.A.units+64<jv):OpR X (ji .Eq) (rEqD X.K λk=>k):=by
 intro pins s σ H x y v u Q I rx ry h;obtain⟨P,tx,ty,hx,hy,sx,sy,q⟩:=h;obtain⟨as,ra⟩:=Rl.reads I tx x v (Jq sx) hx rx;obtain⟨bs,rb⟩:=Rl.reads I ty y u (Jq sy) hy ry;exact SeqAt.compareEq_shaped ra rb sx sy hu ⟨.bl _,H,I,rfl,q⟩
theorem op_neD(hu:X.A.units+64<jv):OpR X (ji .NotEq) (rEqD X.K λk=>!k):=by
 intro pins s σ H x y v u Q I rx ry h;obtain⟨P,tx,ty,hx,hy,sx,sy,q⟩:=h;obtain⟨as,ra⟩:=Rl.reads I tx x v (Jq sx) hx rx;obtain⟨bs,rb⟩:=Rl.reads I ty y u (Jq sy) hy ry;exact SeqAt.compareNe_shaped ra rb sx sy hu ⟨.bl _,H,I,rfl,q⟩
def rEqI(k:Bool->Bool):R2:=rI0 λi j=>.bl (k (decide (i=j)))
theorem op_eqI:OpR X (ji .Eq) (rEqI λk=>k):=opB0 λi j _ _ _ _ _ q=>eq_int (by rw[Bool.beq_eq_decide_eq];exact q)
theorem op_neI:OpR X (ji .NotEq) (rEqI λk=>!k):=opB0 λi j _ _ _ _ _ q=>ne_int (by rw[bne,Bool.beq_eq_decide_eq];exact q)
theorem YY(hu:X.A.units+64<jv):OpR X (ji .Eq) (λx y H Q=>rEqI (λk=>k) x y H Q\/rEqD X.K (λk=>k) x y H Q)/\Fop X W (λx y H Q=>rEqI (λk=>k) x y H Q\/rEqD X.K (λk=>k) x y H Q) fEq:=
 ⟨op_eqI.or (op_eqD hu),λH P σ G x y tx ty Q h rx ry q=>by
  unfold fEq at q;split at q
  ·exact .inl ⟨_,_,Ym.mp rx,Ym.mp ry,Yz q⟩
  ·split at q
   ·rename_i hc;rw[jl]at hc;exact .inr ⟨P,tx,ty,rx,ry,hc.1,hc.2,Yz q⟩
   ·exact q.elim⟩
theorem Vw(hu:X.A.units+64<jv):OpR X (ji .NotEq) (λx y H Q=>rEqI (λk=>!k) x y H Q\/rEqD X.K (λk=>!k) x y H Q)/\Fop X W (λx y H Q=>rEqI (λk=>!k) x y H Q\/rEqD X.K (λk=>!k) x y H Q) fNe:=
 ⟨op_neI.or (op_neD hu),λH P σ G x y tx ty Q h rx ry q=>by
  unfold fNe at q;split at q
  ·exact .inl ⟨_,_,Ym.mp rx,Ym.mp ry,Yz q⟩
  ·split at q
   ·rename_i hc;rw[jl]at hc;exact .inr ⟨P,tx,ty,rx,ry,hc.1,hc.2,Yz q⟩
   ·exact q.elim⟩
theorem tUn_of{r:V->Hp->VK->Prop}{f:ya->Res ya}(hf:∀(H:Hp) (P:Pv) (x:V) (tx:ya) (Q:VK),Rl X.K H P tx x->X7 X.K W H P (f tx) Q->r x H Q){σ:L2.St}{H:Hp}{Q:VK}(h:tF X.K W (d1 f da) σ H Q):
  tUn r (tF X.K W da) σ H Q:=by
 obtain⟨G,P,h,q⟩:=h;unfold d1 at q;obtain⟨q1,q2,q3⟩:=QG q;exact Z1 h q1 q2 λtx x H1 ex s1 h1 rx=>hf H1 P x tx Q rx ((q3 tx ex).up s1)
theorem UE(ha:EV X W a da):EV X W (.UnaryOp .USub a pos) (d1 fNeg da):=
 Z7 (pe_un un_neg ha) λσ H Q h=>tUn_of (r:=rU λi=>.int (-i)) (λH P x tx Q rx q=>by
  cases tx<;>try exact q.elim
  exact⟨_,Ym.mp rx,WT q⟩) h
theorem bindA{a:Res ya}{f:ya->Res (List ya)}{K:yh}{H:Hp}{P:Pv}{Q:List V->Hp->Prop}(q:zj7 K W H P (a.bind f) Q):
  (∀c,a=.exc c->∀H',Same H H'->W c H')/\a≠.stuck/\∀t,a=.ok t->zj7 K W H P (f t) Q:=by
 cases a with
 |ok t=>exact⟨λc e=>(by cases e),(by intro e;cases e),λt' e=>by cases e;exact q⟩
 |exc c=>exact⟨λc' e=>by cases e;exact q,(by intro e;cases e),λt e=>by cases e⟩
 |stuck=>exact q.elim
theorem bindAA{a:Res (List ya)}{f:List ya->Res (List ya)}{K:yh}{H:Hp}{P:Pv}{Q:List V->Hp->Prop}(q:zj7 K W H P (a.bind f) Q):
  (∀c,a=.exc c->∀H',Same H H'->W c H')/\a≠.stuck/\∀t,a=.ok t->zj7 K W H P (f t) Q:=by
 cases a with
 |ok t=>exact⟨λc e=>(by cases e),(by intro e;cases e),λt' e=>by cases e;exact q⟩
 |exc c=>exact⟨λc' e=>by cases e;exact q,(by intro e;cases e),λt e=>by cases e⟩
 |stuck=>exact q.elim
theorem zja{a:Res (List ya)}{f:List ya->Res ya}{K:yh}{H:Hp}{P:Pv}{Q:VK}(q:X7 K W H P (a.bind f) Q):
  (∀c,a=.exc c->∀H',Same H H'->W c H')/\a≠.stuck/\∀t,a=.ok t->X7 K W H P (f t) Q:=by
 cases a with
 |ok t=>exact⟨λc e=>(by cases e),(by intro e;cases e),λt' e=>by cases e;exact q⟩
 |exc c=>exact⟨λc' e=>by cases e;exact q,(by intro e;cases e),λt e=>by cases e⟩
 |stuck=>exact q.elim
theorem bindTE{a:Res Bool}{f:Bool->Res ya}{K:yh}{H:Hp}{P:Pv}{Q:VK}(q:X7 K W H P (a.bind f) Q):
  (∀c,a=.exc c->∀H',Same H H'->W c H')/\a≠.stuck/\∀t,a=.ok t->X7 K W H P (f t) Q:=by
 cases a with
 |ok t=>exact⟨λc e=>(by cases e),(by intro e;cases e),λt' e=>by cases e;exact q⟩
 |exc c=>exact⟨λc' e=>by cases e;exact q,(by intro e;cases e),λt e=>by cases e⟩
 |stuck=>exact q.elim
theorem bindT{a:Res Bool}{f:Bool->Res Bool}{H:Hp}{Q:Bool->Hp->Prop}(q:zdy W H (a.bind f) Q):
  (∀c,a=.exc c->∀H',Same H H'->W c H')/\a≠.stuck/\∀t,a=.ok t->zdy W H (f t) Q:=by
 cases a with
 |ok t=>exact⟨λc e=>(by cases e),(by intro e;cases e),λt' e=>by cases e;exact q⟩
 |exc c=>exact⟨λc' e=>by cases e;exact q,(by intro e;cases e),λt e=>by cases e⟩
 |stuck=>exact q.elim
theorem bindET{a:Res ya}{f:ya->Res Bool}{H:Hp}{Q:Bool->Hp->Prop}(q:zdy W H (a.bind f) Q):
  (∀c,a=.exc c->∀H',Same H H'->W c H')/\a≠.stuck/\∀t,a=.ok t->zdy W H (f t) Q:=by
 cases a with
 |ok t=>exact⟨λc e=>(by cases e),(by intro e;cases e),λt' e=>by cases e;exact q⟩
 |exc c=>exact⟨λc' e=>by cases e;exact q,(by intro e;cases e),λt e=>by cases e⟩
 |stuck=>exact q.elim
theorem zdy.up{H H':Hp}{r:Res Bool}{Q:Bool->Hp->Prop}(q:zdy W H r Q)(s:Same H H'):zdy W H' r Q:=by
 cases r with
 |ok t=>exact λH2 s2=>q H2 (s.trans s2)
 |exc c=>exact λH2 s2=>q H2 (s.trans s2)
 |stuck=>exact q
theorem Zf:AV X W [] ac:=zk4 W5 λσ H Q ⟨G,P,h,q⟩=>q [] H (Same.refl H) (Yy.mpr rfl)
theorem Zb{dr:DA}(ha:EV X W e da)(hr:AV X W es dr)(hs:yp (e::es) X.env=(false,yz e X.env)::yp es X.env:=by rfl):AV X W (e::es) (Zc da dr):=
 zk4 (Y3 ha hr hs) λσ H Q ⟨G,P,h,q⟩=>by
  unfold Zc at q;obtain⟨q1,q2,q3⟩:=bindA q;refine Z1 h q1 q2 λtx x H1 ex s1 h1 rx=>?_
  obtain⟨q4,q5,q6⟩:=bindAA (q3 tx ex);refine Qp h1 (λc e H' s=>q4 c e H' (s1.trans s)) q5 λts vs H2 es' s2 h2 rs=>?_
  exact(q6 ts es') (x::vs) H2 (s1.trans s2) (ZY.mpr ⟨x,vs,rfl,Rl.go (.same s2) tx x rx,rs⟩)
theorem zfr{xs:List ya}{vs:List V}{K:yh}{H:Hp}{P:Pv}(h:zlo xs=true)(r:Rls K H P xs vs):vs.length<=y7:=by
 have:=r.length;have h':xs.length<=16777216:=of_decide_eq_true h;rw[j6];omega
theorem ST.off{K:yh}{H:Hp}{P:Pv}{a:yc}{xs:List V}(h:H a=some (.tup xs))(o:Off P a):ST K H P a xs:=⟨h,o⟩
theorem Z2{da:DA}{x1}(h:AV X W es da):EV X W (.Tuple es x1 pos) (au da):=
 Z7 (pe_tup h) λσ H Q ⟨G,P,h,q⟩=>by
  unfold au at q;obtain⟨q1,q2,q3⟩:=zja q;refine Qp h q1 q2 λts vs H1 es' s1 h1 rs=>?_
  have q4:=q3 ts es';split at q4
  ·rename_i hl;exact⟨zfr hl rs,λp hp=>q4 _ _ (s1.trans (ZJ hp)) (Yb.mpr ⟨p,vs,rfl,.off Zw (h1.off_new hp),Rls.go (.same (ZJ hp)) ts vs rs⟩)⟩
  ·exact q4.elim
theorem zbN{da:DA}(h:AV X W es da):EV X W (.List es pos) (dLst da):=
 Z7 (pe_lst h) λσ H Q ⟨G,P,h,q⟩=>by
  unfold dLst at q;obtain⟨q1,q2,q3⟩:=zja q;refine Qp h q1 q2 λts vs H1 es' s1 h1 rs=>?_
  have q4:=q3 ts es';split at q4
  ·rename_i hl;exact⟨zfr hl rs,λp hp=>q4 _ _ (s1.trans (ZJ hp)) (YJ.mpr ⟨p,vs,rfl,.off Zw (h1.off_new hp),Rls.go (.same (ZJ hp)) ts vs rs⟩)⟩
  ·exact q4.elim
theorem ixP_eq(n:Nat)(i:Int):ixP n i=ixN n i:=rfl
theorem zg7{K:yh}{H:Hp}{P:Pv}{ts:List ya}{vs:List V}{i:Int}{t:ya}(r:Rls K H P ts vs)(h:atP ts i=some t):∃v,atI vs i=some v/\Rl K H P t v:=by
 unfold atP at h;unfold atI;rw[<- r.length,<- ixP_eq];cases e:ixP ts.length i with
 |none=>rw[e]at h;cases h
 |some j=>
  rw[e]at h;exact r.getT (i:=j) h
theorem Zk(ha:EV X W a da)(hb:EV X W b db)(hs:zhV b):EV X W (.Subscript a b pos) (d2 ag da db):=
 Z7 (pe_ix (zlz.or ix_tup) ha hb hs) λσ H Q h=>zh3 (r:=λx y H Q=>rIxL X.K x y H Q\/rIxT X.K x y H Q) (λH P σ G x y tx ty Q h rx ry q=>by
  cases tx<;>cases ty<;>try exact q.elim
  ·rename_i xs i;obtain⟨l,us,rfl,s1,r1⟩:=YJ.mp rx;simp only[ag]at q;cases e:atP xs i with
   |none=>rw[e]at q;exact q.elim
   |some t=>
    rw[e]at q;obtain⟨v,e1,r⟩:=zg7 r1 e;exact .inl ⟨l,us,i,v,rfl,Ym.mp ry,s1.sq,e1,q v H (Same.refl H) r⟩
  ·rename_i xs i;obtain⟨l,us,rfl,s1,r1⟩:=Yb.mp rx;simp only[ag]at q;cases e:atP xs i with
   |none=>rw[e]at q;exact q.elim
   |some t=>
    rw[e]at q;obtain⟨v,e1,r⟩:=zg7 r1 e;exact .inr ⟨l,us,i,v,rfl,Ym.mp ry,s1.sq,e1,q v H (Same.refl H) r⟩) h
theorem zh4{r:List V->Hp->VK->Prop}{f:ya->Res ya}(hf:∀(H:Hp) (P:Pv) (σ:L2.St) (G:List Sl) (x:V) (tx:ya) (Q:VK),Hol X.K H P σ G->Rl X.K H P tx x->X7 X.K W H P (f tx) Q->r [x] H Q){σ:L2.St}{H:Hp}{Q:VK}(h:tF X.K W (d1 f da) σ H Q):
  tCB r (zki (tF X.K W da) tNil) σ H Q:=by
 obtain⟨G,P,h,q⟩:=h;unfold d1 at q;obtain⟨q1,q2,q3⟩:=QG q;exact Z1 h q1 q2 λtx x H1 ex s1 h1 rx=>hf H1 P σ G x tx Q h1 rx ((q3 tx ex).up s1)
theorem Yu{p:Pos}(hg:Gl X "len")(hm:X.mg "len"=none)(ha:EV X W a da)(hs:yp [a] X.env=(false,yz a X.env)::yp [] X.env:=by rfl):EV X W (.Call (.Name "len" p) [a] [] pos) (d1 aB da):=
 Z7 (zaC zgZ hg hm PySem.boot_len (Y3 ha W5 hs) (he:=hs)) λσ H Q h=>zh4 (λH P σ G x tx Q h rx q=>by
  cases tx<;>try exact q.elim
  ·obtain⟨l,us,rfl,s1,r1⟩:=YJ.mp rx;have e:=r1.length;refine⟨l,us,rfl,.inl s1.sq,?_⟩;rw[<- e];exact WT q
  ·obtain⟨l,us,rfl,s1,r1⟩:=Yb.mp rx;have e:=r1.length;refine⟨l,us,rfl,.inr s1.sq,?_⟩;rw[<- e];exact WT q) h
theorem zbO{p:Pos}(hg:Gl X "abs")(hm:X.mg "abs"=none)(ha:EV X W a da)(hs:yp [a] X.env=(false,yz a X.env)::yp [] X.env:=by rfl):EV X W (.Call (.Name "abs" p) [a] [] pos) (d1 fAbs da):=
 Z7 (zaC call_abs hg hm (show yP "abs"=some (.builtin "abs") by decide +kernel) (Y3 ha W5 hs) (he:=hs)) λσ H Q h=>zh4 (λH P σ G x tx Q h rx q=>by
  cases tx<;>try exact q.elim
  exact⟨_,by rw[Ym.mp rx],WT q⟩) h
def tyN:ya->String
 |.none=>"NoneType"
 |.bool _=>"bool"
 |.int _=>"int"
 |.str _=>"str"
 |.list _=>"list"
 |.tuple _=>"tuple"
 |.dict _=>"dict"
def Kit(T:String)(p:ya->Bool):Prop:=∀(K:yh) (t:ya),PySem.W.kitOne K (.type (tyN t)) (.type T)=some (p t)
theorem zls:Kit "int" isInt:=λK t=>by cases t<;>rfl
theorem ziw:Kit "bool" zlD:=λK t=>by cases t<;>rfl
theorem zcP:Kit "tuple" zft:=λK t=>by cases t<;>rfl
theorem zaI:Kit "list" isList:=λK t=>by cases t<;>rfl
theorem call_isi{T:String}{p:ya->Bool}(hk:Kit T p):zdz X (.builtin "isinstance") (λxs H Q=>∃x t P,xs=[x,.ty T]/\(∀ys,t≠.dict ys)/\Rl X.K H P t x/\Q (.bl (p t)) H):=by
 intro pins s σ H xs us Q I r h;obtain⟨x,t,P,rfl,nd,rx,q⟩:=h;obtain⟨u,w',rfl,ru,rw'⟩:=vals2 r;cases rw';have e:=hk X.K t;have fin:∀tk,EP X pins σ Q (.bool (p t)) { s with toks:=tk }:=λtk=>⟨.bl (p t),H,I.tok tk,rfl,q⟩
 cases t with
 |none=>rw[Vf.mp rx]at ru;cases ru;exact yam PySem.W.kitx_none I.kIn True.intro e (λz=>nomatch z) fin
 |bool b=>rw[X8.mp rx]at ru;cases ru;exact yam PySem.W.kitx_bool I.kIn True.intro e (λz=>nomatch z) fin
 |int i=>rw[Ym.mp rx]at ru;obtain⟨t,rfl⟩:=ru;exact yam PySem.W.kitx_int I.kIn True.intro e (λz=>nomatch z) fin
 |str y=>rw[zcy.mp rx]at ru;obtain⟨t,rfl⟩:=ru;exact yam PySem.W.kitx_str I.kIn True.intro e (λz=>nomatch z) fin
 |list ys=>
  obtain⟨l,vs,rfl,s1,r1⟩:=YJ.mp rx;cases ru;obtain⟨its,rv,⟨o,n,e1,hc,hd,hs⟩,z⟩:=I.list s1.sq;exact yam PySem.W.kitx_list I.kIn ⟨o,e1,hc⟩ e (λz=>nomatch z) fin
 |tuple ys=>
  obtain⟨l,vs,rfl,s1,r1⟩:=Yb.mp rx;cases ru;obtain⟨its,rv,⟨o,e1,hc,n,hs⟩,z⟩:=I.tuple s1.sq;exact yam PySem.W.kitx_tuple I.kIn ⟨o,e1,hc⟩ e (λz=>nomatch z) fin
 |dict ys=>exact absurd rfl (nd ys)
theorem Xw{T:String}{x:Str}{f:ya->Bool}{p p2:Pos}(hk:Kit T f)(hv:yP x=some (.type T))(hg:Gl X "isinstance")(hm:X.mg "isinstance"=none)(hg2:Gl X x)(hm2:X.mg x=none)(ha:EV X W a da)
  (hs:yp [a,.Name x p2] X.env=(false,yz a X.env)::yp [.Name x p2] X.env:=by rfl) (hs2:yp [.Name x p2] X.env=(false,yz (.Name x p2) X.env)::yp [] X.env:=by rfl)
  (hpl:(jc pos (yp [.Name x p2] X.env)).any (·.1)=false:=by rfl) (hn:x≠"__name__":=by decide) (hdb:(x == ("__debug__" : Str))=false:=by decide):
  EV X W (.Call (.Name "isinstance" p) [a,.Name x p2] [] pos) (d1 (fIs f) da):=
 Z7 (zaC (call_isi hk) hg hm (show yP "isinstance"=some (.builtin "isinstance") by decide +kernel) (Y3 ha (Y3 (pe_bltn (v:=.ty T) hg2 hm2 hv rfl hn hdb) W5 hs2) hs) (he:=hs) (hpl:=hpl)) λσ H Q ⟨G,P,h,q⟩=>by
  unfold d1 at q;obtain⟨q1,q2,q3⟩:=QG q;refine Z1 h q1 q2 λtx x H1 ex s1 h1 rx=>?_
  have q4:=X7.up (q3 tx ex) s1;refine⟨x,tx,P,rfl,λys z=>(by subst z;exact q4.elim),rx,?_⟩
  cases tx<;>first|exact Yz q4|exact q4.elim
theorem QJ{op}(h:EV X W a da):EV X W (.BoolOp op [a] pos) da:=pe_one h
theorem QK{rest:List yj}(ha:EV X W a da)(hb:EV X W (.BoolOp .And (b::rest) pos) db):EV X W (.BoolOp .And (a::b::rest) pos) (za6 da db):=
 Z7 (pe_and ha hb) λσ H Q ⟨G,P,h,q⟩=>by
  unfold za6 at q;obtain⟨q1,q2,q3⟩:=QG q;refine Z1 h q1 q2 λtx x H1 ex s1 h1 rx=>?_
  have q4:=q3 tx ex;cases tx<;>try exact q4.elim
  rename_i k;refine⟨k,X8.mp rx,?_⟩;cases k with
  |true=>exact iteT ⟨G,P,h1,X7.up q4 s1⟩
  |false=>exact iteF (Yz (X7.up q4 s1))
theorem ev_or{rest:List yj}(ha:EV X W a da)(hb:EV X W (.BoolOp .Or (b::rest) pos) db):EV X W (.BoolOp .Or (a::b::rest) pos) (dOrV da db):=
 Z7 (pe_or ha hb) λσ H Q ⟨G,P,h,q⟩=>by
  unfold dOrV at q;obtain⟨q1,q2,q3⟩:=QG q;refine Z1 h q1 q2 λtx x H1 ex s1 h1 rx=>?_
  have q4:=q3 tx ex;cases tx<;>try exact q4.elim
  rename_i k;refine⟨k,X8.mp rx,?_⟩;cases k with
  |true=>exact iteT (Yz (X7.up q4 s1))
  |false=>exact iteF ⟨G,P,h1,X7.up q4 s1⟩
theorem ziL(ha:EV X W a da):EV X W (.UnaryOp .Not a pos) (zjX da):=
 Z7 (pe_not ha) λσ H Q ⟨G,P,h,q⟩=>by
  unfold zjX at q;obtain⟨q1,q2,q3⟩:=QG q;refine Z1 h q1 q2 λtx x H1 ex s1 h1 rx=>?_
  have q4:=q3 tx ex;cases tx<;>try exact q4.elim
  exact⟨_,X8.mp rx,Yz (X7.up q4 s1)⟩
theorem ziM{dc:DT}(hc:TV X W c dc)(ha:EV X W a da)(hb:EV X W b db):EV X W (.IfExp c a b pos) (dIfE dc da db):=
 Z7 (pe_ifExp hc ha hb) λσ H Q ⟨G,P,h,q⟩=>by
  unfold dIfE at q;obtain⟨q1,q2,q3⟩:=bindTE q;refine Qo h q1 q2 λk H1 ek s1 h1=>?_
  have q4:=q3 k ek;cases k with
  |true=>exact iteT ⟨G,P,h1,X7.up q4 s1⟩
  |false=>exact iteF ⟨G,P,h1,X7.up q4 s1⟩
theorem truth_ok{H:Hp}{P:Pv}{x:V}{tx:ya}{k:Bool}(r:Rl X.K H P tx x)(e:truth tx=.ok k):TruV X.K x H k:=by
 cases tx with
 |none=>rw[Vf.mp r];cases e;rfl
 |bool b=>rw[X8.mp r];cases e;rfl
 |int i=>rw[Ym.mp r];cases e;rfl
 |str x=>cases e
 |list xs=>
  obtain⟨l,us,rfl,s1,r1⟩:=YJ.mp r;cases e;refine .inl ⟨us,s1.sq,?_⟩;have:=r1.length;cases xs<;>cases us<;>first|rfl|simp at this
 |tuple xs=>
  obtain⟨l,us,rfl,s1,r1⟩:=Yb.mp r;cases e;refine .inr (.inl ⟨us,s1.sq,?_⟩);have:=r1.length;cases xs<;>cases us<;>first|rfl|simp at this
 |dict _=>cases e
theorem Yj(ha:EV X W a da)(he:∀whole,isTrue a X.env whole=(do let v <- whole;standAt a.pos;jP [v] (truthy v))):TV X W a (tV da):=
 ze5 (pt_truth ha he) λσ H Q ⟨G,P,h,q⟩=>by
  unfold Fx.tV at q;obtain⟨q1,q2,q3⟩:=bindET q;refine Z1 h q1 q2 λtx x H1 ex s1 h1 rx=>?_
  have q4:=q3 tx ex;cases e:truth tx with
  |stuck=>rw[e]at q4;exact q4.elim
  |exc c=>cases tx<;>cases e
  |ok k=>rw[e]at q4;exact⟨k,truth_ok rx e,q4 H1 s1⟩
theorem ZE{op:CmpOp}{r:R2}{f:ya->ya->Res ya}(ho:OpR X (ji op) r/\Fop X W r f)(ha:EV X W a da)(hb:EV X W b db)(hm:jU op b=false)
  (hf:∀x y,(∃k,f x y=.ok (.bool k))\/f x y=.stuck:=by first|exact fLt_b|exact fLe_b|exact fGt_b|exact fGe_b|exact fEq_b|exact fNe_b):TV X W (.Compare a [op] [b] pos) (tV (d2 f da db)):=
 ze5 (pt_cmpR ho.1 ha hb hm) λσ H Q ⟨G,P,h,q⟩=>by
  refine zh3 ho.2 ⟨G,P,h,?_⟩;unfold Fx.tV at q;cases e:d2 f da db G with
  |stuck=>rw[e]at q;exact q
  |exc c=>rw[e]at q;exact q
  |ok t=>
   rw[e]at q;have hb:∃k,t=.bool k:=by
    unfold d2 at e;cases e1:da G with
    |stuck=>rw[e1]at e;cases e
    |exc c=>rw[e1]at e;cases e
    |ok tx=>
     rw[e1,Res.bind_ok]at e;cases e2:db G with
     |stuck=>rw[e2]at e;cases e
     |exc c=>rw[e2]at e;cases e
     |ok ty=>
      rw[e2,Res.bind_ok]at e;rcases hf tx ty with ⟨k,e3⟩|e3
      ·rw[e3]at e;cases e;exact⟨k,rfl⟩
      ·rw[e3]at e;cases e
   obtain⟨k,rfl⟩:=hb;exact λv H' s r=>⟨k,X8.mp r,q H' s⟩
theorem zeL{dt:DT}(ha:TV X W a dt):TW X W (.BoolOp .And [a] pos) dt:=pw_and1 ha
theorem Wd{dt:DT}(ha:TV X W a dt):TW X W (.BoolOp .Or [a] pos) dt:=pw_or1 ha
theorem zf0{dt du:DT}{rest:List yj}(ha:TV X W a dt)(hb:TW X W (.BoolOp .And (b::rest) pos) du):TW X W (.BoolOp .And (a::b::rest) pos) (tAnd dt du):=
 zkP (pw_and ha hb) λσ H Q ⟨G,P,h,q⟩=>by
  unfold Fx.tAnd at q;obtain⟨q1,q2,q3⟩:=bindT q;refine Qo h q1 q2 λk H1 ek s1 h1=>?_
  have q4:=q3 k ek;cases k with
  |true=>exact iteT ⟨G,P,h1,zdy.up q4 s1⟩
  |false=>exact iteF (q4 H1 s1)
theorem VH{dt du:DT}{rest:List yj}(ha:TV X W a dt)(hb:TW X W (.BoolOp .Or (b::rest) pos) du):TW X W (.BoolOp .Or (a::b::rest) pos) (tOr dt du):=
 zkP (pw_or ha hb) λσ H Q ⟨G,P,h,q⟩=>by
  unfold Fx.tOr at q;obtain⟨q1,q2,q3⟩:=bindT q;refine Qo h q1 q2 λk H1 ek s1 h1=>?_
  have q4:=q3 k ek;cases k with
  |true=>exact iteT (q4 H1 s1)
  |false=>exact iteF ⟨G,P,h1,zdy.up q4 s1⟩
theorem tv_w{dt:DT}(h:TW X W a dt):TV X W a dt:=PW.pt h
theorem YH{dt:DT}(ha:TV X W a dt):TV X W (.UnaryOp .Not a pos) (aC dt):=
 ze5 (pt_not ha) λσ H Q ⟨G,P,h,q⟩=>by
  unfold Fx.aC at q;obtain⟨q1,q2,q3⟩:=bindT q;exact Qo h q1 q2 λk H1 ek s1 h1=>(q3 k ek) H1 s1
end
section
variable {X:Cx}{W:Str->Hp->Prop}{fl:Bool}{a b c e:yj}{es:List yj}{da db:DE}{pos:Pos}
theorem VZ.up{K:yh}{H H':Hp}{P P':Pv}{r:Res Out}{D:Ends}(q:VZ K W fl H P r D)(g:Go H P H' P'):VZ K W fl H' P' r D:=by
 cases r with
 |ok o=>
  cases o with
  |nx G=>exact λσ2 H2 P2 g2 h2=>q σ2 H2 P2 (g.trans g2) h2
  |bk G=>exact λσ2 H2 P2 g2 h2=>q σ2 H2 P2 (g.trans g2) h2
  |ct G=>exact λσ2 H2 P2 g2 h2=>q σ2 H2 P2 (g.trans g2) h2
  |rt t=>exact λv H2 P2 g2 h2 n2=>q v H2 P2 (g.trans g2) h2 λz=>(n2 z).back g
 |exc c=>exact λH2 P2 g2=>q H2 P2 (g.trans g2)
 |stuck=>exact q
theorem zb6{a:Res ya}{f:ya->Res Out}{K:yh}{H:Hp}{P:Pv}{D:Ends}(q:VZ K W fl H P (a.bind f) D):
  (∀c,a=.exc c->∀H' P',Go H P H' P'->W c H')/\a≠.stuck/\∀t,a=.ok t->VZ K W fl H P (f t) D:=by
 cases a with
 |ok t=>exact⟨λc e=>(by cases e),(by intro e;cases e),λt' e=>by cases e;exact q⟩
 |exc c=>exact⟨λc' e=>by cases e;exact q,(by intro e;cases e),λt e=>by cases e⟩
 |stuck=>exact q.elim
theorem zmm{a:Res Bool}{f:Bool->Res Out}{K:yh}{H:Hp}{P:Pv}{D:Ends}(q:VZ K W fl H P (a.bind f) D):
  (∀c,a=.exc c->∀H' P',Go H P H' P'->W c H')/\a≠.stuck/\∀t,a=.ok t->VZ K W fl H P (f t) D:=by
 cases a with
 |ok t=>exact⟨λc e=>(by cases e),(by intro e;cases e),λt' e=>by cases e;exact q⟩
 |exc c=>exact⟨λc' e=>by cases e;exact q,(by intro e;cases e),λt e=>by cases e⟩
 |stuck=>exact q.elim
theorem zmo{a:Res (List ya)}{f:List ya->Res Out}{K:yh}{H:Hp}{P:Pv}{D:Ends}(q:VZ K W fl H P (a.bind f) D):
  (∀c,a=.exc c->∀H' P',Go H P H' P'->W c H')/\a≠.stuck/\∀t,a=.ok t->VZ K W fl H P (f t) D:=by
 cases a with
 |ok t=>exact⟨λc e=>(by cases e),(by intro e;cases e),λt' e=>by cases e;exact q⟩
 |exc c=>exact⟨λc' e=>by cases e;exact q,(by intro e;cases e),λt e=>by cases e⟩
 |stuck=>exact q.elim
theorem Zv:SVs X W fl [] ZH:=zij pss_nil λD σ H ⟨G,P,h,q⟩=>q σ H P (.refl H P) h
theorem Zi{st:yk}{d:DS}(h:SV X W fl st d):SVs X W fl [st] d:=zkT h
theorem Zg{st:yk}{rest:List yk}{d1 d2:DS}(h1:SV X W fl st d1)(h2:SVs X W fl rest d2):SVs X W fl (st::rest) (ad d1 d2):=
 zij (ze6 h1 h2) λD σ H ⟨G,P,h,q⟩=>by
  refine⟨G,P,h,?_⟩;unfold ad at q;cases e:d1 G with
  |stuck=>rw[e]at q;exact q.elim
  |exc c=>rw[e]at q;exact q
  |ok o=>
   rw[e,Res.bind_ok]at q;cases o with
   |nx G1=>exact λσ' H' P' g h'=>⟨G1,P',h',VZ.up q g⟩
   |rt t=>exact q
   |bk G1=>exact q
   |ct G1=>exact q
theorem ss_never{st:yk}:SV X W fl st dNev:=X9 ps_never λD σ H ⟨G,P,h,q⟩=>q
theorem Zm(he:EV X W e da):SV X W false (.Return (some e) pos) (ak da):=
 X9 (zkV he) λD σ H ⟨G,P,h,q⟩=>by
  unfold ak at q;obtain⟨h',g⟩:=h.az;obtain⟨q1,q2,q3⟩:=zb6 q;exact Z1 h' (λc e H' s=>q1 c e H' P.bare (g.trans (.same s))) q2 λt v H1 et s1 h1 r=>(q3 t et) v H1 P.bare (g.trans (.same s1)) r λz=>by cases z
theorem Z8{x y:List yk}{dc:DT}{dx dy:DS}(hc:TV X W c dc)(hx:SVs X W fl x dx)(hy:SVs X W fl y dy):SV X W fl (.If c x y pos) (aE dc dx dy):=
 X9 (ps_if hc hx hy) λD σ H ⟨G,P,h,q⟩=>by
  unfold aE at q;obtain⟨h',g⟩:=h.az;obtain⟨q1,q2,q3⟩:=zmm q;refine Qo h' (λc e H' s=>q1 c e H' P.bare (g.trans (.same s))) q2 λk H1 ek s1 _=>?_
  have q4:=q3 k ek;cases k with
  |true=>exact iteT ⟨G,P,h.same s1,VZ.up q4 (.same s1)⟩
  |false=>exact iteF ⟨G,P,h.same s1,VZ.up q4 (.same s1)⟩
theorem zeP(he:EV X W e da)(hs:jz e none pos.line X.env=pure false:=by rfl):SV X W fl (.Expr e pos) (zdY da):=
 X9 (zhq he hs) λD σ H ⟨G,P,h,q⟩=>by
  unfold zdY at q;obtain⟨h',g⟩:=h.az;obtain⟨q1,q2,q3⟩:=zb6 q;exact Z1 h' (λc e H' s=>q1 c e H' P.bare (g.trans (.same s))) q2 λt v H1 et s1 h1 r=>(q3 t et) σ H1 P (.same s1) (h.same s1)
mutual
theorem zkO{K:yh}{H:Hp}{P P':Pv}(hd:∀i a,P'.own i=some a->∃o,H a=some o/\LD o)(hf:P'.fb=P.fb):∀(t:ya) (v:V),W3 t=true->Rl K H P t v->Rl K H P' t v
 |.none,v,_,r=>Vf.mpr (Vf.mp r)
 |.bool b,v,_,r=>X8.mpr (X8.mp r)
 |.int i,v,_,r=>Ym.mpr (Ym.mp r)
 |.str x,v,_,r=>zcy.mpr (zcy.mp r)
 |.list _,v,h,r=>by simp at h
 |.dict _,v,h,r=>by simp at h
 |.tuple xs,v,h,r=>by
  obtain⟨a,vs,e,s,rs⟩:=Yb.mp r;refine Yb.mpr ⟨a,vs,e,?_,zid hd hf xs vs (by simpa using h) rs⟩
  refine⟨s.1,λi z=>?_,by rw[hf];exact s.2.2⟩
  obtain⟨ws,q,m⟩:=hd i a z;rw[s.1]at q;cases q;rcases m with ⟨_,m⟩|⟨_,m⟩<;>cases m
theorem zid{K:yh}{H:Hp}{P P':Pv}(hd:∀i a,P'.own i=some a->∃o,H a=some o/\LD o)(hf:P'.fb=P.fb):∀(ts:List ya) (vs:List V),Uf ts=true->Rls K H P ts vs->Rls K H P' ts vs
 |[],vs,_,r=>Yy.mpr (Yy.mp r)
 |t::ts,vs,h,r=>by
  obtain⟨v,r',e,a,b⟩:=ZY.mp r;simp only[zf9,jl]at h;exact ZY.mpr ⟨v,r',e,zkO hd hf t v h.1 a,zid hd hf ts r' h.2 b⟩
end
theorem after{K:yh}{H H1:Hp}{P P1:Pv}{σ:L2.St}{G:List Sl}{is:List Nat}{t:ya}{v:V}(h:Hol K H P σ G)(h1:Hol K H P1 σ (frz is G))(g:Go H P H P1)(s:Same H H1)(r:Rl K H1 P1 t v):
  ∃P2,Hol K H1 P2 σ (if W3 t then G else frz is G)/\Rl K H1 P2 t v/\Go H P H1 P2:=by
 cases e:W3 t with
 |true=>exact⟨P,by rw[if_pos rfl];exact h.same s,zkO (λi a z=>(h.same s).dom z) g.2.symm t v e r,.same s⟩
 |false=>exact⟨P1,by rw[if_neg jy];exact h1.same s,r,g.trans (.same s)⟩
theorem Zq{i:Nat}{x:Str}{is:List Nat}{pos':Pos}(hN:X.N.Nodup)(hi:X.N[i]? = some x)(hx:Loc X.env.scope x)(he:EV X W e da)(hs:jz e (some (.Name x pos')) pos.line X.env=pure false:=by rfl)
  (hf:X.fn x=true\/X.env.scope.names.lookup x=some .local:=by first|exact .inl rfl|exact .inr rfl|assumption):SV X W fl (.Assign [.Name x pos'] e pos) (aj i is da):=
 X9 (zkU hN hi hx he hs hf) λD σ H ⟨G,P,h,q⟩=>by
  unfold aj at q;obtain⟨P1,h1,g⟩:=h.frz is;obtain⟨q1,q2,q3⟩:=zb6 q;refine Z1 h1 (λc e H' s=>q1 c e H' P1 (g.trans (.same s))) q2 λt v H1 et s1 h2 r=>?_
  obtain⟨P2,h3,r3,g3⟩:=after h h1 g s1 r;exact(q3 t et) _ H1 (P2.del i) (g3.trans .del) (h3.setVal i r3)
theorem zas{body:List yk}{fuel:List Sl->Nat}{dc:DT}{d:DS}(hp:yY (ym X.prog X.w) X.A X.env X.xe)(hc:TV X W c dc)(hb:SVs X W fl body d):SV X W fl (.While c body [] pos) (JS fuel dc d):=
 X9 (ps_while hp hc hb) λD σ H ⟨G,P,h,q⟩=>by
  refine⟨λm σ' H'=>∃G' P',Go H P H' P'/\Hol X.K H' P' σ' G'/\VZ X.K W fl H P (YN dc d m G') D,⟨fuel G,G,P,.refl H P,h,q⟩,?_⟩
  rintro m σ' H' ⟨G',P',g',h',q'⟩
  cases m with
  |zero=>exact q'.elim
  |succ m=>
   unfold YN at q';obtain⟨h2,g2⟩:=h'.az;obtain⟨q1,q2,q3⟩:=zmm q';refine Qo h2 (λc e H1 s=>q1 c e H1 P'.bare (g'.trans (g2.trans (.same s)))) q2 λk H1 ek s1 _=>?_
   have q4:=q3 k ek;cases k with
   |false=>exact iteF (q4 σ' H1 P' (g'.trans (.same s1)) (h'.same s1))
   |true=>
    refine iteT ⟨λσ2 H2=>∃m',m' < m+1/\∃G' P',Go H P H2 P'/\Hol X.K H2 P' σ2 G'/\VZ X.K W fl H P (YN dc d m' G') D,λσ2 H2 z=>z,?_⟩
    refine⟨G',P',h'.same s1,?_⟩;have q5:VZ X.K W fl H P ((d G').bind λo=>match o with
     |.nx G'=>YN dc d m G'
     |.ct G'=>YN dc d m G'
     |.bk G'=>.ok (.nx G')
     |.rt t=>.ok (.rt t)) D:=q4
    cases e:d G' with
    |stuck=>rw[e]at q5;exact q5.elim
    |exc c=>rw[e]at q5;exact VZ.up (r:=.exc c) q5 (g'.trans (.same s1))
    |ok o=>
     rw[e,Res.bind_ok]at q5;cases o with
     |nx G1=>exact λσ2 H2 P2 g3 h3=>⟨m,ya5 m,G1,P2,g'.trans ((Go.same s1).trans g3),h3,q5⟩
     |ct G1=>exact λσ2 H2 P2 g3 h3=>⟨m,ya5 m,G1,P2,g'.trans ((Go.same s1).trans g3),h3,q5⟩
     |bk G1=>exact λσ2 H2 P2 g3 h3=>q5 σ2 H2 P2 (g'.trans ((Go.same s1).trans g3)) h3
     |rt t=>exact λv H2 P2 g3 h3 n3=>q5 v H2 P2 (g'.trans ((Go.same s1).trans g3)) h3 λz=>((n3 z).back (.same s1)).back g'
end
theorem zgv{a:DE}:∀G ts,Zc a ac G=.ok ts->ts.length=1:=λG ts h=>by
 unfold Zc ac at h;cases e:a G<;>rw[e]at h<;>first|(cases h;done)|(cases h;rfl)
theorem zlm{a:DE}{r:DA}{n:Nat}(hr:∀G ts,r G=.ok ts->ts.length=n):∀G ts,Zc a r G=.ok ts->ts.length=n+1:=λG ts h=>by
 unfold Zc at h;cases e:a G with
 |stuck=>rw[e]at h;cases h
 |exc c=>rw[e]at h;cases h
 |ok x=>
  rw[e,Res.bind_ok]at h;cases e2:r G with
  |stuck=>rw[e2]at h;cases h
  |exc c=>rw[e2]at h;cases h
  |ok xs=>rw[e2]at h;cases h;simp[hr G xs e2]
theorem zit{a b:DE}:∀G ts,Zc a (Zc b ac) G=.ok ts->ts.length=2:=zlm zgv
theorem zis{a b c:DE}:∀G ts,Zc a (Zc b (Zc c ac)) G=.ok ts->ts.length=3:=zlm zit
theorem zln{a b c d:DE}:∀G ts,Zc a (Zc b (Zc c (Zc d ac))) G=.ok ts->ts.length=4:=zlm zis
def spX(E:XK)(H:Hp)(c:Str):Option (Str->yb)->Prop
 |none=>False
 |some cl=>∀dx H',Same H H'->E (cl c) dx H'
def spF(K:yh)(cl:Option (Str->yb))(np:Nat)(f:DF):Sp:=λvs H Q E=>vs.length=np/\∃ts P,Rls K H P ts vs/\(∀i,P.own i=none)/\((∀a,P.fb a->∃o,H a=some o/\LD o)/\Qm K H) /\
 match f ts with
 |.ok t=>∀v H',Same H H'->Rl K H' P t v->Q v H'
 |.exc c=>spX E H c cl
 |.stuck=>False
def EX(cl:Option (Str->yb))(W:Str->Hp->Prop):XK:=λv _ H=>∃c f,cl=some f/\v=f c/\W c H
structure Cal(X:Cx)(W:Str->Hp->Prop)(cl:Option (Str->yb))(k:Nat)(x:Str)(np:Nat)(f:DF):Prop where
 ex:∃(CX:CXT) (fa:yc) (fd:yM) (ps:List Str),FnOk X.prog X.w X.K X.mg X.base CX k fa fd ps (spF X.K cl np f)/\X.mg x=some (.ref fa)/\yq X.K (.ref fa)=true/\ZB X.K fd ps []/\zb7 CX X (EX cl W)
 nox:cl=none->∀ts c,f ts≠.exc c
section
variable {X:Cx}{W:Str->Hp->Prop}{fl:Bool}{a b c e:yj}{es:List yj}{da db:DE}{pos:Pos}
theorem Zh{cl:Option (Str->yb)}{k np:Nat}{x:Str}{f:DF}{d:DA}{p:Pos}(C:Cal X W cl k x np f)(hr:Room k X.A)(hg:Gl X x)(ha:AV X W (e::es) d)(hL:∀G ts,d G=.ok ts->ts.length=np:=by first|exact zgv|exact zit|exact zis|exact zln)(hdb:(x == ("__debug__" : Str))=false:=by decide)
  (he:yp (e::es) X.env=(false,yz e X.env)::yp es X.env:=by rfl) (hpl:(jc pos (yp es X.env)).any (·.1)=false:=by rfl):EV X W (.Call (.Name x p) (e::es) [] pos) (Zj f d):=by
 obtain⟨CX,fa,fd,ps,F,hm,hk,hb,hx⟩:=C.ex;refine Z7 (zk2 (x:=x) (p:=p) F hr hg hm hk hb .nil hx ha (hdb:=hdb) (he:=he) (hpl:=hpl)) λσ H Q ⟨G,P,h,q⟩=>?_
 unfold Zj at q;obtain⟨q1,q2,q3⟩:=zja q;refine Qp h q1 q2 λts vs H1 es' s1 h1 rs=>?_
 have q4:=X7.up (q3 ts es') s1;have el:(vs++[])=vs:=jF vs;rw[el]
 -- the callee sees all that the caller may not hand on as forbidden
 have gg:Tr H1 P H1 ⟨λ_=>none,λa=>¬Off P a⟩:=λa o e1 _ o1=>⟨e1,λ_ z=>(by cases z),λz=>z o1⟩
 have back:∀H2,Tr H2 ⟨λ_=>none,λa=>¬Off P a⟩ H2 P:=λH2 a o e1 _ o1=>⟨e1,js λz=>o1.2 z⟩
 refine⟨by rw[<- rs.length];exact hL G ts es',ts,⟨λ_=>none,λa=>¬Off P a⟩,Rls.go gg ts vs rs,λ_=>rfl,⟨λa z=>h1.ld z,h1.tab⟩,?_⟩
 ·cases e:f ts with
  |ok t=>rw[e]at q4;exact λv H' s r=>q4 v H' s (Rl.go (back H') t v r)
  |exc c=>
   rw[e]at q4;cases ec:cl with
   |none=>exact absurd e (C.nox ec ts c)
   |some g=>exact λdx H' s=>⟨c,g,rfl,rfl,q4 H' s⟩
  |stuck=>rw[e]at q4;exact q4
end
theorem zaJ{K:yh}{H:Hp}{P:Pv}{ts:List ya}{vs:List V}{N:List Str}(r:Rls K H P ts vs)(ho:∀i,P.own i=none)(hf:(∀a,P.fb a->∃o,H a=some o/\LD o)/\Qm K H):
  Hol K H P (L2.start N vs) (ts.map .val++y3 (N.length - ts.length) .emp) where
 sl:=λi s e=>by
  by_cases hi:i<ts.length
  ·rw[jK (by simpa using hi),jb]at e
   cases et:ts[i]? with
   |none=>rw[et]at e;cases e
   |some t=>
    rw[et]at e;cases e;obtain⟨v,ev,rv⟩:=r.getT et;refine⟨v,?_,rv⟩;have hl:=r.length;unfold L2.start;rw[y9,jK (by simp;omega),jb,ev]
    rfl
  ·rw[jC (by simpa using hi)]at e
   rw[qG]at e;split at e
   ·cases e;trivial
   ·cases e
 inj:=λi j a h _=>by rw[ho i]at h;cases h
 only:=λi a h=>by rw[ho i]at h;cases h
 fbd:=hf.1
 tab:=hf.2
 nfb:=λi a h=>by rw[ho i]at h;cases h
 len:=by
  have hl:=r.length;unfold L2.start;simp[hl]
theorem fn_ok{P:y6}{w:y0}{K:yh}{mg:Str->Option yb}{base:yd}{x qual:Str}{st:yk}{f:yc}{fd:yM}{N ps:List Str}{k np:Nat}{d:DS}(F:Fun K x qual st f fd)(S:ae N ps (Ze st))(hnp:ps.length=np)
  (hb:∀(cdv:yb) (A:yD) (outer:List Env) (s:ye) (H:Hp) (E:XK),Room k (A.deeper (envOfC qual (Ze st) s.heap.objs.size f cdv)) ->
   SVs (cxOf CX0 P w K mg base N qual (Ze st) f cdv A outer s H E).nox (λ_ _=>False) false (Zl st) d):FnOk P w K mg base CX0 (k+1) f fd ps (spF K none np (ah N.length np d)):=by
 refine F.ok S (λvs H Q E h=>by rw[hnp];exact h.1) λcdv A outer s H vs Q E hr h=>⟨_,hb cdv A outer s H E hr,?_⟩
 obtain⟨hl,ts,P',rs,ho,hf,q⟩:=h;have hlt:ts.length=np:=by rw[rs.length];exact hl
 refine⟨_,P',zaJ rs ho hf,?_⟩;unfold ah ai at q;rw[if_pos hlt]at q;have en:N.length - np=N.length - ts.length:=by rw[hlt]
 rw[en]at q;have sm:∀H' P2,Go H P' H' P2->Same H H':=λH' P2 g=>g.all ho
 have bk:∀H' P2,Go H P' H' P2->Tr H' P2 H' P':=λH' P2 g b o e _ z=>⟨e,λi=>by rw[ho i];exact λz=>(by cases z),by rw[<- g.fbe];exact z.2⟩
 cases e:d (ts.map .val++y3 (N.length - ts.length) .emp) with
 |stuck=>rw[e]at q;exact q.elim
 |exc c=>rw[e]at q;exact q.elim
 |ok o=>
  rw[e,Res.bind_ok]at q;cases o with
  |nx G=>exact λσ' H' P2 g h'=>q .non H' (sm H' P2 g) (Vf.mpr rfl)
  |rt t=>exact λv H' P2 g r _=>q v H' (sm H' P2 g) (Rl.go (bk H' P2 g) t v r)
  |bk G=>exact q.elim
  |ct G=>exact q.elim
structure Cle(P:y6)(w:y0)(K:yh)(mg:Str->Option yb)(base:yd)(k:Nat)(x:Str)(np:Nat)(f:DF):Prop where
 ex:∃(fa:yc) (fd:yM) (ps:List Str),FnOk P w K mg base CX0 k fa fd ps (spF K none np f)/\mg x=some (.ref fa)/\yq K (.ref fa)=true/\ZB K fd ps []
 nox:∀ts c,f ts≠.exc c
section
variable {P:y6}{w:y0}{K:yh}{mg:Str->Option yb}{base:yd}
theorem Cle.cal{X:Cx}{W:Str->Hp->Prop}{k np:Nat}{x:Str}{f:DF}(C:Cle X.prog X.w X.K X.mg X.base k x np f):Cal X W none k x np f:=by
 obtain⟨fa,fd,ps,F,hm,hk,hb⟩:=C.ex;exact⟨⟨CX0,fa,fd,ps,F,hm,hk,hb,λ_ _ _ _ _ _ _ h=>h.elim⟩,λ_=>C.nox⟩
theorem Cle.mono{j k np:Nat}{x:Str}{f:DF}(C:Cle P w K mg base j x np f)(h:j<=k):Cle P w K mg base k x np f:=by
 obtain⟨fa,fd,ps,F,r⟩:=C.ex;exact⟨⟨fa,fd,ps,F.mono h,r⟩,C.nox⟩
theorem ZQ{x:Str}{st:yk}{fa:yc}{fd:yM}{N ps:List Str}{k n np:Nat}{d:DS}(F:Fun K x x st fa fd)(hm:mg x=some (.ref fa))(b:ZB K fd ps [])(S:ae N ps (Ze st))(hnp:ps.length=np)(hN:N.length=n)
  (hb:∀(cdv:yb) (A:yD) (outer:List Env) (s:ye) (H:Hp) (E:XK),Room k (A.deeper (envOfC x (Ze st) s.heap.objs.size fa cdv)) ->
   SVs (cxOf CX0 P w K mg base N x (Ze st) fa cdv A outer s H E).nox (λ_ _=>False) false (Zl st) d):Cle P w K mg base (k+1) x np (ah n np d):=by
 subst hN;exact⟨⟨fa,fd,ps,fn_ok F S hnp hb,hm,F.kp,b⟩,λts c=>ze1 _ _ _ ts c⟩
theorem law_sp{f:DF}{ns:List Int}(h:f [.list (ns.map .int)]=.ok (.bool true)){H:Hp}{a:yc}(hT:Qm K H)(hS:SqL K H a (ns.map V.int)):spF K none 1 f [.ref a] H (λv _=>v=.bl true) (λ_ _ _=>False):=by
 refine⟨rfl,[.list (ns.map .int)],⟨λ_=>none,λ_=>False⟩,ZY.mpr ⟨.ref a,[],rfl,YJ.mpr ⟨a,ns.map V.int,rfl,?_,zie ns⟩,Yy.mpr rfl⟩,λ_=>rfl,⟨λ_ z=>z.elim,hT⟩,?_⟩
 ·rcases hS with h|h
  ·exact .inl ⟨h,λ_ z=>(by cases z),λz=>z⟩
  ·exact .inr h
 ·rw[h];exact λv H' _ r=>X8.mp r
end
def Yld(K:yh)(J:It)(ts:List ya)(H:Hp)(P:Pv):Prop:=∀H' P',Tr H P H' P'->(∀p,H' p=none->Off P' p)->∀i, (∀t,ts[i]? = some t->J.go i H'/\∀x H'',J.yld i H' x H''->Same H' H''/\Rl K H'' P' t x)/\(ts.length<=i->J.stop i H')
def PostI(K:yh)(W:Str->Hp->Prop)(H:Hp)(P:Pv)(r:Res (List ya))(R:It->Hp->Prop):Prop:=
 match r with
 |.ok ts=>∀J H',Same H H'->Yld K J ts H' P->R J H'
 |.exc c=>∀H',Same H H'->W c H'
 |.stuck=>False
def tFI(K:yh)(W:Str->Hp->Prop)(d:DA):TI:=λσ H R=>∃G P,Hol K H P σ G/\PostI K W H P (d G) R
def IV(X:Cx)(W:Str->Hp->Prop)(tg iter:yj)(d:DA):Prop:=PI X tg iter (tFI X.K W d)
theorem zcC{X:Cx}{tg e:yj}{t t':TI}(h:PI X tg e t)(w:∀σ H Q,t' σ H Q->t σ H Q):PI X tg e t':=λpins s σ H Q I q=>h pins s σ H Q I (w σ H Q q)
theorem zmn{a:Res ya}{f:ya->Res (List ya)}{K:yh}{W:Str->Hp->Prop}{H:Hp}{P:Pv}{Q:It->Hp->Prop}(q:PostI K W H P (a.bind f) Q):
  (∀c,a=.exc c->∀H',Same H H'->W c H')/\a≠.stuck/\∀t,a=.ok t->PostI K W H P (f t) Q:=by
 cases a with
 |ok t=>exact⟨λc e=>(by cases e),(by intro e;cases e),λt' e=>by cases e;exact q⟩
 |exc c=>exact⟨λc' e=>by cases e;exact q,(by intro e;cases e),λt e=>by cases e⟩
 |stuck=>exact q.elim
section
variable {X:Cx}{W:Str->Hp->Prop}{fl:Bool}{tg a b c e:yj}{da db:DE}{pos:Pos}
def iSq(K:yh)(tl:TE):TI:=λσ H R=>tl σ H λx H1=>(∃a,x=.ref a/\(∃xs,SqL K H1 a xs)/\R (Itl K a) H1)\/(∃a,x=.ref a/\(∃xs,SqT K H1 a xs)/\R (Itt K a) H1)
theorem pi_sq{l:yj}{tl:TE}(hl:PE X l tl):PI X tg l (iSq X.K tl):=by
 intro pins s σ H R I h;refine thn (hl pins s σ H _ I h) λv s1 ⟨x,H1,I1,r1,q1⟩=>?_
 rcases q1 with ⟨a,e,⟨xs,hq⟩,q⟩|⟨a,e,⟨xs,hq⟩,q⟩
 ·subst e;cases r1;obtain⟨its,rv,p,hz⟩:=I1.list hq;refine ybl p.isList ?_;refine⟨s1.heap.objs.size,[s1.heap.objs.size],_,_,H1,rfl,I1.kept (t':=s1.toks) λb o e=>yA _ e,zkd a _,⟨_,yO _ rfl,rfl,rfl⟩,λb hb=>?_,q⟩
  have e:b=s1.heap.objs.size:=by simpa using hb
  subst e;exact I1.fpOk (yu _) (I1.hok.fresh (yu _))
 ·subst e;cases r1;obtain⟨its,rv,p,hz⟩:=I1.tuple hq;refine wpAny_pyIter_tuple (show s1.heap.IsTuple a its.toArray from p) ?_;refine⟨s1.heap.objs.size,[s1.heap.objs.size],_,_,H1,rfl,I1.kept (t':=s1.toks) λb o e=>yA _ e,zje a _,⟨_,yO _ rfl,rfl,rfl⟩,λb hb=>?_,q⟩
  have e:b=s1.heap.objs.size:=by simpa using hb
  subst e;exact I1.fpOk (yu _) (I1.hok.fresh (yu _))
theorem yld_list{H:Hp}{P:Pv}{l:yc}{xs:List ya}{vs:List V}(s:SL X.K H P l vs)(r:Rls X.K H P xs vs):Yld X.K (Itl X.K l) xs H P:=λH' P' tr nf i=>
 ⟨λt e=>by
  have r':=Rls.go tr xs vs r;have s':=(s.go tr).sq;obtain⟨v,ev,rv⟩:=r'.getT e;refine⟨⟨vs,v,s',ev⟩,λx H'' y=>?_⟩
  obtain⟨rfl,y⟩:=y;have:=y vs s';rw[ev]at this;cases this;exact⟨Same.refl _,rv⟩,λhl=>⟨vs,(s.go tr).sq,by rw[<- r.length];exact hl⟩⟩
theorem zj8{H:Hp}{P:Pv}{l:yc}{xs:List ya}{vs:List V}(s:ST X.K H P l vs)(r:Rls X.K H P xs vs):Yld X.K (Itt X.K l) xs H P:=λH' P' tr nf i=>
 ⟨λt e=>by
  have r':=Rls.go tr xs vs r;have s':=(s.go tr).sq;obtain⟨v,ev,rv⟩:=r'.getT e;refine⟨⟨vs,v,s',ev⟩,λx H'' y=>?_⟩
  obtain⟨rfl,y⟩:=y;have:=y vs s';rw[ev]at this;cases this;exact⟨Same.refl _,rv⟩,λhl=>⟨vs,(s.go tr).sq,by rw[<- r.length];exact hl⟩⟩
theorem Y1(ha:EV X W a da):IV X W tg a (av da):=
 zcC (pi_sq ha) λσ H R ⟨G,P,h,q⟩=>by
  unfold av at q;obtain⟨q1,q2,q3⟩:=zmn q;refine Z1 h q1 q2 λtx x H1 ex s1 h1 rx=>?_
  have q4:=q3 tx ex;cases tx<;>try exact q4.elim
  ·obtain⟨l,vs,rfl,sl,rs⟩:=YJ.mp rx;exact .inl ⟨l,rfl,⟨vs,sl.sq⟩,q4 _ H1 s1 (yld_list sl rs)⟩
  ·obtain⟨l,vs,rfl,sl,rs⟩:=Yb.mp rx;exact .inr ⟨l,rfl,⟨vs,sl.sq⟩,q4 _ H1 s1 (zj8 sl rs)⟩
theorem rngT_get(lo:Int)(n i:Nat):(aw lo n)[i]? = if i<n then some (.int (lo+(i:Int))) else none:=by
 unfold aw;rw[jb];by_cases h:i<n
 ·rw[if_pos h,jx (by simpa using h)]
  simp
 ·rw[if_neg h,List.getElem?_eq_none (by simpa using h)]
  rfl
theorem zj9{H:Hp}{P:Pv}(lo:Int)(n:Nat):Yld X.K (Itr lo n) (aw lo n) H P:=by
 intro H' P' tr nf i;refine⟨λt e=>?_,λhl=>?_⟩
 ·rw[rngT_get]at e;split at e
  ·rename_i hi;cases e;refine⟨hi,λx H'' y=>?_⟩
   obtain⟨rfl,rfl⟩:=y;exact⟨Same.refl _,Ym.mpr rfl⟩
  ·cases e
 ·have:(aw lo n).length=n:=by simp[aw]
  rw[this]at hl;exact hl
theorem Xs{p:Pos}(hg:Gl X "range")(hm:X.mg "range"=none)(ha:EV X W a da)(hs:yp [a] X.env=[(false,yz a X.env)]:=by rfl)(hs':yp [a] X.env=(false,yz a X.env)::yp [] X.env:=by rfl):IV X W tg (.Call (.Name "range" p) [a] [] pos) (iRng da):=
 zcC (zk0 hg hm (Y3 ha W5 hs') hs) λσ H R ⟨G,P,h,q⟩=>by
  unfold Fx.iRng at q;obtain⟨q1,q2,q3⟩:=zmn q;refine Z1 h q1 q2 λtx x H1 ex s1 h1 rx=>?_
  have q4:=q3 tx ex;cases tx<;>try exact q4.elim
  rename_i j;simp only at q4;split at q4
  ·rename_i hj;exact⟨j,by rw[Ym.mp rx],(Jy hj).1,(Jy hj).2,q4 _ H1 s1 (zj9 0 j.toNat)⟩
  ·exact q4.elim
def GV(X:Cx)(tg:yj)(st:ya->List Sl->Res (List Sl)):Prop:=
 ∃g,PG X tg g/\∀(t:ya) (v:V) (σ:L2.St) (H:Hp) (P:Pv) (G:List Sl) (Q:L2.St->Hp->Prop),Hol X.K H P σ G->Rl X.K H P t v -> (∃G',st t G=.ok G'/\∀σ' P',Go H P H P'->Hol X.K H P' σ' G'->Q σ' H)->g v σ H Q
theorem ZG{i:Nat}{x:Str}(hN:X.N.Nodup)(hi:X.N[i]? = some x)(hx:Loc X.env.scope x)(hf:X.fn x=true\/X.env.scope.names.lookup x=some .local:=by first|exact .inl rfl|exact .inr rfl|assumption):GV X (.Name x pos) (Zt i):=
 ⟨gName i,zhr hN hi hx hf,λt v σ H P G Q h r ⟨G',e,q⟩=>by
  cases e;exact q _ (P.del i) .del (h.setVal i r)⟩
theorem zae{i j:Nat}{x y:Str}{p1 p2:Pos}{k:Nat}(hc:X.calm=true)(hN:X.N.Nodup)(hi:X.N[i]? = some x)(hx:Loc X.env.scope x)(hj:X.N[j]? = some y)(hy:Loc X.env.scope y)
  (hf:X.fn x=true\/X.env.scope.names.lookup x=some .local:=by first|exact .inl rfl|exact .inr rfl|assumption) (hf2:X.fn y=true\/X.env.scope.names.lookup y=some .local:=by first|exact .inl rfl|exact .inr rfl|assumption)
  (hs:(j7 [.Name x p1,.Name y p2] X.env).map (·.2)=jI (.Name x p1) X.env::(j7 [.Name y p2] X.env).map (·.2):=by rfl)
  (hs2:(j7 [.Name y p2] X.env).map (·.2)=jI (.Name y p2) X.env::(j7 [] X.env).map (·.2):=by rfl)
  (hn:(j7 [.Name x p1,.Name y p2] X.env).length=2:=by rfl) (hst:(j7 [.Name x p1,.Name y p2] X.env).findIdx? (·.1)=none:=by rfl):GV X (.Tuple [.Name x p1,.Name y p2] k pos) (Uv i j):=
 ⟨_,pg_tup hc (zik (zhr hN hi hx hf) (zik (zhr hN hj hy hf2) pgs_nil hs2) hs) hn hst,λt v σ H P G Q h r ⟨G',e,q⟩=>by
  unfold Uv at e;split at e
  ·rename_i tx ty G0;cases e;obtain⟨l,vs,rfl,s1,rs⟩:=Yb.mp r;obtain⟨v1,r1,rfl,a1,b1⟩:=ZY.mp rs;obtain⟨v2,r2,rfl,a2,b2⟩:=ZY.mp b1;cases Yy.mp b2;have h1:=h.setVal i a1;have h2:=h1.setVal j (Rl.go .del ty v2 a2);exact⟨l,[v1,v2],rfl,s1.sq,rfl,v1,[v2],rfl,v2,[],rfl,rfl,q _ _ (Go.del.trans .del) h2⟩
  ·cases e⟩
theorem Hol.offn{K:yh}{H:Hp}{P:Pv}{σ:L2.St}{G:List Sl}(h:Hol K H P σ G):∀p,H p=none->Off P p:=λp e=>h.off_new e
theorem Ww{body:List yk}{is:List Nat}{st:ya->List Sl->Res (List Sl)}{it:DA}{d:DS}{iter:yj}(hp:yY (ym X.prog X.w) X.A X.env X.xe)(hc:X.calm=true)(hi:IV X W tg iter it)(hg:GV X tg st)(hb:SVs X W fl body d)
  (hst:∀t G c,st t G≠.exc c:=by first|exact zkG|exact zkF) (hs:∀x,qF iter X.env x=pure x:=by intro _;rfl):SV X W fl (.For tg iter body [] pos) (dFor st is it d):=by
 obtain⟨g,pg,gp⟩:=hg;refine X9 (ps_for hp hc hi pg hb hs) λD σ H ⟨G,P,h,q⟩=>?_
 unfold dFor at q;obtain⟨P1,h1,g1⟩:=h.frz is;obtain⟨q1,q2,q3⟩:=zmo q;refine⟨frz is G,P1,h1,?_⟩;cases e:it (frz is G) with
 |stuck=>exact absurd e q2
 |exc c=>exact λH' s=>q1 c e H' P1 (g1.trans (.same s))
 |ok ts=>
  intro J H1 s1 y;have q4:=q3 ts e;have g2:Go H P H1 P1:=g1.trans (.same s1);refine⟨λi m σ' H'=>m=ts.length - i/\i<=ts.length/\∃G' P',Go H1 P1 H' P'/\Hol X.K H' P' σ' G'/\VZ X.K W fl H P (forL st d (ts.drop i) G') D,⟨ts.length,by simp,qi _,frz is G,P1,.refl _ _,h1.same s1,q4⟩,?_⟩
  rintro i m σ' H' ⟨rfl,hi,G',P',g',h',q'⟩
  obtain⟨y1,y2⟩:=y H' P' g'.tr h'.offn i;by_cases hlt:i<ts.length
  ·have et:ts[i]? = some ts[i]:=by simp[hlt]
   obtain⟨go,yl⟩:=y1 _ et;rw[yd4 hlt]at q';unfold forL at q';refine .inr ⟨go,λσ2 H2=>∃G2 P2,Go H1 P1 H2 P2/\Hol X.K H2 P2 σ2 G2/\VZ X.K W fl H P (forL st d (ts.drop (i+1)) G2) D,λσ2 H2 z=>⟨_,by omega,rfl,hlt,z⟩,λx H2 yy=>?_⟩
   obtain⟨s2,r2⟩:=yl x H2 yy;have h2:=h'.same s2;cases es:st ts[i] G' with
   |stuck=>rw[es]at q';exact q'.elim
   |exc c=>exact absurd es (hst _ _ c)
   |ok G1=>
    rw[es,Res.bind_ok]at q';refine gp ts[i] x σ' H2 P' G' _ h2 r2 ⟨G1,es,λσ3 P3 g3 h3=>⟨G1,P3,h3,?_⟩⟩
    have gg:Go H1 P1 H2 P3:=g'.trans ((Go.same s2).trans g3);cases ed:d G1 with
    |stuck=>rw[ed]at q';exact q'.elim
    |exc c=>rw[ed]at q';exact VZ.up (r:=.exc c) q' (g2.trans gg)
    |ok o=>
     rw[ed,Res.bind_ok]at q';cases o with
     |nx G4=>exact λσ4 H4 P4 g4 h4=>⟨G4,P4,gg.trans g4,h4,q'⟩
     |ct G4=>exact λσ4 H4 P4 g4 h4=>⟨G4,P4,gg.trans g4,h4,q'⟩
     |bk G4=>exact λσ4 H4 P4 g4 h4=>q' σ4 H4 P4 (g2.trans (gg.trans g4)) h4
     |rt t=>exact λv H4 P4 g4 h4 n4=>q' v H4 P4 (g2.trans (gg.trans g4)) h4 λz=>(n4 z).back (g2.trans gg)
  ·have ei:i=ts.length:=by omega
   subst ei;rw[List.drop_length]at q';exact .inl ⟨y2 (yu _),q' σ' H' P' (g2.trans g') h'⟩
end
theorem Same.updL{H H8:Hp}{D:yc}{vs ws:List V}(s:Same H H8)(hD:H D=none)(h8:H8 D=some (.lst vs)):Same H (upd H8 D (.lst ws)) where
 kp:=λb o e n=>by rw[Zu (Z3 e hD)];exact s.kp b o e n
 free:=λ{b} w=>by
  by_cases z:b=D
  ·rw[z];exact hD
  ·rw[Zu z]at w;exact s.free w
 tab:=λK t=>Qm.mono (s.tab K t) λb o e nl=>by
  rw[Zu (λz=>by rw[z,h8]at e;cases e;exact nl (.inl ⟨_,rfl⟩))];exact e
 tbk:=λb ps e=>by rw[Zu (Z3 e hD)];exact s.tbk b ps e
def zhU(K:yh)(W:Str->Hp->Prop)(H:Hp)(P:Pv)(r:Res (List ya))(Q:VK):Prop:=
 match r with
 |.ok xs=>∀p vs H',Same H H'->H p=none->H' p=some (.lst vs)->Rls K H' (P.fbd p) xs vs->Q (.ref p) H'
 |.exc c=>∀H',Same H H'->W c H'
 |.stuck=>False
def tFO(K:yh)(W:Str->Hp->Prop)(d:DA):TE:=λσ H Q=>∃G P,Hol K H P σ G/\zhU K W H P (d G) Q
def OV(X:Cx)(W:Str->Hp->Prop)(e:yj)(d:DA):Prop:=PE X e (tFO X.K W d)
theorem Tr.fbd{H:Hp}{P:Pv}{p:yc}:Tr H (P.fbd p) H P:=λa o e _ q=>⟨e,q.1,λz=>q.2 (.inl z)⟩
theorem Tr.tofbd{H:Hp}{P:Pv}{p:yc}(hp:H p=none):Tr H P H (P.fbd p):=λa o e _ q=>⟨e,q.1,λz=>z.elim q.2 λz=>by rw[z,hp]at e;cases e⟩
theorem rl_new{K:yh}{H H':Hp}{P:Pv}{σ:L2.St}{G:List Sl}{p:yc}{vs:List V}{xs:List ya}(h:Hol K H P σ G)(s:Same H H')(hp:H p=none)(hl:H' p=some (.lst vs))(r:Rls K H' (P.fbd p) xs vs):Rl K H' P (.list xs) (.ref p):=
 YJ.mpr ⟨p,vs,rfl,.off hl (h.off_new hp),Rls.go .fbd xs vs r⟩
theorem Hol.own'{K:yh}{H H':Hp}{P:Pv}{σ:L2.St}{G:List Sl}{p:yc}{vs:List V}{xs:List ya}{i:Nat}(h:Hol K H P σ G)(hi:i<G.length)(s:Same H H')(hp:H p=none)(hl:H' p=some (.lst vs))(r:Rls K H' (P.fbd p) xs vs):
  Hol K H' (P.put i p) (σ.set i (some (.ref p))) (G.set i (.own xs))/\Go H P H' (P.put i p):=by
 have g0:Go H P H' (P.put i p):=(Go.put hp).trans (.same s);have gg:=g0.tr;have tt:Tr H' (P.fbd p) H' (P.put i p):=λa o e _ q=>⟨e,λj z=>by
  have z':(if j=i then some p else P.own j)=some a:=z
  split at z'
  ·cases z';exact q.2 (yC rfl)
  ·exact q.1 j z',λz=>q.2 (yg z)⟩
 have rr:Rls K H' (P.put i p) xs vs:=Rls.go tt xs vs r;refine⟨⟨λj s' q=>?_,?_,?_,?_,?_,?_,s.tab K h.tab⟩,g0⟩
 ·by_cases e:j=i
  ·subst e;rw[j3 hi]at q;cases q;exact⟨p,vs,Qw (by rw[h.len];exact hi),if_pos rfl,hl,rr⟩
  ·rw[jo (Ne.symm e)]at q;have z:=h.sl j s' q;rw[zaf e];cases s' with
   |emp=>trivial
   |val t'=>obtain⟨v',e1,r'⟩:=z;exact⟨v',e1,Rl.go gg t' v' r'⟩
   |own xs'=>
    obtain⟨p',vs',e1,e2,e3,r'⟩:=z;exact⟨p',vs',e1,(by show(if j=i then some p else P.own j)=_;rw[if_neg e];exact e2),s.kp _ _ e3 zaG,Rls.go gg xs' vs' r'⟩
   |dct xs'=>
    obtain⟨p',vs',e1,e2,e3,r'⟩:=z;exact⟨p',vs',e1,(by show(if j=i then some p else P.own j)=_;rw[if_neg e];exact e2),s.kp _ _ e3 nt_dT,Rlk.go gg xs' vs' r'⟩
 ·intro a b c h1 h2;have h1':(if a=i then some p else P.own a)=some c:=h1
  have h2':(if b=i then some p else P.own b)=some c:=h2
  split at h1'
  ·split at h2'
   ·rename_i z1 z2;rw[z1,z2]
   ·cases h1';obtain⟨ws,q,_⟩:=h.dom h2';rw[hp]at q;cases q
  ·split at h2'
   ·cases h2';obtain⟨ws,q,_⟩:=h.dom h1';rw[hp]at q;cases q
   ·exact h.inj a b c h1' h2'
 ·intro j a z;have z':(if j=i then some p else P.own j)=some a:=z
  split at z'
  ·rename_i e;subst e;exact⟨_,j3 hi,trivial⟩
  ·rename_i ne;obtain⟨xs,q,m⟩:=h.only j a z';exact⟨xs,by rw[jo (Ne.symm ne)];exact q,m⟩
 ·intro a z;obtain⟨o,q,m⟩:=h.fbd a z;refine⟨o,?_,m⟩;exact s.kp _ _ q m.nt
 ·intro j a z;have z':(if j=i then some p else P.own j)=some a:=z
  split at z'
  ·cases z';exact h.nofb hp
  ·exact h.nfb j a z'
 ·rw[jV,jV];exact h.len
def YG(env:Env):List (Str×jh)->List (Str×yc)->List (Str×yc)
 |[],cs=>cs
 |(n,k)::r,cs=>YG env r (if(k == jh.free)=true then(n,(env.cells.lookup n).getD 0)::cs else cs)
theorem zgX(env:Env)(f:Str×jh->List (Str×yc)->Sem (ForInStep (List (Str×yc))))
  (hf:∀n k cs,f (n,k) cs=if(k == jh.free)=true then(cellOf env n >>= λa=>pure (.yield ((n,a)::cs))) else pure (.yield cs)):
  ∀(names:List (Str×jh)) (cs:List (Str×yc)),(∀y∈names,y.2=.free->∃c,env.cells.lookup y.1=some c)->(forIn names cs f:Sem (List (Str×yc)))=pure (YG env names cs)
 |[],cs,h=>rfl
 |(n,k)::r,cs,h=>by
  rw[ydq,hf];have ih:=λcs=>zgX env f hf r cs λy hy=>h y (yS _ hy)
  by_cases hk:(k == jh.free)=true
  ·obtain⟨c,e⟩:=h (n,k) yX (by simpa using hk)
   have e2:cellOf env n=pure c:=by unfold cellOf;rw[e]
   rw[if_pos hk,e2,pure_bind,pure_bind];show forIn r _ f=_;rw[ih];have ec:YG env ((n,k)::r) cs=YG env r (if(k == jh.free)=true then(n,(env.cells.lookup n).getD 0)::cs else cs):=rfl
   rw[ec,if_pos hk,e]
   rfl
  ·rw[if_neg hk,pure_bind];show forIn r _ f=_;rw[ih];have ec:YG env ((n,k)::r) cs=YG env r (if(k == jh.free)=true then(n,(env.cells.lookup n).getD 0)::cs else cs):=rfl
   rw[ec,if_neg hk]
theorem za7{scope:yJ}{env:Env}(h:∀y∈scope.names,y.2=.free->∃c,env.cells.lookup y.1=some c):closureFor scope env=pure (YG env scope.names []):=by
 unfold closureFor;have:=zgX env (λx r=>match x with
  |(name,kind)=>if(kind == jh.free)=true then(cellOf env name >>= λa=>pure (.yield ((name,a)::r))) else pure (.yield r)) (λ_ _ _=>rfl) scope.names [] h
 simp only[bind_pure];exact this
theorem JI(env:Env):∀(names:List (Str×jh)) (cs:List (Str×yc)),(∀y∈names,y.2=.free->∃c,env.cells.lookup y.1=some c)->(∀x c,cs.lookup x=some c->env.cells.lookup x=some c) ->
  ∀x c,(YG env names cs).lookup x=some c->env.cells.lookup x=some c
 |[],cs,h,hc,x,c,e=>hc x c e
 |(n,k)::r,cs,h,hc,x,c,e=>by
  unfold YG at e;refine JI env r _ (λy hy=>h y (yS _ hy)) (λy d ey=>?_) x c e
  by_cases hk:(k == jh.free)=true
  ·rw[if_pos hk]at ey;obtain⟨c',e'⟩:=h (n,k) yX (by simpa using hk)
   rw[yai]at ey;split at ey
   ·rename_i q;have:y=n:=by simpa using q
    subst this;rw[e']at ey ⊢;exact ey
   ·exact hc y d ey
  ·rw[if_neg hk]at ey;exact hc y d ey
theorem Wg{α:Type}{x:Str}{a:α}:∀{cs:List (Str×α)},(x,a)∈cs->∃b,cs.lookup x=some b
 |(y,b)::r,h=>by
  rw[yai];split
  ·exact⟨b,rfl⟩
  ·rename_i q;rcases yG.mp h with e|e
   ·cases e;simp at q
   ·exact Wg e
theorem Ql(env:Env):∀(names:List (Str×jh)) (cs:List (Str×yc)) (x:Str),((∃c,(x,c)∈cs)\/(x,jh.free)∈names)->∃c,(x,c)∈YG env names cs
 |[],cs,x,h=>by
  rcases h with h|h
  ·exact h
  ·cases h
 |(n,k)::r,cs,x,h=>by
  unfold YG;refine Ql env r _ x ?_;rcases h with ⟨c,h⟩|h
  ·left
   split
   ·exact⟨c,yS _ h⟩
   ·exact⟨c,h⟩
  ·rcases yG.mp h with e|e
   ·cases e
    left
    exact⟨_,by rw[if_pos (by rfl)];exact yX⟩
   ·exact .inr e
theorem Xd{α:Type}{x:Str}{a:α}:∀{cs:List (Str×α)},cs.lookup x=some a->(x,a)∈cs
 |(y,b)::r,h=>by
  rw[yai]at h;split at h
  ·rename_i q;have:x=y:=by simpa using q
   cases h;subst this;exact yX
  ·exact yS _ (Xd h)
theorem zbK{scope:yJ}{env:Env}{x:Str}(hcell:∀y∈scope.names,y.2≠.cell):(qh scope env).names.lookup x=some .cell\/(qh scope env).names.lookup x=some .free->(x,jh.free)∈scope.names:=by
 intro h;have:∃k,(x,k)∈(qh scope env).names/\(k=.cell\/k=.free):=by
  rcases h with h|h
  ·exact⟨_,Xd h,.inl rfl⟩
  ·exact⟨_,Xd h,.inr rfl⟩
 obtain⟨k,hm,hk⟩:=this;unfold qh at hm;obtain⟨⟨n,k0⟩,hm0,e⟩:=yR.mp hm;simp only at e;split at e
 ·rename_i q;cases e;simp only[jl,beq_iff_eq]at q;rw[q.1.1]at hm0;exact hm0
 ·cases e;rcases hk with rfl|rfl
  ·exact absurd rfl (hcell _ hm0)
  ·exact hm0
def cxC(X:Cx)(scope:yJ)(N:List Str)(s₀:ye)(H₀:Hp)(ex:List yc)(pn:List (yc×Obj):=[]):Cx:=
 { X with env:=qt scope (YG X.env scope.names []) s₀.heap.objs.size X.env,N:=N,s₀:=s₀,H₀:=H₀,outer:=X.stack,ex:=ex,fn:=λ_=>false,pn:=pn,xe:=λ_ _=>False }
structure CompOk(X:Cx)(scope:yJ)(N:List Str)(nv:Nat)(cap:List Nat):Prop where
 cell:∀y∈scope.names,y.2≠.cell
 kind:scope.kind=.function
 names:∀y∈scope.names,y.2=.local->scope.names.lookup y.1=some .local
 free:∀y∈scope.names,y.2=.free->X.env.kindOf y.1=some .cell\/X.env.kindOf y.1=some .free
 len:N.length=nv+cap.length
 caps:∀(i j:Nat) (x:Str),cap[i]? = some j->N[nv+i]? = some x->X.N[j]? = some x/\((qh scope X.env).names.lookup x=some .cell\/(qh scope X.env).names.lookup x=some .free)/\(X.env.kindOf x=some .cell\/X.env.kindOf x=some .free)
def sig(nv:Nat)(cap:List Nat)(σ:L2.St):L2.St:=y3 nv none++cap.map λj=>σ.getD j none
section
variable {X:Cx}{scope:yJ}{N:List Str}{nv:Nat}{cap:List Nat}{pins:List (yc×Obj)}{σ:L2.St}{H:Hp}{s:ye}{ex:List yc}
theorem CompOk.has(C:CompOk X scope N nv cap)(ok:X.Ok):∀y∈scope.names,y.2=.free->∃c,X.env.cells.lookup y.1=some c:=λy hy e=>ok.has y.1 (C.free y hy e)
theorem CompOk.start(C:CompOk X scope N nv cap)(I:Inv X pins σ H s)(hex:∀b∈ex,FpOk X pins H b/\b<s.heap.objs.size){h':yd}{t:Nat}{m:Str->Option yb}(hn:h'.Ns s.heap.objs.size m)(hk:∀b o,s.heap.get? b=some o->h'.get? b=some o):
  Inv (cxC X scope N s H ex) [] (sig nv cap σ) H { s with heap:=h',toks:=t }:=by
 have hh:=C.has I.ok;have sub:=JI X.env scope.names [] hh (λx c e=>by cases e)
 have hL:s.heap.objs.size<=(cxC X scope N s H ex).env.locals:=yu _;have stk:∀b∈frs X.stack,b<s.heap.objs.size:=λb hb=>by
  obtain⟨_,o,ho,_⟩:=I.stack.mem hb;exact yF ho
 refine⟨⟨I.ok.mod,C.kind,I.ok.glob,I.ok.blt,hL,λx y c h1 h2=>I.ok.inj x y c (sub x c h1) (sub y c h2),λx hx=>?_,λx c h=>?_,I.ok.hd,I.ok.frames,.inl rfl,λb hb=>?_,λb o e=>I.bs b o e,?_,λb o e hb=>?_,λb hb=>?_,I.stack,I.stkFree⟩,
  rfl,I.bare,Un.kept hk,⟨m,hn,λi x v e1 e2 e3=>?_⟩,λx c e=>?_,I.hok.fresh (yu _),λx c e=>I.freeC x c (sub x c e),λp hp=>?_,I.hok.kept hk,?_⟩
 ·have hx':(qh scope X.env).names.lookup x=some .cell\/(qh scope X.env).names.lookup x=some .free:=hx;obtain⟨c,hc⟩:=Ql X.env scope.names [] x (.inr (zbK C.cell hx'));exact Wg hc
 ·cases h
 ·obtain⟨f,lt⟩:=hex b hb;refine⟨yU lt,λx c e=>f.2.2.2.2.1 x c (sub x c e)⟩
 ·exact yE I.ok.bsz I.sz
 ·obtain⟨f,lt⟩:=hex b hb;rcases f.2.2.2.1 with z|z
  ·exact I.ok.noex b o e z
  ·exact absurd (ja (yF e) (yE I.ok.bsz z)) (jY _)
 ·obtain⟨f,lt⟩:=hex b hb;intro z;rcases yG.mp (I.stkSub b z) with e|e
  ·exact f.2.1 e
  ·exact f.2.2.1 e
 ·-- the names
  have hi:nv<=i:=by
   rcases Nat.lt_or_ge i nv with z|z
   ·unfold sig at e2;rw[jK (by simpa using z),qG]at e2
    split at e2<;>cases e2
   ·exact z
  obtain⟨k,rfl⟩:=Nat.exists_eq_add_of_le hi;unfold sig at e2;rw[jC (by simp),jb]at e2
  have ek:nv+k - (y3 nv (none:Option V)).length=k:=by simp
  rw[ek]at e2;cases ec:cap[k]? with
  |none=>rw[ec]at e2;cases e2
  |some j=>
   rw[ec]at e2;have e2':σ.getD j none=some v:=by simpa using e2
   obtain⟨c1,c2,c3⟩:=C.caps k j x ec e1;obtain⟨m0,_,hl⟩:=I.loc;have vis:Vis X.env.scope x:=c3.elim (λz=>.inr (.inl z)) λz=>.inr (.inr z)
   obtain⟨u,ru,lk⟩:=hl j x v c1 (getD_some e2') vis;refine⟨u,ru,.inr ⟨c2,?_⟩⟩;rcases lk with ⟨z,_⟩|⟨_,c,ec',o,ho,hd⟩
   ·rcases c3 with c3|c3<;>(rw[c3]at z;cases z)
   ·obtain⟨c',hc'⟩:=Ql X.env scope.names [] x (.inr (zbK C.cell c2));obtain⟨c'',hc''⟩:=Wg hc';have:=sub x c'' hc'';rw[ec']at this;cases this;exact⟨c,hc'',o,hk c o ho,hd⟩
 ·obtain⟨v,o,ho,hd⟩:=I.cell x c (sub x c e);exact⟨v,o,hk c o ho,hd⟩
 ·exact absurd (show p∈([]:List (yc×Obj)) from hp) (by simp)
 ·show(sig nv cap σ).length=N.length;unfold sig;rw[C.len];simp
theorem CompOk.stop{H':Hp}{s':ye}{σ':L2.St}{pl:List (yc×Obj)}(I:Inv X pins σ H s)(hex:∀b∈ex,FpOk X pins H b)(J:Inv (cxC X scope N s H ex) pl σ' H' s'):Inv X pins σ H' s':=
 I.call' J.os J.base J.hok J.bare λb hb=>by
  obtain⟨f0,f1,f2,f3,f4,f5⟩:=hex b hb;exact⟨f3,f1,f4,f5⟩
theorem inv_pn{s₀:ye}{H₀:Hp}{E:yb->ye->Prop}(I:Inv (cxC X scope N s₀ H₀ ex) pins σ H s):Inv ((cxC X scope N s₀ H₀ ex pins).wish E) [] σ H s:=
 ⟨⟨I.ok.mod,I.ok.kind,I.ok.glob,I.ok.blt,I.ok.above,I.ok.inj,I.ok.has,I.ok.cab,I.ok.hd,I.ok.frames,I.ok.stk,I.ok.exf,I.ok.bs,I.ok.bsz,I.ok.noex,I.ok.exfs,I.ok.funs,I.ok.frf⟩,I.os,I.bare,I.base,I.loc,I.cell,I.free,I.freeC,
  λp hp=>I.pin p (show p∈[]++pins by simpa using(show p∈pins++[] from hp)),I.hok,I.len⟩
theorem inv_np{s₀:ye}{H₀:Hp}{pn:List (yc×Obj)}{E:yb->ye->Prop}(I:Inv ((cxC X scope N s₀ H₀ ex pn).wish E) pins σ H s):Inv (cxC X scope N s₀ H₀ ex) (pn++pins) σ H s:=
 ⟨⟨I.ok.mod,I.ok.kind,I.ok.glob,I.ok.blt,I.ok.above,I.ok.inj,I.ok.has,I.ok.cab,I.ok.hd,I.ok.frames,I.ok.stk,I.ok.exf,I.ok.bs,I.ok.bsz,I.ok.noex,I.ok.exfs,I.ok.funs,I.ok.frf⟩,I.os,I.bare,I.base,I.loc,I.cell,I.free,I.freeC,
  λp hp=>I.pin p (show p∈pn++pins from by simpa using(show p∈[]++(pn++pins) from hp)),I.hok,I.len⟩
end
theorem zjZ{prog:y6}{w:y0}{A:yD}{R:Result->ye->Prop}{s:ye}{elt target iter:yj}{ifs:List yj}{scope:yJ}{pos:Pos}{it acc:yb}{env:Env}(I:Nat->ye->Prop)
  (turn:∀n s,I n s->yi (ym prog w) A (j2 it) (λr s₁=>match r with
   |none=>R (.ok .next) s₁
   |some v=>yi (ym prog w) A (ybm target it v) (λ_ s₀=>yi (ym prog w) A (jI target env v) (λ_ s₂=>
     yi (ym prog w) A (forIn ifs true λc r=>if r=true then do let ok <- isTrue c env (yz c env);pure (ForInStep.yield ok) else pure (ForInStep.yield r)) (λok s₃=>
      if ok=true then yi (ym prog w) A (yz elt env) (λx s₄=>
       yi (ym prog w) A (call (.builtin "list.append") [acc,x]) (λ_ s₅=>∃m,m<n/\I m s₅) (jZ (ym prog w) A env λe s'=>R (.error e) s') s₄) (jZ (ym prog w) A env λe s'=>R (.error e) s') s₃
      else ∃m,m<n/\I m s₃) (jZ (ym prog w) A env λe s'=>R (.error e) s') s₂) (jZ (ym prog w) A env λe s'=>R (.error e) s') s₀) (jZ (ym prog w) A env λe s'=>R (.error e) s') s₁) (jZ (ym prog w) A env λe s'=>R (.error e) s') s)
  (n:Nat) (h:I n s):
  jQ (ym prog w) A (.compLoop (.ListComp elt [⟨target,iter,ifs,0⟩] scope pos) 0 it acc env) R s:=by
 refine codeAny_loop rfl I (λn s hI=>?_) n h
 show yi _ A ((compTurn (.ListComp elt [⟨target,iter,ifs,0⟩] scope pos) 0 it acc env).onRaise (λx=>do qR x env;theTreesLotGoes x)) _ _ s
 refine wpAny_noted ?_;rw[compTurn_list];refine yf (ybr (yf (yI (turn n s hI) (λr s₁ h₁=>?_) λ_ _ h'=>h')))
 cases r with
 |none=>exact yx h₁
 |some v=>
  refine yf (yI h₁ (λ_ s₀ h₀=>?_) λ_ _ h'=>h')
  refine yf (yI h₀ (λ_ s₂ h₂=>yf (yI h₂ (λok s₃ h₃=>?_) λ_ _ h'=>h')) λ_ _ h'=>h')
  cases ok with
  |false=>exact yx ⟨rfl,h₃⟩
  |true=>
   exact yf (yf (yI h₃ (λx s₄ h₄=>yf (yI h₄ (λ_ s₅ h₅=>yx (yx ⟨rfl,h₅⟩)) λ_ _ h'=>h')) λ_ _ h'=>h'))
def CT(X:Cx)(W:Str->Hp->Prop)(ifs:List yj)(dc:DT):Prop:=(ifs=[]/\dc=tT)\/∃c,ifs=[c]/\TV X W c dc
theorem YB{X:Cx}{W:Str->Hp->Prop}:CT X W [] tT:=.inl ⟨rfl,rfl⟩
theorem zeC{X:Cx}{W:Str->Hp->Prop}{c:yj}{dc:DT}(h:TV X W c dc):CT X W [c] dc:=.inr ⟨c,rfl,h⟩
section
variable {X:Cx}{scope:yJ}{N:List Str}{nv:Nat}{cap:List Nat}
theorem zlH{K:yh}{H H':Hp}{P P':Pv}{σ:L2.St}{G:List Sl}(h:Hol K H P σ G)(tr:Tr H P H' P')(ho:∀i,P'.own i=none)(hf:∀a,P'.fb a->∃o,H' a=some o/\LD o)(htb:Qm K H'):Hol K H' P' (sig nv cap σ) (y3 nv .emp++aD cap G) where
 sl:=λi s e=>by
  by_cases hi:i<nv
  ·rw[jK (by simpa using hi),qG,if_pos hi]at e
   cases e;trivial
  ·rw[jC (by simpa using hi)]at e
   have el:i - (y3 nv Sl.emp).length=i - nv:=by simp
   rw[el]at e;unfold aD at e;rw[jb]at e;cases ec:cap[i - nv]? with
   |none=>rw[ec]at e;cases e
   |some j=>
    rw[ec]at e;have es:(sig nv cap σ).getD i none=σ.getD j none:=by
     unfold sig;rw[y9,jC (by simpa using hi)]
     have el2:i - (y3 nv (none:Option V)).length=i - nv:=by simp
     rw[el2,jb,ec]
     rfl
    rw[es];simp only[yb6,jr.injEq]at e;cases eg:G[j]? with
    |none=>rw[eg]at e;subst e;trivial
    |some x=>
     rw[eg]at e;cases x with
     |emp=>subst e;trivial
     |own xs=>subst e;trivial
     |dct xs=>subst e;trivial
     |val t=>
      subst e;obtain⟨v,ev,rv⟩:=h.sl j _ eg;exact⟨v,ev,Rl.go tr t v rv⟩
 inj:=λi j a z _=>by rw[ho i]at z;cases z
 only:=λi a z=>by rw[ho i]at z;cases z
 fbd:=hf
 nfb:=λi a z=>by rw[ho i]at z;cases z
 len:=by simp[sig]
 tab:=htb
theorem zjO{K:yh}{H:Hp}{P:Pv}{σ:L2.St}{G1:List Sl}{C:List Sl}(hC:∀i,i<nv->∀s,C[i]? = some s->s=.emp)(hC2:∀(i:Nat) (x:Sl),C[i]? = some x->¬x.mine)(h:Hol K H P σ G1)(hl:G1.length=C.length)(he:∀i,nv<=i->G1[i]? = C[i]?):
  Hol K H P.bare σ C:=by
 obtain⟨h',g⟩:=h.az;refine⟨λi s e=>?_,λ_ _ _ z=>(by cases z),λ_ _ z=>(by cases z),h'.fbd,λ_ _ z=>(by cases z),by rw[h.len,hl],h'.tab⟩
 by_cases hi:i<nv
 ·rw[hC i hi s e];trivial
 ·have e1:G1[i]? = some s:=by rw[he i (by omega)];exact e
  cases s with
  |emp=>trivial
  |own xs=>exact(hC2 i _ e trivial).elim
  |dct xs=>exact(hC2 i _ e trivial).elim
  |val t=>
   refine h'.sl i (.val t) ?_;rw[Qx,e1];rfl
abbrev cxT(xz:Cx->yb->ye->Prop)(X:Cx)(scope:yJ)(N:List Str)(s₀:ye)(H₀:Hp)(ex:List yc)(pn:List (yc×Obj)):Cx:=(cxC X scope N s₀ H₀ ex pn).wish (xz (cxC X scope N s₀ H₀ ex pn))
theorem zjY{xz:Cx->yb->ye->Prop}{W:Str->Hp->Prop}{tg elt iter:yj}{ifs:List yj}{pos:Pos}{st:ya->List Sl->Res (List Sl)}{dc:DT}{de:DE}{pins:List (yc×Obj)}{σ:L2.St}{H2:Hp}{s3 s4:ye}{P:Pv}{G:List Sl}{J:It}{fp:List yc}{itA D:yc}{tn:Nat->yd->Prop}{ts:List ya}{r:Res (List ya)}{R:Result->ye->Prop}{m:Str->Option yb}
  (C:CompOk X scope N nv cap) (hc:X.calm=true) (hk:zg8 nv st)
  (hg:∀s₀ H₀ ex pn,GV (cxT xz X scope N s₀ H₀ ex pn) tg st) (ht:∀s₀ H₀ ex pn,(∀b∈ex,∃o,(b,o)∈pn)->CT (cxT xz X scope N s₀ H₀ ex pn) W ifs dc) (he:∀s₀ H₀ ex pn,(∀b∈ex,∃o,(b,o)∈pn)->EV (cxT xz X scope N s₀ H₀ ex pn) W elt de)
  (h2:Hol X.K H2 P σ G) (hD:H2 D=none) (I3:Inv X pins σ (upd H2 D (.lst [])) s3) (T:Turn X.prog X.w X.K tg J fp itA tn) (hf:∀b∈fp,FpOk X pins (upd H2 D (.lst [])) b/\b<s3.heap.objs.size) (y:Yld X.K J ts H2 P) (hlen:ts.length<=16777216)
  (hall:Xf st dc de (y3 nv .emp++aD cap G) ts=r) (hr:r≠.stuck) (hW:∀c,r=.exc c->∀H',Same H2 H'->W c H')
  (hn:s4.heap.Ns s3.heap.objs.size m) (hkp:∀b o,s3.heap.get? b=some o->s4.heap.get? b=some o) (e4:∃h' t,s4={ s3 with heap:=h',toks:=t }) (tn0:tn 0 s4.heap)
  (fin:∀s' H' σ' vs all,r=.ok all->Inv (cxC X scope N s3 (upd H2 D (.lst [])) fp) [] σ' H' s'->H' D=some (.lst vs)->Same H2 H'->Rls X.K H' (P.fbd D) all vs->R (.ok .next) s')
  (finx:∀pn e s',(∀b∈fp,∃o,(b,o)∈pn)->xz (cxC X scope N s3 (upd H2 D (.lst [])) fp pn) e s'->jZ (ym X.prog X.w) X.A (qt scope (YG X.env scope.names []) s3.heap.objs.size X.env) (λe s'=>R (.error e) s') e s'):
  jQ (ym X.prog X.w) X.A (.compStart (.ListComp elt [⟨tg,iter,ifs,0⟩] scope pos) 0 (.ref itA) (.ref D) (qt scope (YG X.env scope.names []) s3.heap.objs.size X.env)) R s4:=by
 obtain⟨h4,t4,rfl⟩:=e4;have J4:=C.start (t:=t4) I3 hf hn hkp
 -- what no element may hold
 have trc:∀H',Same H2 H'->(∃vs,H' D=some (.lst vs))->Tr H2 P H' ⟨λ_=>none,λa=>¬Off P a\/a=D⟩:=λH' s _ a o e n q=>⟨s.kp a o e n,λ_ z=>(by cases z),λz=>z.elim (λz=>z q) λz=>by rw[z,hD]at e;cases e⟩
 have offc:∀H',Same H2 H'->(∃vs,H' D=some (.lst vs))->∀p,H' p=none->Off ⟨λ_=>none,λa=>¬Off P a\/a=D⟩ p:=λH' s ⟨vs,hv⟩ p hp=>⟨λ_ z=>(by cases z),λz=>z.elim (λz=>z (h2.off_new (s.free hp))) λz=>by rw[z,hv]at hp;cases hp⟩
 have fbc:∀H',Same H2 H'->(∃vs,H' D=some (.lst vs))->∀a,(¬Off P a\/a=D)->∃o,H' a=some o/\LD o:=λH' s ⟨vs,hv⟩ a z=>z.elim (λz=>let⟨o,q,m⟩:=h2.ld z;⟨o,s.kp _ _ q m.nt,m⟩) λz=>by rw[z];exact⟨_,hv,.inl ⟨vs,rfl⟩⟩
 have hCe:∀i,i<nv->∀x,(y3 nv Sl.emp++aD cap G)[i]? = some x->x=.emp:=λi hi x e=>by
  rw[jK (by simpa using hi),qG,if_pos hi]at e
  cases e
  rfl
 have hCo:∀(i:Nat) xs,(y3 nv Sl.emp++aD cap G)[i]? = some xs->¬xs.mine:=λi xs e m=>by
  by_cases hi:i<nv
  ·rw[hCe i hi _ e]at m;exact m
  ·rw[jC (by simpa using hi)]at e
   unfold aD at e;rw[jb]at e;cases ec:cap[i - (y3 nv Sl.emp).length]? with
   |none=>rw[ec]at e;cases e
   |some j=>
    rw[ec]at e;simp only[yb6,jr.injEq]at e;subst e
    revert m
    cases eg:G[j]? with
    |none=>exact λm=>m
    |some x=>cases x<;>exact λm=>m
 have fpo:∀H',(∀b∈fp,H' b=none)->∀b∈fp,FpOk (cxC X scope N s3 (upd H2 D (.lst [])) fp) [] H' b:=λH' hz b hb=>by
  obtain⟨f,lt⟩:=hf b hb;refine⟨hz b hb,yU lt,λz=>?_,.inl hb,λx c e=>f.2.2.2.2.1 x c (JI X.env scope.names [] (C.has I3.ok) (λx c e=>by cases e) x c e),λp hp=>absurd (show p∈([]:List (yc×Obj)) from hp) (by simp)⟩
  rcases yG.mp (I3.stkSub b z) with e|e
  ·exact f.2.1 e
  ·exact f.2.2.1 e
 have up0:Same H2 (upd H2 D (.lst [])):=ZJ hD
 -- the loop
 have loop:∀s5:ye,s5={ s3 with heap:=h4,toks:=t4 }->jQ (ym X.prog X.w) X.A (.compLoop (.ListComp elt [⟨tg,iter,ifs,0⟩] scope pos) 0 (.ref itA) (.ref D) (qt scope (YG X.env scope.names []) s3.heap.objs.size X.env)) R s5:=by
  rintro s5 rfl
  refine zjZ (λn s=>∃i σ' H' vs ys,n=ts.length - i/\i<=ts.length/\Inv (cxC X scope N s3 (upd H2 D (.lst [])) fp) [] σ' H' s/\tn i s.heap/\(∀b∈fp,H' b=none)/\Same H2 H'/\H' D=some (.lst vs) /\
   Rls X.K H' ⟨λ_=>none,λa=>¬Off P a\/a=D⟩ ys vs/\Hol X.K H' ⟨λ_=>none,λa=>¬Off P a\/a=D⟩ σ' (y3 nv .emp++aD cap G)/\((Xf st dc de (y3 nv .emp++aD cap G) (ts.drop i)).bind λzs=>.ok (ys++zs))=r/\ys.length<=i) ?_ ts.length
   ⟨0,_,_,[],[],rfl,qi _,J4,tn0,λb hb=>(hf b hb).1.1,up0,Zw,Yy.mpr rfl,zlH h2 (trc _ up0 ⟨_,Zw⟩) (λ_=>rfl) (fbc _ up0 ⟨_,Zw⟩) (up0.tab _ h2.tab),by rw[List.drop_zero,hall];cases r<;>rfl,yu _⟩
  rintro n s ⟨i,σ',H',vs,ys,rfl,hi,Ji,tni,fpn,sm,hDv,rys,hol,ecl,hyl⟩
  obtain⟨y1,y2⟩:=y H' ⟨λ_=>none,λa=>¬Off P a\/a=D⟩ (trc H' sm ⟨vs,hDv⟩) (offc H' sm ⟨vs,hDv⟩) i
  by_cases hlt:i<ts.length
  ·have et:ts[i]? = some ts[i]:=by simp[hlt]
   obtain⟨go,yl⟩:=y1 _ et;rw[yd4 hlt]at ecl;unfold Xf at ecl
   -- the turn's own data
   obtain⟨G1,eG⟩:∃G1,st ts[i] (y3 nv .emp++aD cap G)=.ok G1:=by
    rcases zcI (st ts[i] (y3 nv .emp++aD cap G)) with ⟨G1,h⟩|h
    ·exact⟨G1,zlh h⟩
    ·rw[h]at ecl;exact absurd ecl.symm hr
   rw[eG,show noX (Res.ok G1:Res (List Sl))=.ok G1 from rfl,Res.bind_ok]at ecl;obtain⟨kl,ke⟩:=hk _ _ _ eG;refine yI (T.item (cxC X scope N s3 (upd H2 D (.lst [])) fp) rfl rfl rfl hc i [] s σ' H' (λ_ _=>False) Ji (fpo H' fpn) tni go) (λr' s1 hr'=>?_) λ_ _ z=>z.elim
   obtain⟨u,rfl,hr'⟩:=hr';refine yI hr' (λ_ s2 hr2=>?_) λ_ _ z=>z.elim
   obtain⟨x,H5,J5,r5,y5,tn5,fr5⟩:=hr2;obtain⟨sm5,rl5⟩:=yl x H5 y5;have J5':Inv (cxT xz X scope N s3 (upd H2 D (.lst [])) fp (VN fp s2.heap)) [] σ' H5 s2:=inv_pn (J5.pinned (fpo H5 fr5) (T.obj _ _ tn5));have pnn:∀b∈fp,∃o,(b,o)∈VN fp s2.heap:=λb hb=>by
    obtain⟨o,e,_⟩:=T.obj _ _ tn5 b hb;exact⟨o,JA hb e⟩
   have finx':=λe s'=>finx (VN fp s2.heap) e s' pnn
   obtain⟨g,pg,gp⟩:=hg s3 (upd H2 D (.lst [])) fp (VN fp s2.heap);have hol5:=hol.same sm5;refine yI (pg _ s2 σ' H5 x u (λσ6 H6=>H6=H5/\∃P6,Go H5 ⟨λ_=>none,λa=>¬Off P a\/a=D⟩ H5 P6/\Hol X.K H5 P6 σ6 G1) J5' r5 (gp ts[i] x σ' H5 _ _ _ hol5 rl5 ⟨G1,eG,λσ6 P6 g6 h6=>⟨rfl,P6,g6,h6⟩⟩)) (λ_ s6 h6=>?_) finx'
   obtain⟨σ6,H6,J6,rfl,P6,g6,hol6⟩:=h6
   -- on to the next turn
   have fr6:∀{H8:Hp}{s8:ye},Inv (cxT xz X scope N s3 (upd H2 D (.lst [])) fp (VN fp s2.heap)) [] σ6 H8 s8->∀b∈fp,H8 b=none:=λ{H8 s8} J8 b hb=>by
    obtain⟨o,e⟩:=pnn b hb;exact(J8.pin (b,o) (yad _ e)).2.1
   have next:∀{H8:Hp}{s8:ye}{ys':List ya}{vs':List V},Inv (cxT xz X scope N s3 (upd H2 D (.lst [])) fp (VN fp s2.heap)) [] σ6 H8 s8->Same H2 H8->H8 D=some (.lst vs')->(∀b,b≠D->∀o,H6 b=some o->Nt o->H8 b=some o) ->
     Rls X.K H8 ⟨λ_=>none,λa=>¬Off P a\/a=D⟩ ys' vs'->((Xf st dc de (y3 nv .emp++aD cap G) (ts.drop (i+1))).bind λzs=>.ok (ys'++zs))=r->ys'.length<=i+1 ->
     ∃m,m<ts.length - i/\∃i σ' H' vs ys,m=ts.length - i/\i<=ts.length/\Inv (cxC X scope N s3 (upd H2 D (.lst [])) fp) [] σ' H' s8/\tn i s8.heap/\(∀b∈fp,H' b=none)/\Same H2 H'/\H' D=some (.lst vs) /\
      Rls X.K H' ⟨λ_=>none,λa=>¬Off P a\/a=D⟩ ys vs/\Hol X.K H' ⟨λ_=>none,λa=>¬Off P a\/a=D⟩ σ' (y3 nv .emp++aD cap G)/\((Xf st dc de (y3 nv .emp++aD cap G) (ts.drop i)).bind λzs=>.ok (ys++zs))=r/\ys.length<=i:=by
    intro H8 s8 ys' vs' J8 sm8 hD8 kp8 rys8 ecl8 hyl8;refine⟨ts.length - (i+1),by omega,i+1,σ6,H8,vs',ys',rfl,hlt,Inv.unpinned (pins:=[]) (pl:=VN fp s2.heap) (by simpa using inv_np J8),?_,fr6 J8,sm8,hD8,rys8,?_,ecl8,hyl8⟩
    ·exact T.keep _ _ _ tn5 λb hb o e=>(J8.pin (b,o) (yad _ (JA hb e))).1
    ·have hF:Hol X.K H6 P6.bare σ6 (y3 nv .emp++aD cap G):=zjO hCe hCo hol6 kl ke;have ep:P6.bare=⟨λ_=>none,λa=>¬Off P a\/a=D⟩:=by
      unfold Pv.bare;rw[g6.fbe]
     rw[ep]at hF;have tr8:Tr H6 ⟨λ_=>none,λa=>¬Off P a\/a=D⟩ H8 ⟨λ_=>none,λa=>¬Off P a\/a=D⟩:=λa o e n q=>⟨kp8 a (λz=>q.2 (yC z)) o e n,q⟩
     refine⟨λj x e=>?_,λ_ _ _ z=>(by cases z),λ_ _ z=>(by cases z),fbc H8 sm8 ⟨vs',hD8⟩,λ_ _ z=>(by cases z),hF.len,sm8.tab _ h2.tab⟩
     have z:=hF.sl j x e;cases x with
     |emp=>trivial
     |val t=>obtain⟨v,e1,r1⟩:=z;exact⟨v,e1,Rl.go tr8 t v r1⟩
     |own xs=>exact(hCo j _ e trivial).elim
     |dct xs=>exact(hCo j _ e trivial).elim
   have sm6:Same H2 H6:=sm.trans sm5
   -- behind the test
   have after:∀k s7 H7,Inv (cxT xz X scope N s3 (upd H2 D (.lst [])) fp (VN fp s2.heap)) [] σ6 H7 s7->Same H6 H7->dc G1=.ok k->(if k=true then yi (ym X.prog X.w) X.A (yz elt (qt scope (YG X.env scope.names []) s3.heap.objs.size X.env)) (λx s₄=>
      yi (ym X.prog X.w) X.A (call (.builtin "list.append") [.ref D,x]) (λ_ s₅=>∃m,m<ts.length - i/\∃i σ' H' vs ys,m=ts.length - i/\i<=ts.length/\Inv (cxC X scope N s3 (upd H2 D (.lst [])) fp) [] σ' H' s₅/\tn i s₅.heap/\(∀b∈fp,H' b=none)/\Same H2 H'/\H' D=some (.lst vs) /\
      Rls X.K H' ⟨λ_=>none,λa=>¬Off P a\/a=D⟩ ys vs/\Hol X.K H' ⟨λ_=>none,λa=>¬Off P a\/a=D⟩ σ' (y3 nv .emp++aD cap G)/\((Xf st dc de (y3 nv .emp++aD cap G) (ts.drop i)).bind λzs=>.ok (ys++zs))=r/\ys.length<=i) (jZ (ym X.prog X.w) X.A (qt scope (YG X.env scope.names []) s3.heap.objs.size X.env) λe s'=>R (.error e) s') s₄) (jZ (ym X.prog X.w) X.A (qt scope (YG X.env scope.names []) s3.heap.objs.size X.env) λe s'=>R (.error e) s') s7
     else ∃m,m<ts.length - i/\∃i σ' H' vs ys,m=ts.length - i/\i<=ts.length/\Inv (cxC X scope N s3 (upd H2 D (.lst [])) fp) [] σ' H' s7/\tn i s7.heap/\(∀b∈fp,H' b=none)/\Same H2 H'/\H' D=some (.lst vs) /\
      Rls X.K H' ⟨λ_=>none,λa=>¬Off P a\/a=D⟩ ys vs/\Hol X.K H' ⟨λ_=>none,λa=>¬Off P a\/a=D⟩ σ' (y3 nv .emp++aD cap G)/\((Xf st dc de (y3 nv .emp++aD cap G) (ts.drop i)).bind λzs=>.ok (ys++zs))=r/\ys.length<=i):=by
    intro k s7 H7 J7 sm7 eK;rw[eK,Res.bind_ok]at ecl;have sm27:Same H2 H7:=sm6.trans sm7;have hD7:H7 D=some (.lst vs):=sm7.kp _ _ (sm5.kp _ _ hDv zaG) zaG;have r7:Rls X.K H7 ⟨λ_=>none,λa=>¬Off P a\/a=D⟩ ys vs:=Rls.go (.same (sm5.trans sm7)) ys vs rys
    cases k with
    |false=>
     rw[if_neg jy]at ecl ⊢;exact next J7 sm27 hD7 (λb _ o e n=>sm7.kp b o e n) r7 ecl (by omega)
    |true=>
     rw[if_pos rfl]at ecl ⊢;cases eY:de G1 with
     |stuck=>rw[eY]at ecl;exact absurd ecl.symm hr
     |exc c=>
      rw[eY]at ecl;refine yI (he s3 (upd H2 D (.lst [])) fp (VN fp s2.heap) pnn _ s7 σ6 H7 (λ_ _=>False) J7 ⟨G1,P6,hol6.same sm7,by rw[eY];exact λH8 s8=>hW c ecl.symm H8 (sm27.trans s8)⟩) (λxv s8 h8=>?_) finx'
      obtain⟨_,_,_,_,z⟩:=h8;exact z.elim
     |ok yv=>
      rw[eY,Res.bind_ok]at ecl;refine yI (he s3 (upd H2 D (.lst [])) fp (VN fp s2.heap) pnn _ s7 σ6 H7 (λv H8=>Same H7 H8/\Rl X.K H8 P6 yv v) J7 ⟨G1,P6,hol6.same sm7,by rw[eY];exact λv H8 s r=>⟨s,r⟩⟩) (λxv s8 h8=>?_) finx'
      obtain⟨v8,H8,J8,r8,sm8,rl8⟩:=h8;have hD8:H8 D=some (.lst vs):=sm8.kp _ _ hD7 zaG;have lv:=rys.length;have tr6:Tr H8 P6 H8 ⟨λ_=>none,λa=>¬Off P a\/a=D⟩:=λa o e _ q=>⟨e,λ_ z=>(by cases z),by rw[<- g6.fbe];exact q.2⟩
      refine yI (zgs (X:=cxT xz X scope N s3 (upd H2 D (.lst [])) fp (VN fp s2.heap)) _ s8 σ6 H8 (.ref D) [v8] (.ref D) [xv] (λw H9=>H9=upd H8 D (.lst (vs++[v8]))) J8 rfl (.cons r8 .nil) ⟨D,vs,v8,rfl,rfl,hD8,by rw[j6];omega,rfl⟩) (λ_ s9 h9=>?_) finx'
      obtain⟨_,H9,J9,_,rfl⟩:=h9;have trD:Tr H8 ⟨λ_=>none,λa=>¬Off P a\/a=D⟩ (upd H8 D (.lst (vs++[v8]))) ⟨λ_=>none,λa=>¬Off P a\/a=D⟩:=λa o e _ q=>⟨by rw[Zu (λz=>q.2 (yC z))];exact e,q⟩
      have smD:Same H2 (upd H8 D (.lst (vs++[v8]))):=(sm27.trans sm8).updL hD hD8;refine next J9 smD Zw (λb hb o e n=>by rw[Zu hb];exact sm8.kp b o (sm7.kp b o e n) n) (Rls.append (Rls.go trD ys vs (Rls.go (.same sm8) ys vs r7)) (ZY.mpr ⟨v8,[],rfl,Rl.go trD yv v8 (Rl.go tr6 yv v8 rl8),Yy.mpr rfl⟩)) ?_ (by simp;omega)
      rw[<- ecl];cases Xf st dc de (y3 nv .emp++aD cap G) (ts.drop (i+1))<;>simp
   rcases ht s3 (upd H2 D (.lst [])) fp (VN fp s2.heap) pnn with ⟨rfl,rfl⟩|⟨cx,rfl,tvc⟩
   ·exact wpAny_tests_nil (after true s6 H6 J6 (Same.refl _) rfl)
   ·cases eK:dc G1 with
    |stuck=>rw[eK]at ecl;exact absurd ecl.symm hr
    |exc c=>
     rw[eK]at ecl;refine wpAny_tests_one (yI (tvc _ s6 σ6 H6 (λ_ _=>False) J6 ⟨G1,P6,hol6,by rw[eK];exact λH7 s=>hW c ecl.symm H7 (sm6.trans s)⟩) (λb s7 h7=>?_) finx')
     obtain⟨_,_,z⟩:=h7;exact z.elim
    |ok k=>
     refine wpAny_tests_one (yI (tvc _ s6 σ6 H6 (λb H7=>b=k/\Same H6 H7) J6 ⟨G1,P6,hol6,by rw[eK];exact λH7 s=>⟨rfl,s⟩⟩) (λb s7 h7=>?_) finx')
     obtain⟨H7,J7,rfl,sm7⟩:=h7;exact after b s7 H7 J7 sm7 eK
  ·have ei:i=ts.length:=by omega
   subst ei;rw[List.drop_length]at ecl;have ecl':r=.ok ys:=by rw[<- ecl];simp[Xf]
   refine yI (T.done (cxC X scope N s3 (upd H2 D (.lst [])) fp) rfl rfl rfl hc _ [] s σ' H' (λ_ _=>False) Ji (fpo H' fpn) tni (y2 (yu _))) (λr' s1 hr'=>?_) λ_ _ z=>z.elim
   obtain⟨rfl,J1⟩:=hr';have trf:Tr H' ⟨λ_=>none,λa=>¬Off P a\/a=D⟩ H' (P.fbd D):=λa o e _ q=>by
    have o1:Off P a:=js λz=>q.2 (yg z)
    exact⟨e,o1.1,λz=>z.elim o1.2 λz=>q.2 (yC z)⟩
   exact fin s1 H' σ' vs ys ecl' J1 hDv sm (Rls.go trf ys vs rys)
 exact codeAny_compStart_list (loop _ rfl) (T.self _ 0 _ _ _ tn0 (loop _ rfl))
end
theorem zi9{a:Res (List ya)}{f:List ya->Res (List ya)}{K:yh}{W:Str->Hp->Prop}{H:Hp}{P:Pv}{Q:VK}(q:zhU K W H P (a.bind f) Q):
  (∀c,a=.exc c->∀H',Same H H'->W c H')/\a≠.stuck/\∀t,a=.ok t->zhU K W H P (f t) Q:=by
 cases a with
 |ok t=>exact⟨λc e=>(by cases e),(by intro e;cases e),λt' e=>by cases e;exact q⟩
 |exc c=>exact⟨λc' e=>by cases e;exact q,(by intro e;cases e),λt e=>by cases e⟩
 |stuck=>exact q.elim
theorem zeG{a:Res ya}{f:ya->Res (List ya)}{K:yh}{W:Str->Hp->Prop}{H:Hp}{P:Pv}{Q:VK}(q:zhU K W H P (a.bind f) Q):
  (∀c,a=.exc c->∀H',Same H H'->W c H')/\a≠.stuck/\∀t,a=.ok t->zhU K W H P (f t) Q:=by
 cases a with
 |ok t=>exact⟨λc e=>(by cases e),(by intro e;cases e),λt' e=>by cases e;exact q⟩
 |exc c=>exact⟨λc' e=>by cases e;exact q,(by intro e;cases e),λt e=>by cases e⟩
 |stuck=>exact q.elim
def zhX(X:Cx)(scope:yJ)(N:List Str)(xz:Cx->yb->ye->Prop):Prop:=
 ∀(pins:List (yc×Obj)) (σ:L2.St) (H3:Hp) (s3:ye) (fp:List yc) (pn:List (yc×Obj)) (e:yb) (s':ye),Inv X pins σ H3 s3->(∀b∈fp,FpOk X pins H3 b/\b<s3.heap.objs.size)->(∀b∈fp,∃o,(b,o)∈pn) ->
  xz (cxC X scope N s3 H3 fp pn) e s'->jZ (ym X.prog X.w) X.A (qt scope (YG X.env scope.names []) s3.heap.objs.size X.env) (λx s'=>∃m,s'.heap.Ns s3.heap.objs.size m/\∀h',qz s3.heap.objs.size s'.heap h'->∀cenv:Env,cenv.locals=s3.heap.objs.size ->
   yi (ym X.prog X.w) X.A (PySem.passOn "comprehension.variables-let-go" x cenv:Sem yb) (λ_ _=>False) X.xe { s' with heap:=h' }) e s'
theorem Yq{X:Cx}{scope:yJ}{N:List Str}:zhX X scope N (λ_ _ _=>False):=λ_ _ _ _ _ _ _ _ _ _ _ h=>h.elim
section
variable {X:Cx}{W:Str->Hp->Prop}{fl:Bool}{scope:yJ}{N:List Str}{nv:Nat}{cap:List Nat}{tg elt iter:yj}{ifs:List yj}{pos:Pos}{st:ya->List Sl->Res (List Sl)}{it:DA}{dc:DT}{de:DE}{xz:Cx->yb->ye->Prop}
theorem zi4{pins:List (yc×Obj)}{σ:L2.St}{H:Hp}{s:ye}{P:Pv}{G:List Sl}{use:Option (yb->Sem Unit)}{Q:yb->ye->Prop}{pos':Pos}
  (C:CompOk X scope N nv cap) (hc:X.calm=true) (hk:zg8 nv st) (hi:IV X W tg iter it)
  (hX:zhX X scope N xz) (hg:∀s₀ H₀ ex pn,GV (cxT xz X scope N s₀ H₀ ex pn) tg st) (ht:∀s₀ H₀ ex pn,(∀b∈ex,∃o,(b,o)∈pn)->CT (cxT xz X scope N s₀ H₀ ex pn) W ifs dc) (he:∀s₀ H₀ ex pn,(∀b∈ex,∃o,(b,o)∈pn)->EV (cxT xz X scope N s₀ H₀ ex pn) W elt de)
  (I:Inv X pins σ H s) (h:Hol X.K H P σ G)
  (hx:∀c,it G=.exc c->∀H',Same H H'->W c H') (hs0:it G≠.stuck)
  (fin:∀ts,it G=.ok ts->ts.length<=16777216/\Xf st dc de (y3 nv .emp++aD cap G) ts≠.stuck/\(∀c,Xf st dc de (y3 nv .emp++aD cap G) ts=.exc c->∀H',Same H H'->W c H')/\∀all,Xf st dc de (y3 nv .emp++aD cap G) ts=.ok all ->
   ∀D vs H' s' c,Inv X pins σ H' s'->FpOk X pins H' c->(∃m,s'.heap.Ns c m)->(X.env.locals≠c/\∀x a,X.env.cells.lookup x=some a->a≠c)->Same H H'->H D=none->H' D=some (.lst vs)->Rls X.K H' (P.fbd D) all vs ->
    compPost (ym X.prog X.w) X.A X.xe use Q (.ref D) c (.ok .next) s')
  (hs:∀x,qF iter X.env x=pure x:=by intro _;rfl):
  yi (ym X.prog X.w) X.A (comprehension (.ListComp elt [⟨tg,iter,ifs,0⟩] scope pos) scope X.env pos' (newList []) false (yz iter X.env) use) Q X.xe s:=by
 refine wpAny_comprehension_free rfl hs (za7 (C.has I.ok)) C.kind C.names (yI (hi pins s σ H (λJ H'=>Same H H'/\∃ts,it G=.ok ts/\Yld X.K J ts H' P) I ⟨G,P,h,?_⟩) (λv s1 h1=>yI h1 (λitv s2 h2=>?_) λ_ _ z=>z) λ_ _ z=>z)
 ·cases e:it G with
  |ok ts=>exact λJ H' s y=>⟨s,ts,rfl,y⟩
  |exc c=>exact hx c e
  |stuck=>exact absurd e hs0
 obtain⟨itA,fp,tn,J,H2,rfl,I2,T,tn0,f2,sm2,ts,ets,y⟩:=h2;obtain⟨hlen,hns,hex,fin⟩:=fin ts ets;have hD:H2 s2.heap.objs.size=none:=I2.hok.fresh (yu _);refine jT (wpAny_newFunctionEnv C.cell (by intro y hy;simp at hy) (λh₁ hns₁ hsb₁=>?_) C.kind)
 have I3:Inv X pins σ (upd H2 s2.heap.objs.size (.lst [])) { s2 with heap:=s2.heap.push { cls:=.type "list",dict:=none,data:=.seq ([]:List yb).toArray } }:=
  I2.laid (t':=s2.toks) (λb u e=>yA _ e) (yu _) ⟨by show 0<=y7;exact qi _,[],0,.nil,yO _ rfl⟩
 have sz:(s2.heap.push { cls:=.type "list",dict:=none,data:=.seq ([]:List yb).toArray }).objs.size=s2.heap.objs.size+1:=qr _ _;have hf3:∀b∈fp,FpOk X pins (upd H2 s2.heap.objs.size (.lst [])) b/\b<(s2.heap.push { cls:=.type "list",dict:=none,data:=.seq ([]:List yb).toArray }).objs.size:=λb hb=>by
  obtain⟨o,ho,_⟩:=T.obj 0 _ tn0 b hb;have lt:=yF ho;obtain⟨a1,a2⟩:=f2 b hb;exact⟨⟨by rw[Zu (yU lt)];exact a1,a2⟩,by rw[sz];exact ydh lt⟩
 have kp:∀b o,(s2.heap.push { cls:=.type "list",dict:=none,data:=.seq ([]:List yb).toArray }).get? b=some o->h₁.get? b=some o:=λb o e=>
  hsb₁.extBut b o (yU (yF e)) (yA _ e)
 have tn3:tn 0 h₁:=T.keep 0 _ _ tn0 λb _ o e=>kp b o (yA _ e)
 refine zjY (s3:={ s2 with heap:=s2.heap.push { cls:=.type "list",dict:=none,data:=.seq ([]:List yb).toArray } }) (D:=s2.heap.objs.size) C hc hk hg ht he (h.same sm2) hD I3 T hf3 y hlen rfl hns (λc ec H' sm=>hex c ec H' (sm2.trans sm)) hns₁ kp ⟨h₁,_,rfl⟩ tn3 (λs' H' σ' vs all hall J' hl sm r=>?_) λpn e s' pnn hx=>hX pins σ _ _ fp pn e s' I3 hf3 pnn hx
 have IX:=CompOk.stop I3 (λb hb=>(hf3 b hb).1) J'
 have fo:FpOk X pins H' (s2.heap.push { cls:=.type "list",dict:=none,data:=.seq ([]:List yb).toArray }).objs.size:=I3.fpOk (yu _) J'.free;obtain⟨m,hm,_⟩:=J'.loc;exact fin all hall _ vs H' s' _ IX fo ⟨m,hm⟩ ⟨Ne.symm fo.2.1,λx a e=>fo.2.2.2.2.1 x a e⟩ (sm2.trans sm) (sm2.free hD) hl r
theorem atC{pins:List (yc×Obj)}{σ:L2.St}{H:Hp}{s:ye}{c:yc}{h':yd}(I:Inv X pins σ H s)(f:FpOk X pins H c)(hs:qz c s.heap h'):Inv X pins σ H { s with heap:=h' }:=
 I.turned (t':=s.toks) (λb o hb e=>(hs.2 b hb).trans e) f.1 f.2.1 f.2.2.2.1 f.2.2.2.2.1 f.2.2.2.2.2
theorem Xp(C:CompOk X scope N nv cap)(hc:X.calm=true)(hk:zg8 nv st)(hi:IV X W tg iter it)
  (hX:zhX X scope N xz) (hg:∀s₀ H₀ ex pn,GV (cxT xz X scope N s₀ H₀ ex pn) tg st) (ht:∀s₀ H₀ ex pn,(∀b∈ex,∃o,(b,o)∈pn)->CT (cxT xz X scope N s₀ H₀ ex pn) W ifs dc) (he:∀s₀ H₀ ex pn,(∀b∈ex,∃o,(b,o)∈pn)->EV (cxT xz X scope N s₀ H₀ ex pn) W elt de)
  (hs:∀x,qF iter X.env x=pure x:=by intro _;rfl):OV X W (.ListComp elt [⟨tg,iter,ifs,0⟩] scope pos) (Y4 nv cap st it dc de):=by
 intro pins s σ H Q I ⟨G,P,h,q⟩;unfold Y4 at q;obtain⟨q1,q2,q3⟩:=zi9 q;rw[eval_ListComp];refine zi4 (use:=none) C hc hk hi hX hg ht he I h q1 q2 (λts ets=>?_) hs
 have q4:=q3 ts ets;split at q4
 ·rename_i hl;cases e:Xf st dc de (y3 nv .emp++aD cap G) ts with
  |stuck=>rw[e]at q4;exact q4.elim
  |exc c=>rw[e]at q4;exact⟨hl,λz=>(by cases z),λc' z=>by cases z;exact q4,λall z=>by cases z⟩
  |ok all=>
   rw[e]at q4;refine⟨hl,λz=>(by cases z),λc z=>(by cases z),λall' z D vs H' s' c IX fo hm hne sm hD hl r=>?_⟩
   cases z;obtain⟨m,hm⟩:=hm;exact⟨m,hm,λh' hsb=>⟨.ref D,H',atC IX fo hsb,rfl,q4 D vs H' sm hD hl r⟩⟩
 ·exact q4.elim
theorem YK{e:yj}{d:DA}(h:OV X W e d):EV X W e (dL d):=
 Z7 h λσ H Q ⟨G,P,hh,q⟩=>by
  refine⟨G,P,hh,?_⟩;unfold dL at q;cases e:d G with
  |stuck=>rw[e]at q;exact q.elim
  |exc c=>rw[e]at q;exact q
  |ok xs=>rw[e]at q;exact λp vs H' s hp hl r=>q _ H' s (rl_new hh s hp hl r)
theorem zcr{e:yj}{d:DA}{i:Nat}{x:Str}{is:List Nat}{pos':Pos}(hN:X.N.Nodup)(hi:X.N[i]? = some x)(hx:Loc X.env.scope x)(he:OV X W e d)(hs:jz e (some (.Name x pos')) pos.line X.env=pure false:=by rfl)
  (hf:X.fn x=true\/X.env.scope.names.lookup x=some .local:=by first|exact .inl rfl|exact .inr rfl|assumption):SV X W fl (.Assign [.Name x pos'] e pos) (zan i is d):=
 X9 (zkU hN hi hx he hs hf) λD σ H ⟨G,P,h,q⟩=>by
  unfold zan at q;obtain⟨P1,h1,g⟩:=h.frz is;obtain⟨q1,q2,q3⟩:=zmo q;refine⟨frz is G,P1,h1,?_⟩;cases e:d (frz is G) with
  |stuck=>exact absurd e q2
  |exc c=>exact λH' s=>q1 c e H' P1 (g.trans (.same s))
  |ok xs=>
   have q4:=q3 xs e;intro p vs H' s hp hl r;split at q4
   ·rename_i hlt;have hlt':i<(frz is G).length:=by rw[<- h1.len,h.len];exact hlt
    obtain⟨h2,g2⟩:=h1.own' hlt' s hp hl r;exact q4 _ H' _ (g.trans g2) h2
   ·exact q4.elim
theorem zf8{i:Nat}{x:Str}{pos':Pos}{d:DS}(C:CompOk X scope N nv cap)(hc:X.calm=true)(hk:zg8 nv st)(hi:IV X W tg iter it)
  (hX:zhX X scope N xz) (hg:∀s₀ H₀ ex pn,GV (cxT xz X scope N s₀ H₀ ex pn) tg st) (ht:∀s₀ H₀ ex pn,(∀b∈ex,∃o,(b,o)∈pn)->CT (cxT xz X scope N s₀ H₀ ex pn) W ifs dc) (he:∀s₀ H₀ ex pn,(∀b∈ex,∃o,(b,o)∈pn)->EV (cxT xz X scope N s₀ H₀ ex pn) W elt de)
  (hN:X.N.Nodup) (hix:X.N[i]? = some x) (hx:Loc X.env.scope x) {spos:Pos}(hsw:jz (.ListComp elt [⟨tg,iter,ifs,0⟩] scope pos) (some (.Name x pos')) spos.line X.env=pure true)
  (hs:∀x,qF iter X.env x=pure x) (hf:X.fn x=true\/X.env.scope.names.lookup x=some .local)
  (hd:∀D σ H,tFS X.K W fl d D σ H->∃G P,Hol X.K H P σ G/\(∀c,it G=.exc c->∀H',Same H H'->W c H')/\it G≠.stuck/\∀ts,it G=.ok ts->ts.length<=16777216/\Xf st dc de (y3 nv .emp++aD cap G) ts≠.stuck/\(∀c,Xf st dc de (y3 nv .emp++aD cap G) ts=.exc c->∀H',Same H H'->W c H')/\∀all,Xf st dc de (y3 nv .emp++aD cap G) ts=.ok all ->
   ∀p vs H',Same H H'->H p=none->H' p=some (.lst vs)->Rls X.K H' (P.fbd p) all vs->D.nx (σ.set i (some (.ref p))) H'):SV X W fl (.Assign [.Name x pos'] (.ListComp elt [⟨tg,iter,ifs,0⟩] scope pos) spos) d:=by
 intro pins s σ H D I hq;obtain⟨G,P,h,q1,q2,q3⟩:=hd D σ H hq;rw[exec_Assign_Name_used _ _ _ _ hsw];refine yf (ybr (yf ?_));show yi _ X.A (do let _ <- comprehension (.ListComp elt [⟨tg,iter,ifs,0⟩] scope pos) scope X.env _ (newList []) false (yz iter X.env) (some (jI (.Name x pos') X.env))) _ _ s
 refine yf (yI (zi4 (use:=some (jI (.Name x pos') X.env)) (Q:=λ_ s'=>SP X pins D .next s') C hc hk hi hX hg ht he I h q1 q2 (λts ets=>?_) hs) (λ_ s' hq=>yx (yx hq)) λ_ _ e=>e)
 obtain⟨hl,n1,n2,q4⟩:=q3 ts ets;refine⟨hl,n1,n2,λall hall p vs H' s' c IX fo hm hne sm hp hl r=>?_⟩
 obtain⟨m,hm⟩:=hm;show yi _ X.A (jI (.Name x pos') X.env (.ref p)) _ _ _;refine wpAny_assign_Name (zf3 IX hN hix hx (v:=.ref p) rfl (λs'' I'' ch=>?_) hf)
 obtain⟨a,hsb,ha⟩:=ch;have hca:c≠a:=by
  rcases ha with rfl|ha
  ·exact Ne.symm hne.1
  ·exact Ne.symm (hne.2 x a ha)
 refine⟨m,hm.sameBut hsb hca,λh' hs'=>⟨_,H',atC I'' fo hs',q4 all hall p vs H' sm hp hl r⟩⟩
theorem UL{i:Nat}{x:Str}{is:List Nat}{pos' spos:Pos}(C:CompOk X scope N nv cap)(hc:X.calm=true)(hk:zg8 nv st)(hi:IV X W tg iter it)
  (hX:zhX X scope N xz) (hg:∀s₀ H₀ ex pn,GV (cxT xz X scope N s₀ H₀ ex pn) tg st) (ht:∀s₀ H₀ ex pn,(∀b∈ex,∃o,(b,o)∈pn)->CT (cxT xz X scope N s₀ H₀ ex pn) W ifs dc) (he:∀s₀ H₀ ex pn,(∀b∈ex,∃o,(b,o)∈pn)->EV (cxT xz X scope N s₀ H₀ ex pn) W elt de)
  (hN:X.N.Nodup) (hix:X.N[i]? = some x) (hx:Loc X.env.scope x) (hsw:jz (.ListComp elt [⟨tg,iter,ifs,0⟩] scope pos) (some (.Name x pos')) spos.line X.env=pure true:=by rfl)
  (hs:∀x,qF iter X.env x=pure x:=by intro _;rfl) (hf:X.fn x=true\/X.env.scope.names.lookup x=some .local:=by first|exact .inl rfl|exact .inr rfl|assumption):
  SV X W fl (.Assign [.Name x pos'] (.ListComp elt [⟨tg,iter,ifs,0⟩] scope pos) spos) (aj i is (dL (Y4 nv cap st it dc de))):=
 zf8 C hc hk hi hX hg ht he hN hix hx hsw hs hf λD σ H ⟨G,P,h,q⟩=>by
  unfold aj dL Y4 at q;obtain⟨P1,h1,g⟩:=h.frz is;refine⟨frz is G,P1,h1,?_⟩;cases e:it (frz is G) with
  |stuck=>rw[e]at q;exact q.elim
  |exc c=>rw[e]at q;exact⟨λc' ec H' s=>by cases ec;exact q H' P1 (g.trans (.same s)),(by intro z;cases z),λts z=>by cases z⟩
  |ok ts=>
   refine⟨λc' ec=>(by cases ec),(by intro z;cases z),λts' z=>?_⟩
   cases z;rw[e,Res.bind_ok]at q;split at q
   ·rename_i hl;refine⟨hl,?_⟩;cases e2:Xf st dc de (y3 nv .emp++aD cap (frz is G)) ts with
    |stuck=>rw[e2]at q;exact q.elim
    |exc c=>rw[e2]at q;exact⟨λz=>(by cases z),λc' z H' s=>by cases z;exact q H' P1 (g.trans (.same s)),λall z=>by cases z⟩
    |ok all=>
     rw[e2]at q;refine⟨λz=>(by cases z),λc z=>(by cases z),λall' z p vs H' s hp hl r=>?_⟩
     cases z;have h2:=(h1.same s).setVal i (rl_new h1 s hp hl r);exact q _ H' _ (g.trans ((Go.same s).trans .del)) h2
   ·exact q.elim
theorem zcd{i:Nat}{x:Str}{is:List Nat}{pos' spos:Pos}(C:CompOk X scope N nv cap)(hc:X.calm=true)(hk:zg8 nv st)(hi:IV X W tg iter it)
  (hX:zhX X scope N xz) (hg:∀s₀ H₀ ex pn,GV (cxT xz X scope N s₀ H₀ ex pn) tg st) (ht:∀s₀ H₀ ex pn,(∀b∈ex,∃o,(b,o)∈pn)->CT (cxT xz X scope N s₀ H₀ ex pn) W ifs dc) (he:∀s₀ H₀ ex pn,(∀b∈ex,∃o,(b,o)∈pn)->EV (cxT xz X scope N s₀ H₀ ex pn) W elt de)
  (hN:X.N.Nodup) (hix:X.N[i]? = some x) (hx:Loc X.env.scope x) (hsw:jz (.ListComp elt [⟨tg,iter,ifs,0⟩] scope pos) (some (.Name x pos')) spos.line X.env=pure true:=by rfl)
  (hs:∀x,qF iter X.env x=pure x:=by intro _;rfl) (hf:X.fn x=true\/X.env.scope.names.lookup x=some .local:=by first|exact .inl rfl|exact .inr rfl|assumption):
  SV X W fl (.Assign [.Name x pos'] (.ListComp elt [⟨tg,iter,ifs,0⟩] scope pos) spos) (zan i is (Y4 nv cap st it dc de)):=
 zf8 C hc hk hi hX hg ht he hN hix hx hsw hs hf λD σ H ⟨G,P,h,q⟩=>by
  unfold zan Y4 at q;obtain⟨P1,h1,g⟩:=h.frz is;refine⟨frz is G,P1,h1,?_⟩;cases e:it (frz is G) with
  |stuck=>rw[e]at q;exact q.elim
  |exc c=>rw[e]at q;exact⟨λc' ec H' s=>by cases ec;exact q H' P1 (g.trans (.same s)),(by intro z;cases z),λts z=>by cases z⟩
  |ok ts=>
   refine⟨λc' ec=>(by cases ec),(by intro z;cases z),λts' z=>?_⟩
   cases z;rw[e,Res.bind_ok]at q;split at q
   ·rename_i hl;refine⟨hl,?_⟩;cases e2:Xf st dc de (y3 nv .emp++aD cap (frz is G)) ts with
    |stuck=>rw[e2]at q;exact q.elim
    |exc c=>rw[e2]at q;exact⟨λz=>(by cases z),λc' z H' s=>by cases z;exact q H' P1 (g.trans (.same s)),λall z=>by cases z⟩
    |ok all=>
     rw[e2,Res.bind_ok]at q;refine⟨λz=>(by cases z),λc z=>(by cases z),λall' z p vs H' s hp hl r=>?_⟩
     cases z;split at q
     ·rename_i hlt;have hlt':i<(frz is G).length:=by rw[<- h1.len,h.len];exact hlt
      obtain⟨h2,g2⟩:=h1.own' hlt' s hp hl r;exact q _ H' _ (g.trans g2) h2
     ·exact q.elim
   ·exact q.elim
end
end Fx
namespace Fx
open PySem PySem.Spec PyProof.Rows L2
open AutoSeq1 (wpAny_loadPart')
def SrI(h:yd)(it l:yc)(i:Nat):Bool->Prop
 |true=>h.IsTupleIter it l i
 |false=>h.IsListIter it l i
def SrS(h:yd)(l:yc)(xs:Array yb):Bool->Prop
 |true=>h.IsTuple l xs
 |false=>h.IsList l xs
theorem SrI.at{h h':yd}{it l:yc}{i:Nat}{t:Bool}(x:SrI h it l i t)(k:∀o,h.get? it=some o->h'.get? it=some o):SrI h' it l i t:=by
 cases t<;>(obtain⟨o,e,r⟩:=x;exact⟨o,k o e,r⟩)
theorem SrS.at{h h':yd}{l:yc}{xs:Array yb}{t:Bool}(x:SrS h l xs t)(k:∀o,h.get? l=some o->h'.get? l=some o):SrS h' l xs t:=by
 cases t<;>(obtain⟨o,e,r⟩:=x;exact⟨o,k o e,r⟩)
theorem SrI.obj{h:yd}{it l:yc}{i:Nat}{t:Bool}(x:SrI h it l i t):∃o,h.get? it=some o/\∀v,o.data≠.cell v:=by
 cases t<;>(obtain⟨o,e,c,d⟩:=x;exact⟨o,e,λv z=>by rw[d]at z;cases z⟩)
theorem SrS.lt{h:yd}{l:yc}{xs:Array yb}{t:Bool}(x:SrS h l xs t):l<h.objs.size:=by
 cases t<;>(obtain⟨o,e,_⟩:=x;exact yF e)
def zdV(l:yc)(t:Bool):Obj:={ cls:=.type (if t then "tuple_iterator" else "list_iterator"),data:=.fields #[.ref l,.int 0 0] }
theorem SrI.new{h:yd}{l:yc}{t:Bool}:SrI (h.push (zdV l t)) h.objs.size l 0 t:=by
 cases t<;>exact⟨_,yO _ rfl,rfl,rfl⟩
section
variable {prog:y6}{w:y0}{A:yD}{E:yb->ye->Prop}{s:ye}
theorem zcs{l:yc}{xs:Array yb}{t:Bool}{Q:yb->ye->Prop}(x:SrS s.heap l xs t)(q:Q (.ref s.heap.objs.size) { s with heap:=s.heap.push (zdV l t) }):yi (ym prog w) A (pyIter (.ref l)) Q E s:=by
 cases t
 ·exact ybl x q
 ·exact wpAny_pyIter_tuple x q
theorem zeQ{it l:yc}{i:Nat}{xs:Array yb}{t:Bool}{x:yb}{Q:yb->ye->Prop}(hi:SrI s.heap it l i t)(hs:SrS s.heap l xs t)(hx:xs[i]? = some x)
  (hQ:∀h',SrI h' it l (i+1) t->qz it s.heap h'->Q x { s with heap:=h' }):yi (ym prog w) A (yB.SmallTypes.nextOf (.ref it)) Q E s:=by
 cases t
 ·exact wpAny_nextOf_list_item hi hs hx hQ
 ·have ty:=yd.IsTupleIter.typeIs hi;obtain⟨o,ho,hc,hd⟩:=hi;obtain⟨ol,hol,_,nl,hdl⟩:=hs;unfold yB.SmallTypes.nextOf;refine yf (qE (name:=Str.ofString "__next__") ty F.slot_tuple_iterator_next (qk F.slot_tuple_iterator_next ty F.entry_tuple_iterator_next ?_ (F.args_tuple_iterator_next_1 _)));show yi _ _ (field (.ref it) 0 >>= _) _ _ s;refine yf (jg ho hd (x:=.ref l) rfl ?_);show yi _ _ (if(yb.ref l == yb.none)=true then _ else _) _ _ s
  rw[if_neg (show ¬((yb.ref l == yb.none)=true) from jy)];show yi _ _ (field (.ref it) 1 >>= _) _ _ s;refine yf (jg ho hd (x:=.int i 0) rfl ?_);show yi _ _ (ya9 (.ref l) >>= _) _ _ s;refine yf (jL hol hdl ?_);simp only[ya3,hx];refine yf (yaz ho hd (by simp) (yx ⟨x,rfl,yx (hQ _ ?_ (yd.SameBut.update ..))⟩))
  exact⟨_,ybn _ ho (yc0 (yaf hd _)),(Obj.cls_mapFields ..).trans hc,by rw[yaf hd];simp[yW]⟩
theorem zh8{it l:yc}{i:Nat}{xs:Array yb}{t:Bool}{Q:yb->ye->Prop}(hh:A.handled=none)(hi:SrI s.heap it l i t)(hs:SrS s.heap l xs t)(hx:xs[i]? = none)
  (hE:∀h' e,yd.ExtBut it s.heap h'->(∃o,h'.get? e=some o/\o.cls=.type "StopIteration")->E (.ref e) { s with heap:=h' }):yi (ym prog w) A (yB.SmallTypes.nextOf (.ref it)) Q E s:=by
 cases t
 ·exact wpAny_nextOf_list_end hh hi hs hx hE
 ·have ty:=yd.IsTupleIter.typeIs hi;obtain⟨o,ho,hc,hd⟩:=hi;obtain⟨ol,hol,_,nl,hdl⟩:=hs;unfold yB.SmallTypes.nextOf;refine yf (qE (name:=Str.ofString "__next__") ty F.slot_tuple_iterator_next (qk F.slot_tuple_iterator_next ty F.entry_tuple_iterator_next ?_ (F.args_tuple_iterator_next_1 _)));show yi _ _ (field (.ref it) 0 >>= _) _ _ s;refine yf (jg ho hd (x:=.ref l) rfl ?_);show yi _ _ (if(yb.ref l == yb.none)=true then _ else _) _ _ s
  rw[if_neg (show ¬((yb.ref l == yb.none)=true) from jy)];show yi _ _ (field (.ref it) 1 >>= _) _ _ s;refine yf (jg ho hd (x:=.int i 0) rfl ?_);show yi _ _ (ya9 (.ref l) >>= _) _ _ s;refine yf (jL hol hdl ?_);simp only[ya3,hx];refine yf (wpAny_rule (yf (yaz ho hd (by simp) ?_)))
  show yi _ _ (newExc (.type "StopIteration") [] >>= _) _ _ _;refine yf ?_;simp only[newExc,newTuple];refine yf (jT ?_ (by size_fits))
  refine yf (m:=ybp _ _) (wpAny_of_eq (a:=yb.none) (by first|rfl|(simp only[ybp];rfl)) ?_)
  refine jT ?_ (by size_fits)
  simp only[raiseNew];refine yf (wpAny_handled ?_)
  first|rw[show A.in1.handled=none from hh]|rw[hh]
  refine yf (yx (wpAny_throw ?_));exact hE _ _ (((yd.SameBut.update ..).extBut.push _).push _) ⟨_,yO _ rfl,rfl⟩
theorem zh9(hh:A.handled=none)(it l:yc)(hne:l≠it)(xs:Array yb)(t:Bool):Draws prog w A it [it,l] xs.size (λi v=>xs[i]? = some v) (λi h=>SrI h it l i t/\SrS h l xs t) where
 live:=λ_ _ st=>let⟨o,ho,_⟩:=st.1.obj;⟨o,ho⟩
 frame:=λ_ _ _ st hk=>⟨st.1.at λo e=>hk it (by simp) o e,st.2.at λo e=>hk l (by simp) o e⟩
 item:=λi s Q E hi st hQ=>zeQ st.1 st.2 (x:=xs[i]) (by simp[hi]) λh' hit hs=>hQ _ h' s.toks (by simp[hi]) ⟨hit,st.2.at λo e=>hs.extBut _ _ hne e⟩ hs
 done:=λs Q E st hE=>zh8 hh st.1 st.2 (by simp) hE
theorem zjG(l:yc)(xs:Array yb)(t:Bool):
  Meets (yB.«enumerate.__new__» ⟨[.type "enumerate",.ref l],[]⟩) (λ_ R s=>SrS s.heap l xs t /\
   R (.ok (.ret (.ref (s.heap.push (zdV l t)).objs.size))) { s with heap:=(s.heap.push (zdV l t)).push { cls:=.type "enumerate",data:=.fields #[.none,.bool false,.ref s.heap.objs.size,yW 0,.none,.none] } }):=
 .of_wp λprog w A R s h=>by
  obtain⟨hp,g,d,tk,os⟩:=s;obtain⟨hl,h⟩:=h;have hsub:=sub_enumerate;have hL:SrS (ye.heap ⟨hp,g,d,tk,os⟩) l xs t:=hl
  wp_walk using zcs hL
  refine wpAny_stack_any λst=>yx ?_
  split
  ·rename_i c _ _ _ _ _;cases(c == yb.type "enumerate")<;>(wp_walk using zcs hL;exact⟨_,rfl,h⟩)
  ·wp_walk using zcs hL
   exact⟨_,rfl,h⟩
theorem zml{l:yc}{xs:Array yb}{t:Bool}{Q:yb->ye->Prop}(hL:SrS s.heap l xs t)
  (h:∀h',IsEnum h' (s.heap.objs.size+1) s.heap.objs.size 0 .none->SrI h' s.heap.objs.size l 0 t->(∀b o,s.heap.get? b=some o->h'.get? b=some o)->Q (.ref (s.heap.objs.size+1)) { s with heap:=h' }):
  yi (ym prog w) A (call (.type "enumerate") [.ref l]) Q E s:=by
 refine callType_new F.called_enumerate (by decide) (F.typeCall_enumerate_1 _) (F.newCall_enumerate_1 _) (λobj=>F.args_object_init_2 obj _) F.entry_enumerate_new (zjG l xs t) ⟨hL,?_⟩
 have hz:(s.heap.push (zdV l t)).objs.size=s.heap.objs.size+1:=qr ..;show _/\_;rw[hz];have he:IsEnum ((s.heap.push (zdV l t)).push { cls:=.type "enumerate",data:=.fields #[.none,.bool false,.ref s.heap.objs.size,yW 0,.none,.none] }) (s.heap.objs.size+1) s.heap.objs.size 0 .none:=by
  have z:=yO (s.heap.push (zdV l t)) (o:={ cls:=.type "enumerate",data:=.fields #[.none,.bool false,.ref s.heap.objs.size,yW 0,.none,.none] }) rfl;rw[hz]at z;exact z
 exact⟨⟨_,he,rfl⟩,h _ he (SrI.new.at λo e=>yA _ e) λb o x=>yA _ (yA _ x)⟩
end
end Fx
namespace Fx
open PySem PySem.Spec PyProof.Rows L2
section
variable {X:Cx}{W:Str->Hp->Prop}{pins:List (yc×Obj)}{σ:L2.St}{H:Hp}{s s':ye}{ch:List yc}
theorem inv_ch(I:Inv X pins σ H s)(hch:∀b∈ch,FpOk X pins H b)(ho:s'.os=s.os)(hg:s'.gens=s.gens)(k:∀b o,b∉ch->s.heap.get? b=some o->s'.heap.get? b=some o):Inv X pins σ H s':=by
 have nch:∀b u,H b=some u->b∉ch:=λb u e z=>by rw[(hch b z).1]at e;cases e
 refine I.call' (ch:=ch) ho ⟨λb o e _ _ hx=>k b o hx e,λb o e _ _ hx=>⟨o.slots,k b o hx e⟩,λb o e n _=>n,λb o e hx=>⟨o,k b o hx e⟩,λ_ _ e=>e,λ_ _ _ e=>e,λb ps e=>⟨#[],by rw[e];simp⟩⟩ (λb u e=>?_) (by rw[hg];exact I.bare) λb hb=>?_
 ·refine(I.hok b u e).stay (λc v hc q=>k c v ?_ q) (λ_ q=>q) λ_ _ q=>q
  rcases hc with z|z
  ·rw[z];exact nch b u e
  ·exact nch c _ z
 ·obtain⟨f0,f1,f2,f3,f4,f5⟩:=hch b hb;exact⟨f3,f1,f4,f5⟩
theorem zlF{xs:List V}{its:List yb}(I:Inv X pins σ H s)(hch:∀b∈ch,FpOk X pins H b)(ho:s'.os=s.os)(hg:s'.gens=s.gens)(k:∀b o,b∉ch->s.heap.get? b=some o->s'.heap.get? b=some o)
  (ht:s'.heap.get? s.heap.objs.size=some { cls:=.type "tuple",data:=.seq its.toArray }) (rv:Vals xs its) (hz:xs.length<=y7):Inv X pins σ (upd H s.heap.objs.size (.tup xs)) s':=by
 have hp:H s.heap.objs.size=none:=I.hok.fresh (yu _);have nch:∀b u,H b=some u->b∉ch:=λb u e z=>by rw[(hch b z).1]at e;cases e
 have ne:∀b o,s.heap.get? b=some o->b≠s.heap.objs.size:=λb o e=>yU (yF e)
 refine I.call' (ch:=ch) ho ⟨λb o e _ _ hx=>k b o hx e,λb o e _ _ hx=>⟨o.slots,k b o hx e⟩,λb o e n _=>by rw[Zu (ne b o e)];exact n,λb o e hx=>⟨o,k b o hx e⟩,λb ys e=>by rw[Zu (Z3 e hp)];exact e,
  λb o u e=>by rw[Zu (Z3 e hp)];exact e,λb ps e=>⟨#[],by rw[Zu (Z3 e hp),e];simp⟩⟩ (λb u e=>?_) (by rw[hg];exact I.bare) λb hb=>?_
 ·by_cases hb:b=s.heap.objs.size
  ·subst hb;rw[Zw]at e;cases e;exact⟨hz,its,rv,⟨_,ht,rfl,_,rfl⟩⟩
  ·rw[Zu hb]at e;refine(I.hok b u e).stay (λc v hc q=>k c v ?_ q) (λc q=>by rw[Zu (Z3 q hp)];exact q) λc ys q=>by rw[Zu (Z3 q hp)];exact q
   rcases hc with z|z
   ·rw[z];exact nch b u e
   ·exact nch c _ z
 ·obtain⟨f0,f1,f2,f3,f4,f5⟩:=hch b hb;exact⟨f3,f1,f4,f5⟩
end
def Sq(K:yh)(H:Hp)(a:yc)(xs:List V):Bool->Prop
 |true=>SqT K H a xs
 |false=>SqL K H a xs
theorem zat{X:Cx}{pins:List (yc×Obj)}{σ:L2.St}{H:Hp}{s:ye}{a:yc}{xs:List V}{t:Bool}(I:Inv X pins σ H s)(h:Sq X.K H a xs t):∃its:List yb,Vals xs its/\SrS s.heap a its.toArray t/\xs.length<=y7:=by
 cases t
 ·obtain⟨its,r,p,z⟩:=I.list h;exact⟨its,r,p.isList,z⟩
 ·obtain⟨its,r,p,z⟩:=I.tuple h;exact⟨its,r,p,z⟩
theorem zkr{X:Cx}{pins:List (yc×Obj)}{σ:L2.St}{H:Hp}{s:ye}{a:yc}{xs ys:List V}{t:Bool}(I:Inv X pins σ H s)(h:Sq X.K H a xs t)(h':Sq X.K H a ys t):xs=ys:=by
 cases t
 ·exact I.list_inj h h'
 ·exact I.tuple_inj h h'
def Ite(K:yh)(l:yc)(t:Bool):It:=
 ⟨λi H=>∃xs x,Sq K H l xs t/\xs[i]? = some x,λi H x H'=>∃p v,x=.ref p/\H p=none/\H'=upd H p (.tup [.int i,v])/\∀xs,Sq K H l xs t->xs[i]? = some v,λi H=>∃xs,Sq K H l xs t/\xs.length<=i⟩
theorem zke{P:y6}{w:y0}{K:yh}{elts:List yj}{k:Nat}{pos:Pos}(l e it:yc)(t:Bool)(hne:e≠it)(hle:l≠e)(hli:l≠it):
  Turn P w K (.Tuple elts k pos) (Ite K l t) [e,it] e (λi h=>∃old,IsEnum h e it i old/\SrI h it l i t) where
 mem:=by simp
 obj:=λi h st b hb=>by
  obtain⟨old,he,hi⟩:=st;rcases yG.mp hb with z|z
  ·subst z;exact⟨_,he,λv z=>by cases z⟩
  ·have:b=it:=by simpa using z
   subst this;exact hi.obj
 keep:=λi h h' st kk=>by
  obtain⟨old,he,hi⟩:=st;exact⟨old,kk e (by simp) _ he,hi.at λo q=>kk it (by simp) o q⟩
 item:=by
  intro X hP hw hK hc i pins s σ H E I hf st hg;subst hP hw hK;obtain⟨xs,x,hq,hx⟩:=hg;obtain⟨its,rv,hs,hz⟩:=zat I hq;obtain⟨u,hu,ru⟩:=rv.get hx;obtain⟨old,he,hi⟩:=st;have hil:i<its.toArray.size:=by
   have:=(yV.mp hu).1;simpa using this
  refine wpAny_pyNext_enum_itemD (zh9 (A:=X.A.in1) (I.ok.hd hc) it l hli its.toArray t) he ⟨hi,hs⟩ hil hne (by simp[hne,Ne.symm hle]) λy h' tk hy heo hst ht hsz kk=>?_
  have ey:y=u:=by
   have:its.toArray[i]? = some u:=by simpa using hu
   rw[this]at hy;cases hy;rfl
  subst ey;refine⟨_,rfl,wpAny_letOwnedTupleGo_enum heo λh'' he'' hsb=>?_⟩
  have nel:e<s.heap.objs.size:=yF he;have ke:∀b o,b∉[e,it]->s.heap.get? b=some o->h''.get? b=some o:=λb o hb q=>by
   simp only[yG,qm,or_false,not_or]at hb;exact hsb.extBut b o hb.1 (kk b o hb.1 hb.2 q)
  refine⟨.ref s.heap.objs.size,upd H s.heap.objs.size (.tup [.int i,x]),zlF (s':={ s with heap:=h'',toks:=tk+1 }) (its:=[.int i tk,y]) I hf rfl rfl ke (hsb.extBut _ _ (yar nel) ht) (.cons ⟨tk,rfl⟩ (.cons ru .nil)) (by show 2<=y7;decide),rfl,?_,?_,λb hb=>?_⟩
  ·exact⟨_,x,rfl,I.hok.fresh (yu _),rfl,λys hy=>by rw[zkr I hy hq];exact hx⟩
  ·exact⟨y,he'',hst.1.at λo q=>hsb.extBut _ _ (Ne.symm hne) q⟩
  ·have z:=(hf b hb).1;obtain⟨o,ho⟩:∃o,s.heap.get? b=some o:=by
    rcases yG.mp hb with q|q
    ·subst q;exact⟨_,he⟩
    ·have:b=it:=by simpa using q
     subst this;obtain⟨o,ho,_⟩:=hi.obj;exact⟨o,ho⟩
   rw[Zu (yU (yF ho))];exact z
 done:=by
  intro X hP hw hK hc i pins s σ H E I hf st hg;subst hP hw hK;obtain⟨xs,hq,hx⟩:=hg;obtain⟨its,rv,hs,hz⟩:=zat I hq;obtain⟨old,he,hi⟩:=st;have hl:=rv.length;have D:=zh9 (prog:=X.prog) (w:=X.w) (A:=X.A.in1) (I.ok.hd hc) it l hli its.toArray t
  -- the draws beyond the end: at the place i
  have D':Draws X.prog X.w X.A.in1 it [it,l] i (λj v=>j<i/\its.toArray[j]? = some v\/True) (λj h=>SrI h it l j t/\SrS h l its.toArray t/\i<=j):=⟨λ_ _ st=>let⟨o,ho,_⟩:=st.1.obj;⟨o,ho⟩,
   λ_ _ _ st hk=>⟨st.1.at λo e=>hk it (by simp) o e,st.2.1.at λo e=>hk l (by simp) o e,st.2.2⟩,
   λj s Q E hj st hQ=>absurd st.2.2 (by omega),λs Q E st hE=>zh8 (I.ok.hd hc) st.1 st.2.1 (by simp;omega) hE⟩
  exact wpAny_pyNext_enum_endD D' he ⟨hi,hs,yu _⟩ λh' eb=>⟨rfl,inv_ch (ch:=[e,it]) (s':={ s with heap:=h' }) I hf rfl rfl λb o hb q=>eb b o (λz=>hb (by simp[z])) q⟩
 self:=λ_ _ _ _ _ st h=>by
  obtain⟨old,he,hi⟩:=st;exact wpAny_pyIter_enum he h
section
variable {X:Cx}{W:Str->Hp->Prop}{tg a b c e:yj}{es elts:List yj}{da db:DE}{pos:Pos}
def iEn(K:yh)(ta:TA):TI:=λσ H R=>ta σ H λvs H1=>∃a t,vs=[.ref a]/\(∃xs,Sq K H1 a xs t)/\R (Ite K a t) H1
theorem pi_enum{l:yj}{ta:TA}{p tp:Pos}{k:Nat}(hg:Gl X "enumerate")(hm:X.mg "enumerate"=none)(hl:PA X [l] ta)(hs:yp [l] X.env=(false,yz l X.env)::yp [] X.env:=by rfl):PI X (.Tuple elts k tp) (.Call (.Name "enumerate" p) [l] [] pos) (iEn X.K ta):=by
 intro pins s σ H R I h;refine Call_ (zcN I hg hm (show yP "enumerate"=some (.type "enumerate") by decide +kernel) (PyProof.Rows.callWith_type1 (thn (hl pos pins s σ H _ I h) λus s1 ⟨vs,H1,I1,r1,q1⟩=>?_) hs rfl))
 obtain⟨l,t,rfl,⟨xs,hq⟩,q⟩:=q1;obtain⟨u,rfl,ru⟩:=zeI r1;cases ru;obtain⟨its,rv,hsr,hz⟩:=zat I1 hq;have lt:=hsr.lt;refine zml hsr λh' he hi kk=>wpAny_pyIter_enum he ?_
 have I2:Inv X pins σ H1 { s1 with heap:=h' }:=I1.kept (t':=s1.toks) kk
 refine⟨_,[s1.heap.objs.size+1,s1.heap.objs.size],_,Ite X.K l t,H1,rfl,I2,zke l _ _ t (Nat.succ_ne_self _) (yU (ydh lt)) (yU lt),⟨_,he,hi⟩,λb hb=>?_,q⟩
 have hb':s1.heap.objs.size<=b:=by
  rcases yG.mp hb with z|z
  ·rw[z];exact yat _
  ·have:b=s1.heap.objs.size:=by simpa using z
   rw[this];exact yu _
 exact I1.fpOk hb' (I1.hok.fresh hb')
theorem zgI:∀(xs:List ya) (n i:Nat),(zcY n xs)[i]? = (xs[i]?).map λx=>.tuple [.int ((n+i:Nat):Int),x]
 |[],n,i=>by simp[zcY]
 |x::r,n,0=>by simp[zcY]
 |x::r,n,i+1=>by
  simp only[zcY,yay,zgI r (n+1) i];have:n+1+i=n+(i+1):=by omega
  rw[this]
theorem zgH:∀(xs:List ya) (n:Nat),(zcY n xs).length=xs.length
 |[],n=>rfl
 |x::r,n=>by simp[zcY,zgH r (n+1)]
theorem zh0{H:Hp}{P:Pv}{l:yc}{t:Bool}{xs:List ya}{vs:List V}(sq:∀H' P',Tr H P H' P'->Sq X.K H' l vs t)(r:Rls X.K H P xs vs):Yld X.K (Ite X.K l t) (zcY 0 xs) H P:=by
 intro H' P' tr nf i;have r':=Rls.go tr xs vs r;have s':=sq H' P' tr;refine⟨λtt e=>?_,λhl=>⟨vs,s',by rw[zgH]at hl;rw[<- r.length];exact hl⟩⟩
 rw[zgI]at e;cases ex:xs[i]? with
 |none=>rw[ex]at e;cases e
 |some x=>
  rw[ex]at e;simp only[yb6,jr.injEq]at e;subst e;obtain⟨v,ev,rv⟩:=r'.getT ex;refine⟨⟨vs,v,s',ev⟩,λy H'' yy=>?_⟩
  obtain⟨p,v',rfl,hp,rfl,hv⟩:=yy;have:=hv vs s';rw[ev]at this;cases this;refine⟨ZJ hp,Yb.mpr ⟨p,_,rfl,.off Zw (nf p hp),ZY.mpr ⟨.int i,[v],rfl,Ym.mpr (by simp),ZY.mpr ⟨v,[],rfl,Rl.go (.same (ZJ hp)) x v rv,Yy.mpr rfl⟩⟩⟩⟩
theorem iv_enum{p tp:Pos}{k:Nat}(hg:Gl X "enumerate")(hm:X.mg "enumerate"=none)(ha:EV X W a da)(hs:yp [a] X.env=(false,yz a X.env)::yp [] X.env:=by rfl):IV X W (.Tuple elts k tp) (.Call (.Name "enumerate" p) [a] [] pos) (iEnum (av da)):=
 zcC (pi_enum hg hm (Y3 ha W5 hs) hs) λσ H R ⟨G,P,h,q⟩=>by
  unfold iEnum av at q;cases e:da G with
  |stuck=>rw[e]at q;exact q.elim
  |exc c=>rw[e]at q;exact⟨G,P,h,by rw[e];exact q⟩
  |ok tx=>
   rw[e,Res.bind_ok]at q;refine⟨G,P,h,?_⟩;rw[e];intro x H1 s1 rx;have h1:=h.same s1;cases tx<;>try exact q.elim
   ·obtain⟨l,vs,rfl,sl,rs⟩:=YJ.mp rx;exact⟨l,false,rfl,⟨vs,sl.sq⟩,q _ H1 s1 (zh0 (t:=false) (λH' P' tr=>(sl.go tr).sq) rs)⟩
   ·obtain⟨l,vs,rfl,sl,rs⟩:=Yb.mp rx;exact⟨l,true,rfl,⟨vs,sl.sq⟩,q _ H1 s1 (zh0 (t:=true) (λH' P' tr=>(sl.go tr).sq) rs)⟩
end
section
variable {prog:y6}{w:y0}{A:yD}{E:yb->ye->Prop}{s:ye}
theorem zip_item{z TI TO i1 i2 l1 l2:yc}{k1 k2:Nat}{xs ys:Array yb}{x y a b:yb}{t1 t2:Bool}{Q:yb->ye->Prop}(D:yao z TI TO i1 i2 l1 l2)
  (hz:jw s.heap z TI TO .none) (hTI:je s.heap TI (.ref i1) (.ref i2)) (hTO:je s.heap TO a b)
  (h1:SrI s.heap i1 l1 k1 t1) (h2:SrI s.heap i2 l2 k2 t2) (hl1:SrS s.heap l1 xs t1) (hl2:SrS s.heap l2 ys t2) (hx:xs[k1]? = some x) (hy:ys[k2]? = some y)
  (hQ:∀h',jw h' z TI TO (yW s.heap.objs.size)->je h' TO x y->SrI h' i1 l1 (k1+1) t1->SrI h' i2 l2 (k2+1) t2->je h' s.heap.objs.size x y ->
   (∀c o,c∉[z,TO,i1,i2]->s.heap.get? c=some o->h'.get? c=some o)->Q (.ref s.heap.objs.size) { s with heap:=h' }):
  yi (ym prog w) A (yB.«zip.__next__» ⟨[.ref z],[]⟩) (λfin s'=>∃v,fin=.done (.ret v)/\Q v s') E s:=by
 show yi _ _ (field (.ref z) 2 >>= _) _ _ _;refine yf (jg hz rfl (x:=.bool false) rfl ?_);show yi _ _ (field (.ref z) 3 >>= _) _ _ _;refine yf (jg hz rfl (x:=.ref TI) rfl ?_);refine yf (jL hTI rfl ?_);show yi _ _ (yB.SmallTypes.ownedTupleIsFree (.ref z) >>= _) _ _ _;refine yf ?_;unfold yB.SmallTypes.ownedTupleIsFree;refine yf (jg hz rfl (x:=.none) rfl (yx ?_));simp only[if_true];refine yf (wpAny_rule ?_);refine yf (jg hz rfl (x:=.ref TO) rfl ?_);refine yf (yab hz (by simp) λg1 z1 e1=>?_)
 replace z1:jw g1 z TI TO .ellipsis:=z1
 refine yf ?_;simp only[List.zipIdx_cons,List.zipIdx_nil,ydq,List.forIn_nil]
 -- the first draw
 refine yf (yf (ybs ?_));show yi _ _ (yB.SmallTypes.nextOf (.ref i1) >>= _) _ _ _;refine yf (zeQ (h1.at λo e=>e1.extBut _ _ D.i1z e) (hl1.at λo e=>e1.extBut _ _ D.l1z e) hx λg2 d2 e2=>yx ?_)
 have o2:je g2 TO a b:=e2.extBut _ _ D.TOi1 (e1.extBut _ _ D.TOz hTO);refine yf (jL o2 rfl ?_);refine yf (ycn o2 λg3 o3 e3=>?_)
 replace o3:je g3 TO x b:=o3
 refine yf (qN (yx ?_))
 -- the second
 refine yf (yf (ybs ?_));show yi _ _ (yB.SmallTypes.nextOf (.ref i2) >>= _) _ _ _;refine yf (zeQ (h2.at λo e=>e3.extBut _ _ D.TOi2.symm (e2.extBut _ _ D.i12.symm (e1.extBut _ _ D.i2z e))) (hl2.at λo e=>e3.extBut _ _ D.l2TO (e2.extBut _ _ D.l2i1 (e1.extBut _ _ D.l2z e))) hy λg4 d4 e4=>yx ?_)
 have o4:je g4 TO x b:=e4.extBut _ _ D.TOi2 o3;refine yf (jL o4 rfl ?_);refine yf (ycn o4 λg5 o5 e5=>?_)
 replace o5:je g5 TO x y:=o5
 refine yf (qN (yx (yx ?_)))
 -- the pair
 refine yf (jL o5 rfl ?_);refine yf (wpAny_newTuple ?_);have sz:g5.objs.size=s.heap.objs.size:=by rw[e5.1,e4.1,e3.1,e2.1,e1.1]
 have z5:jw g5 z TI TO .ellipsis:=e5.extBut _ _ D.TOz.symm (e4.extBut _ _ D.i2z.symm (e3.extBut _ _ D.TOz.symm (e2.extBut _ _ D.i1z.symm z1)));have k5:∀c o,c∉[z,TO,i1,i2]->s.heap.get? c=some o->g5.get? c=some o:=λc o hc e=>by
  simp only[yG,qm,or_false,not_or]at hc;exact e5.extBut _ _ hc.2.1 (e4.extBut _ _ hc.2.2.2 (e3.extBut _ _ hc.2.1 (e2.extBut _ _ hc.2.2.1 (e1.extBut _ _ hc.1 e))))
 have i5:SrI g5 i1 l1 (k1+1) t1:=d2.at λo e=>e5.extBut _ _ D.TOi1.symm (e4.extBut _ _ D.i12 (e3.extBut _ _ D.TOi1.symm e))
 have j5:SrI g5 i2 l2 (k2+1) t2:=d4.at λo e=>e5.extBut _ _ D.TOi2.symm e
 have zlt:z<g5.objs.size:=yF z5;show yi _ _ (yB.SmallTypes.ownedTupleHandOut (.ref z) (.ref g5.objs.size) >>= _) _ _ _;refine yf ?_;unfold yB.SmallTypes.ownedTupleHandOut;have z6:jw (g5.push { cls:=.type "tuple",data:=.seq #[x,y] }) z TI TO .ellipsis:=yA _ z5;refine yf (yab z6 (by simp) λg7 z7 e7=>?_)
 replace z7:jw g7 z TI TO (yW g5.objs.size):=z7
 refine yab z7 (by simp) λg8 z8 e8=>?_
 replace z8:jw g8 z TI TO (yW g5.objs.size):=z8
 have up:∀c o,c≠z->g5.get? c=some o->g8.get? c=some o:=λc o c1 e=>e8.extBut _ _ c1 (e7.extBut _ _ c1 (yA _ e))
 have t8:je g8 g5.objs.size x y:=e8.extBut _ _ (yar zlt) (e7.extBut _ _ (yar zlt) (yO _ rfl));rw[sz]at z8 t8;refine yx ⟨_,rfl,?_⟩;show Q (.ref g5.objs.size) _;rw[sz];exact hQ g8 z8 (up _ _ D.TOz o5) (i5.at λo e=>up _ o D.i1z e) (j5.at λo e=>up _ o D.i2z e) t8 λc o hc e=>up c o (λq=>hc (by simp[q])) (k5 c o hc e)
theorem zip_end{z TI TO i1 i2 l1 l2:yc}{k1 k2:Nat}{xs ys:Array yb}{a b:yb}{t1 t2:Bool}{Q:Fin->ye->Prop}(hh:A.handled=none)(D:yao z TI TO i1 i2 l1 l2)
  (hz:jw s.heap z TI TO .none) (hTI:je s.heap TI (.ref i1) (.ref i2)) (hTO:je s.heap TO a b)
  (h1:SrI s.heap i1 l1 k1 t1) (h2:SrI s.heap i2 l2 k2 t2) (hl1:SrS s.heap l1 xs t1) (hl2:SrS s.heap l2 ys t2) (hend:xs[k1]? = none\/ys[k2]? = none)
  (hE:∀h' e,(∀c o,c∉[z,TO,i1,i2]->s.heap.get? c=some o->h'.get? c=some o)->(∃o,h'.get? e=some o/\o.cls=.type "StopIteration")->E (.ref e) { s with heap:=h' }):
  yi (ym prog w) A (yB.«zip.__next__» ⟨[.ref z],[]⟩) Q E s:=by
 show yi _ _ (field (.ref z) 2 >>= _) _ _ _;refine yf (jg hz rfl (x:=.bool false) rfl ?_);show yi _ _ (field (.ref z) 3 >>= _) _ _ _;refine yf (jg hz rfl (x:=.ref TI) rfl ?_);refine yf (jL hTI rfl ?_);show yi _ _ (yB.SmallTypes.ownedTupleIsFree (.ref z) >>= _) _ _ _;refine yf ?_;unfold yB.SmallTypes.ownedTupleIsFree;refine yf (jg hz rfl (x:=.none) rfl (yx ?_));simp only[if_true];refine yf (wpAny_rule ?_);refine yf (jg hz rfl (x:=.ref TO) rfl ?_);refine yf (yab hz (by simp) λg1 z1 e1=>?_)
 replace z1:jw g1 z TI TO .ellipsis:=z1
 refine yf ?_;simp only[List.zipIdx_cons,List.zipIdx_nil,ydq,List.forIn_nil];refine yf (yf (ybs ?_));show yi _ _ (yB.SmallTypes.nextOf (.ref i1) >>= _) _ _ _;cases hx:xs[k1]? with
 |none=>
  refine yf (zh8 hh (h1.at λo e=>e1.extBut _ _ D.i1z e) (hl1.at λo e=>e1.extBut _ _ D.l1z e) hx λg2 e e2 he=>?_)
  obtain⟨oe,hoe,hce⟩:=he;have z2:jw g2 z TI TO .ellipsis:=e2 _ _ D.i1z.symm z1;have hez:e≠z:=λq=>by subst q;rw[z2]at hoe;cases hoe;simp at hce
  refine yab z2 (by simp) λg3 _ e3=>hE g3 e (λc o hc q=>?_) ⟨oe,e3.extBut _ _ hez hoe,hce⟩
  simp only[yG,qm,or_false,not_or]at hc;exact e3.extBut _ _ hc.1 (e2 _ _ hc.2.2.1 (e1.extBut _ _ hc.1 q))
 |some x=>
  have hy:ys[k2]? = none:=by
   rcases hend with h|h
   ·rw[hx]at h;cases h
   ·exact h
  refine yf (zeQ (h1.at λo e=>e1.extBut _ _ D.i1z e) (hl1.at λo e=>e1.extBut _ _ D.l1z e) hx λg2 d2 e2=>yx ?_)
  have o2:je g2 TO a b:=e2.extBut _ _ D.TOi1 (e1.extBut _ _ D.TOz hTO);refine yf (jL o2 rfl ?_);refine yf (ycn o2 λg3 o3 e3=>?_)
  refine yf (qN (yx ?_));refine yf (yf (ybs ?_));show yi _ _ (yB.SmallTypes.nextOf (.ref i2) >>= _) _ _ _;refine yf (zh8 hh (h2.at λo e=>e3.extBut _ _ D.TOi2.symm (e2.extBut _ _ D.i12.symm (e1.extBut _ _ D.i2z e))) (hl2.at λo e=>e3.extBut _ _ D.l2TO (e2.extBut _ _ D.l2i1 (e1.extBut _ _ D.l2z e))) hy λg4 e e4 he=>?_)
  obtain⟨oe,hoe,hce⟩:=he;have z4:jw g4 z TI TO .ellipsis:=e4 _ _ D.i2z.symm (e3.extBut _ _ D.TOz.symm (e2.extBut _ _ D.i1z.symm z1));have hez:e≠z:=λq=>by subst q;rw[z4]at hoe;cases hoe;simp at hce
  refine yab z4 (by simp) λg5 _ e5=>hE g5 e (λc o hc q=>?_) ⟨oe,e5.extBut _ _ hez hoe,hce⟩
  simp only[yG,qm,or_false,not_or]at hc;exact e5.extBut _ _ hc.1 (e4 _ _ hc.2.2.2 (e3.extBut _ _ hc.2.1 (e2.extBut _ _ hc.2.2.1 (e1.extBut _ _ hc.1 q))))
theorem zip_pn{z TI TO i1 i2 l1 l2:yc}{k1 k2:Nat}{xs ys:Array yb}{x y a b:yb}{t1 t2:Bool}{Q:Option yb->ye->Prop}(D:yao z TI TO i1 i2 l1 l2)
  (hz:jw s.heap z TI TO .none) (hTI:je s.heap TI (.ref i1) (.ref i2)) (hTO:je s.heap TO a b)
  (h1:SrI s.heap i1 l1 k1 t1) (h2:SrI s.heap i2 l2 k2 t2) (hl1:SrS s.heap l1 xs t1) (hl2:SrS s.heap l2 ys t2) (hx:xs[k1]? = some x) (hy:ys[k2]? = some y)
  (hQ:∀h',jw h' z TI TO (yW s.heap.objs.size)->je h' TO x y->SrI h' i1 l1 (k1+1) t1->SrI h' i2 l2 (k2+1) t2->je h' s.heap.objs.size x y ->
   (∀c o,c∉[z,TO,i1,i2]->s.heap.get? c=some o->h'.get? c=some o)->Q (some (.ref s.heap.objs.size)) { s with heap:=h' }):
  yi (ym prog w) A (j2 (.ref z)) Q E s:=by
 have hT:s.TypeIs (.ref z) "zip":=⟨_,hz,rfl⟩;unfold j2;exact yf (ybt (qE (name:=Str.ofString "__next__") hT F.slot_zip_next
  (qk F.slot_zip_next hT F.entry_zip_next (zip_item D hz hTI hTO h1 h2 hl1 hl2 hx hy λh' a1 a2 a3 a4 a5 a6=>yx (hQ h' a1 a2 a3 a4 a5 a6)) (F.args_zip_next_1 _))))
theorem zip_pe{z TI TO i1 i2 l1 l2:yc}{k1 k2:Nat}{xs ys:Array yb}{a b:yb}{t1 t2:Bool}{Q:Option yb->ye->Prop}(hh:A.handled=none)(D:yao z TI TO i1 i2 l1 l2)
  (hz:jw s.heap z TI TO .none) (hTI:je s.heap TI (.ref i1) (.ref i2)) (hTO:je s.heap TO a b)
  (h1:SrI s.heap i1 l1 k1 t1) (h2:SrI s.heap i2 l2 k2 t2) (hl1:SrS s.heap l1 xs t1) (hl2:SrS s.heap l2 ys t2) (hend:xs[k1]? = none\/ys[k2]? = none)
  (hQ:∀h',(∀c o,c∉[z,TO,i1,i2]->s.heap.get? c=some o->h'.get? c=some o)->Q none { s with heap:=h' }):yi (ym prog w) A (j2 (.ref z)) Q E s:=by
 have hT:s.TypeIs (.ref z) "zip":=⟨_,hz,rfl⟩;unfold j2;refine yf (ybt (qE (name:=Str.ofString "__next__") hT F.slot_zip_next
  (qk F.slot_zip_next hT F.entry_zip_next (zip_end hh D hz hTI hTO h1 h2 hl1 hl2 hend λh' e hk he=>?_) (F.args_zip_next_1 _))))
 obtain⟨o,ho,hc⟩:=he;exact yf (wpAny_isInstance (T:="StopIteration") (b:=true) ⟨o,ho,hc⟩ isSubtype_stop (yx (hQ _ hk)))
abbrev zH1(h:yd)(l1:yc)(t1:Bool):yd:=h.push (zdV l1 t1)
abbrev zH2(h:yd)(l1 l2:yc)(t1 t2:Bool):yd:=(zH1 h l1 t1).push (zdV l2 t2)
abbrev zH3(h:yd)(l1 l2:yc)(t1 t2:Bool):yd:=(zH2 h l1 l2 t1 t2).push { cls:=.type "tuple",data:=.seq #[.ref h.objs.size,.ref (zH1 h l1 t1).objs.size] }
abbrev zH4(h:yd)(l1 l2:yc)(t1 t2:Bool):yd:=(zH3 h l1 l2 t1 t2).push { cls:=.type "tuple",data:=.seq #[.none,.none] }
abbrev zH5(h:yd)(l1 l2:yc)(t1 t2:Bool):yd:=(zH4 h l1 l2 t1 t2).push { cls:=.type "zip",data:=.fields #[.none,.bool false,.bool false,.ref (zH2 h l1 l2 t1 t2).objs.size,.ref (zH3 h l1 l2 t1 t2).objs.size] }
theorem zlk(l1 l2:yc)(xs ys:Array yb)(t1 t2:Bool):
  Meets (yB.«zip.__new__» ⟨[.type "zip",.ref l1,.ref l2],[]⟩) (λ_ R s=>SrS s.heap l1 xs t1/\SrS s.heap l2 ys t2/\R (.ok (.ret (.ref (zH4 s.heap l1 l2 t1 t2).objs.size))) { s with heap:=zH5 s.heap l1 l2 t1 t2 }):=
 .of_wp λprog w A R s h=>by
  obtain⟨hp,g,d,tk,os⟩:=s;obtain⟨hl1,hl2,h⟩:=h;have hsub:=sub_zip;have L1:SrS (ye.heap ⟨hp,g,d,tk,os⟩) l1 xs t1:=hl1;have L2:SrS (ye.heap ⟨hp.push (zdV l1 t1),g,d,tk,os⟩) l2 ys t2:=hl2.at λo e=>yA _ e
  wp_walk using zcs L1,zcs L2
  exact⟨_,rfl,h⟩
theorem call_zip{l1 l2:yc}{xs ys:Array yb}{t1 t2:Bool}{Q:yb->ye->Prop}(hl1:SrS s.heap l1 xs t1)(hl2:SrS s.heap l2 ys t2)
  (h:∀h',jw h' (s.heap.objs.size+4) (s.heap.objs.size+2) (s.heap.objs.size+3) .none->je h' (s.heap.objs.size+2) (.ref s.heap.objs.size) (.ref (s.heap.objs.size+1)) ->
   je h' (s.heap.objs.size+3) .none .none->SrI h' s.heap.objs.size l1 0 t1->SrI h' (s.heap.objs.size+1) l2 0 t2 ->
   (∀c o,s.heap.get? c=some o->h'.get? c=some o)->Q (.ref (s.heap.objs.size+4)) { s with heap:=h' }):
  yi (ym prog w) A (call (.type "zip") [.ref l1,.ref l2]) Q E s:=by
 refine callType_new F.called_zip (by decide) (F.typeCall_zip_2 _ _) (F.newCall_zip_2 _ _) (λobj=>F.args_object_init_3 obj _ _) F.entry_zip_new (zlk l1 l2 xs ys t1 t2) ⟨hl1,hl2,?_⟩
 have z1:(zH1 s.heap l1 t1).objs.size=s.heap.objs.size+1:=qr ..;have z2:(zH2 s.heap l1 l2 t1 t2).objs.size=s.heap.objs.size+2:=by rw[qr,z1]
 have z3:(zH3 s.heap l1 l2 t1 t2).objs.size=s.heap.objs.size+3:=by rw[qr,z2]
 have z4:(zH4 s.heap l1 l2 t1 t2).objs.size=s.heap.objs.size+4:=by rw[qr,z3]
 have g5:(zH5 s.heap l1 l2 t1 t2).get? (zH4 s.heap l1 l2 t1 t2).objs.size=some _:=yO _ rfl;have g4:(zH5 s.heap l1 l2 t1 t2).get? (zH3 s.heap l1 l2 t1 t2).objs.size=some _:=yA _ (yO _ rfl);have g3:(zH5 s.heap l1 l2 t1 t2).get? (zH2 s.heap l1 l2 t1 t2).objs.size=some _:=yA _ (yA _ (yO _ rfl));have g2:SrI (zH5 s.heap l1 l2 t1 t2) (zH1 s.heap l1 t1).objs.size l2 0 t2:=SrI.new.at λo e=>yA _ (yA _ (yA _ e))
 have g1:SrI (zH5 s.heap l1 l2 t1 t2) s.heap.objs.size l1 0 t1:=SrI.new.at λo e=>yA _ (yA _ (yA _ (yA _ e)))
 show _/\_;rw[z2,z3,z4]at g5;rw[z1,z2]at g3;rw[z3]at g4;rw[z1]at g2;rw[z4];exact⟨⟨_,g5,rfl⟩,h _ g5 g3 g4 g1 g2 λc o x=>yA _ (yA _ (yA _ (yA _ (yA _ x))))⟩
end
def Itz(K:yh)(l1 l2:yc)(t1 t2:Bool):It:=
 ⟨λi H=>∃xs ys x y,Sq K H l1 xs t1/\Sq K H l2 ys t2/\xs[i]? = some x/\ys[i]? = some y,
   λi H x H'=>∃p v w,x=.ref p/\H p=none/\H'=upd H p (.tup [v,w])/\(∀xs,Sq K H l1 xs t1->xs[i]? = some v)/\∀ys,Sq K H l2 ys t2->ys[i]? = some w,
   λi H=>∃xs ys,Sq K H l1 xs t1/\Sq K H l2 ys t2/\(xs.length<=i\/ys.length<=i)⟩
theorem turn_zip{P:y6}{w:y0}{K:yh}{elts:List yj}{k:Nat}{pos:Pos}(z TI TO i1 i2 l1 l2:yc)(t1 t2:Bool)(D:yao z TI TO i1 i2 l1 l2):
  Turn P w K (.Tuple elts k pos) (Itz K l1 l2 t1 t2) [z,TI,TO,i1,i2] z (λi h=>jw h z TI TO .none/\je h TI (.ref i1) (.ref i2)/\(∃a b,je h TO a b)/\SrI h i1 l1 i t1/\SrI h i2 l2 i t2) where
 mem:=by simp
 obj:=λi h st b hb=>by
  obtain⟨hz,hTI,⟨a,c,hTO⟩,h1,h2⟩:=st;simp only[yG,qm,or_false]at hb;rcases hb with rfl|rfl|rfl|rfl|rfl
  ·exact⟨_,hz,λv q=>by cases q⟩
  ·exact⟨_,hTI,λv q=>by cases q⟩
  ·exact⟨_,hTO,λv q=>by cases q⟩
  ·exact h1.obj
  ·exact h2.obj
 keep:=λi h h' st kk=>by
  obtain⟨hz,hTI,⟨a,c,hTO⟩,h1,h2⟩:=st;exact⟨kk z (by simp) _ hz,kk TI (by simp) _ hTI,⟨a,c,kk TO (by simp) _ hTO⟩,h1.at λo e=>kk i1 (by simp) o e,h2.at λo e=>kk i2 (by simp) o e⟩
 item:=by
  intro X hP hw hK hc i pins s σ H E I hf st hg;subst hP hw hK;obtain⟨xs,ys,x,y,hq1,hq2,hx,hy⟩:=hg;obtain⟨a1,r1,s1,_⟩:=zat I hq1;obtain⟨a2,r2,s2,_⟩:=zat I hq2;obtain⟨u1,hu1,ru1⟩:=r1.get hx;obtain⟨u2,hu2,ru2⟩:=r2.get hy;obtain⟨hz,hTI,⟨a,c,hTO⟩,h1,h2⟩:=st;have fresh:∀b o,s.heap.get? b=some o->b≠s.heap.objs.size:=λb o e=>yU (yF e)
  refine zip_pn D hz hTI hTO h1 h2 s1 s2 (x:=u1) (y:=u2) (by simpa using hu1) (by simpa using hu2) λh' z' o' i1' i2' p' kk=>?_
  refine⟨_,rfl,wpAny_letOwnedTupleGo_zip z' λh'' z'' hsb=>?_⟩
  have ke:∀b o,b∉[z,TI,TO,i1,i2]->s.heap.get? b=some o->h''.get? b=some o:=λb o hb e=>by
   simp only[yG,qm,or_false,not_or]at hb;exact hsb.extBut _ _ hb.1 (kk b o (by simp[hb.1,hb.2.2.1,hb.2.2.2.1,hb.2.2.2.2]) e)
  refine⟨.ref s.heap.objs.size,upd H s.heap.objs.size (.tup [x,y]),zlF (s':={ s with heap:=h'' }) (its:=[u1,u2]) I hf rfl rfl ke (hsb.extBut _ _ (Ne.symm (fresh z _ hz)) p') (.cons ru1 (.cons ru2 .nil)) (by show 2<=y7;decide),rfl,?_,?_,λb hb=>?_⟩
  ·exact⟨_,x,y,rfl,I.hok.fresh (yu _),rfl,λzs hz=>by rw[zkr I hz hq1];exact hx,λzs hz=>by rw[zkr I hz hq2];exact hy⟩
  ·exact⟨z'',hsb.extBut _ _ D.TIz (kk TI _ (by simp[D.TIz,D.TITO,D.TIi1,D.TIi2]) hTI),⟨_,_,hsb.extBut _ _ D.TOz o'⟩,i1'.at λo e=>hsb.extBut _ _ D.i1z e,i2'.at λo e=>hsb.extBut _ _ D.i2z e⟩
  ·have q:=(hf b hb).1;obtain⟨o,ho⟩:∃o,s.heap.get? b=some o:=by
    simp only[yG,qm,or_false]at hb;rcases hb with rfl|rfl|rfl|rfl|rfl
    ·exact⟨_,hz⟩
    ·exact⟨_,hTI⟩
    ·exact⟨_,hTO⟩
    ·obtain⟨o,ho,_⟩:=h1.obj;exact⟨o,ho⟩
    ·obtain⟨o,ho,_⟩:=h2.obj;exact⟨o,ho⟩
   rw[Zu (fresh b o ho)];exact q
 done:=by
  intro X hP hw hK hc i pins s σ H E I hf st hg;subst hP hw hK;obtain⟨xs,ys,hq1,hq2,hx⟩:=hg;obtain⟨a1,r1,s1,_⟩:=zat I hq1;obtain⟨a2,r2,s2,_⟩:=zat I hq2;obtain⟨hz,hTI,⟨a,c,hTO⟩,h1,h2⟩:=st;have n1:=r1.length;have n2:=r2.length;have he:a1.toArray[i]? = none\/a2.toArray[i]? = none:=by
   rcases hx with q|q
   ·exact .inl (by simp;omega)
   ·exact .inr (by simp;omega)
  exact zip_pe (I.ok.hd hc) D hz hTI hTO h1 h2 s1 s2 he λh' kk=>⟨rfl,inv_ch (ch:=[z,TI,TO,i1,i2]) (s':={ s with heap:=h' }) I hf rfl rfl λb o hb e=>kk b o (λq=>hb (by simp at q ⊢;rcases q with q|q|q|q<;>simp[q])) e⟩
 self:=λ_ _ _ _ _ st h=>wpAny_pyIter_zip st.1 h
section
variable {X:Cx}{W:Str->Hp->Prop}{tg a b c e:yj}{es elts:List yj}{da db:DE}{pos:Pos}
def iZp(K:yh)(ta:TA):TI:=λσ H R=>ta σ H λvs H1=>∃a b t1 t2,vs=[.ref a,.ref b]/\(∃xs,Sq K H1 a xs t1)/\(∃ys,Sq K H1 b ys t2)/\R (Itz K a b t1 t2) H1
theorem pi_zip{l1 l2:yj}{ta:TA}{p tp:Pos}{k:Nat}(hg:Gl X "zip")(hm:X.mg "zip"=none)(hl:PA X [l1,l2] ta)(hs:yp [l1,l2] X.env=(false,yz l1 X.env)::yp [l2] X.env:=by rfl)
  (hpl:(jc pos (yp [l2] X.env)).any (·.1)=false:=by rfl):PI X (.Tuple elts k tp) (.Call (.Name "zip" p) [l1,l2] [] pos) (iZp X.K ta):=by
 intro pins s σ H R I h;refine Call_ (zcN I hg hm (show yP "zip"=some (.type "zip") by decide +kernel) (PyProof.Rows.callWith_type1 (thn (hl pos pins s σ H _ I h) λus s1 ⟨vs,H1,I1,r1,q1⟩=>?_) hs hpl))
 obtain⟨l1,l2,t1,t2,rfl,⟨xs,hq1⟩,⟨ys,hq2⟩,q⟩:=q1;obtain⟨u1,u2,rfl,ru1,ru2⟩:=vals2 r1;cases ru1;cases ru2;obtain⟨a1,rv1,s1',_⟩:=zat I1 hq1;obtain⟨a2,rv2,s2',_⟩:=zat I1 hq2;have lt1:=s1'.lt;have lt2:=s2'.lt;refine call_zip s1' s2' λh' hz hTI hTO h1 h2 kk=>wpAny_pyIter_zip hz ?_
 have I2:Inv X pins σ H1 { s1 with heap:=h' }:=I1.kept (t':=s1.toks) kk
 have ap:yao (s1.heap.objs.size+4) (s1.heap.objs.size+2) (s1.heap.objs.size+3) s1.heap.objs.size (s1.heap.objs.size+1) l1 l2:=by
  constructor<;>(intro e;simp only[yc] at *;omega)
 refine⟨_,[s1.heap.objs.size+4,s1.heap.objs.size+2,s1.heap.objs.size+3,s1.heap.objs.size,s1.heap.objs.size+1],_,Itz X.K l1 l2 t1 t2,H1,rfl,I2,turn_zip _ _ _ _ _ l1 l2 t1 t2 ap,⟨hz,hTI,⟨_,_,hTO⟩,h1,h2⟩,λb hb=>?_,q⟩
 have hb':s1.heap.objs.size<=b:=by
  simp only[yG,qm,or_false]at hb;rcases hb with rfl|rfl|rfl|rfl|rfl
  ·exact ya7 _ _
  ·exact ya7 _ _
  ·exact ya7 _ _
  ·exact yu _
  ·exact ya7 _ _
 exact I1.fpOk hb' (I1.hok.fresh hb')
theorem zhZ:∀(xs ys:List ya) (i:Nat) (t:ya),(zipT xs ys)[i]? = some t->∃x y,xs[i]? = some x/\ys[i]? = some y/\t=.tuple [x,y]
 |[],ys,i,t,h=>by simp[zipT]at h
 |x::xs,[],i,t,h=>by simp[zipT]at h
 |x::xs,y::ys,0,t,h=>by simp[zipT]at h;exact⟨x,y,rfl,rfl,h.symm⟩
 |x::xs,y::ys,i+1,t,h=>by
  simp only[zipT,yay]at h;obtain⟨a,b,h1,h2,h3⟩:=zhZ xs ys i t h;exact⟨a,b,by simpa using h1,by simpa using h2,h3⟩
theorem zhY:∀(xs ys:List ya) (i:Nat),(zipT xs ys).length<=i->xs.length<=i\/ys.length<=i
 |[],ys,i,h=>.inl (qi _)
 |x::xs,[],i,h=>.inr (qi _)
 |x::xs,y::ys,0,h=>by simp[zipT]at h
 |x::xs,y::ys,i+1,h=>by
  simp only[zipT,ju]at h;rcases zhY xs ys i (by omega) with q|q
  ·exact .inl (by simp;omega)
  ·exact .inr (by simp;omega)
theorem yld_zip{H:Hp}{P:Pv}{l1 l2:yc}{t1 t2:Bool}{xs ys:List ya}{vs ws:List V}(q1:∀H' P',Tr H P H' P'->Sq X.K H' l1 vs t1)(q2:∀H' P',Tr H P H' P'->Sq X.K H' l2 ws t2)(r1:Rls X.K H P xs vs)(r2:Rls X.K H P ys ws):
  Yld X.K (Itz X.K l1 l2 t1 t2) (zipT xs ys) H P:=by
 intro H' P' tr nf i;have a1:=Rls.go tr xs vs r1;have a2:=Rls.go tr ys ws r2;refine⟨λtt e=>?_,λhl=>⟨vs,ws,q1 H' P' tr,q2 H' P' tr,by rw[<- r1.length,<- r2.length];exact zhY xs ys i hl⟩⟩
 obtain⟨x,y,e1,e2,rfl⟩:=zhZ xs ys i tt e;obtain⟨v,ev,rv⟩:=a1.getT e1;obtain⟨w,ew,rw'⟩:=a2.getT e2;refine⟨⟨vs,ws,v,w,q1 H' P' tr,q2 H' P' tr,ev,ew⟩,λz H'' yy=>?_⟩
 obtain⟨p,v',w',rfl,hp,rfl,hv,hw⟩:=yy;have z1:=hv vs (q1 H' P' tr);have z2:=hw ws (q2 H' P' tr);rw[ev]at z1;rw[ew]at z2;cases z1;cases z2;exact⟨ZJ hp,Yb.mpr ⟨p,_,rfl,.off Zw (nf p hp),ZY.mpr ⟨v,[w],rfl,Rl.go (.same (ZJ hp)) x v rv,ZY.mpr ⟨w,[],rfl,Rl.go (.same (ZJ hp)) y w rw',Yy.mpr rfl⟩⟩⟩⟩
theorem seq_of{K:yh}{H:Hp}{P:Pv}{t:ya}{v:V}{xs:List ya}(r:Rl K H P t v)(e:t=.list xs\/t=.tuple xs):∃l vs b,v=.ref l/\(∀H' P',Tr H P H' P'->Sq K H' l vs b)/\Rls K H P xs vs:=by
 rcases e with rfl|rfl
 ·obtain⟨l,vs,rfl,sl,rs⟩:=YJ.mp r;exact⟨l,vs,false,rfl,λH' P' tr=>(sl.go tr).sq,rs⟩
 ·obtain⟨l,vs,rfl,sl,rs⟩:=Yb.mp r;exact⟨l,vs,true,rfl,λH' P' tr=>(sl.go tr).sq,rs⟩
theorem zek{p tp:Pos}{k:Nat}(hg:Gl X "zip")(hm:X.mg "zip"=none)(ha:EV X W a da)(hb:EV X W b db)(hs:yp [a,b] X.env=(false,yz a X.env)::yp [b] X.env:=by rfl)(hs2:yp [b] X.env=(false,yz b X.env)::yp [] X.env:=by rfl)
  (hpl:(jc pos (yp [b] X.env)).any (·.1)=false:=by rfl):IV X W (.Tuple elts k tp) (.Call (.Name "zip" p) [a,b] [] pos) (iZip (av da) (av db)):=
 zcC (pi_zip hg hm (Y3 ha (Y3 hb W5 hs2) hs) hs hpl) λσ H R ⟨G,P,h,q⟩=>by
  unfold iZip av at q;refine⟨G,P,h,?_⟩;cases ea:da G with
  |stuck=>rw[ea]at q;exact q.elim
  |exc c=>rw[ea]at q;exact q
  |ok tx=>
   intro x H1 s1 rx;refine⟨G,P,h.same s1,?_⟩;cases eb:db G with
   |stuck=>
    rw[ea,eb,Res.bind_ok]at q;cases tx<;>exact q.elim
   |exc c=>
    rw[ea,eb,Res.bind_ok]at q;cases tx<;>first|exact q.elim|exact λH' s=>q H' (s1.trans s)
   |ok ty=>
    intro y H2 s2 ry;have q':=q;rw[ea,eb,Res.bind_ok]at q';have fin:∀xs ys,(tx=.list xs\/tx=.tuple xs)->(ty=.list ys\/ty=.tuple ys)->PostI X.K W H P (.ok (zipT xs ys)) R->∃a b t1 t2,[x,y]=[V.ref a,V.ref b]/\(∃xs,Sq X.K H2 a xs t1)/\(∃ys,Sq X.K H2 b ys t2)/\R (Itz X.K a b t1 t2) H2:=λxs ys e1 e2 q'=>by
     obtain⟨l1,v1,b1,rfl,f1,g1⟩:=seq_of (Rl.go (.same s2) tx x rx) e1;obtain⟨l2,v2,b2,rfl,f2,g2⟩:=seq_of ry e2;exact⟨l1,l2,b1,b2,rfl,⟨v1,f1 H2 P (.refl _ _)⟩,⟨v2,f2 H2 P (.refl _ _)⟩,q' _ H2 (s1.trans s2) (yld_zip f1 f2 g1 g2)⟩
    cases tx<;>cases ty<;>first|exact q'.elim|exact fin _ _ (.inl rfl) (.inl rfl) q'|exact fin _ _ (.inl rfl) (.inr rfl) q'|exact fin _ _ (.inr rfl) (.inl rfl) q'|exact fin _ _ (.inr rfl) (.inr rfl) q'
end
def cf(k:Option jh):Bool:=k == some .cell || k == some .free
theorem zj3{k:Option jh}(h:cf k=true):k=some .cell\/k=some .free:=by
 unfold cf at h;rw[qp]at h;rcases h with h|h
 ·exact .inl (by simpa using h)
 ·exact .inr (by simpa using h)
def capChk(scope:yJ)(env:Env)(N0 N:List Str)(nv:Nat)(cap:List Nat):Bool:=(y4 cap.length).all λi=>match(cap[i]?:Option Nat),(N[nv+i]?:Option Str) with
  |some j,some x=>N0[j]? == some x && cf ((qh scope env).names.lookup x) && cf (env.kindOf x)
  |_,_=>true
def zmg(scope:yJ)(env:Env)(N0 N:List Str)(nv:Nat)(cap:List Nat):Bool:=(scope.names.all λy=>y.2 != .cell) && (scope.kind == .function) && (scope.names.all λy=>y.2 != .local || scope.names.lookup y.1 == some .local)
  && (scope.names.all λy=>y.2 != .free || cf (env.kindOf y.1)) && (N.length == nv+cap.length) && capChk scope env N0 N nv cap
theorem YL{X:Cx}{scope:yJ}{N:List Str}{nv:Nat}{cap:List Nat}(h:zmg scope X.env X.N N nv cap=true):CompOk X scope N nv cap:=by
 unfold zmg at h;simp only[jl,qO]at h;obtain⟨⟨⟨⟨⟨h1,h2⟩,h3⟩,h4⟩,h5⟩,h6⟩:=h;refine⟨λy hy=>by simpa using h1 y hy,by simpa using h2,λy hy e=>?_,λy hy e=>?_,by simpa using h5,λi j x hc hx=>?_⟩
 ·have:=h3 y hy;rw[e]at this;simpa using this
 ·have:=h4 y hy;rw[e]at this;exact zj3 (by simpa using this)
 ·unfold capChk at h6;rw[qO]at h6;have hi:i<cap.length:=(yV.mp hc).1;have:=h6 i (jq.mpr hi);rw[hc,hx]at this;simp only[jl]at this;exact⟨by simpa using this.1.1,zj3 this.1.2,zj3 this.2⟩
section
variable {X:Cx}{W:Str->Hp->Prop}{fl:Bool}{a b c e:yj}{es:List yj}{da db:DE}{pos:Pos}
theorem zcw{K:yh}{H1:Hp}{P:Pv}{p:yc}{ts:List ya}{vs:List V}{o:HO}(hp:H1 p=none)(rs:Rls K H1 P ts vs):Rls K (upd H1 p o) (P.fbd p) ts vs:=
 Rls.go (.same (ZJ hp)) ts vs (Rls.go (Tr.tofbd hp) ts vs rs)
theorem zim{d:DA}(h:AV X W es d):OV X W (.List es pos) (oLst d):=
 Z7 (pe_lst h) λσ H Q ⟨G,P,h,q⟩=>by
  unfold oLst at q;obtain⟨q1,q2,q3⟩:=zi9 q;refine Qp h q1 q2 λts vs H1 es' s1 h1 rs=>?_
  have q4:=q3 ts es';split at q4
  ·rename_i hl;exact⟨zfr hl rs,λp hp=>q4 p vs _ (s1.trans (ZJ hp)) (s1.free hp) Zw (zcw hp rs)⟩
  ·exact q4.elim
theorem zbr{p:Pos}(hg:Gl X "list")(hm:X.mg "list"=none)(ha:EV X W a da)(hs:yp [a] X.env=(false,yz a X.env)::yp [] X.env:=by rfl):OV X W (.Call (.Name "list" p) [a] [] pos) (zfi da):=
 Z7 (U8 zgY hg hm (show yP "list"=some (.type "list") by decide +kernel) (Y3 ha W5 hs) (he:=hs)) λσ H Q ⟨G,P,h,q⟩=>by
  unfold zfi at q;obtain⟨q1,q2,q3⟩:=zeG q;refine Z1 h q1 q2 λtx x H1 ex s1 h1 rx=>?_
  have q4:=q3 tx ex;cases tx<;>try exact q4.elim
  ·obtain⟨l,vs,rfl,sl,rs⟩:=YJ.mp rx;exact⟨l,vs,rfl,.inl sl.sq,λp hp=>q4 p vs _ (s1.trans (ZJ hp)) (s1.free hp) Zw (zcw hp rs)⟩
  ·obtain⟨l,vs,rfl,sl,rs⟩:=Yb.mp rx;exact⟨l,vs,rfl,.inr sl.sq,λp hp=>q4 p vs _ (s1.trans (ZJ hp)) (s1.free hp) Zw (zcw hp rs)⟩
theorem zaN{p:Pos}(hg:Gl X "tuple")(hm:X.mg "tuple"=none)(ha:EV X W a da)(hs:yp [a] X.env=(false,yz a X.env)::yp [] X.env:=by rfl):EV X W (.Call (.Name "tuple" p) [a] [] pos) (d1 zaL da):=
 Z7 (U8 zfS hg hm (show yP "tuple"=some (.type "tuple") by decide +kernel) (Y3 ha W5 hs) (he:=hs)) λσ H Q h=>zh4 (λH P σ G x tx Q h rx q=>by
  cases tx<;>try exact q.elim
  ·obtain⟨l,vs,rfl,sl,rs⟩:=YJ.mp rx;exact⟨l,vs,rfl,.inl ⟨sl.sq,λp hp=>q _ _ (ZJ hp) (Yb.mpr ⟨p,vs,rfl,.off Zw (h.off_new hp),Rls.go (.same (ZJ hp)) _ vs rs⟩)⟩⟩
  ·obtain⟨l,vs,rfl,sl,rs⟩:=Yb.mp rx;exact⟨l,vs,rfl,.inr ⟨sl.sq,q _ H (Same.refl H) rx⟩⟩) h
theorem zgi{K:yh}{H:Hp}{P:Pv}:∀{bs:List Bool}{vs:List V},Rls K H P (bs.map .bool) vs->vs=bs.map V.bl
 |[],vs,h=>Yy.mp h
 |b::bs,vs,h=>by
  obtain⟨v,r,rfl,a,q⟩:=ZY.mp h;rw[X8.mp a,zgi q]
  rfl
theorem call_all(hc:X.calm=true):zdz X (.builtin "all") (λxs H Q=>∃(p:yc) (bs:List Bool),xs=[.ref p]/\SqL X.K H p (bs.map V.bl)/\Q (.bl (bs.all id)) H):=by
 intro pins s σ H xs us Q I r h;obtain⟨l,bs,rfl,hq,q⟩:=h;obtain⟨u,rfl,ru⟩:=zeI r;cases ru;obtain⟨its,rv,pl,hz⟩:=I.list hq;have hl:s.heap.IsList l its.toArray:=pl.isList;have hlt:l<s.heap.objs.size:=by obtain⟨_,e,_⟩:=hl;exact yF e
 have hb:∀(i:Nat) (v:yb),its[i]? = some v->∃b,bs[i]? = some b/\v=.bool b:=λi v e=>by
  have hi:i<its.length:=(yV.mp e).1;have hl2:=rv.length;rw[yQ]at hl2;have hi2:i<bs.length:=by omega
  obtain⟨u,hu,ru⟩:=rv.get (i:=i) (x:=V.bl bs[i]) (by simp[hi2])
  rw[e]at hu;cases hu;cases ru;exact⟨bs[i],by simp[hi2],rfl⟩
 refine call_all_walk (ybl hl ?_);refine⟨s.heap.objs.size,[s.heap.objs.size,l],[s.heap.objs.size],its.toArray.size,_,_,λi=>(bs[i]?).getD true,rfl,Walks.list (A:=X.A.in1) (I.ok.hd hc) _ l (yU hlt) its.toArray,
  ⟨⟨_,yO _ rfl,rfl,rfl⟩,hl.push _⟩,λi v s' Q' E' hP hQ=>?_,λh' tk hk=>?_⟩
 ·obtain⟨b,e,rfl⟩:=hb i v (by simpa using hP)
  simp only[e,ydm]at hQ;exact qj hQ
 ·have e:((y4 its.toArray.size).all λi=>(bs[i]?).getD true)=bs.all id:=by
   have hl2:=rv.length;rw[yQ]at hl2;rw[yL,<- hl2,Bool.eq_iff_iff,qO,qO];constructor
   ·intro h b hb;obtain⟨i,hi,e⟩:=qK hb;have:=h i (jq.mpr hi);simp only[jx hi,ydm,e]at this;exact this
   ·intro h i hi;have hi':=jq.mp hi;simp only[jx hi',ydm];exact h _ (yT hi')
  rw[e];have kk:∀b x,s.heap.get? b=some x->h'.get? b=some x:=λb x e=>hk b x (λhm=>by rw[ql.mp hm]at e;exact jY _ (yF e)) (yA _ e)
  exact⟨.bl _,H,I.kept (t':=tk) kk,rfl,q⟩
theorem zlS{p:Pos}(hg:Gl X "all")(hm:X.mg "all"=none)(ha:EV X W a da)(hc:X.calm=true:=by rfl)(hs:yp [a] X.env=(false,yz a X.env)::yp [] X.env:=by rfl):EV X W (.Call (.Name "all" p) [a] [] pos) (d1 fAll da):=
 Z7 (zaC (call_all hc) hg hm (show yP "all"=some (.builtin "all") by decide +kernel) (Y3 ha W5 hs) (he:=hs)) λσ H Q h=>zh4 (λH P σ G x tx Q h rx q=>by
  cases tx<;>try exact q.elim
  rename_i xs;obtain⟨l,vs,rfl,sl,rs⟩:=YJ.mp rx;simp only[fAll]at q;cases e:allT xs with
  |stuck=>rw[e]at q;exact q.elim
  |exc c=>exact absurd e (zjb xs c)
  |ok k=>
   rw[e,Res.bind_ok]at q;obtain⟨bs,rfl,rfl⟩:=zmu e;have:=zgi rs;subst this;exact⟨l,bs,rfl,sl.sq,Yz q⟩) h
theorem zfu{G:List Sl}{i:Nat}(h:zfv G i=true):∃xs,G[i]? = some (.own xs):=by
 unfold zfv at h;split at h
 ·rename_i xs e;exact⟨xs,e⟩
 ·cases h
theorem ss_app{i:Nat}{x:Str}{is:List Nat}{p1 p2 p3:Pos}(hi:X.N[i]? = some x)(he:EV X W e da)(hv:Vis X.env.scope x:=by first|exact yg rfl|exact yC (yg rfl)|exact yC (yC rfl))(hd:(x == ("__debug__" : Str))=false:=by decide)
  (hcd:(x == ("__classdict__" : Str))=false:=by decide) (hsw:jz (.Call (.Attribute (.Name x p1) "append" p2) [e] [] p3) none pos.line X.env=pure false:=by rfl)
  (hbase:yae (.Name x p1) "append" X.env (yz (.Name x p1) X.env)=yz (.Name x p1) X.env:=by rfl)
  (hfew:((jc p3 (yp [e] X.env)).all (λx=>!x.1) && (backToKw p3 (ya2 [] X.env)).all (λx=>x.1.isSome)
   && decide (([e]:List yj).length+([]:List qw).length+(if([]:List qw).isEmpty then 0 else 1)<30))=true:=by rfl)
  (hline:(p2.endLine == p3.line)=true:=by rfl) (hs:yp [e] X.env=(false,yz e X.env)::yp [] X.env:=by rfl):
  SV X W fl (.Expr (.Call (.Attribute (.Name x p1) "append" p2) [e] [] p3) pos) (dApp i is da):=
 X9 (zhq (pe_bm yd6 PySem.F.slot_list_append PySem.F.type_list_append zgs (QS hi hv hd hcd) (Y3 he W5 hs) hbase hfew hline hs rfl) hsw) λD σ H ⟨G,P,h,q⟩=>by
  unfold dApp at q;obtain⟨P1,h1,g⟩:=h.frz is;split at q
  ·rename_i ho;obtain⟨xs0,e0⟩:=zfu ho;obtain⟨q1,q2,q3⟩:=zb6 q;obtain⟨p,vs,ev,ep,eh,rs⟩:=h.sl i _ e0;refine⟨.ref p,getD_some ev,.inl ⟨rfl,vs,SqL.of eh⟩,?_⟩;refine Z1 h1 (λc e H' s=>q1 c e H' P1 (g.trans (.same s))) q2 λt v H1 et s1 h2 r=>?_
   obtain⟨P2,h3,r3,g3⟩:=after h h1 g s1 r;have q4:=q3 t et;unfold zmt at q4;split at q4
   ·rename_i xs1 e1;split at q4
    ·rename_i hz;obtain⟨p',vs',ev',ep',eh',rs'⟩:=h3.sl i _ e1;rw[ev]at ev';cases ev';have hl:=rs'.length;obtain⟨h4,g4⟩:=h3.upOwn e1 ep' (rs'.append (ZY.mpr ⟨v,[],rfl,r3,Yy.mpr rfl⟩));exact⟨p,vs',v,rfl,rfl,eh',by rw[j6];omega,q4 σ _ P2 (g3.trans g4) h4⟩
    ·exact q4.elim
   ·exact q4.elim
  ·exact q.elim
theorem Qq{i:Nat}{x:Str}{is:List Nat}{dk:DE}{k:yj}{p1 p2:Pos}(hi:X.N[i]? = some x)(hk:EV X W k dk)(he:EV X W e da)(hv:Vis X.env.scope x:=by first|exact yg rfl|exact yC (yg rfl)|exact yC (yC rfl))(hd:(x == ("__debug__" : Str))=false:=by decide)
  (hcd:(x == ("__classdict__" : Str))=false:=by decide)
  (ha:∀v,jI (.Subscript (.Name x p1) k p2) X.env v=(do
   let ov <- jP [v] (yz (.Name x p1) X.env)
   let iv <- jP [v,ov] (yz k X.env)
   standAt p2
   jP [v,ov,iv] (setItem ov iv v)
   release [v,ov,iv] []):=by intro _;rfl)
  (hs:swapsWithSole [.Subscript (.Name x p1) k p2] e pos.line X.env=pure false:=by rfl) (hw:swappedStores [.Subscript (.Name x p1) k p2] e X.env=pure none:=by rfl)
  (h1:(j7 [.Subscript (.Name x p1) k p2] X.env).map (·.2)=[jI (.Subscript (.Name x p1) k p2) X.env]:=by rfl):
  SV X W fl (.Assign [.Subscript (.Name x p1) k p2] e pos) (VS i is dk da):=
 X9 (ps_asg he (pg_sub (QS hi hv hd hcd) hk set_list ha) hs hw h1) λD σ H ⟨G,P,h,q⟩=>by
  unfold VS at q;obtain⟨P1,h1,g⟩:=h.frz is;obtain⟨q1,q2,q3⟩:=zb6 q;refine Z1 h1 (λc e H' s=>q1 c e H' P1 (g.trans (.same s))) q2 λt v H1 et s1 h2 r=>?_
  obtain⟨P2,h3,r3,g3⟩:=after h h1 g s1 r;have q4:=q3 t et;generalize (if W3 t=true then G else frz is G)=G' at h3 q4
  split at q4
  ·rename_i ho;obtain⟨xs0,e0⟩:=zfu ho;obtain⟨p,vs,ev,ep,eh,rs⟩:=h3.sl i _ e0;refine⟨.ref p,getD_some ev,?_⟩;obtain⟨q5,q6,q7⟩:=zb6 q4;refine Z1 h2 (λc e H' s=>q5 c e H' P1 ((g.trans (.same s1)).trans (.same s))) q6 λkt kv H2 ek s2 h4 rk=>?_
   have q8:=q7 kt ek;unfold zf7 at q8;rw[e0]at q8;cases kt<;>try exact q8.elim
   rename_i j;simp only at q8;cases em:ixP xs0.length j with
   |none=>rw[em]at q8;exact q8.elim
   |some m=>
    rw[em]at q8;have h5:=h3.same s2;have hl:=rs.length;obtain⟨p',vs',ev',ep',eh',rs'⟩:=h5.sl i _ e0;rw[ev]at ev';cases ev';have hl':=rs'.length;obtain⟨h6,g6⟩:=h5.upOwn e0 ep' (rs'.set m (Rl.go (.same s2) t v r3));refine⟨p,vs',j,m,rfl,Ym.mp rk,eh',by rw[<- hl',<- ixP_eq];exact em,q8 σ _ P2 ((g3.trans (.same s2)).trans g6) h6⟩
  ·exact q4.elim
end
theorem ex_of_ok{P:y6}{w:y0}{H:Hp}{h:yd}{a:yc}{o:HO}(x:W4 P w H h a o):∃ob,h.get? a=some ob:=by
 cases o with
 |lst xs=>obtain⟨_,_,_,_,e⟩:=x;exact⟨_,e⟩
 |tup xs=>obtain⟨_,_,_,o,e,_⟩:=x;exact⟨_,e⟩
 |dK kvs=>obtain⟨_,_,_,_,o,_,_,e,_⟩:=x;exact⟨_,e⟩
 |dT kvs=>obtain⟨_,_,_,_,o,_,_,e,_⟩:=x;exact⟨_,e⟩
 |set S n=>obtain⟨o,_,_,_,e,_⟩:=x;exact⟨_,e⟩
 |ins C dx fs=>obtain⟨_,_,_,e,_⟩:=x;exact⟨_,e⟩
 |own y=>obtain⟨_,e⟩:=x;exact⟨_,e⟩
 |xd fs=>obtain⟨_,⟨_,_,_,e,_⟩,_⟩:=x;exact⟨_,e⟩
 |rng lo hi=>obtain⟨_,_,_,e⟩:=x;exact⟨_,e⟩
 |frz ob u=>obtain⟨e,_⟩:=x;exact⟨_,e⟩
 |tbl ps=>exact⟨_,show h.get? a=some _ from x⟩
 |met f y=>exact⟨_,show h.get? a=some _ from x⟩
 |ext φ=>obtain⟨_,⟨_,e⟩,_⟩:=x;exact⟨_,e⟩
structure Alien(X:Cx)(pins:List (yc×Obj))(H:Hp)(b:yc):Prop where
 young:X.s₀.heap.get? b=none
 loc:b≠X.env.locals
 cell:∀x c,X.env.cells.lookup x=some c->c≠b
 pin:∀p∈X.pn++pins,p.1≠b
 trk:H b=none
 frm:b∉frs X.stack
def ExO(h:yd)(a:yc)(cv:yb):Option (yc×yb)->Prop
 |none=>∃oe vs a0,h.get? a=some oe/\oe.cls=cv/\oe.data=.fields vs/\vs[0]? = some a0/\vs[1]? = some .none
 |some (T,f)=>∃oe vs a0 oT ts,h.get? a=some oe/\oe.cls=cv/\oe.data=.fields vs/\vs[0]? = some a0/\vs[1]? = some (.ref T)/\T≠a/\h.get? T=some oT/\oT.data=.fields ts/\ts[3]? = some f
structure Exc(X:Cx)(pins:List (yc×Obj))(σ:L2.St)(H:Hp)(a:yc)(cv:yb)(n:Option (yc×yb))(s:ye):Prop where
 inv:Inv X pins σ H s
 al:Alien X pins H a
 ob:ExO s.heap a cv n
 nt:∀T f,n=some (T,f)->Alien X pins H T
section
variable {X:Cx}{pins:List (yc×Obj)}{σ:L2.St}{H H':Hp}{s:ye}{h':yd}{a T:yc}{cv fl:yb}{n:Option (yc×yb)}
theorem Inv.stepA{t':Nat}{ch:List yc}(I:Inv X pins σ H s)
  (hch:∀b∈ch,X.s₀.heap.get? b=none/\b≠X.env.locals/\(∀x c,X.env.cells.lookup x=some c->c≠b)/\∀p∈X.pn++pins,p.1≠b)
  (keep:∀b o,b≠X.env.locals->b∉X.fs->b∉ch->s.heap.get? b=some o->H b=none->h'.get? b=some o)
  (slot:∀b o,b≠X.env.locals->b∈X.fs->b∉ch->s.heap.get? b=some o->H b=none->∃sl,h'.get? b=some { o with slots:=sl })
  (there:∀b o,b∉ch->s.heap.get? b=some o->∃o',h'.get? b=some o')
  (ns:∀m,s.heap.Ns X.env.locals m->h'.Ns X.env.locals m) (hok:HOk X.prog X.w H h'):
  Inv X pins σ H { s with heap:=h',toks:=t' }:=by
 have neL:∀b o,X.s₀.heap.get? b=some o->b≠X.env.locals:=λb o e=>yU (ja (yF e) I.ok.above)
 have neC:∀b o,X.s₀.heap.get? b=some o->b∉X.ex->b∉ch:=λb o e hx hb=>by
  have z:=(hch b hb).1;rw[e]at z;cases z
 have cellK:∀x c,X.env.cells.lookup x=some c->∀v,s.heap.IsCell c v->h'.IsCell c v:=λx c e v ⟨o,ho,hd⟩=>by
  have nch:c∉ch:=λz=>(hch c z).2.2.1 x c e rfl
  by_cases hc:c∈X.fs
  ·obtain⟨sl,q⟩:=slot c o (I.cne x c e) hc nch ho (I.freeC x c e);exact⟨_,q,hd⟩
  ·exact⟨o,keep c o (I.cne x c e) hc nch ho (I.freeC x c e),hd⟩
 refine⟨I.ok,I.os,I.bare,⟨λb o e n hb hx=>?_,λb o e n hb hx=>?_,λb o e n hx=>I.base.free b o e n hx,λb o e hx=>?_,λb xs e=>I.base.tups b xs e,λb o xs e=>I.base.frzs b o xs e,λb ps e=>I.base.tbls b ps e⟩,?_,λx c e=>?_,I.free,λx c e=>I.freeC x c e,λp hp=>?_,hok,I.len⟩
 ·exact keep b o (neL b o e) hb (neC b o e hx) (I.base.keep b o e n hb hx) (I.base.free b o e n hx)
 ·obtain⟨sl,e1⟩:=I.base.slot b o e n hb hx;obtain⟨sl',e2⟩:=slot b _ (neL b o e) hb (neC b o e hx) e1 (I.base.free b o e n hx);exact⟨sl',e2⟩
 ·obtain⟨o',e1⟩:=I.base.there b o e hx;exact there b o' (neC b o e hx) e1
 ·obtain⟨m,hn,hl⟩:=I.loc;refine⟨m,ns m hn,λi x v e1 e2 e3=>?_⟩
  obtain⟨u,r,l⟩:=hl i x v e1 e2 e3;refine⟨u,r,?_⟩;rcases l with l|⟨k,c,e,z⟩
  ·exact .inl l
  ·exact .inr ⟨k,c,e,cellK x c e _ z⟩
 ·obtain⟨v,z⟩:=I.cell x c e;exact⟨v,cellK x c e v z⟩
 ·obtain⟨e,n,ne,nf,d⟩:=I.pin p hp;have nch:p.1∉ch:=λz=>(hch p.1 z).2.2.2 p hp rfl
  exact⟨keep p.1 p.2 ne nf nch e n,n,ne,nf,d⟩
def zfV(X:Cx):Prop:=∀b∈X.ex,∃o,(b,o)∈X.pn
theorem Jm(hp:zfV X)(I:Inv X pins σ H s)(e:s.heap.get? a=none):Alien X pins H a:=by
 refine⟨?_,λz=>?_,λx c ec z=>?_,λp hp z=>?_,?_,λz=>?_⟩
 ·by_cases hx:a∈X.ex
  ·obtain⟨o,ho⟩:=hp a hx;have:=(I.pin (a,o) (yad _ ho)).1;rw[e]at this;cases this
  ·cases q:X.s₀.heap.get? a with
   |none=>rfl
   |some o=>obtain⟨o',e'⟩:=I.base.there a o q hx;rw[e]at e';cases e'
 ·obtain⟨m,⟨o,_,_,ho,_⟩,_⟩:=I.loc;rw[<- z,e]at ho;cases ho
 ·obtain⟨v,o,ho,_⟩:=I.cell x c ec;rw[z,e]at ho;cases ho
 ·obtain⟨q,_⟩:=I.pin p hp;rw[z,e]at q;cases q
 ·cases q:H a with
  |none=>rfl
  |some o=>
   obtain⟨o',e'⟩:∃o',s.heap.get? a=some o':=ex_of_ok (I.hok a o q);rw[e]at e';cases e'
 ·obtain⟨_,o,ho,_⟩:=I.stack.mem z;rw[e]at ho;cases ho
def hid(X:Cx)(a:yc):Option (yc×yb)->List yc
 |none=>a::frs X.stack
 |some (T,_)=>a::T::frs X.stack
theorem hid_frs(X:Cx)(a:yc)(n:Option (yc×yb)):∀b∈frs X.stack,b∈hid X a n:=by
 intro b hb;cases n with
 |none=>exact yS _ hb
 |some p=>obtain⟨T,f⟩:=p;exact yS _ (yS _ hb)
theorem zgA{X:Cx}{a b:yc}{n:Option (yc×yb)}(h:b∈hid X a n):b=a\/(∃T f,n=some (T,f)/\b=T)\/b∈frs X.stack:=by
 cases n with
 |none=>
  rcases yG.mp h with h|h
  ·exact .inl h
  ·exact .inr (.inr h)
 |some p=>
  obtain⟨T,f⟩:=p;rcases yG.mp h with h|h
  ·exact .inl h
  ·rcases yG.mp h with h|h
   ·exact .inr (.inl ⟨T,f,rfl,h⟩)
   ·exact .inr (.inr h)
theorem Exc.moved{t':Nat}(E:Exc X pins σ H a cv n s)(k1:(qg s.heap (hid X a n)).StaysIn h')(k2:s.heap.UpToSlots h'):Inv X pins σ H { s with heap:=h',toks:=t' }:=by
 have I:=E.inv;have al:∀b,b∈hid X a n->b∉frs X.stack->Alien X pins H b:=λb hb hf=>by
  rcases zgA hb with z|⟨T,f,z1,z2⟩|z
  ·rw[z];exact E.al
  ·rw[z2];exact E.nt T f z1
  ·exact absurd z hf
 have up:∀b,b∈frs X.stack->∀o,s.heap.get? b=some o->∃sl,h'.get? b=some { o with slots:=sl }:=λb hb o ho=>by
  obtain⟨_,o',ho',hd⟩:=I.stack.mem hb;rw[ho]at ho';cases ho';exact k2 b o ho hd
 have fsub:∀b∈X.fs,b∈frs X.stack:=λb hb=>by
  rcases I.ok.stk with z|⟨z,_⟩
  ·rw[z];exact hb
  ·rw[z];unfold frs at *
   simp only[ybq];split
   ·exact hb
   ·exact yS _ hb
 have stay:∀b o,b∉hid X a n->s.heap.get? b=some o->h'.get? b=some o:=λb o hb e=>k1 b o (yc8 _ e hb)
 have trk:∀b,H b≠none->b∉hid X a n:=λb hb hm=>by
  by_cases hf:b∈frs X.stack
  ·exact hb (I.stkFree b hf)
  ·exact hb (al b hm hf).trk
 refine Inv.stepA (t':=t') (ch:=(hid X a n).filter λb=>decide (b∉frs X.stack)) I (λb hb=>?_) (λb o hL hf hc e hn=>?_) (λb o hL hf hc e hn=>up b (fsub b hf) o e) (λb o hc e=>?_) (λm hm=>k2.ns hm) λb o e=>?_
 ·have hb':=j8.mp hb;have A:=al b hb'.1 (of_decide_eq_true hb'.2);exact⟨A.young,A.loc,A.cell,A.pin⟩
 ·by_cases hm:b∈hid X a n
  ·by_cases hs:b∈frs X.stack
   ·rcases yG.mp (I.stkSub b hs) with z|z
    ·exact absurd z hL
    ·exact absurd z hf
   ·exact absurd (j8.mpr ⟨hm,decide_eq_true hs⟩) hc
  ·exact stay b o hm e
 ·by_cases hs:b∈frs X.stack
  ·obtain⟨sl,q⟩:=up b hs o e;exact⟨_,q⟩
  ·by_cases hm:b∈hid X a n
   ·exact absurd (j8.mpr ⟨hm,decide_eq_true hs⟩) hc
   ·exact⟨o,stay b o hm e⟩
 ·refine(I.hok b o e).stay (λc v hc q=>stay c v ?_ q) (λ_ q=>q) λ_ _ q=>q
  rcases hc with z|z
  ·rw[z];exact trk b (by rw[e];simp)
  ·exact trk c (by rw[z];simp)
theorem Exc.noted{t':Nat}{a0:yb}(hp:zfV X)(E:Exc X pins σ H a cv n s)(k1:(qg s.heap (hid X a n)).StaysIn h')(k2:s.heap.UpToSlots h')(ht:h'.TracedAtW (qg s.heap (hid X a n)) a cv a0 fl):
  ∃T',Exc X pins σ H a cv (some (T',fl)) { s with heap:=h',toks:=t' }:=by
 obtain⟨oe,vs,T',oT,ts,he,⟨hc,h0⟩,hd,h1,hn,hne,hT,hdT,h3⟩:=ht;have I:=E.inv;refine⟨T',E.moved k1 k2,E.al,⟨oe,vs,a0,oT,ts,he,hc,hd,h0,h1,hne,hT,hdT,h3⟩,λT f q=>?_⟩
 cases q;cases q:s.heap.get? T' with
 |none=>exact Jm hp I q
 |some o=>
  have hm:T'∈hid X a n:=js λz=>by
   rw[yc8 _ q z]at hn;cases hn
  rcases zgA hm with z|⟨T,f,z1,z2⟩|z
  ·exact absurd z hne
  ·rw[z2];exact E.nt T f z1
  ·obtain⟨_,o',ho',hd'⟩:=I.stack.mem z;obtain⟨sl,hs⟩:=k2 T' o' ho' hd';rw[hT]at hs;cases hs;exact absurd hdT (hd' ts)
theorem fun_hid{as:List yc}{base h:yd}:∀{l:List Env},h.FunFrames base l->(∀b∈frs l,b∈as)->h.FunFrames (qg h as) l:=λ{l} hf hs=>
 PySem.W.funFrames_hide hf λenv he b hb=>hs b (yda.mpr ⟨env,he,hb⟩)
theorem zjP{h:yd}{as:List yc}:(qg h as).StaysIn h:=λb o e=>yc9 as e
theorem zjF{v:yb}{e1 e2:Env}(h:e1.frame=e2.frame):qR v e1=qR v e2:=by
 unfold qR PySem.frameOf;rw[h]
structure InFrame(X:Cx)(L:yc):Prop where
 pin:zfV X
 ex:∃e0 rest,X.stack=e0::rest/\e0.frame=some L
 env:X.env.frame=some L
theorem Exc.setT{f v:yb}{Q:Unit->ye->Prop}{Ee:yb->ye->Prop}(E:Exc X pins σ H a cv (some (T,f)) s)(q:∀s',Exc X pins σ H a cv (some (T,v)) s'->Q () s'):yi (ym X.prog X.w) X.A (setField (.ref T) 3 v) Q Ee s:=by
 obtain⟨oe,vs,a0,oT,ts,he,hc,hd,h0,h1,hne,hT,hdT,h3⟩:=E.ob;have hz:3<ts.size:=(ybj.mp h3).1;refine yaz hT hdT hz (q _ ?_);have other:∀b,b≠T->(s.heap.update T (ycd (·.setIfInBounds 3 v))).get? b=s.heap.get? b:=λb hb=>ycy _ _ (Ne.symm hb)
 have self:=ybn (ycd (·.setIfInBounds 3 v)) hT (yc0 (yaf hdT _))
 have A:=E.nt T f rfl;refine⟨E.moved (t':=s.toks) (λb o e=>?_) (λb o e hn=>?_),E.al,⟨oe,vs,a0,_,_,(other a (Ne.symm hne)).trans he,hc,hd,h0,h1,hne,self,yaf hdT _,by simp[hz]⟩,λT' f' z=>by cases z;exact A⟩
 ·have hb:b≠T:=λz=>by
   have hh:(qg s.heap (hid X a (some (T,f)))).get? T=none:=yc6 (hid X a (some (T,f))) (yS _ yX);rw[z,hh]at e;cases e
  exact(other b hb).trans (yc9 _ e)
 ·have hb:b≠T:=λz=>by rw[z,hT]at e;cases e;exact hn ts hdT
  exact⟨o.slots,(other b hb).trans e⟩
theorem ExO.first{h:yd}{a:yc}{cv:yb}{n:Option (yc×yb)}(x:ExO h a cv n):∃oe vs a0 b1,h.get? a=some oe/\oe.cls=cv/\oe.data=.fields vs/\vs[0]? = some a0/\vs[1]? = some b1:=by
 cases n with
 |none=>obtain⟨oe,vs,a0,h1,h2,h3,h4,h5⟩:=x;exact⟨oe,vs,a0,_,h1,h2,h3,h4,h5⟩
 |some p=>obtain⟨T,f⟩:=p;obtain⟨oe,vs,a0,_,_,h1,h2,h3,h4,h5,_⟩:=x;exact⟨oe,vs,a0,_,h1,h2,h3,h4,h5⟩
theorem Exc.entry(hp:zfV X){L:yc}{e0:Env}{rest:List Env}{head:yb}{hadNext:Bool}{Q:Unit->ye->Prop}{Ee:yb->ye->Prop}(hst:X.stack=e0::rest)(hf:e0.frame=some L)(E:Exc X pins σ H a cv n s)
  (q:∀T' s',Exc X pins σ H a cv (some (T',yW L)) s'->Q () s'):
  yi (ym X.prog X.w) X.A (do let fr <- PySem.frameOf e0;let pl <- entryPlaceOf L hadNext;let b <- EntryCells.newEntry head fr .none (yW L) .none pl;setField (.ref a) 1 b) Q Ee s:=by
 have hfr:X.A.frames=some (e0::rest):=by rw[<- hst];exact E.inv.ok.frames
 have fun0:s.heap.FunFrames (qg s.heap (hid X a n)) (e0::rest):=by rw[<- hst];exact fun_hid E.inv.stack (hid_frs X a n)
 have hen:(qg s.heap (hid X a n)).get? a=none:=yc6 _ (by cases n with|none=>exact yX|some p=>exact yX)
 obtain⟨oe,vs,a0,b1,he,hc,hd,h0,h1⟩:=E.ob.first
 refine wpAny_entryW hfr fun0 hf he zjP hen hd (ybj.mp h1).1 h0 λh' x=>?_
 rw[hc]at x;obtain⟨k1,k2,k3,k4⟩:=x;obtain⟨T',x⟩:=E.noted (t':=s.toks) hp k1 k4 k3;exact q T' _ x
theorem Exc.note{L:yc}{Q:Unit->ye->Prop}{Ee:yb->ye->Prop}(F:InFrame X L)(E:Exc X pins σ H a cv n s)
  (q:∀T' s',Exc X pins σ H a cv (some (T',yW L)) s'->Q () s'):yi (ym X.prog X.w) X.A (qR (.ref a) X.env) Q Ee s:=by
 obtain⟨e0,rest,hst,hf⟩:=F.ex;rw[zjF (e1:=X.env) (e2:=e0) (by rw[F.env,hf])]
 unfold qR;simp only[hf];cases n with
 |none=>
  obtain⟨oe,vs,a0,he,hc,hd,h0,h1⟩:=E.ob;refine yf (jg he hd h1 ?_);rw[if_neg (by decide)]
  exact E.entry F.pin hst hf q
 |some p=>
  obtain⟨T,f⟩:=p;obtain⟨oe,vs,a0,oT,ts,he,hc,hd,h0,h1,hne,hT,hdT,h3⟩:=id E.ob;refine yf (jg he hd h1 ?_);rw[if_pos (show(yb.ref T != yb.none)=true from by simp)]
  refine yf (jg hT hdT h3 ?_);by_cases hfl:(f == yW L)=true
  ·rw[if_pos hfl];refine yx (q T s ?_);have:f=yW L:=by simpa using hfl
   rw[<- this];exact E
  ·rw[if_neg hfl];exact yf (E.setT λs1 E1=>E1.entry F.pin hst hf q)
theorem Exc.flight{f:yb}{fr:Option yc}{Q:Unit->ye->Prop}{Ee:yb->ye->Prop}(E:Exc X pins σ H a cv (some (T,f)) s)
  (q:∀s',Exc X pins σ H a cv (some (T,fr.elim .none λf=>yW f)) s'->Q () s'):yi (ym X.prog X.w) X.A (setFlight (.ref a) fr) Q Ee s:=by
 obtain⟨oe,vs,a0,oT,ts,he,hc,hd,h0,h1,hne,hT,hdT,h3⟩:=id E.ob;unfold setFlight;refine yf (jg he hd h1 ?_);rw[if_pos (show(yb.ref T != yb.none)=true from by simp)]
 exact E.setT q
theorem Exc.leave{L:yc}{Q:Unit->ye->Prop}{Ee:yb->ye->Prop}(F:InFrame X L)(E:Exc X pins σ H a cv n s)
  (q:∀T' s',Exc X pins σ H a cv (some (T',.none)) s'->Q () s'):yi (ym X.prog X.w) X.A (leaving X.env (.ref a)) Q Ee s:=by
 unfold leaving;exact yf (E.note F λT' s1 E1=>E1.flight (fr:=none) λs2 E2=>q T' s2 E2)
theorem Exc.pass{α:Type}{w:String}{f:yb}{env:Env}{Q:α->ye->Prop}{Ee:yb->ye->Prop}(E:Exc X pins σ H a cv (some (T,f)) s)
  (q:∀fl s',Exc X pins σ H a cv (some (T,fl)) s'->Ee (.ref a) s'):yi (ym X.prog X.w) X.A (PySem.passOn w (.ref a) env:Sem α) Q Ee s:=by
 obtain⟨oe,vs,a0,oT,ts,he,hc,hd,h0,h1,hne,hT,hdT,h3⟩:=id E.ob;unfold PySem.passOn;refine yf (jg he hd h1 ?_);rw[if_neg (show ¬((yb.ref T == yb.none)=true) from jy)];exact yf (E.flight λs1 E1=>wpAny_throw (q _ _ E1))
end
def XE(X:Cx)(cl:Str->yb)(W:Str->Hp->Prop):yb->ye->Prop:=λe s=>∃a c pins σ H n,e=.ref a/\Exc X pins σ H a (cl c) n s/\W c H
abbrev Cx.xw(X:Cx)(cl:Str->yb)(W:Str->Hp->Prop):Cx:=X.wish (XE X cl W)
def CX1(P:y6)(w:y0):CXT:=λouter H s E e s'=>∃a cv T H',e=.ref a/\s'.os=s.os/\AllBare s'.gens/\Un (frs outer) [] H H' s.heap s'.heap/\HOk P w H' s'.heap/\H' a=none/\H' T=none /\
 s.heap.get? a=none/\s.heap.get? T=none/\ExO s'.heap a cv (some (T,.none))/\E cv none H'
section
variable {X:Cx}{cl:Str->yb}{W:Str->Hp->Prop}{pins:List (yc×Obj)}{σ:L2.St}{H H':Hp}{s s':ye}{a:yc}
theorem Alien.to(A:Alien X pins H a)(e:H' a=none):Alien X pins H' a:=⟨A.young,A.loc,A.cell,A.pin,e,A.frm⟩
theorem zcW(hp:zfV X){E:XK}{e:yb}(I:Inv X pins σ H s)(h:CX1 X.prog X.w X.stack H s E e s'):∃a cv T H',e=.ref a/\Exc X pins σ H' a cv (some (T,.none)) s'/\E cv none H':=by
 obtain⟨a,cv,T,H',rfl,os,bare,un,hok,ha,hT,na,nT,ob,hE⟩:=h;obtain⟨hh,g,d,t,os'⟩:=s';obtain rfl:os'=s.os:=os;refine⟨a,cv,T,H',rfl,⟨I.call (h':=hh) (g':=g) (d':=d) (t':=t) (ch:=[]) un hok bare (λb z=>absurd z (by simp)),(Jm hp I na).to ha,ob,λT' f z=>?_⟩,hE⟩
 cases z;exact(Jm hp I nT).to hT
theorem pass_xw(hp:zfV X):zb7 (CX1 X.prog X.w) (Cx.xw X cl W) (EX (some cl) W):=λpins σ H s e s' I h=>by
 obtain⟨a,cv,T,H',rfl,x,c,f,e1,rfl,hw⟩:=zcW hp I.unwish h;cases e1;exact⟨a,c,pins,σ,H',_,rfl,x,hw⟩
theorem U9{L:yc}(F:InFrame X L):yY (ym X.prog X.w) X.A X.env (XE X cl W):=λe s h=>by
 obtain⟨a,c,pins,σ,H,n,rfl,x,hw⟩:=h;refine x.note F λT s1 x1=>?_
 obtain⟨oe,vs,a0,oT,ts,he,hc,hd,h0,h1,_⟩:=id x1.ob;show yi _ _ _ _ _ _;refine yf (jg he hd h1 ?_);rw[if_neg (show ¬((yb.ref T == yb.none)=true) from jy)];refine x1.flight (fr:=X.env.frame) λs2 x2=>?_
 rw[F.env]at x2;exact⟨a,c,pins,σ,H,_,rfl,x2,hw⟩
end
structure Clx(P:y6)(w:y0)(K:yh)(mg:Str->Option yb)(base:yd)(cl:Str->yb)(k:Nat)(x:Str)(np:Nat)(f:DF):Prop where
 ex:∃(fa:yc) (fd:yM) (ps:List Str),FnOk P w K mg base (CX1 P w) k fa fd ps (spF K (some cl) np f)/\mg x=some (.ref fa)/\yq K (.ref fa)=true/\ZB K fd ps []
theorem Clx.cal{X:Cx}{cl:Str->yb}{W:Str->Hp->Prop}{k np:Nat}{x:Str}{f:DF}(hp:zfV X)(C:Clx X.prog X.w X.K X.mg X.base cl k x np f):Cal (Cx.xw X cl W) W (some cl) k x np f:=by
 obtain⟨fa,fd,ps,F,hm,hk,hb⟩:=C.ex;exact⟨⟨CX1 X.prog X.w,fa,fd,ps,F,hm,hk,hb,pass_xw hp⟩,λz=>by cases z⟩
theorem Clx.mono{P:y6}{w:y0}{K:yh}{mg:Str->Option yb}{base:yd}{cl:Str->yb}{j k np:Nat}{x:Str}{f:DF}(C:Clx P w K mg base cl j x np f)(h:j<=k):Clx P w K mg base cl k x np f:=by
 obtain⟨fa,fd,ps,F,r⟩:=C.ex;exact⟨⟨fa,fd,ps,F.mono h,r⟩⟩
theorem pss_xe{X:Cx}{E':yb->ye->Prop}{st:List yk}{t:TS}(h:PSs (X.wish E') st t)(hx:∀e s,E' e s->X.xe e s):PSs X st t:=λpins s σ H D I hw=>
 yI (h pins s σ H D (I.wish _) hw) (λ_ _ q=>q.unwish) hx
section
variable {P:y6}{w:y0}{K:yh}{mg:Str->Option yb}{base:yd}
theorem Zp{CX:CXT}{N:List Str}{qual:Str}{scope:yJ}{f:yc}{cdv:yb}{A:yD}{outer:List Env}{s:ye}{H:Hp}{E:XK}:InFrame (cxOf CX P w K mg base N qual scope f cdv A outer s H E) s.heap.objs.size:=
 ⟨λb z=>absurd (show b∈([]:List yc) from z) (by simp),⟨_,_,rfl,rfl⟩,rfl⟩
theorem fn_okX{cl:Str->yb}{x qual:Str}{st:yk}{f:yc}{fd:yM}{N ps:List Str}{k np:Nat}{d:DS}(F:Fun K x qual st f fd)(S:ae N ps (Ze st))(hnp:ps.length=np)
  (hb:∀(cdv:yb) (A:yD) (outer:List Env) (s:ye) (H:Hp) (E:XK) (W:Str->Hp->Prop),Room k (A.deeper (envOfC qual (Ze st) s.heap.objs.size f cdv)) ->
   SVs (Cx.xw (cxOf (CX1 P w) P w K mg base N qual (Ze st) f cdv A outer s H E) cl W) W false (Zl st) d):FnOk P w K mg base (CX1 P w) (k+1) f fd ps (spF K (some cl) np (ai N.length np d)):=by
 obtain⟨oc,od,kV,doc,pm,an,cdv,ct,osl,rfl,lk,hcd⟩:=F.ex;refine fn_of lk hcd S (λvs H Q E h=>by rw[hnp];exact h.1) λA outer s H vs Q E hr h=>⟨_,pss_xe (hb cdv A outer s H E (λc H'=>E (cl c) none H') hr) (λe s1 hx=>?_),?_⟩
 ·obtain⟨a,c,pins,σ,H',n,rfl,x,hw⟩:=hx;refine x.leave Zp λT s2 x2=>?_
  refine⟨a,cl c,T,H',rfl,x2.inv.os,x2.inv.bare,x2.inv.base,x2.inv.hok,x2.al.trk,(x2.nt T _ rfl).trk,x2.al.young,(x2.nt T _ rfl).young,x2.ob,hw⟩
 ·obtain⟨hl,ts,P',rs,ho,hf,q⟩:=h;have hlt:ts.length=np:=by rw[rs.length];exact hl
  refine⟨_,P',zaJ rs ho hf,?_⟩;unfold ai at q;rw[if_pos hlt]at q;have en:N.length - np=N.length - ts.length:=by rw[hlt]
  rw[en]at q;have sm:∀H' P2,Go H P' H' P2->Same H H':=λH' P2 g=>g.all ho
  have bk:∀H' P2,Go H P' H' P2->Tr H' P2 H' P':=λH' P2 g b o e _ z=>⟨e,λi=>by rw[ho i];exact λz=>(by cases z),by rw[<- g.fbe];exact z.2⟩
  cases e:d (ts.map .val++y3 (N.length - ts.length) .emp) with
  |stuck=>rw[e]at q;exact q.elim
  |exc c=>rw[e]at q;exact λH' P2 g=>q none H' (sm H' P2 g)
  |ok o=>
   rw[e,Res.bind_ok]at q;cases o with
   |nx G=>exact λσ' H' P2 g h'=>q .non H' (sm H' P2 g) (Vf.mpr rfl)
   |rt t=>exact λv H' P2 g r _=>q v H' (sm H' P2 g) (Rl.go (bk H' P2 g) t v r)
   |bk G=>exact q.elim
   |ct G=>exact q.elim
theorem WM{cl:Str->yb}{x:Str}{st:yk}{fa:yc}{fd:yM}{N ps:List Str}{k n np:Nat}{d:DS}(F:Fun K x x st fa fd)(hm:mg x=some (.ref fa))(b:ZB K fd ps [])(S:ae N ps (Ze st))(hnp:ps.length=np)(hN:N.length=n)
  (hb:∀(cdv:yb) (A:yD) (outer:List Env) (s:ye) (H:Hp) (E:XK) (W:Str->Hp->Prop),Room k (A.deeper (envOfC x (Ze st) s.heap.objs.size fa cdv)) ->
   SVs (Cx.xw (cxOf (CX1 P w) P w K mg base N x (Ze st) fa cdv A outer s H E) cl W) W false (Zl st) d):Clx P w K mg base cl (k+1) x np (ai n np d):=by
 subst hN;exact⟨⟨fa,fd,ps,fn_okX F S hnp hb,hm,F.kp,b⟩⟩
end
structure XCls(K:yh)(mg:Str->Option yb)(x:Str)(C:yc):Prop where
 bd:mg x=some (.ref C)
 ex:qy K C [.type "ValueError",.type "Exception",.type "BaseException",.type "object"] "ValueError.__new__"=true
theorem XCls.obj{K:yh}{mg:Str->Option yb}{x:Str}{C:yc}{h:yd}(c:XCls K mg x C)(k:K.In h):OwnCls x C [.type "ValueError",.type "Exception",.type "BaseException",.type "object"] "ValueError.__new__" mg h:=by
 refine⟨c.bd,?_⟩;have q:=c.ex;unfold qy at q;split at q
 ·rename_i d0 cdat slts look;split at q
  ·rename_i C1 tl a0 a1 a2 a3 nid a5 em es;simp only[jl,beq_iff_eq,Bool.not_eq_true']at q;obtain⟨⟨⟨⟨⟨q1,q2⟩,q3⟩,q4⟩,q5⟩,q6⟩:=q;obtain⟨c1,c2,c3,c4,c5,c6,c7,c8,c9,c10,c11⟩:=cdat
   dsimp only at em q3 q5 q6
   subst em q3 q1 q2;obtain⟨lst⟩:=slts
   dsimp only at es
   subst es;exact⟨tl,c4,c1,c5,c2,c6,c7,c8,c9,c10,d0,a0,a1,a2,a3,a5,_,k _ _ look,.of_isNs (PySem.W.isNs_of_in k q5),PySem.W.nsMap_none_of_in k q5 q6,PySem.W.tail_of_in k q4⟩
  ·cases q
 ·cases q
section
variable {X:Cx}{cl:Str->yb}{W:Str->Hp->Prop}{e:yj}{es:List yj}{d:DA}{pos:Pos}
theorem Xo{x:Str}{C:yc}{np cpos:Pos}(hp:zfV X)(c:XCls X.K X.mg x C)(hcl:cl x=.ref C)(ha:AV (Cx.xw X cl W) W (e::es) d)(hg:Gl X x)(hc:X.calm=true:=by rfl)(hdb:(x == ("__debug__" : Str))=false:=by decide)
  (he:yp (e::es) X.env=(false,yz e X.env)::yp es X.env:=by rfl) (hpl:(jc cpos (yp es X.env)).any (·.1)=false:=by rfl)
  (hln:∀G ts,d G=.ok ts->ts.length<=4:=by intro G ts h;have:=zgv G ts h;omega):
  SV (Cx.xw X cl W) W fl (.Raise (some (.Call (.Name x np) (e::es) [] cpos)) none pos) (VG x d):=by
 intro pins s σ H D I ⟨G,P,h,q⟩;unfold VG at q;obtain⟨h',g⟩:=h.az;obtain⟨q1,q2,q3⟩:=zmo q;obtain⟨tl,N,nm,qn,bs,hd,sn,sb,ab,co,dd,k0,k1,k2,k3,k5,mN,hC,hN,hni,tail⟩:=(c.obj I.mod.kin).obj;refine wpAny_Raise_call_subT (C:=C) (nm:=nm) (q:=qn) (N:=N) (bs:=bs) (bm:=tl) (hdct:=hd) (sn:=sn) (sub:=sb) (ab:=ab) (col:=co) (dd:=dd) (k0:=k0) (k1:=k1) (k2:=k2) (k3:=k3) (k5:=k5)
  yco (mN:=mN) (tail.hasType yco.hasBase) (I.ok.hd hc) (by rw[show yp (e::es) (Cx.xw X cl W).env=_ from he];show(false || (jc cpos (yp es X.env)).any (·.1))=false;rw[hpl];rfl) hni (zby I hg c.bd ⟨rfl,?_⟩ hdb)
 have hA:=ha cpos pins s σ H (λvs H2=>vs.length<=4/\W x H2) I ⟨az G,P.bare,h',?_⟩
 ·rw[show yp (e::es) (Cx.xw X cl W).env=_ from he]at hA ⊢;refine Calls.evalArgs_plain (yI hA (λus s2 ⟨vs,H2,I2,r2,hl,hw⟩=>?_) λ_ _ z=>z)
  have hl2:=r2.length;refine⟨rfl,by show us.length<=y7;rw[j6];omega,I2.bk _ _ hC,hN.keeps I2.bk,tail.keeps I2.bk,λh2 a mk=>?_⟩
  obtain⟨t,ho,_,_⟩:=mk.there;refine⟨a,x,pins,σ,H2,none,rfl,⟨I2.unwish.kept (t':=s2.toks) mk.keeps,Jm hp I2.unwish mk.new,⟨_,_,.ref t,ho,hcl.symm,rfl,rfl,rfl⟩,λT f z=>by cases z⟩,hw⟩
 ·cases ed:d (az G) with
  |stuck=>exact absurd ed q2
  |exc c'=>exact λH2 sm=>q1 c' ed H2 P.bare (g.trans (.same sm))
  |ok ts=>exact λvs H2 sm rs=>⟨by rw[<- rs.length];exact hln _ _ ed,q3 ts ed H2 P.bare (g.trans (.same sm))⟩
end
section
variable {X:Cx}{cl:Str->yb}{W:Str->Hp->Prop}{L:yc}{scope:yJ}{N:List Str}
theorem frame_c{s₀:ye}{H₀:Hp}{ex:List yc}{pn:List (yc×Obj)}(F:InFrame X L)(hp:∀b∈ex,∃o,(b,o)∈pn):InFrame (cxC X scope N s₀ H₀ ex pn) L:=⟨hp,F.ex,F.env⟩
theorem InFrame.wish{E:yb->ye->Prop}(F:InFrame X L):InFrame (X.wish E) L:=⟨F.pin,F.ex,F.env⟩
theorem VY(F:InFrame X L):zhX (Cx.xw X cl W) scope N (λY=>XE Y cl W):=by
 intro pins σ H3 s3 fp pn e s' I3 hf pnn hx;obtain⟨a,c,pins',σ',H',n,rfl,x,hw⟩:=hx;refine Exc.note (X:=cxC (Cx.xw X cl W) scope N s3 H3 fp pn) (L:=L) (frame_c (InFrame.wish F) pnn) x λT s1 x1=>?_
 obtain⟨m,hm,_⟩:=x1.inv.loc;refine⟨m,hm,λh' hsb cenv hc=>?_⟩
 have J:Inv (cxC (Cx.xw X cl W) scope N s3 H3 fp) (pn++pins') σ' H' s1:=inv_np (x1.inv.wish λ_ _=>False)
 have I0:Inv X pins σ H' s1:=(CompOk.stop I3 (λb hb=>(hf b hb).1) J).unwish
 have al:∀b,Alien (cxC (Cx.xw X cl W) scope N s3 H3 fp pn) pins' H' b->Alien X pins H' b:=λb A=>(Jm F.pin I3.unwish A.young).to A.trk
 have fo:FpOk X pins H' s3.heap.objs.size:=I3.unwish.fpOk (yu _) x1.inv.free;have ne:∀b,Alien (cxC (Cx.xw X cl W) scope N s3 H3 fp pn) pins' H' b->h'.get? b=s1.heap.get? b:=λb A=>hsb.2 b A.loc
 have aT:=x1.nt T _ rfl;have x2:Exc X pins σ H' a (cl c) (some (T,yW L)) { s1 with heap:=h' }:=by
  refine⟨atC I0 fo hsb,al a x1.al,?_,λT' f z=>by cases z;exact al T aT⟩
  obtain⟨oe,vs,a0,oT,ts,he,hc,hd,h0,h1,hne,hT,hdT,h3⟩:=x1.ob;exact⟨oe,vs,a0,oT,ts,(ne a x1.al).trans he,hc,hd,h0,h1,hne,(ne T aT).trans hT,hdT,h3⟩
 exact x2.pass λfl s2 x3=>⟨a,c,pins,σ,H',_,rfl,x3,hw⟩
end
def cxH(X:Cx)(a:yc):Cx:={ X with A:=X.A.mark (some (.ref a)),calm:=false,xe:=λ_ _=>False }
section
variable {X:Cx}{pins:List (yc×Obj)}{σ:L2.St}{H H':Hp}{s s':ye}{a:yc}{cv:yb}{n:Option (yc×yb)}{cl:Str->yb}{W:Str->Hp->Prop}{L:yc}
theorem inv_h(I:Inv X pins σ H s):Inv (cxH X a) pins σ H s:=
 ⟨⟨I.ok.mod,I.ok.kind,I.ok.glob,I.ok.blt,I.ok.above,I.ok.inj,I.ok.has,I.ok.cab,λz=>(by cases z),I.ok.frames,I.ok.stk,I.ok.exf,I.ok.bs,I.ok.bsz,I.ok.noex,I.ok.exfs,I.ok.funs,I.ok.frf⟩,I.os,I.bare,I.base,I.loc,I.cell,I.free,I.freeC,I.pin,I.hok,I.len⟩
theorem ziB(ok:X.Ok)(I:Inv (cxH X a) pins σ H s):Inv X pins σ H s:=⟨ok,I.os,I.bare,I.base,I.loc,I.cell,I.free,I.freeC,I.pin,I.hok,I.len⟩
theorem exc_h(x:Exc X pins σ H a cv n s):Exc (cxH X a) pins σ H a cv n s:=⟨inv_h x.inv,⟨x.al.young,x.al.loc,x.al.cell,x.al.pin,x.al.trk,x.al.frm⟩,x.ob,λT f z=>let A:=x.nt T f z;⟨A.young,A.loc,A.cell,A.pin,A.trk,A.frm⟩⟩
theorem sp_oh{D:Ends}{f:Flow}(ok:X.Ok)(h:SP (cxH X a) pins D f s'):SP X pins D f s':=by
 cases f with
 |next=>obtain⟨σ',H',I,q⟩:=h;exact⟨σ',H',ziB ok I,q⟩
 |brk=>obtain⟨σ',H',I,q⟩:=h;exact⟨σ',H',ziB ok I,q⟩
 |cont=>obtain⟨σ',H',I,q⟩:=h;exact⟨σ',H',ziB ok I,q⟩
 |ret u=>obtain⟨v,σ',H',I,r,q⟩:=h;exact⟨v,σ',H',ziB ok I,r,q⟩
theorem zlP{K:yh}{M:Model}{A:yD}{E:yb->ye->Prop}{mg:Str->Option yb}{x:Str}{C C':yc}{ob:Obj}{Q:Bool->ye->Prop}(k:K.In s.heap)(c:XCls K mg x C')(ho:s.heap.get? a=some ob)(hc:ob.cls=.ref C)
  (hsub:yaq K (.ref C) (.ref C')=some true) (q:Q true s):yi M A (excMatches (.ref a) (.ref C')) Q E s:=by
 obtain⟨tl,N,nm,qn,bs,hd,sn,sb,ab,co,dd,k0,k1,k2,k3,k5,mN,hC,hN,hni,tail⟩:=(c.obj k).obj;have hB:(yb.ref C'::tl).contains (.type "BaseException")=true:=by rw[List.contains_cons,tail.hasType yco.hasBase,Bool.or_true]
 have nt:=tc_notTuple;obtain⟨hp,g,d,tk,os⟩:=s;unfold excMatches
 repeat (first|(with_reducible refine wpAny_loadPart_at ho ?_;rw[hc])|with_reducible refine wpAny_loadPart_at hC ?_|(with_reducible refine wpAny_isSubtype_exc hC ?_;rw[hB])|(refine(PySem.W.looks_subIn k hsub).at ?_)|wp_step)
 exact q
theorem call_try{ex:yj}{es:List yj}{k np:Nat}{x:Str}{f:DF}{d:DA}{p pos:Pos}(C:Clx X.prog X.w X.K X.mg X.base cl k x np f)(hr:Room k X.A)(hp:zfV X)(hg:Gl X x)(ha:AV X.nox (λ_ _=>False) (ex::es) d)
  (hL:∀G ts,d G=.ok ts->ts.length=np) (hdb:(x == ("__debug__" : Str))=false) (he:yp (ex::es) X.env=(false,yz ex X.env)::yp es X.env) (hpl:(jc pos (yp es X.env)).any (·.1)=false)
  {G:List Sl}{P:Pv}(I:Inv X pins σ H s) (h:Hol X.K H P σ G) {Q:yb->ye->Prop}{Ee:yb->ye->Prop}{ts:List ya}(hd:d G=.ok ts) (hns:f ts≠.stuck)
  (ok:∀t,f ts=.ok t->∀v u H' s',Inv X pins σ H' s'->Same H H'->Rl X.K H' P t v->ax v u->Q u s')
  (xc:∀c,f ts=.exc c->∀a T H' s',Exc X pins σ H' a (cl c) (some (T,.none)) s'->Same H H'->Ee (.ref a) s'):
  yi (ym X.prog X.w) X.A (yz (.Call (.Name x p) (ex::es) [] pos) X.env) Q Ee s:=by
 obtain⟨fa,fd,ps,F,hm,hk,hb⟩:=C.ex;refine yaa (zby I hg hm ?_ hdb);refine ydb (h₀:=X.base) I.ok.mod.kin hk (yI (ha pos pins s σ H (λvs H1=>Same H H1/\Rls X.K H1 P ts vs) (I.wish _) ⟨G,P,h,by rw[hd];exact λvs H' s r=>⟨s,r⟩⟩) (λus s1 hA=>?_) λ_ _ z=>False.elim z) he hpl
 obtain⟨vs,H1,I1,r,sm,rs⟩:=hA;have J:=I1.unwish;refine⟨J.kIn,?_⟩;have h1:=h.same sm;have el:vs++[]=vs:=jF vs;have eu:us++[]=us:=jF us;have gg:Tr H1 P H1 ⟨λ_=>none,λa=>¬Off P a⟩:=λa o e1 _ o1=>⟨e1,λ_ z=>(by cases z),λz=>z o1⟩
 have back:∀H2,Tr H2 ⟨λ_=>none,λa=>¬Off P a⟩ H2 P:=λH2 a o e1 _ o1=>⟨e1,js λz=>o1.2 z⟩
 have sp:spF X.K (some cl) np f (vs++[]) H1 (λv H'=>∃t,f ts=.ok t/\Same H1 H'/\Rl X.K H' P t v) (λcv _ H'=>∃c,f ts=.exc c/\cv=cl c/\Same H1 H'):=by
  rw[el];refine⟨by rw[<- rs.length];exact hL G ts hd,ts,⟨λ_=>none,λa=>¬Off P a⟩,Rls.go gg ts vs rs,λ_=>rfl,⟨λa z=>h1.ld z,h1.tab⟩,?_⟩
  cases e:f ts with
  |ok t=>exact λv H' s r=>⟨t,rfl,s,Rl.go (back H') t v r⟩
  |exc c=>exact λdx H' s=>⟨c,rfl,rfl,s⟩
  |stuck=>exact hns e
 have hl:(us++[]).length=ps.length:=by rw[eu,<- r.length,<- el];exact F.len _ _ _ _ sp
 refine wpAny_call (ya1 (F.run X.A X.stack s1 H1 ⟨us,[]⟩ (us++[]) (vs++[]) _ _ hr J.env0 (hb s1 us J.kIn hl) (by rw[el,eu];exact r) sp) λr' s' hq=>?_)
 cases r' with
 |error e=>
  have hq':CX1 X.prog X.w X.stack H1 s1 (λcv _ H'=>∃c,f ts=.exc c/\cv=cl c/\Same H1 H') e s':=hq
  obtain⟨a,cv,T,H',rfl,x,c,ec,rfl,s2⟩:=zcW hp J hq';exact xc c ec a T H' s' x (sm.trans s2)
 |ok fl=>
  cases fl with
  |ret u=>
   obtain⟨v,H',I',rv,t,et,s2,rl⟩:=J.after hq;exact ok t et v u H' s' I' (sm.trans s2) rl rv
  |next=>exact False.elim hq
  |brk=>exact False.elim hq
  |cont=>exact False.elim hq
def zg9(X:Cx)(cl:Str->yb)(sub:Str->Bool)(C':yc):Prop:=∀c,sub c=true->∃C,cl c=.ref C/\yaq X.K (.ref C) (.ref C')=some true
theorem handled0{Cn:Str}{C':yc}{sub:Str->Bool}{c:Str}{dh:DS}{b₀:yk}{suite:List yk}{np hpos:Pos}{D:Ends}{G:List Sl}{P:Pv}(F:InFrame X L)(hcn:XCls X.K X.mg Cn C')(hgn:Gl X Cn)(hdb:(Cn == ("__debug__" : Str))=false)(hsub:zg9 X cl sub C')(hs:sub c=true)
  (hh:SVs (cxH X a) (λ_ _=>False) fl (b₀::suite) dh) {T:yc}(x:Exc X pins σ H a (cl c) (some (T,.none)) s) (h:Hol X.K H P σ G) (q:VZ X.K (λ_ _=>False) fl H P (dh G) D):
  yi (ym X.prog X.w) X.A (qR (.ref a) X.env) (λ_ s₂=>yi (ym X.prog X.w) X.A (setFlight (.ref a) none) (λ_ s₃=>yi (ym X.prog X.w) X.A (handleBy (.ref a) X.env [.ExceptHandler (some (.Name Cn np)) none (b₀::suite) hpos]) (SP X pins D) X.xe s₃) X.xe s₂) X.xe s:=by
 refine x.note F λT1 s1 x1=>x1.flight (fr:=none) λs2 x2=>?_
 obtain⟨C,ec,hC⟩:=hsub c hs;obtain⟨oe,vs,a0,b1,ho,hc,_⟩:=x2.ob.first
 refine wpAny_handleBy_cons (codeAny_handlers_test (zby (X:=cxH X a) (inv_h x2.inv) hgn hcn.bd ?_ hdb)) (by intro z;cases z)
 refine zlP x2.inv.kIn hcn ho (hc.trans ec) hC ?_;refine codeAny_handlers_suite (Exc.flight (X:=cxH X a) (fr:=none) (exc_h x2) λs3 x3=>?_)
 refine yI (hh pins s3 σ H D x3.inv ⟨G,P,h,q⟩) (λf s4 h4=>sp_oh x2.inv.ok h4) λ_ _ z=>False.elim z
section
variable {Cn:Str}{C':yc}{sub:Str->Bool}{dh:DS}{b₀:yk}{suite:List yk}{np hpos:Pos}{ex:yj}{es:List yj}{k nps:Nat}{x:Str}{f:DF}{d:DA}{p cpos epos pos:Pos}
theorem ss_try(F:InFrame X L)(C:Clx X.prog X.w X.K X.mg X.base cl k x nps f)(hr:Room k X.A)(hg:Gl X x)(ha:AV X.nox (λ_ _=>False) (ex::es) d)(hcn:XCls X.K X.mg Cn C')(hgn:Gl X Cn)(hsub:zg9 X cl sub C')
  (hh:∀a,SVs (cxH X a) (λ_ _=>False) fl (b₀::suite) dh) (hL:∀G ts,d G=.ok ts->ts.length=nps:=by first|exact zgv|exact zit|exact zis|exact zln) (hdb:(x == ("__debug__" : Str))=false:=by decide) (hdn:(Cn == ("__debug__" : Str))=false:=by decide)
  (he:yp (ex::es) X.env=(false,yz ex X.env)::yp es X.env:=by rfl) (hpl:(jc cpos (yp es X.env)).any (·.1)=false:=by rfl) (hsw:jz (.Call (.Name x p) (ex::es) [] cpos) none epos.line X.env=pure false:=by rfl):
  SV X W fl (.Try [.Expr (.Call (.Name x p) (ex::es) [] cpos) epos] [.ExceptHandler (some (.Name Cn np)) none (b₀::suite) hpos] [] [] pos) (dTry (zdY (zi3 f d)) sub dh):=by
 intro pins s σ H D I ⟨G,P,h,q⟩;obtain⟨h',g⟩:=h.az;unfold dTry zdY zi3 at q;cases ed:noX (d (az G)) with
 |exc c=>rcases zcI (d (az G)) with ⟨t,z⟩|z<;>(rw[ed]at z;cases z)
 |stuck=>rw[ed]at q;exact q.elim
 |ok ts=>
  rw[ed,Res.bind_ok]at q;have hd:d (az G)=.ok ts:=zlh ed;refine wpAny_Try_except (ycv (wpAny_Expr_any (call_try C hr F.pin hg ha hL hdb he hpl I h' hd (λz=>?_) (λt et v u H' s' I' sm rl rv=>?_) λc ec a T H' s' xx sm=>?_) I.quiet hsw))
  ·rw[z]at q;exact q.elim
  ·rw[et]at q;refine yac ?_;exact yac ⟨σ,H',I',q σ H' P (.same sm) (h.same sm)⟩
  ·rw[ec]at q;simp only[Res.bind_exc]at q;split at q
   ·rename_i hs;refine handled0 F hcn hgn hdn hsub hs (hh a) xx (h.same sm) ?_;cases eh:dh G with
    |ok o=>
     rw[eh]at q;exact VZ.up (W:=λ_ _=>False) (r:=.ok o) (by cases o<;>exact q) (.same sm)
    |exc c'=>rw[eh]at q;exact q.elim
    |stuck=>rw[eh]at q;exact q.elim
   ·exact q.elim
end
end
section
variable {X:Cx}{W:Str->Hp->Prop}{a b c e:yj}{es:List yj}{da db:DE}{pos:Pos}
theorem zlR{i:Nat}{x:Str}{p1:Pos}(hi:X.N[i]? = some x)(hb:EV X W b db)(hs:zhV b)(hv:Vis X.env.scope x:=by first|exact yg rfl|exact yC (yg rfl)|exact yC (yC rfl))(hd:(x == ("__debug__" : Str))=false:=by decide)
  (hcd:(x == ("__classdict__" : Str))=false:=by decide):EV X W (.Subscript (.Name x p1) b pos) (dIxN i db):=
 Z7 (pe_ix (zlz.or ix_tup) (QS hi hv hd hcd) hb hs) λσ H Q ⟨G,P,h,q⟩=>by
  unfold dIxN at q;cases e:G[i]? with
  |none=>rw[e]at q;exact q.elim
  |some s=>
   rw[e]at q;cases s with
   |emp=>exact q.elim
   |dct xs=>exact q.elim
   |own xs=>
    obtain⟨p,vs,ev,ep,eh,rs⟩:=h.sl i _ e;refine⟨.ref p,getD_some ev,?_⟩;obtain⟨q1,q2,q3⟩:=QG q;refine Z1 h q1 q2 λty y H1 ey s1 h1 ry=>?_
    have q4:=X7.up (q3 ty ey) s1;cases ty<;>try exact q4.elim
    rename_i j;simp only[ag]at q4;cases et:atP xs j with
    |none=>rw[et]at q4;exact q4.elim
    |some t=>
     rw[et]at q4;obtain⟨v,e1,r⟩:=zg7 (Rls.go (.same s1) xs vs rs) et;exact .inl ⟨p,vs,j,v,rfl,Ym.mp ry,SqL.of (s1.kp _ _ eh zaG),e1,q4 v H1 (Same.refl H1) r⟩
   |val t=>
    obtain⟨v,ev,rx⟩:=h.sl i _ e;refine⟨v,getD_some ev,?_⟩;obtain⟨q1,q2,q3⟩:=QG q;refine Z1 h q1 q2 λty y H1 ey s1 h1 ry=>?_
    have q4:=X7.up (q3 ty ey) s1;have rx1:=Rl.go (.same s1) t v rx;cases t<;>cases ty<;>try exact q4.elim
    ·rename_i xs j;obtain⟨l,us,rfl,s2,r2⟩:=YJ.mp rx1;simp only[ag]at q4;cases et:atP xs j with
     |none=>rw[et]at q4;exact q4.elim
     |some t=>
      rw[et]at q4;obtain⟨w,e1,r⟩:=zg7 r2 et;exact .inl ⟨l,us,j,w,rfl,Ym.mp ry,s2.sq,e1,q4 w H1 (Same.refl H1) r⟩
    ·rename_i xs j;obtain⟨l,us,rfl,s2,r2⟩:=Yb.mp rx1;simp only[ag]at q4;cases et:atP xs j with
     |none=>rw[et]at q4;exact q4.elim
     |some t=>
      rw[et]at q4;obtain⟨w,e1,r⟩:=zg7 r2 et;exact .inr ⟨l,us,j,w,rfl,Ym.mp ry,s2.sq,e1,q4 w H1 (Same.refl H1) r⟩
theorem ze0(n d:Nat)(o:Option Int):sIxT n d o=HT.sIx n d o:=by cases o<;>rfl
theorem zmf{K:yh}{H:Hp}{P:Pv}{xs:List ya}{vs:List V}(lo hi:Option Int)(r:Rls K H P xs vs):Rls K H P (cutT xs lo hi) (cutV vs lo hi):=by
 unfold cutT cutV;rw[ze0,ze0,r.length];exact(r.drop _).take _
def PV(X:Cx)(W:Str->Hp->Prop)(e:Option yj)(d:DP):Prop:=PO X e λσ H Q=>∃G P,Hol X.K H P σ G/\match d G with
 |.ok o=>∀H',Same H H'->Q o H'
 |.exc c=>∀H',Same H H'->W c H'
 |.stuck=>False
theorem zcA:PV X W none pNo:=λpins s σ H Q I ⟨G,P,h,q⟩=>po_none pins s σ H Q I (q H (Same.refl H))
theorem zcB(he:EV X W e da):PV X W (some e) (pAt da):=λpins s σ H Q I ⟨G,P,h,q⟩=>po_some he pins s σ H Q I (by
 unfold pAt at q;refine⟨G,P,h,?_⟩;cases ed:da G with
 |stuck=>rw[ed]at q;exact q.elim
 |exc c=>rw[ed]at q;exact q
 |ok t=>
  rw[ed,Res.bind_ok]at q;cases t<;>try exact q.elim
  exact λv H' s r=>⟨_,Ym.mp r,q H' s⟩)
theorem zcD{lo hi:Option yj}{dl dh:DP}{p2:Pos}(ha:EV X W a da)(hl:PV X W lo dl)(hh:PV X W hi dh):OV X W (.Subscript a (.Slice lo hi none p2) pos) (oCut da dl dh):=
 Z7 (zil sl_list ha hl hh) λσ H Q ⟨G,P,h,q⟩=>by
  unfold oCut at q;obtain⟨q1,q2,q3⟩:=zeG q;refine Z1 h q1 q2 λtx x H1 ex s1 h1 rx=>⟨G,P,h1,?_⟩
  have q4:=q3 tx ex;cases el:dl G with
  |stuck=>rw[el]at q4;exact q4.elim
  |exc c=>rw[el]at q4;exact λH' s=>q4 H' (s1.trans s)
  |ok l=>
   rw[el,Res.bind_ok]at q4;refine λH2 s2=>⟨G,P,h1.same s2,?_⟩
   cases eh:dh G with
   |stuck=>rw[eh]at q4;exact q4.elim
   |exc c=>rw[eh]at q4;exact λH' s=>q4 H' ((s1.trans s2).trans s)
   |ok u=>
    rw[eh,Res.bind_ok]at q4;intro H3 s3;cases tx<;>try exact q4.elim
    obtain⟨p,vs,rfl,sl,rs⟩:=YJ.mp (Rl.go (.same (s2.trans s3)) _ x rx);exact⟨p,vs,rfl,sl.sq,λp hp=>q4 p _ _ (((s1.trans s2).trans s3).trans (ZJ hp)) (((s1.trans s2).trans s3).free hp) Zw (zcw hp (zmf l u rs))⟩
end
theorem Clx.calN{X:Cx}{cl:Str->yb}{k np:Nat}{x:Str}{f:DF}(C:Clx X.prog X.w X.K X.mg X.base cl k x np f):Cal X (λ_ _=>False) (some cl) k x np f:=by
 obtain⟨fa,fd,ps,F,hm,hk,hb⟩:=C.ex;refine⟨⟨CX1 X.prog X.w,fa,fd,ps,F,hm,hk,hb,λpins σ H s e s' I h=>?_⟩,λz=>by cases z⟩
 obtain⟨_,_,_,_,_,_,_,_,_,_,_,_,_,_,c,g,_,_,z⟩:=h;exact z.elim
theorem zeF{X:Cx}{cl:Str->yb}{C':yc}:zg9 X cl (subs []) C':=λc h=>by simp at h
theorem zdw{X:Cx}{cl:Str->yb}{C' C:yc}{x:Str}{l:List Str}(e:cl x=.ref C)(h:yaq X.K (.ref C) (.ref C')=some true)(r:zg9 X cl (subs l) C'):zg9 X cl (subs (x::l)) C':=λc hc=>by
 simp only[subs,List.contains_cons,qp]at hc;rcases hc with z|z
 ·have:c=x:=by simpa using z
  subst this;exact⟨C,e,h⟩
 ·exact r c z
def PostN(K:yh)(H:Hp)(P:Pv)(t:ya)(Q:VK):Prop:=match t with
 |.list xs=>∀p us H',Same H H'->H p=none->H' p=some (.lst us)->Rls K H' (P.fbd p) xs us->Q (.ref p) H'
 |t=>∀v H',Same H H'->Rl K H' P t v->Q v H'
def spN(K:yh)(cl:Option (Str->yb))(np:Nat)(f:DF):Sp:=λvs H Q E=>vs.length=np/\∃ts P,Rls K H P ts vs/\(∀i,P.own i=none)/\((∀a,P.fb a->∃o,H a=some o/\LD o)/\Qm K H) /\
 match f ts with
 |.ok t=>PostN K H P t Q
 |.exc c=>spX E H c cl
 |.stuck=>False
theorem spN_of{K:yh}{cl:Option (Str->yb)}{np:Nat}{f:DF}(vs:List V)(H:Hp)(Q:VK)(E:XK)(h:spF K cl np f vs H Q E):spN K cl np f vs H Q E:=by
 obtain⟨hl,ts,P,rs,ho,hf,q⟩:=h;refine⟨hl,ts,P,rs,ho,hf,?_⟩;cases e:f ts with
 |stuck=>rw[e]at q;exact q
 |exc c=>rw[e]at q;exact q
 |ok t=>
  rw[e]at q;cases t<;>try exact q
  rename_i xs;exact λp us H' s hp hl' r=>q _ H' s (YJ.mpr ⟨p,us,rfl,.off hl' ⟨λi z=>(by rw[ho i]at z;cases z),λz=>by obtain⟨o,q',_⟩:=hf.1 p z;rw[hp]at q';cases q'⟩,Rls.go .fbd xs us r⟩)
theorem fn_new{P:y6}{w:y0}{K:yh}{mg:Str->Option yb}{base:yd}{x qual:Str}{st:yk}{f:yc}{fd:yM}{N ps:List Str}{k np:Nat}{d:DS}(F:Fun K x qual st f fd)(S:ae N ps (Ze st))(hnp:ps.length=np)
  (hb:∀(cdv:yb) (A:yD) (outer:List Env) (s:ye) (H:Hp) (E:XK),Room k (A.deeper (envOfC qual (Ze st) s.heap.objs.size f cdv)) ->
   SVs (cxOf CX0 P w K mg base N qual (Ze st) f cdv A outer s H E).nox (λ_ _=>False) true (Zl st) d):FnOk P w K mg base CX0 (k+1) f fd ps (spN K none np (ah N.length np d)):=by
 refine F.ok S (λvs H Q E h=>by rw[hnp];exact h.1) λcdv A outer s H vs Q E hr h=>⟨_,hb cdv A outer s H E hr,?_⟩
 obtain⟨hl,ts,P',rs,ho,hf,q⟩:=h;have hlt:ts.length=np:=by rw[rs.length];exact hl
 refine⟨_,P',zaJ rs ho hf,?_⟩;unfold ah ai at q;rw[if_pos hlt]at q;have en:N.length - np=N.length - ts.length:=by rw[hlt]
 rw[en]at q;have sm:∀H' P2,Go H P' H' P2->Same H H':=λH' P2 g=>g.all ho
 cases e:d (ts.map .val++y3 (N.length - ts.length) .emp) with
 |stuck=>rw[e]at q;exact q.elim
 |exc c=>rw[e]at q;exact q.elim
 |ok o=>
  rw[e,Res.bind_ok]at q;cases o with
  |nx G=>exact λσ' H' P2 g h'=>q .non H' (sm H' P2 g) (Vf.mpr rfl)
  |rt t=>
   intro v H' P2 g r n;obtain⟨p,us,xs,rfl,rfl,e3,rr,fr⟩:=n rfl;refine q p us H' (sm H' P2 g) ?_ e3 (Rls.go (P:=P2.fbd p) (P':=P'.fbd p) (λb o e _ z=>⟨e,λi w=>(by have w':P'.own i=some b:=w;rw[ho i]at w';cases w'),λw=>z.2 (Or.elim w (λw=>yg (by rw[g.fbe];exact w)) yC)⟩) xs us rr)
   cases eh:H p with
   |none=>rfl
   |some o=>
    by_cases nt:Nt o
    ·obtain⟨i,w⟩:=fr o eh nt;rw[ho i]at w;cases w
    ·obtain⟨ps',rfl⟩:=not_nt nt;obtain⟨qs,w⟩:=g.tbk _ _ eh;rw[e3]at w;cases w
  |bk G=>exact q.elim
  |ct G=>exact q.elim
structure Cln(P:y6)(w:y0)(K:yh)(mg:Str->Option yb)(base:yd)(k:Nat)(x:Str)(np:Nat)(f:DF):Prop where
 ex:∃(fa:yc) (fd:yM) (ps:List Str),FnOk P w K mg base CX0 k fa fd ps (spN K none np f)/\mg x=some (.ref fa)/\yq K (.ref fa)=true/\ZB K fd ps []
 nox:∀ts c,f ts≠.exc c
structure Caln(X:Cx)(W:Str->Hp->Prop)(cl:Option (Str->yb))(k:Nat)(x:Str)(np:Nat)(f:DF):Prop where
 ex:∃(CX:CXT) (fa:yc) (fd:yM) (ps:List Str),FnOk X.prog X.w X.K X.mg X.base CX k fa fd ps (spN X.K cl np f)/\X.mg x=some (.ref fa)/\yq X.K (.ref fa)=true/\ZB X.K fd ps []/\zb7 CX X (EX cl W)
 nox:cl=none->∀ts c,f ts≠.exc c
section
variable {P:y6}{w:y0}{K:yh}{mg:Str->Option yb}{base:yd}
theorem Cln.cle{k np:Nat}{x:Str}{f:DF}(C:Cln P w K mg base k x np f):Cle P w K mg base k x np f:=by
 obtain⟨fa,fd,ps,F,r⟩:=C.ex;exact⟨⟨fa,fd,ps,F.imp spN_of,r⟩,C.nox⟩
theorem Cln.mono{j k np:Nat}{x:Str}{f:DF}(C:Cln P w K mg base j x np f)(h:j<=k):Cln P w K mg base k x np f:=by
 obtain⟨fa,fd,ps,F,r⟩:=C.ex;exact⟨⟨fa,fd,ps,F.mono h,r⟩,C.nox⟩
theorem Cln.cal{X:Cx}{W:Str->Hp->Prop}{k np:Nat}{x:Str}{f:DF}(C:Cln X.prog X.w X.K X.mg X.base k x np f):Caln X W none k x np f:=by
 obtain⟨fa,fd,ps,F,hm,hk,hb⟩:=C.ex;exact⟨⟨CX0,fa,fd,ps,F,hm,hk,hb,λ_ _ _ _ _ _ _ h=>h.elim⟩,λ_=>C.nox⟩
theorem cln_of{x:Str}{st:yk}{fa:yc}{fd:yM}{N ps:List Str}{k n np:Nat}{d:DS}(F:Fun K x x st fa fd)(hm:mg x=some (.ref fa))(b:ZB K fd ps [])(S:ae N ps (Ze st))(hnp:ps.length=np)(hN:N.length=n)
  (hb:∀(cdv:yb) (A:yD) (outer:List Env) (s:ye) (H:Hp) (E:XK),Room k (A.deeper (envOfC x (Ze st) s.heap.objs.size fa cdv)) ->
   SVs (cxOf CX0 P w K mg base N x (Ze st) fa cdv A outer s H E).nox (λ_ _=>False) true (Zl st) d):Cln P w K mg base (k+1) x np (ah n np d):=by
 subst hN;exact⟨⟨fa,fd,ps,fn_new F S hnp hb,hm,F.kp,b⟩,λts c=>ze1 _ _ _ ts c⟩
end
section
variable {X:Cx}{W:Str->Hp->Prop}{fl:Bool}{a b c e:yj}{es:List yj}{da db:DE}{pos:Pos}
theorem ov_call{cl:Option (Str->yb)}{k np:Nat}{x:Str}{f:DF}{d:DA}{p:Pos}(C:Caln X W cl k x np f)(hr:Room k X.A)(hg:Gl X x)(ha:AV X W (e::es) d)(hL:∀G ts,d G=.ok ts->ts.length=np:=by first|exact zgv|exact zit|exact zis|exact zln)(hdb:(x == ("__debug__" : Str))=false:=by decide)
  (he:yp (e::es) X.env=(false,yz e X.env)::yp es X.env:=by rfl) (hpl:(jc pos (yp es X.env)).any (·.1)=false:=by rfl):OV X W (.Call (.Name x p) (e::es) [] pos) (oCall f d):=by
 obtain⟨CX,fa,fd,ps,F,hm,hk,hb,hx⟩:=C.ex;refine Z7 (zk2 (x:=x) (p:=p) F hr hg hm hk hb .nil hx ha (hdb:=hdb) (he:=he) (hpl:=hpl)) λσ H Q ⟨G,P,h,q⟩=>?_
 unfold oCall at q;obtain⟨q1,q2,q3⟩:=zi9 q;refine Qp h q1 q2 λts vs H1 es' s1 h1 rs=>?_
 have q4:=q3 ts es';have el:(vs++[])=vs:=jF vs;rw[el];have gg:Tr H1 P H1 ⟨λ_=>none,λa=>¬Off P a⟩:=λa o e1 _ o1=>⟨e1,λ_ z=>(by cases z),λz=>z o1⟩
 refine⟨by rw[<- rs.length];exact hL G ts es',ts,⟨λ_=>none,λa=>¬Off P a⟩,Rls.go gg ts vs rs,λ_=>rfl,⟨λa z=>h1.ld z,h1.tab⟩,?_⟩
 ·cases e:f ts with
  |ok t=>
   rw[e,Res.bind_ok]at q4;cases t<;>try exact q4.elim
   rename_i xs;intro p us H' s hp hl r;refine q4 p us H' (s1.trans s) (s1.free hp) hl (Rls.go (λb o eb _ z=>⟨eb,?_⟩) xs us r)
   have o1:Off P b:=js λw=>z.2 (.inl w)
   exact⟨o1.1,λw=>w.elim o1.2 λw=>z.2 (.inr w)⟩
  |exc c=>
   rw[e]at q4;cases ec:cl with
   |none=>exact absurd e (C.nox ec ts c)
   |some g=>exact λdx H' s=>⟨c,g,rfl,rfl,q4 H' (s1.trans s)⟩
  |stuck=>rw[e]at q4;exact q4
theorem ss_retO(i:Nat){x:Str}{p:Pos}(hN:X.N[i]? = some x:=by rfl)(hv:Vis X.env.scope x:=by first|exact yg rfl|exact yC (yg rfl)|exact yC (yC rfl))(hd:(x == ("__debug__" : Str))=false:=by decide)
  (hcd:(x == ("__classdict__" : Str))=false:=by decide):SV X W fl (.Return (some (.Name x p)) pos) (dRetO i):=
 X9 (zkV (QS hN hv hd hcd)) λD σ H ⟨G,P,h,q⟩=>by
  unfold dRetO at q;obtain⟨h',g⟩:=h.az;cases e:G[i]? with
  |none=>rw[e]at q;exact q.elim
  |some s=>
   rw[e]at q;cases s with
   |emp=>exact q.elim
   |val t=>exact q.elim
   |dct xs=>exact q.elim
   |own xs=>
    obtain⟨p',vs,e1,e2,e3,r⟩:=h.sl i _ e;have z:(az G)[i]? = some (.val (.list xs)):=by rw[Qx,e];rfl
    obtain⟨v,e4,r2⟩:=h'.sl i _ z;rw[e1]at e4;cases e4;exact⟨.ref p',getD_some e1,q _ H P.bare g r2 λ_=>⟨p',vs,xs,rfl,rfl,e3,Rls.go (P:=P) (P':=P.bare.fbd p') (λa o ea _ o1=>⟨ea,λj w=>(by cases w),λw=>Or.elim w o1.2 λw=>o1.1 i (by rw[e2,w])⟩) xs vs r,λo _ _=>⟨i,e2⟩⟩⟩
end
section
variable {X:Cx}{W:Str->Hp->Prop}{fl:Bool}{tg a b c e:yj}{es:List yj}{da db dc:DE}{pos:Pos}
theorem tCB2_of{r:List V->Hp->VK->Prop}{f:ya->ya->Res ya}(hf:∀(H:Hp) (P:Pv) (σ:L2.St) (G:List Sl) (x y:V) (tx ty:ya) (Q:VK),Hol X.K H P σ G->Rl X.K H P tx x->Rl X.K H P ty y->X7 X.K W H P (f tx ty) Q->r [x,y] H Q){σ:L2.St}{H:Hp}{Q:VK}(h:tF X.K W (d2 f da db) σ H Q):
  tCB r (zki (tF X.K W da) (zki (tF X.K W db) tNil)) σ H Q:=by
 obtain⟨G,P,h,q⟩:=h;unfold d2 at q;obtain⟨q1,q2,q3⟩:=QG q;refine Z1 h q1 q2 λtx x H1 ex s1 h1 rx=>?_
 obtain⟨q4,q5,q6⟩:=QG (q3 tx ex);refine Z1 h1 (λc e H' s=>q4 c e H' (s1.trans s)) q5 λty y H2 ey s2 h2 ry=>?_
 exact hf H2 P σ G x y tx ty Q h2 (Rl.go (.same s2) tx x rx) ry ((q6 ty ey).up (s1.trans s2))
theorem ev_max{p:Pos}(hg:Gl X "max")(hm:X.mg "max"=none)(ha:EV X W a da)(hb:EV X W b db)(hc:X.calm=true:=by rfl)(hs:yp [a,b] X.env=(false,yz a X.env)::yp [b] X.env:=by rfl)(hs2:yp [b] X.env=(false,yz b X.env)::yp [] X.env:=by rfl)
  (hpl:(jc pos (yp [b] X.env)).any (·.1)=false:=by rfl):EV X W (.Call (.Name "max" p) [a,b] [] pos) (d2 fMax da db):=
 Z7 (zaC (zmk hc) hg hm (show yP "max"=some (.builtin "max") by decide +kernel) (Y3 ha (Y3 hb W5 hs2) hs) (he:=hs) (hpl:=hpl)) λσ H Q h=>tCB2_of (λH P σ G x y tx ty Q h rx ry q=>by
  cases tx<;>cases ty<;>try exact q.elim
  exact⟨_,_,by rw[Ym.mp rx,Ym.mp ry],WT q⟩) h
end
section
variable {K:yh}{H H':Hp}{P P':Pv}
theorem zkN{C:yc}{f:Str}{t:ya}:∀{kvs:List (ya×ya)}{fs:List (Str×V)},Rlp K H P C kvs fs->lkp f kvs=some t->∃v,fs.lookup f=some v/\UJ K C f/\Rl K H P t v
 |[],fs,_,e=>by simp[lkp]at e
 |(k,u)::r,fs,h,e=>by
  obtain⟨n,v,r',rfl,rfl,na,rv,rr⟩:=zif.mp h;simp only[lkp]at e;split at e
  ·rename_i z;cases e;subst z;exact⟨v,by rw[yai,beq_self_eq_true],na,rv⟩
  ·rename_i z;obtain⟨v',e1,e2,e3⟩:=zkN rr e;refine⟨v',?_,e2,e3⟩;rw[yai,show(f == n)=false from beq_eq_false_iff_ne.mpr λq=>z q.symm]
   exact e1
theorem zkL{C:yc}:∀{ns:List Str}{ts:List ya}{vs:List V},(∀n∈ns,UJ K C n)->Rls K H P ts vs->Rlp K H P C (zipK ns ts) (ns.zip vs)
 |[],ts,vs,_,_=>by simp only[zipK,List.zip_nil_left];exact zkM.mpr rfl
 |n::ns,[],vs,_,r=>by rw[Yy.mp r];simp only[zipK,List.zip_nil_right];exact zkM.mpr rfl
 |n::ns,t::ts,vs,h,r=>by
  obtain⟨v,r',rfl,a,b⟩:=ZY.mp r;simp only[zipK,List.zip_cons_cons];exact zif.mpr ⟨n,v,_,rfl,rfl,h n (by simp),a,zkL (λm hm=>h m (by simp[hm])) b⟩
end
def spI(C:yc)(ns:List Str):Sp:=λvs H Q _=>∃x dx us,vs=.ref x::us/\us.length=ns.length/\H x=some (.ins C dx [])/\Q .non (upd H x (.ins C dx (ns.zip us)))
theorem spI_len{C:yc}{ns:List Str}{vs:List V}{H:Hp}{Q:VK}{E:XK}(h:spI C ns vs H Q E):vs.length=ns.length+1:=by
 obtain⟨x,dx,us,rfl,hl,_⟩:=h;simp[hl]
theorem spI3{C:yc}{n1 n2 n3:Str}{vs:List V}{H:Hp}{Q:VK}{E:XK}(h:spI C [n1,n2,n3] vs H Q E):∃x dx u1 u2 u3,vs=[.ref x,u1,u2,u3]/\H x=some (.ins C dx [])/\Q .non (upd H x (.ins C dx [(n1,u1),(n2,u2),(n3,u3)])):=by
 obtain⟨x,dx,us,rfl,hl,hx,q⟩:=h
 match us,hl with
 |[u1,u2,u3],_=>exact⟨x,dx,u1,u2,u3,rfl,hx,q⟩
theorem putF3{n1 n2 n3:Str}{u1 u2 u3:V}(h12:¬n1=n2)(h13:¬n1=n3)(h23:¬n2=n3):putF n3 u3 (putF n2 u2 (putF n1 u1 []))=[(n1,u1),(n2,u2),(n3,u3)]:=by
 show putF n3 u3 (putF n2 u2 [(n1,u1)])=_;show putF n3 u3 (if n1=n2 then _ else(n1,u1)::[(n2,u2)])=_
 rw[if_neg h12];show(if n1=n3 then _ else(n1,u1)::(if n2=n3 then _ else(n2,u2)::[(n3,u3)]))=_
 rw[if_neg h13,if_neg h23]
structure Mko(P:y6)(w:y0)(K:yh)(mg:Str->Option yb)(base:yd)(k:Nat)(x:Str)(ns:List Str):Prop where
 ex:∃(C f:yc) (fd:yM) (ps:List Str),L2.Mk K C f/\FnOk P w K mg base CX0 k f fd ps (spI C ns)/\mg x=some (.ref C)/\ZB K fd ps []/\Cls K C/\∀n∈ns,UJ K C n
theorem Mko.mono{P:y6}{w:y0}{K:yh}{mg:Str->Option yb}{base:yd}{j k:Nat}{x:Str}{ns:List Str}(M:Mko P w K mg base j x ns)(h:j<=k):Mko P w K mg base k x ns:=by
 obtain⟨C,f,fd,ps,m,F,r⟩:=M.ex;exact⟨C,f,fd,ps,m,F.mono h,r⟩
section
variable {X:Cx}{W:Str->Hp->Prop}{fl:Bool}{a b c e:yj}{es:List yj}{da db:DE}{pos:Pos}
theorem Xc{f:Str}(ha:EV X W a da)(hb:yae a f X.env (yz a X.env)=yz a X.env:=by rfl):EV X W (.Attribute a f pos) (d1 (ay f) da):=
 Z7 (pe_fld ha hb) λσ H Q ⟨G,P,h,q⟩=>by
  unfold d1 at q;obtain⟨q1,q2,q3⟩:=QG q;refine Z1 h q1 q2 λtx x H1 ex s1 h1 rx=>?_
  have q4:=X7.up (q3 tx ex) s1;cases tx<;>try exact q4.elim
  rename_i kvs;cases kvs with
  |nil=>exact q4.elim
  |cons y ys=>
   obtain⟨k,w⟩:=y;cases k<;>try exact(show False from q4).elim
   rename_i sk;obtain⟨a,C,dx,fs,rfl,ha,off,cl,r⟩:=rl_obj.mp rx;simp only[ay]at q4;cases el:lkp f ((.str sk,w)::ys) with
   |none=>rw[el]at q4;exact q4.elim
   |some t=>
    rw[el]at q4;obtain⟨v,hv,na,rv⟩:=zkN r el;exact⟨a,C,dx,fs,v,rfl,ha,cl,na,hv,q4 v H1 (Same.refl _) rv⟩
theorem zlQ{k:Nat}{x:Str}{ns:List Str}{d:DA}{p:Pos}(M:Mko X.prog X.w X.K X.mg X.base k x ns)(hr:Room (k+1) X.A)(hg:Gl X x)(ha:AV X W (e::es) d)(hdb:(x == ("__debug__" : Str))=false:=by decide)
  (he:yp (e::es) X.env=(false,yz e X.env)::yp es X.env:=by rfl) (hpl:(jc pos (yp es X.env)).any (·.1)=false:=by rfl):EV X W (.Call (.Name x p) (e::es) [] pos) (dMk ns d):=by
 obtain⟨C,f,fd,ps,m,F,hm,hb,cl,na⟩:=M.ex;refine Z7 (pe_make (x:=x) (p:=p) (E:=E0) m F hr hg hm hb .nil pass0 ha (hdb:=hdb) (he:=he) (hpl:=hpl)) λσ H Q ⟨G,P,h,q⟩=>?_
 unfold dMk at q;obtain⟨q1,q2,q3⟩:=zja q;refine Qp h q1 q2 λts vs H1 es' s1 h1 rs=>?_
 have q4:=X7.up (q3 ts es') s1;split at q4
 ·rename_i hl;intro x dx hx hdx hne;have sm:Same H1 (upd (upd (upd H1 dx (.own x)) x (.ins C dx [])) x (.ins C dx (ns.zip vs))):=.of λb o e=>by
   rw[Zu (Z3 e hx),Zu (Z3 e hx),Zu (Z3 e hdx)];exact e
  refine⟨x,dx,vs++[],rfl,by rw[jF,<- rs.length];exact hl.1,Zw,rfl,?_⟩
  rw[jF];refine q4 _ _ sm ?_;obtain⟨hl,hn⟩:=hl;have rz:=zkL (K:=X.K) (C:=C) (ns:=ns) na (Rls.go (.same sm) ts vs rs);cases ns with
  |nil=>exact absurd rfl hn
  |cons n ns=>
   cases ts with
   |nil=>simp at hl
   |cons t ts=>exact rl_obj.mpr ⟨x,C,dx,_,rfl,Zw,h1.off_new hx,cl,rz⟩
 ·exact q4.elim
theorem ziJ{K:yh}{H:Hp}{P:Pv}{ts:List ya}{vs:List V}(r:Rls K H P ts vs):∀n:Nat,Rls K H P (y3 n ts).flatten (y3 n vs).flatten
 |0=>Yy.mpr rfl
 |n+1=>by
  rw[qd,qM,qd,qM];exact r.append (ziJ r n)
theorem zk5{dl:DA}(ha:OV X W a dl)(hb:EV X W b db):OV X W (.BinOp a .Mult b pos) (oRep dl db):=
 Z7 (pe_op op_rep ha hb) λσ H Q ⟨G,P,h,q⟩=>by
  unfold oRep at q;obtain⟨q1,q2,q3⟩:=zi9 q;refine⟨G,P,h,?_⟩;cases el:dl G with
  |stuck=>exact absurd el q2
  |exc c=>exact λH' s=>q1 c el H' s
  |ok xs=>
   intro p vs H1 s1 hp hl rl;obtain⟨q4,q5,q6⟩:=zeG (q3 xs el);refine Z1 (h.same s1) (λc e H' s=>q4 c e H' (s1.trans s)) q5 λty y H2 ey s2 h2 ry=>?_
   have q7:=q6 ty ey;cases ty<;>try exact q7.elim
   rename_i k;simp only at q7;split at q7
   ·rename_i hz;have hb1:=Jy hz.1;have el2:=rl.length;refine⟨p,k,vs,rfl,Ym.mp ry,s2.kp _ _ hl zaG,by omega,by omega,by rw[j6,<- el2];exact hz.2,λp2 hp2=>?_⟩
    refine q7 p2 _ _ ((s1.trans s2).trans (ZJ hp2)) ((s1.trans s2).free hp2) Zw ?_;exact zcw hp2 (ziJ (Rls.go (P:=P.fbd p) (P':=P) .fbd _ _ (Rls.go (.same s2) _ _ rl)) k.toNat)
   ·exact q7.elim
theorem zka:∀{xs:List V}{us:List yb},xs.length=us.length->(∀(i:Nat) x u,xs[i]? = some x->us[i]? = some u->ax x u)->Vals xs us
 |[],[],_,_=>.nil
 |[],u::us,h,_=>by simp at h
 |x::xs,[],h,_=>by simp at h
 |x::xs,u::us,h,r=>.cons (r 0 x u rfl rfl) (zka (by simpa using h) λi y v e1 e2=>r (i+1) y v (by simpa using e1) (by simpa using e2))
theorem za8(hc:X.calm=true):zdz X (.type "list") (λxs H Q=>∃r lo hi,xs=[.ref r]/\H r=some (.rng lo hi)/\-(2 ^ 62)<=lo/\lo<2 ^ 62/\-(2 ^ 62)<=hi/\hi<2 ^ 62/\(hi - lo).toNat<=16777216 /\
  ∀l,H l=none->Q (.ref l) (upd H l (.lst ((y4 (hi - lo).toNat).map λ(i:Nat)=>V.int (lo+(i:Int)))))):=by
 intro pins s σ H xs us Q I r h;obtain⟨p,lo,hi,rfl,hp,h1,h2,h3,h4,hz,q⟩:=h;obtain⟨u,rfl,rx⟩:=zeI r;cases rx;obtain⟨t,u,v,e⟩:=(show ∃t u v,s.heap.get? p=some { cls:=.type "range",data:=.fields #[.int lo t,.int hi u,.int 1 v] } from I.hok p _ hp);refine call_list_range (n:=(hi - lo).toNat) (I.ok.hd hc) (show IsRange s.heap p lo hi 1 t u v from e) (small_one h1 h2 h3 h4) (by rw[rangeSize_one];split<;>omega) hz λh' tk acc c' kp ea it=>?_
 have rv:Vals ((y4 (hi - lo).toNat).map λ(i:Nat)=>V.int (lo+(i:Int))) acc.toList:=by
  refine zka (by rw[yQ,List.length_range,ya0,it.1]) λi x u e1 e2=>?_
  rw[jb]at e1;cases ei:(y4 (hi - lo).toNat)[i]? with
  |none=>rw[ei]at e1;cases e1
  |some j=>
   rw[ei]at e1;obtain⟨hj,ej⟩:=yV.mp ei;rw[ydc]at ej;subst ej;cases e1;obtain⟨t,rfl⟩:=it.2 i u (by simpa using e2)
   exact⟨t,by rw[qB]⟩
 refine⟨.ref s.heap.objs.size,_,I.laid (t':=tk) kp (yu _) (show W4 X.prog X.w _ h' _ (.lst _) from⟨by rw[yQ,List.length_range,j6];exact hz,acc.toList,c',rv,by simpa using ea⟩),rfl,q _ (I.hok.fresh (yu _))⟩
theorem zi8:zdz X (.type "range") (λxs H Q=>(∃j,xs=[.int j]/\∀r,H r=none->Q (.ref r) (upd H r (.rng 0 j)))\/(∃i j,xs=[.int i,.int j]/\∀r,H r=none->Q (.ref r) (upd H r (.rng i j)))):=by
 intro pins s σ H xs us Q I r h;rcases h with ⟨j,rfl,q⟩|⟨i,j,rfl,q⟩
 ·obtain⟨u,rfl,t,rfl⟩:=zeI r;refine call_range_1 ⟨.ref s.heap.objs.size,_,I.laid (λb o e=>yA _ e) (yu _) (show W4 X.prog X.w _ _ _ (.rng 0 j) from⟨_,_,_,yO _ rfl⟩),rfl,q _ (I.hok.fresh (yu _))⟩
 ·cases r with
  |cons r1 rr=>
   cases rr with
   |cons r2 rr=>
    cases rr;obtain⟨t,rfl⟩:=r1;obtain⟨t',rfl⟩:=r2;refine call_range_2 ⟨.ref s.heap.objs.size,_,I.laid (λb o e=>yA _ e) (yu _) (show W4 X.prog X.w _ _ _ (.rng i j) from⟨_,_,_,yO _ rfl⟩),rfl,q _ (I.hok.fresh (yu _))⟩
theorem zic{K:yh}{H:Hp}{P:Pv}(lo:Int)(n:Nat):Rls K H P (aw lo n) ((y4 n).map λ(i:Nat)=>V.int (lo+(i:Int))):=by
 unfold aw;have:∀l:List Nat,Rls K H P (l.map λ(k:Nat)=>.int (lo+(k:Int))) (l.map λ(i:Nat)=>V.int (lo+(i:Int))):=by
  intro l
  induction l with
  |nil=>exact Yy.mpr rfl
  |cons x l ih=>exact ZY.mpr ⟨_,_,rfl,Ym.mpr rfl,ih⟩
 exact this _
theorem ov_rng1{p p2 pos2:Pos}(hg:Gl X "list")(hm:X.mg "list"=none)(hg2:Gl X "range")(hm2:X.mg "range"=none)(ha:EV X W a da)(hc:X.calm=true:=by rfl)(hs:yp [a] X.env=(false,yz a X.env)::yp [] X.env:=by rfl)
  (hs2:yp [.Call (.Name "range" p2) [a] [] pos2] X.env=(false,yz (.Call (.Name "range" p2) [a] [] pos2) X.env)::yp [] X.env:=by rfl):OV X W (.Call (.Name "list" p) [.Call (.Name "range" p2) [a] [] pos2] [] pos) (zjD (iRng da)):=
 Z7 (U8 (za8 hc) hg hm (show yP "list"=some (.type "list") by decide +kernel) (Y3 (U8 zi8 hg2 hm2 boot_range (Y3 ha W5 hs) (he:=hs)) W5 hs2) (he:=hs2)) λσ H Q ⟨G,P,h,q⟩=>by
  unfold zjD iRng at q;obtain⟨q1,q2,q3⟩:=zeG (show zhU X.K W H P ((da G).bind λx=>((match x with
   |.int j=>if Uw j=true then .ok (aw 0 j.toNat) else .stuck
   |_=>.stuck:Res (List ya)).bind λxs=>if xs.length<=16777216 then .ok xs else .stuck)) Q by
    cases e:da G<;>rw[e]at q<;>exact q)
  refine Z1 h q1 q2 λtx x H1 ex s1 h1 rx=>?_
  have q4:=q3 tx ex;cases tx<;>try exact q4.elim
  rename_i j;simp only at q4;split at q4
  ·rename_i hj;rw[Res.bind_ok]at q4;split at q4
   ·rename_i hz;have hb:=Jy hj;have hl:(aw 0 j.toNat).length=j.toNat:=by simp[aw]
    refine .inl ⟨j,by rw[Ym.mp rx],λr hr=>⟨r,0,j,rfl,Zw,by omega,by omega,by omega,by omega,by rw[yas,<- hl];exact hz,λl hl'=>?_⟩⟩
    have s2:Same H (upd H1 r (.rng 0 j)):=s1.trans (ZJ hr);rw[yas];exact q4 l _ _ (s2.trans (ZJ hl')) (s2.free hl') Zw (zic 0 j.toNat)
   ·exact q4.elim
  ·exact q4.elim
theorem ov_rng2{p p2 pos2:Pos}(hg:Gl X "list")(hm:X.mg "list"=none)(hg2:Gl X "range")(hm2:X.mg "range"=none)(ha:EV X W a da)(hb:EV X W b db)(hc:X.calm=true:=by rfl)(hs:yp [a,b] X.env=(false,yz a X.env)::yp [b] X.env:=by rfl)
  (hs3:yp [b] X.env=(false,yz b X.env)::yp [] X.env:=by rfl) (hpl:(jc pos2 (yp [b] X.env)).any (·.1)=false:=by rfl)
  (hs2:yp [.Call (.Name "range" p2) [a,b] [] pos2] X.env=(false,yz (.Call (.Name "range" p2) [a,b] [] pos2) X.env)::yp [] X.env:=by rfl):OV X W (.Call (.Name "list" p) [.Call (.Name "range" p2) [a,b] [] pos2] [] pos) (zjD (iRng2 da db)):=
 Z7 (U8 (za8 hc) hg hm (show yP "list"=some (.type "list") by decide +kernel) (Y3 (U8 zi8 hg2 hm2 boot_range (Y3 ha (Y3 hb W5 hs3) hs) (he:=hs) (hpl:=hpl)) W5 hs2) (he:=hs2)) λσ H Q ⟨G,P,h,q⟩=>by
  unfold zjD iRng2 at q;obtain⟨q1,q2,q3⟩:=zeG (show zhU X.K W H P ((da G).bind λx=>(db G).bind λy=>((match x,y with
   |.int i,.int j=>if Uw i=true/\Uw j=true then .ok (aw i (j - i).toNat) else .stuck
   |_,_=>.stuck:Res (List ya)).bind λxs=>if xs.length<=16777216 then .ok xs else .stuck)) Q by
    cases e:da G<;>rw[e]at q<;>cases e2:db G<;>rw[e2]at q<;>exact q)
  refine Z1 h q1 q2 λtx x H1 ex s1 h1 rx=>?_
  obtain⟨q4,q5,q6⟩:=zeG (q3 tx ex);refine Z1 h1 (λc e H' s=>q4 c e H' (s1.trans s)) q5 λty y H2 ey s2 h2 ry=>?_
  have q7:=q6 ty ey;cases tx<;>cases ty<;>try exact q7.elim
  rename_i i j;simp only at q7;split at q7
  ·rename_i hj;rw[Res.bind_ok]at q7;split at q7
   ·rename_i hz;have hb1:=Jy hj.1;have hb2:=Jy hj.2;have hl:(aw i (j - i).toNat).length=(j - i).toNat:=by simp[aw]
    refine .inr ⟨i,j,by rw[Ym.mp rx,Ym.mp ry],λr hr=>⟨r,i,j,rfl,Zw,by omega,by omega,by omega,by omega,by rw[<- hl];exact hz,λl hl'=>?_⟩⟩
    have s3:Same H (upd H2 r (.rng i j)):=(s1.trans s2).trans (ZJ hr);exact q7 l _ _ (s3.trans (ZJ hl')) (s3.free hl') Zw (zic i (j - i).toNat)
   ·exact q7.elim
  ·exact q7.elim
theorem isN_b(t:ya):∃k,fIsN t=.ok (.bool k):=by cases t<;>exact⟨_,rfl⟩
theorem notN_b(t:ya):∃k,zaM t=.ok (.bool k):=by cases t<;>exact⟨_,rfl⟩
theorem tv_of1{f:ya->Res ya}(hf:∀t,∃k,f t=.ok (.bool k)){σ:L2.St}{H:Hp}{Q:Bool->Hp->Prop}(h:tFT X.K W (tV (d1 f da)) σ H Q):tF X.K W (d1 f da) σ H λx H1=>∃c,x=.bl c/\Q c H1:=by
 obtain⟨G,P,h,q⟩:=h;refine⟨G,P,h,?_⟩;unfold tV at q;cases e:d1 f da G with
 |stuck=>rw[e]at q;exact q
 |exc c=>rw[e]at q;exact q
 |ok t=>
  rw[e]at q;have hb:∃k,t=.bool k:=by
   unfold d1 at e;cases e1:da G with
   |stuck=>rw[e1]at e;cases e
   |exc c=>rw[e1]at e;cases e
   |ok tx=>
    rw[e1,Res.bind_ok]at e;obtain⟨k,e3⟩:=hf tx;rw[e3]at e;cases e;exact⟨k,rfl⟩
  obtain⟨k,rfl⟩:=hb;exact λv H' s r=>⟨k,X8.mp r,q H' s⟩
theorem zh1{j pos'}(ha:EV X W a da):TV X W (.Compare a [.Is] [.Constant .none j pos'] pos) (tV (d1 fIsN da)):=by
 intro pins s σ H Q I h;refine zkS (t:=tF X.K W (d1 fIsN da)) (λpins s σ H Q I h=>?_) (by first|exact zfk _ (by decide) (by decide)|rfl) pins s σ H Q I (tv_of1 isN_b h)
 exact pc_isN ha pins s σ H Q I (by
  obtain⟨G,P,h,q⟩:=h;unfold d1 at q;obtain⟨q1,q2,q3⟩:=QG q;refine Z1 h q1 q2 λtx x H1 ex s1 h1 rx=>?_
  have q4:=X7.up (q3 tx ex) s1;cases tx with
  |none=>rw[Vf.mp rx];exact Yz q4
  |bool b=>rw[X8.mp rx];exact Yz q4
  |int b=>rw[Ym.mp rx];exact Yz q4
  |str b=>rw[zcy.mp rx];exact Yz q4
  |list b=>obtain⟨l,us,rfl,_⟩:=YJ.mp rx;exact Yz q4
  |tuple b=>obtain⟨l,us,rfl,_⟩:=Yb.mp rx;exact Yz q4
  |dict b=>rcases ze4.mp rx with ⟨_,l,rfl,_⟩|⟨_,l,_,_,_,rfl,_⟩|⟨l,_,_,rfl,_⟩<;>exact Yz q4)
theorem JX{j pos'}(ha:EV X W a da):TV X W (.Compare a [.IsNot] [.Constant .none j pos'] pos) (tV (d1 zaM da)):=by
 intro pins s σ H Q I h;refine zkS (t:=tF X.K W (d1 zaM da)) (λpins s σ H Q I h=>?_) (by first|exact zfk _ (by decide) (by decide)|rfl) pins s σ H Q I (tv_of1 notN_b h)
 exact pc_notN ha pins s σ H Q I (by
  obtain⟨G,P,h,q⟩:=h;unfold d1 at q;obtain⟨q1,q2,q3⟩:=QG q;refine Z1 h q1 q2 λtx x H1 ex s1 h1 rx=>?_
  have q4:=X7.up (q3 tx ex) s1;cases tx with
  |none=>rw[Vf.mp rx];exact Yz q4
  |bool b=>rw[X8.mp rx];exact Yz q4
  |int b=>rw[Ym.mp rx];exact Yz q4
  |str b=>rw[zcy.mp rx];exact Yz q4
  |list b=>obtain⟨l,us,rfl,_⟩:=YJ.mp rx;exact Yz q4
  |tuple b=>obtain⟨l,us,rfl,_⟩:=Yb.mp rx;exact Yz q4
  |dict b=>rcases ze4.mp rx with ⟨_,l,rfl,_⟩|⟨_,l,_,_,_,rfl,_⟩|⟨l,_,_,rfl,_⟩<;>exact Yz q4)
end
abbrev ziv(qual:Str)(scope:yJ)(L f:yc)(cd:yb)(cl:List (Str×yc)):Env:=
 { scope:=scope,locals:=L,globals:=yn,cells:=cl,qual:=qual ++ ".<locals>.",func:=some f,code:=cd,frame:=some L,builtins:=yah }
def cxL(X:Cx)(qual:Str)(scope:yJ)(N:List Str)(s₀:ye)(H₀:Hp)(f:yc)(cd:yb):Cx:=
 { X with env:=ziv qual scope s₀.heap.objs.size f cd (YG X.env scope.names []),A:=X.A.deeper (ziv qual scope s₀.heap.objs.size f cd (YG X.env scope.names [])),N:=N,s₀:=s₀,H₀:=H₀,outer:=X.stack,stack:=ziv qual scope s₀.heap.objs.size f cd (YG X.env scope.names [])::X.stack,ex:=[],fn:=λ_=>false,pn:=[],xe:=λ_ _=>False }
structure LamOk(X:Cx)(scope:yJ)(N:List Str)(y:Str)(cap:List Nat):Prop where
 cell:∀z∈scope.names,z.2≠.cell
 kind:scope.kind=.function
 co:scope.isCoroutine=false
 gen:scope.isGenerator=false
 par:scope.names.lookup y=some .local
 free:∀z∈scope.names,z.2=.free->X.env.kindOf z.1=some .cell\/X.env.kindOf z.1=some .free
 head:N[0]? = some y
 len:N.length=1+cap.length
 caps:∀(i j:Nat) (x:Str),cap[i]? = some j->N[1+i]? = some x->X.N[j]? = some x/\(scope.names.lookup x=some .cell\/scope.names.lookup x=some .free)/\(X.env.kindOf x=some .cell\/X.env.kindOf x=some .free)
def lamS(cap:List Nat)(σ:L2.St)(v:V):L2.St:=some v::cap.map λj=>σ.getD j none
section
variable {X:Cx}{qual:Str}{scope:yJ}{N:List Str}{y:Str}{cap:List Nat}{pins:List (yc×Obj)}{σ:L2.St}{H:Hp}{s:ye}{f:yc}{cd:yb}
theorem LamOk.has(C:LamOk X scope N y cap)(ok:X.Ok):∀z∈scope.names,z.2=.free->∃c,X.env.cells.lookup z.1=some c:=λz hz e=>ok.has z.1 (C.free z hz e)
theorem zlq(C:LamOk X scope N y cap)(I:Inv X pins σ H s){h':yd}{t:Nat}{v:V}{u:yb}(rv:ax v u)(hn:h'.Ns s.heap.objs.size (λx=>[(y,u)].reverse.lookup x))(hk:∀b o,s.heap.get? b=some o->h'.get? b=some o):
  Inv (cxL X qual scope N s H f cd) [] (lamS cap σ v) H { s with heap:=h',toks:=t }:=by
 have hh:=C.has I.ok;have sub:=JI X.env scope.names [] hh (λx c e=>by cases e)
 refine⟨⟨I.ok.mod,C.kind,rfl,rfl,yu _,λx z c h1 h2=>I.ok.inj x z c (sub x c h1) (sub z c h2),λx hx=>?_,λx c h=>?_,I.ok.hd,yD.frames_deeper I.ok.frames,.inr ⟨rfl,rfl⟩,λb hb=>?_,λb o e=>I.bs b o e,yE I.ok.bsz I.sz,λb o e hb=>?_,λb hb=>?_,I.stack,I.stkFree⟩,
  rfl,I.bare,Un.kept hk,⟨_,hn,λi x w e1 e2 e3=>?_⟩,λx c e=>?_,I.hok.fresh (yu _),λx c e=>I.freeC x c (sub x c e),λp hp=>?_,I.hok.kept hk,?_⟩
 ·have hx':scope.names.lookup x=some .cell\/scope.names.lookup x=some .free:=hx;rcases hx' with hx'|hx'
  ·exact absurd rfl (C.cell _ (Xd hx'))
  ·obtain⟨c,hc⟩:=Ql X.env scope.names [] x (.inr (Xd hx'));exact Wg hc
 ·cases h
 ·exact absurd (show b∈([]:List yc) from hb) (by simp)
 ·exact absurd (show b∈([]:List yc) from hb) (by simp)
 ·exact absurd (show b∈([]:List yc) from hb) (by simp)
 ·-- the names
  cases i with
  |zero=>
   have e2':some (some v)=some (some w):=e2;cases e2';have e1':N[0]? = some x:=e1;rw[C.head]at e1';cases e1';refine⟨u,rv,.inl ⟨C.par,?_⟩⟩;show qC y [(y,u)]=some u;rw[yai,beq_self_eq_true]
  |succ k=>
   have e2':(cap.map λj=>σ.getD j none)[k]? = some (some w):=by simpa[lamS] using e2
   rw[jb]at e2';cases ec:cap[k]? with
   |none=>rw[ec]at e2';cases e2'
   |some j=>
    rw[ec]at e2';have e3':σ.getD j none=some w:=by simpa using e2'
    obtain⟨c1,c2,c3⟩:=C.caps k j x ec (by rw[qV];exact e1)
    obtain⟨m0,_,hl⟩:=I.loc;have vis:Vis X.env.scope x:=c3.elim (λz=>.inr (.inl z)) λz=>.inr (.inr z)
    obtain⟨u',ru,lk⟩:=hl j x w c1 (getD_some e3') vis;refine⟨u',ru,.inr ⟨c2,?_⟩⟩;rcases lk with ⟨z,_⟩|⟨_,c,ec',o,ho,hd⟩
    ·rcases c3 with c3|c3<;>(rw[c3]at z;cases z)
    ·have fm:(x,jh.free)∈scope.names:=by
      rcases c2 with q|q
      ·exact absurd rfl (C.cell _ (Xd q))
      ·exact Xd q
     obtain⟨c',hc'⟩:=Ql X.env scope.names [] x (.inr fm);obtain⟨c'',hc''⟩:=Wg hc';have:=sub x c'' hc'';rw[ec']at this;cases this;exact⟨c,hc'',o,hk c o ho,hd⟩
 ·obtain⟨v,o,ho,hd⟩:=I.cell x c (sub x c e);exact⟨v,o,hk c o ho,hd⟩
 ·exact absurd (show p∈([]:List (yc×Obj)) from hp) (by simp)
 ·show(lamS cap σ v).length=N.length;rw[C.len];simp[lamS,qV]
def LO(f:yc)(fd:yM):HO:=.ext λh=>h.get? f=some { cls:=.type "function",data:=.func fd }
theorem lam_call{k:Nat}{params:yak}{body:yj}{pm ctv:yb}{c':yc}{v:V}{u:yb}{t:TE}{Q:VK}(C:LamOk X scope N y cap)(hr:Room (k+1) X.A)(I:Inv X pins σ H s)(rv:ax v u)
  (hf:H f=some (LO f (jH "<lambda>" qual params body scope (YG X.env scope.names []) pm (.ref c') ctv))) (hc:H c'=some (CO c' qual)) (hb:bindArgs (jH "<lambda>" qual params body scope (YG X.env scope.names []) pm (.ref c') ctv) ⟨[u],[]⟩=pure [(y,u)])
  (he:PE (cxL X qual scope N s H f (.ref c')) body t) (hq:t (lamS cap σ v) H Q):yi (ym X.prog X.w) X.A (call (.ref f) [u]) (EP X pins σ Q) (λ_ _=>False) s:=by
 obtain⟨ho,_,_⟩:=(show(s.heap.get? f=some _/\_/\_) from I.hok f _ hf);obtain⟨⟨oc,vs,tq,h1,h2,h3⟩,_,_⟩:=(show((∃oc vs t,s.heap.get? c'=some oc/\oc.data=.fields vs/\vs[1]? = some (.str qual t))/\_/\_) from I.hok c' _ hc);refine wpAny_call (PySem.W.kla_callFunE hr.depth ho rfl C.co C.gen rfl ⟨c',oc,vs,tq,rfl,h1,h2,h3⟩ ?_);rw[hb];refine yx (wpAny_newFunctionEnv C.cell (λz hz=>?_) (λh₁ hns hsb=>?_) C.kind)
 ·have:z=(y,u):=by simpa using hz
  subst this;exact C.par
 have hk₁:∀b o,s.heap.get? b=some o->h₁.get? b=some o:=λb o e=>hsb.extBut b o (yU (yF e)) (yA _ e)
 refine⟨I.nolimit.keeps hk₁,?_⟩;show jQ _ _ (.expr body (ziv qual scope s.heap.objs.size f (.ref c') (YG X.env scope.names []))) _ _;have J:Inv (cxL X qual scope N s H f (.ref c')) [] (lamS cap σ v) H { s with heap:=h₁,toks:=s.toks + [(y,u)].length }:=zlq C I rv hns hk₁
 refine PySem.W.kla_codeExpr (yI (he [] _ _ _ Q J hq) (λr s' h=>?_) λ_ _ z=>z.elim)
 obtain⟨v',H',J',rv',q⟩:=h;exact I.after ⟨v',H',J'.os,J'.bare,J'.base,J'.hok,rv',q⟩
def zfW(mg:Str->Option yb)(base:yd):Prop:=∃bm ob,mg "__builtins__"=some (.ref bm)/\bm≠yah/\bm≠yn/\base.get? bm=some ob/\ob.cls=.type "module" /\ ob.dict=some yah/\ob.data=.plain
structure LamAt(X:Cx)(x:Str)(c T:yc):Prop where
 tab:jA X.K x=some (c,T)
 nm:x∈UC
 code:X.env.code=.ref c
 qual:X.env.qual ++ "<lambda>"=lamQ x
 hd:∀h:yd,X.K.In h->jX h c T
 blt:zfW X.mg X.base
theorem zj4{pos:Pos}{a b:Int}{c:yb}:∀(l:List yb),TriplesOk l->∀cv,qQ pos (l++[yW a,yW b,c])=some cv->qQ pos l=some cv\/cv=c:=by
 intro l
 fun_induction TriplesOk l with
 |case1=>
  intro _ cv h;simp only[yal,qQ,yW]at h;split at h
  ·cases h;exact .inr rfl
  ·cases h
 |case2 x1 x2 x3 x4 x5 rest ih=>
  intro h cv e;simp only[ydn,qQ]at e ⊢;split at e
  ·rename_i q;rw[if_pos q];exact .inl e
  ·rename_i q;rw[if_neg q];exact ih h cv e
 |case3=>intro h;exact h.elim
theorem zlr{x x':Str}(h:x∈UC)(h':x'∈UC):x=x':=by
 unfold UC at h h';rw[ql.mp h,ql.mp h']
def tLam(X:Cx)(x:Str)(params:yak)(body:yj)(scope:yJ):TE:=λσ H Q=>Qm X.K H/\∀f c' ctv H',Same H H'->H f=none ->
 H' f=some (LO f (jH "<lambda>" (lamQ x) params body scope (YG X.env scope.names []) ((X.mg "__name__").getD .none) (.ref c') ctv))->H' c'=some (CO c' (lamQ x))->Q (.ref f) H'
theorem pe_lam{x:Str}{c T:yc}{params:yak}{body:yj}{lpos:Pos}(L:LamAt X x c T)(C:LamOk X scope N y cap)(hdef:defaultsOf params X.env=([],[])):PE X (.Lambda params body scope lpos) (tLam X x params body scope):=by
 intro pins s σ H Q I h;obtain⟨tb,q⟩:=h;obtain⟨ps,hT,tr,good⟩:=tb x c T L.nm L.tab;have hP:s.heap.get? T=some (ydx ps):=I.hok T _ hT;have hgs:s.heap.Ns yn X.mg:=I.ok.mod.glob.keeps I.bk;have hgP:yn≠T:=λe=>by
  obtain⟨o,es,ep,e1,hd,_⟩:=hgs;rw[e,hP]at e1;cases e1;cases hd
 have hbA:s.heap.BuiltinsAt X.mg T:=by
  obtain⟨bm,ob,b1,b2,b3,b4,b5,b6,b7⟩:=L.blt;have e:=I.bk _ _ b4;exact⟨bm,ob,b1,b2,b3,λz=>(by rw[z,hP]at e;cases e;cases b5),e,b5,b6,b7⟩
 have hcl:=za7 (scope:=scope) (env:=X.env) (C.has I.ok);refine PySem.W.kla_eval hdef ?_;rw[L.qual];cases ha:qQ lpos ps.toList with
 |none=>
  refine PySem.W.kla_makeFunction (mg:=X.mg) hcl I.ok.glob hgs L.code (L.hd _ I.kIn) hP tr ha hgP hbA λc' ctv h' tk hx hge hlt hrec htb=>?_
  have hcn:H c'=none:=I.hok.fresh hge;have hsz:s.heap.objs.size<=h'.objs.size:=yE hge (jB hlt);have hfn:H h'.objs.size=none:=I.hok.fresh hsz;have hfc:h'.objs.size≠c':=yar hlt;have hTc:T≠c':=Z3 hT hcn;have hTf:T≠h'.objs.size:=Z3 hT hfn;obtain⟨c₂,oc,vs,t,e2,hoc,hdd,hvv⟩:=hrec;cases e2;generalize hmore:(#[yW ↑lpos.line,yW ↑lpos.col,yb.ref c']:Array yb)=more at htb;generalize hob:PySem.W.kla_obj "<lambda>" (lamQ x) params body scope (YG X.env scope.names []) ((X.mg "__name__").getD .none) c' ctv=ob;have kp:∀b o,b≠T->s.heap.get? b=some o->(h'.push ob).get? b=some o:=λb o hb e=>yA _ (hx b o hb e)
  have u1:∀b o,H b=some o->b≠T->upd (upd (upd H T (.tbl (ps++more))) c' (CO c' (lamQ x))) h'.objs.size (LO h'.objs.size (jH "<lambda>" (lamQ x) params body scope (YG X.env scope.names []) ((X.mg "__name__").getD .none) (.ref c') ctv)) b=some o:=λb o e hb=>by
   rw[Zu (Z3 e hfn),Zu (Z3 e hcn),Zu hb];exact e
  have uT:upd (upd (upd H T (.tbl (ps++more))) c' (CO c' (lamQ x))) h'.objs.size (LO h'.objs.size (jH "<lambda>" (lamQ x) params body scope (YG X.env scope.names []) ((X.mg "__name__").getD .none) (.ref c') ctv)) T=some (.tbl (ps++more)):=by
   rw[Zu hTf,Zu hTc,Zw]
  have uC:upd (upd (upd H T (.tbl (ps++more))) c' (CO c' (lamQ x))) h'.objs.size (LO h'.objs.size (jH "<lambda>" (lamQ x) params body scope (YG X.env scope.names []) ((X.mg "__name__").getD .none) (.ref c') ctv)) c'=some (CO c' (lamQ x)):=by
   rw[Zu (Ne.symm hfc),Zw]
  have sm:Same H (upd (upd (upd H T (.tbl (ps++more))) c' (CO c' (lamQ x))) h'.objs.size (LO h'.objs.size (jH "<lambda>" (lamQ x) params body scope (YG X.env scope.names []) ((X.mg "__name__").getD .none) (.ref c') ctv))):=by
   refine⟨λb o e n=>u1 b o e λz=>?_,λ{b} w=>?_,λK' tb' x' c0 T0 hx' ht'=>?_,λb qs e=>?_⟩
   ·rw[z,hT]at e;cases e;exact n _ rfl
   ·cases e:H b with
    |none=>rfl
    |some o=>
     by_cases z:b=T
     ·rw[z,uT]at w;cases w
     ·rw[u1 b o e z]at w;cases w
   ·obtain⟨ps0,h0,tr0,g0⟩:=tb' x' c0 T0 hx' ht';have lift:∀c1,H c1=some (CO c1 (lamQ x'))->upd (upd (upd H T (.tbl (ps++more))) c' (CO c' (lamQ x))) h'.objs.size (LO h'.objs.size (jH "<lambda>" (lamQ x) params body scope (YG X.env scope.names []) ((X.mg "__name__").getD .none) (.ref c') ctv)) c1=some (CO c1 (lamQ x')):=λc1 e=>u1 c1 _ e λz=>by rw[z,hT]at e;cases e
    by_cases z:T0=T
    ·subst z;rw[hT]at h0;cases h0;refine⟨ps++more,uT,by rw[<- hmore,Array.toList_append];exact TriplesOk_snoc _ _ _ _ tr0,λpos cv hc=>?_⟩
     rw[<- hmore,Array.toList_append]at hc;rcases zj4 _ tr0 cv hc with w|w
     ·obtain⟨c1,e1,e2⟩:=g0 pos cv w;exact⟨c1,e1,lift c1 e2⟩
     ·exact⟨c',w,by rw[zlr hx' L.nm];exact uC⟩
    ·refine⟨ps0,u1 _ _ h0 z,tr0,λpos cv hc=>?_⟩
     obtain⟨c1,e1,e2⟩:=g0 pos cv hc;exact⟨c1,e1,lift c1 e2⟩
   ·by_cases z:b=T
    ·subst z;exact⟨_,uT⟩
    ·exact⟨qs,u1 b _ e z⟩
  refine⟨.ref h'.objs.size,_,I.un (t':=tk) (H':=upd (upd (upd H T (.tbl (ps++more))) c' (CO c' (lamQ x))) h'.objs.size (LO h'.objs.size (jH "<lambda>" (lamQ x) params body scope (YG X.env scope.names []) ((X.mg "__name__").getD .none) (.ref c') ctv))) ⟨λb o e n _ _=>kp b o (λz=>by rw[z,hT]at n;cases n) e,λb o e n _ _=>⟨o.slots,kp b o (λz=>by rw[z,hT]at n;cases n) e⟩,λb o e n _=>?_,λb o e _=>?_,λb xs e=>u1 b _ e (λz=>by rw[z,hT]at e;cases e),λb o u e=>u1 b _ e (λz=>by rw[z,hT]at e;cases e),λb qs e=>?_⟩ (λb o e=>?_),rfl,q h'.objs.size c' ctv _ sm hfn Zw uC⟩
  ·have lt:=yF e;rw[Zu (yU (ja lt hsz)),Zu (yU (ja lt hge)),Zu (λz=>by rw[z,hT]at n;cases n)]
   exact n
  ·by_cases z:b=T
   ·subst z;exact⟨_,yA _ htb⟩
   ·exact⟨o,kp b o z e⟩
  ·by_cases z:b=T
   ·subst z;rw[hT]at e;cases e;exact⟨more,uT⟩
   ·exact⟨#[],by rw[u1 b _ e z];simp⟩
  ·by_cases z1:b=h'.objs.size
   ·subst z1;rw[Zw]at e;cases e;subst hob;exact⟨yO _ rfl,⟨_,yO _ rfl⟩,λh1 h2 w k=>k _ w⟩
   ·rw[Zu z1]at e;by_cases z2:b=c'
    ·subst z2;rw[Zw]at e;cases e;refine⟨⟨oc,vs,t,yA _ hoc,hdd,hvv⟩,⟨_,yA _ hoc⟩,λh1 h2 ⟨oc',vs',t',w1,w2,w3⟩ k=>⟨oc',vs',t',k _ w1,w2,w3⟩⟩
    ·rw[Zu z2]at e;by_cases z3:b=T
     ·subst z3;rw[Zw]at e;cases e;exact yA _ htb
     ·rw[Zu z3]at e;refine(I.hok b o e).stay (λb' u hb' w=>kp b' u (λz=>?_) w) (λb' w=>u1 b' _ w λz=>by rw[z,hT]at w;cases w) λb' xs w=>u1 b' _ w λz=>by rw[z,hT]at w;cases w
      rcases hb' with w1|w1
      ·exact z3 (w1.symm.trans z)
      ·rw[z,hT]at w1;cases w1
 |some cv=>
  obtain⟨c',rfl,hc'⟩:=good lpos cv ha;refine PySem.W.kla_makeFunctionHit (mg:=X.mg) hcl I.ok.glob hgs L.code (L.hd _ I.kIn) hP tr ha hbA λctv h' tk hk hsz=>?_
  have hfn:H h'.objs.size=none:=I.hok.fresh hsz;refine⟨.ref h'.objs.size,_,I.laid (t':=tk) (a:=h'.objs.size) (o:=LO h'.objs.size (jH "<lambda>" (lamQ x) params body scope (YG X.env scope.names []) ((X.mg "__name__").getD .none) (.ref c') ctv)) (λb o e=>yA _ (hk b o e)) hsz ⟨yO _ rfl,⟨_,yO _ rfl⟩,λh1 h2 w k=>k _ w⟩,rfl,q _ c' ctv _ (ZJ hfn) hfn Zw ?_⟩
  rw[Zu (Z3 hc' hfn)];exact hc'
end
abbrev Cx.i1(X:Cx):Cx:={ X with A:=X.A.in1,xe:=λ_ _=>False }
section
variable {X:Cx}{pins:List (yc×Obj)}{σ:L2.St}{H:Hp}{s:ye}
theorem Inv.toi1(I:Inv X pins σ H s):Inv (Cx.i1 X) pins σ H s:=
 ⟨⟨I.ok.mod,I.ok.kind,I.ok.glob,I.ok.blt,I.ok.above,I.ok.inj,I.ok.has,I.ok.cab,I.ok.hd,I.ok.frames,I.ok.stk,I.ok.exf,I.ok.bs,I.ok.bsz,I.ok.noex,I.ok.exfs,I.ok.funs,I.ok.frf⟩,I.os,I.bare,I.base,I.loc,I.cell,I.free,I.freeC,I.pin,I.hok,I.len⟩
theorem Inv.ofi1(hX:X.Ok)(I:Inv (Cx.i1 X) pins σ H s):Inv X pins σ H s:=
 ⟨hX,I.os,I.bare,I.base,I.loc,I.cell,I.free,I.freeC,I.pin,I.hok,I.len⟩
def Mine(X:Cx)(pins:List (yc×Obj))(b:yc):Prop:=b≠X.env.locals/\b∉X.fs/\(b∈X.ex\/X.s₀.heap.objs.size<=b)/\(∀x c,X.env.cells.lookup x=some c->c≠b)/\∀p∈X.pn++pins,p.1≠b
theorem Mine.of{b:yc}(f:FpOk X pins H b):Mine X pins b:=⟨f.2.1,f.2.2.1,f.2.2.2.1,f.2.2.2.2.1,f.2.2.2.2.2⟩
theorem Inv.turn1{t':Nat}{it:yc}{h':yd}(I:Inv X pins σ H s)(m:Mine X pins it)(hn:H it=none)(k:∀b o,b≠it->s.heap.get? b=some o->h'.get? b=some o):Inv X pins σ H { s with heap:=h',toks:=t' }:=
 I.turned k hn m.1 m.2.2.1 m.2.2.2.1 m.2.2.2.2
theorem Inv.pin2{a b:yc}{oa ob:Obj}(I:Inv X pins σ H s)(ma:Mine X pins a)(mb:Mine X pins b)(ha:H a=none)(hb:H b=none)(ea:s.heap.get? a=some oa)(eb:s.heap.get? b=some ob)(da:∀v,oa.data≠.cell v)(db:∀v,ob.data≠.cell v):Inv X (pins++[(a,oa),(b,ob)]) σ H s:=
 I.pins_of λp hp=>by
  rcases jN.mp hp with hp|hp
  ·exact I.pin p (yZ _ hp)
  ·rcases yG.mp hp with rfl|hp
   ·exact⟨ea,ha,ma.1,ma.2.1,da⟩
   ·rw[ql.mp hp];exact⟨eb,hb,mb.1,mb.2.1,db⟩
theorem ze8{h:yd}{a:yc}{its:Array yb}(p:PlainL h a its):h.IsList a its:=p.isList
theorem min_args(a v d:yb):argsOk "min" ⟨[a],[(Str.ofString "key",v),(Str.ofString "default",d)]⟩:=by unfold argsOk;kernel_rfl
variable {xs:List V}{kf:Nat->Int}{H0:Hp}{l I S q:yc}{R:Result->ye->Prop}
theorem min_loop(hh:X.A.handled=none)(hlI:l≠I)(hSI:S≠I)(mS:Mine X pins S)(mI:Mine X pins I)(hl:∀H',Same H0 H'->SqL X.K H' l xs)
  (turn:∀(i:Nat) v u pins' s H',xs[i]? = some v->ax v u->Inv X pins' σ H' s->Same H0 H'->yi (ym X.prog X.w) X.A.in1 (call (.ref q) [u]) (λr s'=>∃t H'',r=.int (kf i) t/\Inv X pins' σ H'' s'/\Same H0 H'') (λ_ _=>False) s)
  (fin:∀(i:Nat) v u s' H',xs[i]? = some v->ax v u->(∀j,j<xs.length->kf i<=kf j/\(j<i->kf i<kf j))->Inv X pins σ H' s'->Same H0 H'->R (.ok (.ret u)) s'):
  ∀(r j i:Nat) (s:ye) (H:Hp) (vb:yb) (v0:V) (tb:Tok) (c:Nat) (oI:Obj),xs.length - (j+1)=r->j+1<=xs.length->Inv X (pins++[(S,seqObj "list" #[vb,.int (kf i) tb] c),(I,oI)]) σ H s->Same H0 H->s.heap.IsListIter I l (j+1)->xs[i]? = some v0->ax v0 vb->i<=j ->
   (∀j',j'<=j->kf i<=kf j'/\(j' < i->kf i<kf j')) ->
   jQ (ym X.prog X.w) X.A (.builtin "min.loop" ⟨[.ref I,.ref q,.ref S],[(Str.ofString "default",.none)]⟩) R s:=by
 have hname:(toString "min" ++ toString ".loop" : String) = "min.loop":=by decide
 intro r
 induction r with
 |zero=>
  intro j i s H vb v0 tb c oI hr hj J sm hit hvb hrb hij hbest;have hin:j+1=xs.length:=by omega
  obtain⟨eS,nS,_⟩:=J.pin (S,seqObj "list" #[vb,.int (kf i) tb] c) (yZ _ (yZ _ (.head _)));obtain⟨eI,nI,_⟩:=J.pin (I,oI) (yZ _ (yZ _ (.tail _ (.head _))));obtain⟨its,rv,pl,hz⟩:=J.list (hl H sm);have hlen:=rv.length;have W:=Walks.list (prog:=X.prog) (w:=X.w) (A:=X.A.in1) hh I l hlI its.toArray;have hsz:its.toArray.size=its.length:=yL ..;have J0:Inv X pins σ H s:=J.unpinned;refine yc1 ycz ?_;rw[yD.under_plainId qH _];show yi _ X.A.in1 (ya9 (.ref S) >>= _) _ _ _;refine yf (jL eS rfl ?_);show yi _ X.A.in1 (tryCatch (j2 (.ref I)) _ >>= _) _ _ _;refine yf (qJ (W.done _ _ _ ⟨by rw[hsz,<- hlen,<- hin];exact hit,ze8 pl⟩ λh' tk' hk'=>?_))
  have J1:Inv X pins σ H { s with heap:=h',toks:=tk' }:=Fx.Inv.turn1 J0 mI nI λb o hb e=>hk' b o (by simpa using hb) e
  have hS':=hk' S _ (by simpa using hSI) eS
  have s1:=yd.SameBut.update h' S (jJ λ_=>(#[]:Array yb))
  show yi _ X.A.in1 (updateSeq S (λ_=>#[]) >>= _) _ _ _
  refine yf ?_;refine yc2 hS' rfl (yf (qN (yx ?_)));exact fin i v0 vb _ H hvb hrb (λj' hj'=>hbest j' (by omega)) (Fx.Inv.turn1 J1 mS nS λb o hb e=>(s1.2 b hb).trans e) sm
 |succ r ih=>
  intro j i s H vb v0 tb c oI hr hj J sm hit hvb hrb hij hbest;have hlt:j+1<xs.length:=by omega
  obtain⟨eS,nS,_⟩:=J.pin (S,seqObj "list" #[vb,.int (kf i) tb] c) (yZ _ (yZ _ (.head _)));obtain⟨eI,nI,_⟩:=J.pin (I,oI) (yZ _ (yZ _ (.tail _ (.head _))));obtain⟨its,rv,pl,hz⟩:=J.list (hl H sm);have hlen:=rv.length;have W:=Walks.list (prog:=X.prog) (w:=X.w) (A:=X.A.in1) hh I l hlI its.toArray;have hsz:its.toArray.size=its.length:=yL ..;have J0:Inv X pins σ H s:=J.unpinned;refine yc1 ycz ?_;rw[yD.under_plainId qH _];show yi _ X.A.in1 (ya9 (.ref S) >>= _) _ _ _;refine yf (jL eS rfl ?_);show yi _ X.A.in1 (tryCatch (j2 (.ref I)) _ >>= _) _ _ _;refine yf (qJ (W.item (j+1) _ _ _ (by rw[hsz,<- hlen];exact hlt) ⟨hit,ze8 pl⟩ λu h' tk' hP hst' hk'=>?_))
  have hu:its[j+1]? = some u:=by simpa using hP
  obtain⟨oI',hoI',hoc,hod⟩:=id hst'.1;have J1:Inv X pins σ H { s with heap:=h',toks:=tk' }:=Fx.Inv.turn1 J0 mI nI λb o hb e=>hk' b o (by simpa using hb) e
  have hS':=hk' S _ (by simpa using hSI) eS
  have J2:Inv X (pins++[(S,seqObj "list" #[vb,.int (kf i) tb] c),(I,oI')]) σ H { s with heap:=h',toks:=tk' }:=Fx.Inv.pin2 J1 mS mI nS nI hS' hoI' (λv z=>by cases z) (λv z=>by rw[hod]at z;cases z)
  obtain⟨v1,hv1⟩:∃v1,xs[j+1]? = some v1:=⟨_,jx hlt⟩;obtain⟨u',hu',ru⟩:=rv.get hv1;rw[hu]at hu';cases hu';show yi _ X.A.in1 (tryCatch (jP [u] (call (.ref q) [u])) _ >>= _) _ _ _;refine yf (qJ (qc (yI (turn (j+1) v1 u _ _ H hv1 ru J2 sm) (λx s'' he=>?_) λ_ _ hF=>hF.elim)))
  obtain⟨t2,H2,rfl,J3,sm2⟩:=he;obtain⟨eS2,nS2,_⟩:=J3.pin (S,seqObj "list" #[vb,.int (kf i) tb] c) (yZ _ (yZ _ (.head _)));obtain⟨eI2,nI2,_⟩:=J3.pin (I,oI') (yZ _ (yZ _ (.tail _ (.head _))));have hit2:s''.heap.IsListIter I l (j+1+1):=⟨oI',eI2,hoc,hod⟩;show yi _ X.A.in1 (tryCatch (jP [u,.int (kf (j+1)) t2] (richCompare .Lt (.int (kf (j+1)) t2) (.int (kf i) tb) >>= _)) _ >>= _) _ _ _;refine yf (qJ (qc (yf (CmpOf.ints_lt (prog:=X.prog) (w:=X.w) (A:=X.A.in1) (P:=λi v=>∃t,v=.int (kf i) t) kf (λi v h=>h) (j+1) i _ _ _ _ _ ⟨t2,rfl⟩ ⟨tb,rfl⟩ ?_))))
  refine yf (qc (qj ?_));refine yf (qN (yx ?_));by_cases hb':kf (j+1)<kf i
  ·have s1:=yd.SameBut.update s''.heap S (jJ λ_=>#[u,.int (kf (j+1)) t2])
   obtain⟨c2,hc2⟩:∃c2,(s''.heap.update S (jJ λ_=>#[u,.int (kf (j+1)) t2])).get? S=some (seqObj "list" #[u,.int (kf (j+1)) t2] c2):=⟨_,get?_update_seq eS2 λ_=>#[u,.int (kf (j+1)) t2]⟩
   simp only[hb',decide_true,if_true];refine yf ?_;refine yc2 eS2 rfl (yf (qN ?_));rw[hname];have J4:Inv X pins σ H2 { s'' with heap:=s''.heap.update S (jJ λ_=>#[u,.int (kf (j+1)) t2]) }:=Fx.Inv.turn1 (t':=s''.toks) J3.unpinned mS nS2 λb o hb e=>(s1.2 b hb).trans e
   refine yx ⟨ybu qH _,ih (j+1) (j+1) _ H2 u v1 t2 c2 oI' (by omega) hlt (Fx.Inv.pin2 J4 mS mI nS2 nI2 hc2 ((s1.2 I hSI.symm).trans eI2) (λv z=>by cases z) (λv z=>by rw[hod]at z;cases z)) sm2 ⟨oI',(s1.2 I hSI.symm).trans eI2,hoc,hod⟩ hv1 ru (yu _) λj' hj'=>?_⟩
   by_cases e:j'=j+1
   ·subst e;exact⟨by omega,λ_=>by omega⟩
   ·have hb1:=hbest j' (by omega)
    have hb2:=hb1.1;exact⟨by omega,λ_=>by omega⟩
  ·simp only[hb',decide_false,ybx,if_false];refine yf (qN ?_);rw[hname];refine yx ⟨ybu qH _,ih (j+1) i _ H2 vb v0 tb c oI' (by omega) hlt J3 sm2 hit2 hvb hrb (by omega) λj' hj'=>?_⟩
   by_cases e:j'=j+1
   ·subst e;exact⟨by omega,λ_=>by omega⟩
   ·exact hbest j' (by omega)
theorem zmj{Q:yb->ye->Prop}{E:yb->ye->Prop}(hh:X.A.handled=none)(J:Inv X pins σ H s)(hl:∀H',Same H H'->SqL X.K H' l xs)
  (turn:∀(i:Nat) v u pins' s H',xs[i]? = some v->ax v u->Inv X pins' σ H' s->Same H H'->yi (ym X.prog X.w) X.A.in1 (call (.ref q) [u]) (λr s'=>∃t H'',r=.int (kf i) t/\Inv X pins' σ H'' s'/\Same H H'') (λ_ _=>False) s)
  (fin0:xs=[]->∀s' H',Inv X pins σ H' s'->Same H H'->Q .none s')
  (fin:∀(i:Nat) v u s' H',xs[i]? = some v->ax v u->(∀j,j<xs.length->kf i<=kf j/\(j<i->kf i<kf j))->Inv X pins σ H' s'->Same H H'->Q u s'):
  yi (ym X.prog X.w) X.A (call (.builtin "min") [.ref l] [(Str.ofString "key",.ref q),(Str.ofString "default",.none)]) Q E s:=by
 have hname:(toString "min" ++ toString ".loop" : String) = "min.loop":=by decide
 obtain⟨its,rv,pl,hz⟩:=J.list (hl H (Same.refl H));have hls:=ze8 pl;have hlen:=rv.length;obtain⟨ol,hol,_⟩:=id hls;have hll:l<s.heap.objs.size:=yF hol;refine kmk_tree PySem.F.kind_min PySem.F.plain_min PySem.F.entry_min (min_args _ _ _) ?_;show yi _ X.A.in1 (yB.Builtins.bindParams "min" ["key","default"] 0 ⟨[],[(Str.ofString "key",.ref q),(Str.ofString "default",.none)]⟩ >>= _) _ _ s;refine yf (wpAny_of_eq (show yB.Builtins.bindParams "min" ["key","default"] 0 ⟨[],[(Str.ofString "key",.ref q),(Str.ofString "default",.none)]⟩=pure [some (.ref q),some .none] from rfl) ?_);refine yf (yx ?_);refine yf (ybl hls ?_);refine yf (wpAny_newList ?_ (qi _));rw[hname];have hS:(s.heap.push { cls:=.type "list_iterator",data:=.fields #[.ref l,.int 0 0] }).objs.size=s.heap.objs.size+1:=size_push' ..;have hlI:l≠s.heap.objs.size:=yU hll
 have hSI:(s.heap.push { cls:=.type "list_iterator",data:=.fields #[.ref l,.int 0 0] }).objs.size≠s.heap.objs.size:=by rw[hS];exact yar (ya5 _)
 have nI:H s.heap.objs.size=none:=J.hok.fresh (yu _);have nS:H (s.heap.push { cls:=.type "list_iterator",data:=.fields #[.ref l,.int 0 0] }).objs.size=none:=J.hok.fresh (by rw[hS];exact yat _)
 have mI:Mine X pins s.heap.objs.size:=.of (J.fpOk (yu _) nI);have mS:Mine X pins (s.heap.push { cls:=.type "list_iterator",data:=.fields #[.ref l,.int 0 0] }).objs.size:=.of (J.fpOk (by rw[hS];exact yat _) nS)
 refine yx ⟨ybu qH _,?_⟩;have kpH:∀b o,s.heap.get? b=some o->((s.heap.push { cls:=.type "list_iterator",data:=.fields #[.ref l,.int 0 0] }).push (seqObj "list" #[] 0)).get? b=some o:=λb o e=>yA _ (yA _ e)
 have gI:((s.heap.push { cls:=.type "list_iterator",data:=.fields #[.ref l,.int 0 0] }).push (seqObj "list" #[] 0)).get? s.heap.objs.size=some { cls:=.type "list_iterator",data:=.fields #[.ref l,.int 0 0] }:=
  yA _ (yO _ rfl)
 have gS:((s.heap.push { cls:=.type "list_iterator",data:=.fields #[.ref l,.int 0 0] }).push (seqObj "list" #[] 0)).get? (s.heap.push { cls:=.type "list_iterator",data:=.fields #[.ref l,.int 0 0] }).objs.size=some (seqObj "list" #[] 0):=yO _ rfl;have W:=Walks.list (prog:=X.prog) (w:=X.w) (A:=X.A.in1) hh s.heap.objs.size l hlI its.toArray;have hsz:its.toArray.size=its.length:=yL ..;have JH:Inv X pins σ H { s with heap:=(s.heap.push { cls:=.type "list_iterator",data:=.fields #[.ref l,.int 0 0] }).push (seqObj "list" #[] 0) }:=J.kept (t':=s.toks) kpH
 obtain⟨o1,ho1,ho2⟩:=hls;have hlsH:((s.heap.push { cls:=.type "list_iterator",data:=.fields #[.ref l,.int 0 0] }).push (seqObj "list" #[] 0)).IsList l its.toArray:=⟨o1,kpH _ _ ho1,ho2⟩;refine yc1 ycz ?_;rw[yD.under_plainId qH _];show yi _ X.A.in1 (ya9 (.ref _) >>= _) _ _ _;refine yf (jL gS rfl ?_);show yi _ X.A.in1 (tryCatch (j2 (.ref s.heap.objs.size)) _ >>= _) _ _ _;by_cases hne:0<xs.length
 ·refine yf (qJ (W.item 0 _ _ _ (by rw[hsz,<- hlen];exact hne) ⟨⟨_,gI,rfl,rfl⟩,hlsH⟩ λu h' tk' hP hst' hk'=>?_))
  have hu:its[0]? = some u:=by simpa using hP
  obtain⟨oI',hoI',hoc,hod⟩:=id hst'.1;have J1:Inv X pins σ H { s with heap:=h',toks:=tk' }:=Fx.Inv.turn1 (s:={ s with heap:=(s.heap.push { cls:=.type "list_iterator",data:=.fields #[.ref l,.int 0 0] }).push (seqObj "list" #[] 0) }) JH mI nI λb o hb e=>hk' b o (by simpa using hb) e
  have hS':=hk' _ _ (by simpa using hSI) gS
  have J2:=Fx.Inv.pin2 J1 mS mI nS nI hS' hoI' (λv z=>by cases z) (λv z=>by rw[hod]at z;cases z)
  obtain⟨v1,hv1⟩:∃v1,xs[0]? = some v1:=⟨_,jx hne⟩;obtain⟨u',hu',ru⟩:=rv.get hv1;rw[hu]at hu';cases hu';show yi _ X.A.in1 (tryCatch (jP [u] (call (.ref q) [u])) _ >>= _) _ _ _;refine yf (qJ (qc (yI (turn 0 v1 u _ _ H hv1 ru J2 (Same.refl H)) (λx s'' he=>?_) λ_ _ hF=>hF.elim)))
  obtain⟨t2,H2,rfl,J3,sm2⟩:=he;obtain⟨eS2,nS2,_⟩:=J3.pin ((s.heap.push { cls:=.type "list_iterator",data:=.fields #[.ref l,.int 0 0] }).objs.size,seqObj "list" #[] 0) (yZ _ (yZ _ (.head _)));obtain⟨eI2,nI2,_⟩:=J3.pin (s.heap.objs.size,oI') (yZ _ (yZ _ (.tail _ (.head _))));have s1:=yd.SameBut.update s''.heap (s.heap.push { cls:=.type "list_iterator",data:=.fields #[.ref l,.int 0 0] }).objs.size (jJ λ_=>#[u,.int (kf 0) t2])
  obtain⟨c2,hc2⟩:∃c2,(s''.heap.update (s.heap.push { cls:=.type "list_iterator",data:=.fields #[.ref l,.int 0 0] }).objs.size (jJ λ_=>#[u,.int (kf 0) t2])).get? (s.heap.push { cls:=.type "list_iterator",data:=.fields #[.ref l,.int 0 0] }).objs.size=some (seqObj "list" #[u,.int (kf 0) t2] c2):=⟨_,get?_update_seq eS2 λ_=>#[u,.int (kf 0) t2]⟩
  show yi _ X.A.in1 (updateSeq (s.heap.push { cls:=.type "list_iterator",data:=.fields #[.ref l,.int 0 0] }).objs.size (λ_=>#[u,.int (kf 0) t2]) >>= _) _ _ _
  refine yf ?_;refine yc2 eS2 rfl ?_;rw[hname];have J4:=Fx.Inv.turn1 (t':=s''.toks) (h':=s''.heap.update (s.heap.push { cls:=.type "list_iterator",data:=.fields #[.ref l,.int 0 0] }).objs.size (jJ λ_=>#[u,.int (kf 0) t2])) J3.unpinned mS nS2 λb o hb e=>(s1.2 b hb).trans e
  refine yx ⟨ybu qH _,min_loop hh hlI hSI mS mI hl turn (λi v u s' H' a b c d e=>fin i v u s' H' a b c d e) _ 0 0 _ H2 u v1 t2 c2 oI' rfl hne (Fx.Inv.pin2 J4 mS mI nS2 nI2 hc2 ((s1.2 _ hSI.symm).trans eI2) (λv z=>by cases z) (λv z=>by rw[hod]at z;cases z)) sm2 ⟨oI',(s1.2 _ hSI.symm).trans eI2,hoc,hod⟩ hv1 ru (yu _) λj' hj'=>?_⟩
  have e:j'=0:=by omega
  subst e;exact⟨by omega,λh=>absurd h (jY _)⟩
 ·have h0:xs=[]:=yd7.mp (by omega)
  refine yf (qJ (W.done _ _ _ ⟨by rw[hsz,<- hlen,h0];exact⟨_,gI,rfl,rfl⟩,hlsH⟩ λh' tk' hk'=>?_))
  have J1:Inv X pins σ H { s with heap:=h',toks:=tk' }:=Fx.Inv.turn1 (s:={ s with heap:=(s.heap.push { cls:=.type "list_iterator",data:=.fields #[.ref l,.int 0 0] }).push (seqObj "list" #[] 0) }) JH mI nI λb o hb e=>hk' b o (by simpa using hb) e
  exact yf (wpAny_rule (yx (fin0 h0 _ H J1 (Same.refl H))))
end
def kOf(key:ya->Res ya)(ts:List ya)(i:Nat):Int:=match ts[i]? with
 |some t=>(match key t with
  |.ok (.int k)=>k
  |_=>0)
 |none=>0
theorem zhH{key:ya->Res ya}(nx:∀t c,key t≠.exc c){all:List ya}{r:ya}:∀(ts:List ya) (b:ya) (m:Int) (i j:Nat),all.drop (j+1)=ts->minL key b m ts=.ok r->all[i]? = some b->key b=.ok (.int m)->i<=j ->
  (∀j',j'<=j->kOf key all i<=kOf key all j'/\(j' < i->kOf key all i<kOf key all j'))->(∀j':Nat,j'<=j->∀t,all[j']? = some t->∃k,key t=.ok (.int k)) ->
  (∀(j':Nat) t,all[j']? = some t->∃k,key t=.ok (.int k))/\∃i':Nat,all[i']? = some r/\∀j',j' < all.length->kOf key all i'<=kOf key all j'/\(j' < i'->kOf key all i' < kOf key all j')
 |[],b,m,i,j,hd,h,hb,hk,hij,best,ks=>by
  have hl:all.length<=j+1:=by
   have:=congrArg List.length hd;rw[ydl]at this;simp at this;omega
  cases h;exact⟨λj' t e=>ks j' (by have:=(yV.mp e).1;omega) t e,i,hb,λj' hj'=>best j' (by omega)⟩
 |x::ts,b,m,i,j,hd,h,hb,hk,hij,best,ks=>by
  have hx:all[j+1]? = some x:=by
   have:=congrArg (λl=>l[0]?) hd
   simpa[List.getElem?_drop] using this
  have hd':all.drop (j+1+1)=ts:=by
   have:=congrArg (List.drop 1) hd;rw[List.drop_drop]at this;simpa using this
  have km:kOf key all i=m:=by unfold kOf;rw[hb];simp only[hk]
  unfold minL at h;cases ek:key x with
  |stuck=>rw[ek]at h;cases h
  |exc c=>exact absurd ek (nx x c)
  |ok y=>
   rw[ek,Res.bind_ok]at h;cases y<;>try (simp at h;done)
   rename_i k;simp only at h;have kx:kOf key all (j+1)=k:=by unfold kOf;rw[hx];simp only[ek]
   have ks':∀j',j'<=j+1->∀t,all[j']? = some t->∃k,key t=.ok (.int k):=λj' hj' t e=>by
    by_cases z:j'=j+1
    ·subst z;rw[hx]at e;cases e;exact⟨k,ek⟩
    ·exact ks j' (by omega) t e
   split at h
   ·refine zhH nx ts x k (j+1) (j+1) hd' h hx ek (yu _) (λj' hj'=>?_) ks'
    by_cases z:j'=j+1
    ·subst z;exact⟨jR _,λw=>by omega⟩
    ·have:=best j' (by omega)
     rw[kx];rw[km]at this;exact⟨by omega,λ_=>by omega⟩
   ·refine zhH nx ts b m i (j+1) hd' h hb hk (by omega) (λj' hj'=>?_) ks'
    by_cases z:j'=j+1
    ·subst z;rw[kx,km];exact⟨by omega,λw=>by omega⟩
    ·exact best j' (by omega)
theorem minT_ok{key:ya->Res ya}(nx:∀t c,key t≠.exc c){ts:List ya}{r:ya}(h:minT key ts=.ok r):(ts=[]/\r=.none)\/(ts≠[]/\(∀(j':Nat) t,ts[j']? = some t->∃k,key t=.ok (.int k))/\∃i':Nat,ts[i']? = some r/\∀j',j' < ts.length->kOf key ts i'<=kOf key ts j'/\(j' < i'->kOf key ts i' < kOf key ts j')):=by
 cases ts with
 |nil=>cases h;exact .inl ⟨rfl,rfl⟩
 |cons x ts=>
  simp only[minT]at h;cases ek:key x with
  |stuck=>rw[ek]at h;cases h
  |exc c=>exact absurd ek (nx x c)
  |ok y=>
   rw[ek,Res.bind_ok]at h;cases y<;>try (simp at h;done)
   rename_i k;simp only at h;refine .inr ⟨by simp,zhH nx (all:=x::ts) ts x k 0 0 rfl h rfl ek (yu _) (λj' hj'=>?_) λj' hj' t e=>?_⟩
   ·have z:j'=0:=by omega
    subst z;exact⟨jR _,λw=>by omega⟩
   ·have z:j'=0:=by omega
    subst z;cases e;exact⟨k,ek⟩
theorem zfn{key:ya->Res ya}(nx:∀t c,key t≠.exc c):∀(ts:List ya) b m c,minL key b m ts≠.exc c
 |[],b,m,c=>by simp[minL]
 |x::ts,b,m,c=>by
  unfold minL;cases ek:key x with
  |stuck=>simp
  |exc c'=>exact absurd ek (nx x c')
  |ok y=>
   rw[Res.bind_ok];cases y<;>try simp
   split
   ·exact zfn nx ts _ _ c
   ·exact zfn nx ts _ _ c
theorem minT_nox{key:ya->Res ya}(nx:∀t c,key t≠.exc c)(ts:List ya)(c:Str):minT key ts≠.exc c:=by
 cases ts with
 |nil=>simp[minT]
 |cons x ts=>
  simp only[minT];cases ek:key x with
  |stuck=>simp
  |exc c'=>exact absurd ek (nx x c')
  |ok y=>
   rw[Res.bind_ok];cases y<;>try simp
   exact zfn nx ts _ _ c
theorem hol_lam{K:yh}{H H':Hp}{P P':Pv}{σ:L2.St}{G:List Sl}{cap:List Nat}{t:ya}{v:V}(h:Hol K H P σ G)(tr:Tr H P H' P')(ho:∀i,P'.own i=none)(hf:∀a,P'.fb a->∃o,H' a=some o/\LD o)(htb:Qm K H')(rv:Rl K H' P' t v):
  Hol K H' P' (lamS cap σ v) (.val t::aD cap G):=by
 have z:=zlH (nv:=0) (cap:=cap) h tr ho hf htb;refine⟨λi s e=>?_,λi j a z _=>(by rw[ho i]at z;cases z),λi a z=>(by rw[ho i]at z;cases z),hf,λi a z=>(by rw[ho i]at z;cases z),?_,htb⟩
 ·cases i with
  |zero=>
   cases e;exact⟨v,rfl,rv⟩
  |succ i=>
   have w:=z.sl i s (by simpa using e)
   have es:(lamS cap σ v).getD (i+1) none=(sig 0 cap σ).getD i none:=by simp[lamS,sig]
   have w':SlOk K H' P' i ((lamS cap σ v).getD (i+1) none) s:=by rw[es];exact w
   cases s with
   |emp=>trivial
   |val t'=>exact w'
   |own xs=>
    obtain⟨p,vs,_,e2,_⟩:=w';rw[ho i]at e2;cases e2
   |dct xs=>
    obtain⟨p,vs,_,e2,_⟩:=w';rw[ho i]at e2;cases e2
 ·have:=z.len;simp[lamS,sig]at this ⊢
  try omega
section
variable {X:Cx}{W:Str->Hp->Prop}{fl:Bool}{a b c e:yj}{es:List yj}{da db:DE}{pos:Pos}
theorem ev_minK{k:Nat}{x y:Str}{c T:yc}{params:yak}{body:yj}{scope:yJ}{N:List Str}{cap:List Nat}{de:DE}{p lpos kp1 kp2 cp:Pos}{jj:Nat}(L:LamAt X x c T)(C:LamOk X scope N y cap)(hr:Room (k+2) X.A)(hg:Gl X "min")(hm:X.mg "min"=none)(ha:EV X W a da)
  (he:∀s₀ H₀ f cd,EV (cxL (Cx.i1 X) (lamQ x) scope N s₀ H₀ f cd) (λ_ _=>False) body de) (hdef:defaultsOf params X.env=([],[]):=by rfl)
  (hb:∀cl pm c' ctv u,bindArgs (jH "<lambda>" (lamQ x) params body scope cl pm (.ref c') ctv) ⟨[u],[]⟩=pure [(y,u)]:=by intros;rfl)
  (hs:yp [a] X.env=(false,yz a X.env)::yp [] X.env:=by rfl):
  EV X W (.Call (.Name "min" p) [a] [⟨some "key",.Lambda params body scope lpos,kp1⟩,⟨some "default",.Constant .none jj cp,kp2⟩] pos) (dMinK cap da de):=by
 intro pins s σ H Q I ⟨G,P,h,q⟩;unfold dMinK at q;obtain⟨q1,q2,q3⟩:=QG q;refine yaa (zcN I hg hm (show yP "min"=some (.builtin "min") by decide +kernel) ?_)
 refine callWith_kw (thn (Y3 ha W5 hs pos pins s σ H (λvs H1=>∃tx v,vs=[v]/\da G=.ok tx/\Same H H1/\Hol X.K H1 P σ G/\Rl X.K H1 P tx v) I (Z1 h q1 q2 λtx v H1 ex s1 h1 rx=>⟨tx,v,rfl,ex,s1,h1,rx⟩)) λus s1 ⟨vs,H1,I1,r1,tx,v,ev,ex,sm1,h1,rx⟩=>?_) (by rw[hs];rfl) (by rw[hs];rfl)
 subst ev;obtain⟨u1,rfl,ru⟩:=zeI r1;refine thn ((zkY (pe_lam L C hdef) (zkY pe_non pk_nil)) pos pins s1 σ H1 (λzs H2=>∃f c' ctv,zs=[.ref f,.non]/\Same H1 H2/\H2 f=some (LO f (jH "<lambda>" (lamQ x) params body scope (YG X.env scope.names []) ((X.mg "__name__").getD .none) (.ref c') ctv))/\H2 c'=some (CO c' (lamQ x))) I1 ⟨h1.tab,λf c' ctv H2 sm2 _ e1 e2=>⟨f,c',ctv,rfl,sm2,e1,e2⟩⟩) λws s2 ⟨zs,H2,I2,r2,f,c',ctv,ez,sm2,hf,hc⟩=>?_
 subst ez;have hws:ws=[.ref f,.none]:=by
  cases r2 with
  |cons ra rb=>
   cases rb with
   |cons rc rd=>
    cases rd;cases ra;cases rc
    rfl
 subst hws;show yi _ _ (call (.builtin "min") [u1] [(Str.ofString "key",.ref f),(Str.ofString "default",.none)]) _ _ _;have q4:=q3 tx ex;cases tx<;>try exact q4.elim
 rename_i ts;obtain⟨l,vs,rfl,sl,rs⟩:=YJ.mp rx;cases ru;simp only at q4;have nx:∀t c,noX (de (.val t::aD cap G))≠.exc c:=λt c z=>by
  rcases zcI (de (.val t::aD cap G)) with ⟨w,e⟩|e<;>(rw[e]at z;cases z)
 have hlen:=rs.length;cases em:minT (λt=>noX (de (.val t::aD cap G))) ts with
 |stuck=>rw[em]at q4;exact q4.elim
 |exc c=>exact absurd em (minT_nox nx ts c)
 |ok r=>
  rw[em]at q4;have mt:=minT_ok nx em;refine zmj (X:=X) (xs:=vs) (kf:=kOf (λt=>noX (de (.val t::aD cap G))) ts) hr.hd I2 (λH' sm=>((sl.go (.same sm2)).go (.same sm)).sq) (λi v u pins' s' H' hv rvu J sm=>?_) (λh0 s' H' J sm=>?_) (λi v u s' H' hv rvu best J sm=>?_)
  ·-- one call of the lambda
   obtain⟨t,ht,rt⟩:=rs.get hv;obtain⟨kv,ek⟩:∃kv,noX (de (.val t::aD cap G))=.ok (.int kv):=by
    rcases mt with ⟨e0,_⟩|⟨_,ks,_⟩
    ·rw[e0]at ht;simp at ht
    ·exact ks i t ht
   have ed:=zlh ek;have kk:kOf (λt=>noX (de (.val t::aD cap G))) ts i=kv:=by unfold kOf;rw[ht];simp only[ek]
   have smA:Same H1 H':=sm2.trans sm;have gg:Tr H1 P H' ⟨λ_=>none,λa=>¬Off P a⟩:=λa o e1 n o1=>⟨smA.kp a o e1 n,λ_ z=>(by cases z),λz=>z o1⟩
   refine yI (lam_call (X:=Cx.i1 X) (k:=k) (t:=tF X.K (λ_ _=>False) de) (Q:=λv' H''=>v'=.int kv/\Same H' H'') ⟨C.cell,C.kind,C.co,C.gen,C.par,C.free,C.head,C.len,C.caps⟩ hr.in1 (Fx.Inv.toi1 J) rvu (sm.kp _ _ hf zlg) (sm.kp _ _ hc zlg) (hb _ _ _ _ _) (he s' H' f (.ref c')) ⟨.val t::aD cap G,⟨λ_=>none,λa=>¬Off P a⟩,hol_lam h1 gg (λ_=>rfl) (λa z=>let⟨o,q,m⟩:=h1.ld z;⟨o,smA.kp _ _ q m.nt,m⟩) (smA.tab _ h1.tab) (Rl.go gg t v rt),?_⟩) (λrr s'' hh=>?_) λ_ _ z=>z
   ·rw[ed];exact λv' H'' sm' r'=>⟨Ym.mp r',sm'⟩
   ·obtain⟨v',H'',J',rv',e1,sm'⟩:=hh;subst e1;obtain⟨t',rfl⟩:=rv';exact⟨t',H'',by rw[kk],Fx.Inv.ofi1 J.ok J',sm.trans sm'⟩
  ·-- nothing in the list
   rcases mt with ⟨_,rfl⟩|⟨hne,_,_⟩
   ·exact⟨.non,H',J,rfl,q4 _ H' ((sm1.trans sm2).trans sm) (Vf.mpr rfl)⟩
   ·exact absurd (yd7.mp (by rw[hlen,h0];rfl)) hne
  ·rcases mt with ⟨e0,_⟩|⟨_,_,i',hi',best'⟩
   ·rw[e0]at hlen;have:=(yV.mp hv).1;simp at hlen;omega
   ·have hi1:=(yV.mp hv).1;have hi2:=(yV.mp hi').1;have e:i=i':=by
     have b1:=best i' (by omega)
     have b2:=best' i (by omega)
     rcases ydi i i' with z|z|z
     ·have:=b2.2 z;have:=b1.1;omega
     ·exact z
     ·have:=b1.2 z;have:=b2.1;omega
    subst e;obtain⟨t,ht,rt⟩:=rs.get hv;rw[hi']at ht;cases ht;exact⟨v,H',J,rvu,q4 v H' ((sm1.trans sm2).trans sm) (Rl.go (.same (sm2.trans sm)) _ v rt)⟩
end
def lamCap(scope:yJ)(env:Env)(N0 N:List Str)(cap:List Nat):Bool:=(y4 cap.length).all λi=>match(cap[i]?:Option Nat),(N[1+i]?:Option Str) with
  |some j,some x=>N0[j]? == some x && cf (scope.names.lookup x) && cf (env.kindOf x)
  |_,_=>true
def lamChk(scope:yJ)(env:Env)(N0 N:List Str)(y:Str)(cap:List Nat):Bool:=(scope.names.all λz=>z.2 != .cell) && (scope.kind == .function) && (scope.isCoroutine == false) && (scope.isGenerator == false) && (scope.names.lookup y == some .local)
  && (scope.names.all λz=>z.2 != .free || cf (env.kindOf z.1)) && (N[0]? == some y) && (N.length == 1+cap.length) && lamCap scope env N0 N cap
theorem lamok{X:Cx}{scope:yJ}{N:List Str}{y:Str}{cap:List Nat}(h:lamChk scope X.env X.N N y cap=true):LamOk X scope N y cap:=by
 unfold lamChk at h;simp only[jl,qO]at h;obtain⟨⟨⟨⟨⟨⟨⟨⟨h1,h2⟩,h3⟩,h4⟩,h5⟩,h6⟩,h7⟩,h8⟩,h9⟩:=h;refine⟨λy hy=>by simpa using h1 y hy,by simpa using h2,by simpa using h3,by simpa using h4,by simpa using h5,λy hy e=>?_,by simpa using h7,by simpa using h8,λi j x hc hx=>?_⟩
 ·have:=h6 y hy;rw[e]at this;exact zj3 (by simpa using this)
 ·unfold lamCap at h9;rw[qO]at h9;have hi:i<cap.length:=(yV.mp hc).1;have:=h9 i (jq.mpr hi);rw[hc,hx]at this;simp only[jl]at this;exact⟨by simpa using this.1.1,zj3 this.1.2,zj3 this.2⟩
structure LamHyp(K:yh)(mg:Str->Option yb)(base:yd)(x:Str)(c T:yc):Prop where
 tab:jA K x=some (c,T)
 hd:∀h:yd,K.In h->jX h c T
 blt:zfW mg base
theorem zjg{K:yh}{x:Str}{c T:yc}(t:jA K x=some (c,T)):∃o,K.lookup c=some o:=by
 unfold jA at t;split at t
 ·split at t
  ·split at t
   ·split at t
    ·rename_i hco;split at t
     ·cases t;exact⟨_,hco⟩
     ·cases t
    ·cases t
   ·cases t
  ·cases t
 ·cases t
theorem tab_mk{K:yh}{x:Str}{f c T:yc}{oc occ:yb}{od odc:Option yc}{fd:yM}{sl slc:Array (Option yb)}{vs:Array yb}(a:yo K yn x=some (some (.ref f)))(l:K.lookup f=some ⟨oc,od,.func fd,sl⟩)(hc:fd.code=.ref c)(lc:K.lookup c=some ⟨occ,odc,.fields vs,slc⟩)(v:vs[11]? = some (.ref T)):jA K x=some (c,T):=by
 unfold jA;rw[a];simp only[l,hc,lc,v]
theorem zeD{K:yh}{x:Str}{c T:yc}{b:yd}(t:jA K x=some (c,T))(hb:K.In b)(h:jX b c T):∀h':yd,K.In h'->jX h' c T:=λh' hk=>by
 obtain⟨o0,e0⟩:=zjg t;obtain⟨o,vs,file,tf,flags,tg,inF,text,tt,e,r⟩:=h;have:=hb _ _ e0;rw[e]at this;cases this;exact⟨_,vs,file,tf,flags,tg,inF,text,tt,hk _ _ e0,r⟩
theorem lam_at{X:Cx}{x:Str}{c T:yc}(L:LamHyp X.K X.mg X.base x c T)(nm:x∈UC)(hc:X.env.code=.ref c:=by rfl)(hq:X.env.qual ++ "<lambda>"=lamQ x:=by rfl):LamAt X x c T:=⟨L.tab,nm,hc,hq,L.hd,L.blt⟩
theorem cle_ofC{P:y6}{w:y0}{K:yh}{mg:Str->Option yb}{base:yd}{x:Str}{st:yk}{fa c:yc}{fd:yM}{N ps:List Str}{k n np:Nat}{d:DS}(F:Fun K x x st fa fd)(hcode:fd.code=.ref c)(hm:mg x=some (.ref fa))(b:ZB K fd ps [])(S:ae N ps (Ze st))(hnp:ps.length=np)(hN:N.length=n)
  (hb:∀(A:yD) (outer:List Env) (s:ye) (H:Hp) (E:XK),Room k (A.deeper (envOfC x (Ze st) s.heap.objs.size fa (.ref c))) ->
   SVs (cxOf CX0 P w K mg base N x (Ze st) fa (.ref c) A outer s H E).nox (λ_ _=>False) false (Zl st) d):Cle P w K mg base (k+1) x np (ah n np d):=by
 subst hN;refine⟨⟨fa,fd,ps,?_,hm,F.kp,b⟩,λts c=>ze1 _ _ _ ts c⟩
 obtain⟨oc,od,kV,doc,pm,an,cdv,ct,osl,rfl,lk,hcd⟩:=F.ex;have hcode':cdv=.ref c:=hcode;subst hcode';have F':Fun K x x st fa (yt x x (Zn st) (Zl st) (Ze st) .none kV doc pm an (.ref c) ct):=F;refine fn_of lk hcd S (λvs H Q E h=>by rw[hnp];exact h.1) λA outer s H vs Q E hr h=>⟨_,(hb A outer s H E hr).nox,?_⟩
 obtain⟨hl,ts,P',rs,ho,hf,q⟩:=h;have hlt:ts.length=np:=by rw[rs.length];exact hl
 refine⟨_,P',zaJ rs ho hf,?_⟩;unfold ah ai at q;rw[if_pos hlt]at q;have en:N.length - np=N.length - ts.length:=by rw[hlt]
 rw[en]at q;have sm:∀H' P2,Go H P' H' P2->Same H H':=λH' P2 g=>g.all ho
 have bk:∀H' P2,Go H P' H' P2->Tr H' P2 H' P':=λH' P2 g b o e _ z=>⟨e,λi=>by rw[ho i];exact λz=>(by cases z),by rw[<- g.fbe];exact z.2⟩
 cases e:d (ts.map .val++y3 (N.length - ts.length) .emp) with
 |stuck=>rw[e]at q;exact q.elim
 |exc c=>rw[e]at q;exact q.elim
 |ok o=>
  rw[e,Res.bind_ok]at q;cases o with
  |nx G=>exact λσ' H' P2 g h'=>q .non H' (sm H' P2 g) (Vf.mpr rfl)
  |rt t=>exact λv H' P2 g r _=>q v H' (sm H' P2 g) (Rl.go (bk H' P2 g) t v r)
  |bk G=>exact q.elim
  |ct G=>exact q.elim
theorem zlp{P:y6}{w:y0}{K:yh}{mg mb:Str->Option yb}{k:Nat}{fa a c T:yc}{fd:yM}{x x0:Str}{f:DF}{s₁:ye}{vs:List yb}{ns:List Int}
  (KX:K.In s₁.heap) (hns:s₁.heap.Ns yn mg) (hb:s₁.heap.Ns yah mb) (hbb:∀x:Str,x≠"__name__" -> mb x=yP x) (hlim:s₁.heap.NoLimit) (hg:s₁.gens=#[])
  (bmain:zfW mg s₁.heap) (htb:jA K x0=some (c,T)) (hx0:x0∈UC) (hno:yba K=true) (hC:jX s₁.heap c T) (hT:s₁.heap.get? T=some (ydx #[]))
  (ha:s₁.heap.get? a=some { cls:=.type "list",data:=.seq vs.toArray }) (hi:IntsAre vs ns) (hl:ns.length<=y7) (hr:Room k qT)
  (F:∀base:yd,K.In base->base.Ns yn mg->zfW mg base->jX base c T->FnOk P w K mg base CX0 k fa fd [x] (spF K none 1 f)) (hbind:∀(s:ye) (u:yb),BindsTo s fd ⟨[u],[]⟩ [(x,u)])
  (hok:f [.list (ns.map .int)]=.ok (.bool true)):
  jQ (ym P w) qT (.call (.ref fa) ⟨[.ref a],[]⟩) (λr s'=>r=.ok (.ret (.bool true))/\OldK s₁.heap s'.heap/\s'.os=s₁.os/\AllBare s'.gens) s₁:=by
 have rv:=zfY hi;have lenV:=hi.length;have haT:a≠T:=λe=>by rw[e,hT]at ha;cases ha
 have hKT:∀b o,K.lookup b=some o->b≠T:=λb o e z=>by
  have h2:=qO.mp hno (b,o) (PySem.W.mem_of_lookupK e);have h3:=KX _ _ e;rw[z,hT]at h3;cases h3;exact absurd (show false=true from h2) jy
 -- from an abstract heap in which nothing but the table and the script may be tracked
 have core:∀H:Hp,H T=some (.tbl #[])->SqL K H a (ns.map V.int)->HOk P w H s₁.heap->(∀b,H b≠none->b=a\/b=T)->(∀o,H a=some o->K.lookup a=none/\∃ob xs,o=.frz ob (.lst xs)) ->
   jQ (ym P w) qT (.call (.ref fa) ⟨[.ref a],[]⟩) (λr s'=>r=.ok (.ret (.bool true))/\OldK s₁.heap s'.heap/\s'.os=s₁.os/\AllBare s'.gens) s₁:=by
  intro H hHT hS hok' hA hK;have base_of:∀{b:yc}{o:Obj},s₁.heap.get? b=some o->H b=none->(hidT s₁.heap H).get? b=some o:=λe n=>hidT_get e n
  have noD:∀{b:yc}{o:Obj},s₁.heap.get? b=some o->b≠T->(∀xs n,o.data≠.seq xs n)->H b=none:=λ{b o} e nt d=>by
   cases q:H b with
   |none=>rfl
   |some u=>
    rcases hA b (by rw[q];simp) with e'|e'
    ·subst e';rw[ha]at e;cases e;exact absurd rfl (d _ _)
    ·exact absurd e' nt
  have nsK:∀{b:yc}{m:Str->Option yb},s₁.heap.Ns b m->(hidT s₁.heap H).Ns b m:=λ{b m} ⟨o,es,ep,e,d,r⟩=>⟨o,es,ep,base_of e (noD e (λz=>by rw[z,hT]at e;cases e;cases d) λxs n z=>by rw[d]at z;cases z),d,r⟩
  have hKb:K.In (hidT s₁.heap H):=λb o e=>base_of (KX b o e) (by
   cases q:H b with
   |none=>rfl
   |some u=>
    rcases hA b (by rw[q];simp) with e'|e'
    ·subst e';rw[(hK u q).1]at e;cases e
    ·exact absurd e' (hKT b o e))
  have hBb:zfW mg (hidT s₁.heap H):=by
   obtain⟨bm,ob,b1,b2,b3,b4,b5,b6,b7⟩:=bmain;exact⟨bm,ob,b1,b2,b3,base_of b4 (noD b4 (λz=>by rw[z,hT]at b4;cases b4;cases b5) λxs n z=>by rw[b7]at z;cases z),b5,b6,b7⟩
  have hCb:jX (hidT s₁.heap H) c T:=zeD htb KX hC _ hKb;have hM:Mod K mg (hidT s₁.heap H):=⟨hKb,nsK hns,⟨mb,nsK hb,hbb⟩,let⟨mc,h1,h2⟩:=hlim;⟨mc,nsK h1,h2⟩⟩
  have e0:Env0 P w K mg (hidT s₁.heap H) qT [] s₁ H:=⟨rfl,hM,λb o e=>of_hidT e,Nat.le_of_eq (zlI _ _),trivial,λb hb=>absurd (show b∈([]:List yc) from hb) (by simp),hok',.of_eq hg⟩
  have tk:Qm K H:=λx1 c1 T1 h1 h2=>by
   have e1:x1=x0:=zlr h1 hx0;subst e1;rw[htb]at h2;cases h2;exact⟨#[],hHT,trivial,λpos cv z=>by simp[qQ]at z⟩
  refine ya1 ((F _ hKb (nsK hns) hBb hCb).run qT [] s₁ H ⟨[.ref a],[]⟩ [.ref a] [.ref a] _ (λ_ _ _=>False) hr e0 (hbind s₁ (.ref a)) (.cons rfl .nil) (law_sp hok tk hS)) λr s' h=>?_
  cases r with
  |error e=>exact False.elim h
  |ok fl=>
   cases fl with
   |next=>exact False.elim h
   |brk=>exact False.elim h
   |cont=>exact False.elim h
   |ret u=>
    obtain⟨v,H',os,bare,un,hok2,r',q⟩:=h;have q':v=.bl true:=q;subst q';obtain rfl:u=yb.bool true:=r';have keep:∀b o,b≠T->s₁.heap.get? b=some o->s'.heap.get? b=some o:=λb o nb e=>by
     cases q:H b with
     |none=>exact un.keep b o e q (by intro z;exact absurd (show b∈([]:List yc) from z) (by simp)) (by simp)
     |some u=>
      rcases hA b (by rw[q];simp) with e'|e'
      ·subst e';obtain⟨_,ob,xs,rfl⟩:=hK u q;have z2:=un.frzs b ob _ q;obtain⟨e1,_⟩:=hok' b _ q;obtain⟨e2,_⟩:=hok2 b _ z2;rw[e]at e1;cases e1;exact e2
      ·exact absurd e' nb
    obtain⟨more,hT'⟩:=un.tbls T _ hHT;have hTo:s'.heap.get? T=some (ydx (#[]++more)):=hok2 T _ hT';refine⟨rfl,⟨λb o e=>?_,λb o e=>?_⟩,os,bare⟩
    ·by_cases nb:b=T
     ·subst nb;rw[hT]at e;cases e;exact .inr (.inl ⟨(hC.tab hT).isCodeTable,rfl,#[],more,rfl,hTo⟩)
     ·exact .inl (keep b o nb e)
    ·by_cases nb:b=T
     ·subst nb;exact⟨_,hTo⟩
     ·exact⟨o,keep b o nb e⟩
 cases hk:K.lookup a with
 |some o=>
  have e:=KX a o hk;rw[ha]at e;cases e;refine core (λb=>if b=T then some (.tbl #[]) else none) (if_pos rfl) (.inr ⟨_,vs.toArray,_,hk,rfl,rfl,rfl,by rw[yL,lenV];exact hl,by simpa using rv⟩) (λb u z=>?_) (λb z=>?_) λo z=>?_
  ·by_cases hb:b=T
   ·have z':=(if_pos hb).symm.trans z;cases z';subst hb;exact hT
   ·have z':=(if_neg hb).symm.trans z;cases z'
  ·by_cases hb:b=T
   ·exact .inr hb
   ·exact absurd (if_neg hb) z
  ·have z':=(if_neg haT).symm.trans z;cases z'
 |none=>
  refine core (λb=>if b=T then some (.tbl #[]) else if b=a then some (.frz { cls:=.type "list",data:=.seq vs.toArray } (.lst (ns.map V.int))) else none) (if_pos rfl) (.inl (.inr ⟨{ cls:=.type "list",data:=.seq vs.toArray },(if_neg haT).trans (if_pos rfl)⟩)) (λb u z=>?_) (λb z=>?_) λo z=>?_
  ·by_cases hb:b=T
   ·have z':=(if_pos hb).symm.trans z;cases z';subst hb;exact hT
   ·have z1:=(if_neg hb).symm.trans z;by_cases hb2:b=a
    ·have z':=(if_pos hb2).symm.trans z1;cases z';subst hb2;exact⟨ha,by rw[yQ];exact hl,vs,_,rv,ha⟩
    ·have z':=(if_neg hb2).symm.trans z1;cases z'
  ·by_cases hb:b=T
   ·exact .inr hb
   ·by_cases hb2:b=a
    ·exact .inl hb2
    ·exact absurd ((if_neg hb).trans (if_neg hb2)) z
  ·have z':=((if_neg haT).trans (if_pos rfl)).symm.trans z;cases z';exact⟨hk,_,_,rfl⟩
theorem walk_T{l:ydr}{n k:Nat}{q:y6}{loose:List Str}{XP:(Str->Option yb)->yd->Prop}{YP:y0->yd->Prop}{d d0:DefRec}{K:Params->yh}{x x0:Str}{f:DF}
  (hn:l.most=some n) (hn2:n<=y7) (hdf:d.params.defaults=[]) (hr:Room k qT) (hx0:x0∈UC) (hrec:(recsOf q).find? (λe=>e.name == x0)=some d0)
  (hY:∀(w:y0) (h:yd),YP w h->(K w.params).In h)
  (F:∀(w:y0) (mg:Str->Option yb) (fa:yc) (h:yd),(K w.params).In h->h.Ns yn mg->mg d.name=some (.ref fa) ->
   ∃(fd:yM) (c T:yc),jA (K w.params) x0=some (c,T)/\yba (K w.params)=true/\(∀(s:ye) (u:yb),BindsTo s fd ⟨[u],[]⟩ [(x,u)]) /\
    ∀base:yd,(K w.params).In base->base.Ns yn mg->zfW mg base->jX base c T->FnOk l.prog w (K w.params) mg base CX0 k fa fd [x] (spF (K w.params) none 1 f))
  (hok:∀ns:List Int,ns.length<=n->f [.list (ns.map .int)]=.ok (.bool true)):
  PySem.W.WalkO q loose XP YP l.row.toRowW d [] (λf vs=>PySem.call f vs):=by
 refine Att.attach_call hn hdf λw s₀ s₁ mg mb fa o pm cd doc a vs ns G Y ho hd hcd hmg hobj hints hlen hg=>?_
 have KX:=hY w _ Y;obtain⟨fd,c,T,htb,hno,hb,hF⟩:=F w mg fa _ KX G.T.g hmg;obtain⟨hC,hT⟩:=PySem.W.tab_of G.T KX hrec htb;have hB:zfW mg s₁.heap:=by
  obtain⟨bm,ob,b1,b2,b3,b4,b5,b6⟩:=G.T.bmain;refine⟨bm,ob,b1,b2,λz=>?_,b3,b4,b5,b6⟩
  obtain⟨o,es,ep,e,hdd,_⟩:=G.T.g;rw[z,e]at b3;cases b3;rw[hdd]at b6;cases b6
 exact zlp KX G.T.g G.T.b G.T.builtins G.T.nolimit hg hB htb hx0 hno hC hT hobj hints (yE hlen hn2) hr hF hb (hok ns hlen)
section
variable {X:Cx}{W:Str->Hp->Prop}{a b e:yj}{da db:DE}{pos:Pos}
theorem zfB{lo hi:Option yj}{dl dh:DP}{p2:Pos}(ha:EV X W a da)(hl:PV X W lo dl)(hh:PV X W hi dh):EV X W (.Subscript a (.Slice lo hi none p2) pos) (zgT da dl dh):=
 Z7 (zil sl_tup ha hl hh) λσ H Q ⟨G,P,h,q⟩=>by
  unfold zgT at q;obtain⟨q1,q2,q3⟩:=QG q;refine Z1 h q1 q2 λtx x H1 ex s1 h1 rx=>⟨G,P,h1,?_⟩
  have q4:=q3 tx ex;cases el:dl G with
  |stuck=>rw[el]at q4;exact q4.elim
  |exc c=>rw[el]at q4;exact λH' s=>q4 H' (s1.trans s)
  |ok l=>
   rw[el,Res.bind_ok]at q4;refine λH2 s2=>⟨G,P,h1.same s2,?_⟩
   cases eh:dh G with
   |stuck=>rw[eh]at q4;exact q4.elim
   |exc c=>rw[eh]at q4;exact λH' s=>q4 H' ((s1.trans s2).trans s)
   |ok u=>
    rw[eh,Res.bind_ok]at q4;intro H3 s3;cases tx<;>try exact q4.elim
    rename_i xs;simp only at q4;split at q4
    ·exact q4.elim
    ·rename_i hw;obtain⟨p,vs,rfl,sl,rs⟩:=Yb.mp (Rl.go (.same (s2.trans s3)) _ x rx);have h3:=h1.same (s2.trans s3);refine⟨p,vs,rfl,sl.sq,?_,λp hp=>q4 _ _ (((s1.trans s2).trans s3).trans (ZJ hp)) (Yb.mpr ⟨p,_,rfl,.off Zw (h3.off_new hp),Rls.go (.same (ZJ hp)) _ _ (zmf l u rs)⟩)⟩
     rw[<- rs.length,<- ze0,<- ze0];exact hw
def rCatU(K:yh):R2:=λx y H Q=>∃a b xs ys,x=.ref a/\y=.ref b/\SqT K H a xs/\SqT K H b ys/\xs.length+ys.length<=y7 /\ (xs=[]->Q (.ref b) H)/\(ys=[]->Q (.ref a) H)/\(∀p,H p=none->Q (.ref p) (upd H p (.tup (xs++ys))))
theorem cat_tup0{prog:y6}{w:y0}{A:yD}{E:yb->ye->Prop}{s:ye}{t b:yc}{ws:List yb}{Q:yb->ye->Prop}(ht:IsTup s.heap t #[])(hb:IsTup s.heap b ws.toArray)
  (h1:Q (.ref b) s):yi (ym prog w) A (jm .Add (.ref t) (.ref b)) Q E s:=by
 obtain⟨⟨cls,dd,data,sl⟩,ho,hc,n,hd⟩:=id ht;obtain⟨⟨cls2,dd2,data2,sl2⟩,ho2,hc2,n2,hd2⟩:=id hb;simp only at hc hd hc2 hd2;subst hc hd hc2 hd2;exact ybw ⟨_,ho,rfl⟩ ⟨_,ho2,rfl⟩ ycx seq_tuple_add ycw ycs (ycq _ _)
   (tuple_addW0 t b #[] ws.toArray n n2 dd dd2 sl sl2 rfl) ⟨ho,ho2,h1⟩
theorem op_catU:OpR X (jm .Add) (rCatU X.K):=by
 intro pins s σ H x y v u Q I rx ry h;obtain⟨a,b,xs,ys,rfl,rfl,ha,hb,hz,q0,q1,q2⟩:=h;by_cases hx:xs=[]
 ·subst hx;cases rx;cases ry;obtain⟨its,r1,p1,_⟩:=I.tuple ha;obtain⟨its2,r2,p2,_⟩:=I.tuple hb;cases r1;exact cat_tup0 p1 p2 ⟨.ref b,H,I,rfl,q0 rfl⟩
 ·exact op_catT pins s σ H _ _ _ _ Q I rx ry ⟨a,b,xs,ys,rfl,rfl,ha,hb,hx,hz,q1,λ_=>q2⟩
theorem zk7:OpR X (jm .Add) (rCatU X.K)/\Fop X W (rCatU X.K) fAddU:=
 ⟨op_catU,λH P σ G x y tx ty Q h rx ry q=>by
  cases tx<;>cases ty<;>try exact q.elim
  rename_i xs ys;obtain⟨l,us,rfl,s1,r1⟩:=Yb.mp rx;obtain⟨m,ws,rfl,s2,r2⟩:=Yb.mp ry;simp only[fAddU]at q;split at q
  ·rename_i hz;have e1:=r1.length;have e2:=r2.length;refine⟨l,m,us,ws,rfl,rfl,s1.sq,s2.sq,by rw[j6];omega,λz=>?_,λz=>?_,λp hp=>q _ _ (ZJ hp) (Yb.mpr ⟨p,us++ws,rfl,.off Zw (h.off_new hp),?_⟩)⟩
   ·subst z;have:xs=[]:=yd3 e1;subst this;exact q _ _ (Same.refl H) ry
   ·subst z;have:ys=[]:=yd3 e2;subst this;rw[jF]at q;exact q _ _ (Same.refl H) rx
   ·exact(Rls.go (.same (ZJ hp)) xs us r1).append (Rls.go (.same (ZJ hp)) ys ws r2)
  ·exact q.elim⟩
end
end Fx
namespace Fx
open PySem
def dHs:List ((Str->Bool)×(Str->Bool)×DS)->Str->DS
 |[],_=>λ_=>.stuck
 |(y,n,h)::r,c=>λG=>if y c then noX (h G) else if n c then dHs r c G else .stuck
@[simp] theorem dHs_cons (y n : Str -> Bool) (h : DS) (r : List ((Str -> Bool) × (Str -> Bool) × DS)) (c : Str) (G : List Sl) : dHs ((y, n, h) :: r) c G = if y c then noX (h G) else if n c then dHs r c G else .stuck := rfl
end Fx
namespace Fx
open PySem PySem.Spec PyProof.Rows L2
theorem star_tup{xs es:List yj}{k:Nat}{pos:Pos}{env:Env}:yp (.Tuple xs k pos::es) env=(false,yz (.Tuple xs k pos) env)::yp es env:=rfl
theorem star_lst{xs es:List yj}{pos:Pos}{env:Env}:yp (.List xs pos::es) env=(false,yz (.List xs pos) env)::yp es env:=rfl
end Fx
namespace Fx
open PySem
def zcS:List ya->Option (List Int)
 |[]=>some []
 |.int i::r=>(zcS r).map (i :: ·)
 |_=>none
def Qc:ya->Option (List Int)
 |.tuple xs=>zcS xs
 |_=>none
theorem zgz:∀{xs:List ya}{ns:List Int},zcS xs=some ns->xs=ns.map .int
 |[],ns,h=>by cases h;rfl
 |x::r,ns,h=>by
  cases x<;>try (cases h;done)
  rename_i i;simp only[zcS]at h;cases e:zcS r with
  |none=>rw[e]at h;cases h
  |some ms=>
   rw[e]at h;cases h;rw[zgz e];rfl
theorem zjN(ns:List Int):zcS (ns.map .int)=some ns:=by
 induction ns with
 |nil=>rfl
 |cons n ns ih=>simp[zcS,ih]
theorem keyIs_ok{k:ya}{ns:List Int}(h:Qc k=some ns):k=.tuple (ns.map .int):=by
 cases k<;>try (cases h;done)
 rw[zgz h]
@[simp] theorem Qb (ns : List Int) : Qc (.tuple (ns.map .int)) = some ns := zjN ns
def zag(ns:List Int):List (ya×ya)->Option ya
 |[]=>none
 |(k,t)::r=>if Qc k=some ns then some t else zag ns r
def zkR(ns:List Int)(t:ya)(es:List (ya×ya)):List (ya×ya):=
 if(zag ns es).isSome then es.map λe=>if Qc e.1=some ns then(e.1,t) else e else es++[(.tuple (ns.map .int),t)]
@[simp] def dNewD (i : Nat) : DS := λG => if i < G.length then .ok (.nx (G.set i (.dct []))) else .stuck
@[simp] def zdr (i : Nat) (k : DE) : DE := λG => (k G).bind λy => match G[i]?, Qc y with
 |some (.dct es),some ns=>.ok (.bool (!(zag ns es).isSome))
 |_,_=>.stuck
@[simp] def zme (i : Nat) (k : DE) : DE := λG => match G[i]? with
 |some (.dct es)=>(k G).bind λy=>match Qc y with
  |some ns=>ofO (zag ns es)
  |none=>.stuck
 |_=>.stuck
@[simp] def zkQ (i : Nat) (G : List Sl) (t y : ya) : Res Out :=
 match G[i]?,Qc y with
 |some (.dct es),some ns=>if es.length<16777215 then .ok (.nx (G.set i (.dct (zkR ns t es)))) else .stuck
 |_,_=>.stuck
def isDct(G:List Sl)(i:Nat):Bool:=match G[i]? with
 |some (.dct _)=>true
 |_=>false
@[simp] def zmd (i : Nat) (k e : DE) : DS := λG => (e G).bind λt => if isDct G i then (k G).bind λy => zkQ i G t y else .stuck
@[simp] def dRetD (i : Nat) : DS := λG => match G[i]? with
 |some (.dct es)=>.ok (.rt (.dict ((.none,.none)::es)))
 |_=>.stuck
@[simp] def dIfG (c : DT) (a b : DS) : DS := λG => (c G).bind λk => if k then a G else b G
@[simp] def fGetD : ya -> ya -> Res ya
 |.dict ((.none,.none)::es),y=>match Qc y with
  |some ns=>ofO (zag ns es)
  |none=>.stuck
 |_,_=>.stuck
@[simp] def iKeys (a : DE) : DA := λG => (a G).bind λx => match x with
 |.dict ((.none,.none)::es)=>.ok (es.map (·.1))
 |_=>.stuck
@[simp] def dJ (a b : DE) : DE := λG => match a G with
 |.stuck=>b G
 |r=>r
@[simp] def extOwn (i : Nat) (G' : List Sl) (ts : List ya) : Res Out :=
 match G'[i]? with
 |some (.own xs)=>if xs.length+ts.length<=16777216 then .ok (.nx (G'.set i (.own (xs++ts)))) else .stuck
 |_=>.stuck
@[simp] def dExt (i : Nat) (e : DA) : DS := λG => if zfv G i then (e G).bind λts => extOwn i G ts else .stuck
end Fx
namespace L2
open PySem PySem.Spec PyProof.Rows
section
variable {κ:Type}[DecidableEq κ]
def valV(kvs:List (κ×V))(k:κ):Option V:=(kvs.find? λkv=>decide (kv.1=k)).map (·.2)
def putK(kvs:List (κ×V))(k:κ)(v:V):List (κ×V):=
 if(kvs.any λkv=>decide (kv.1=k))=true then kvs.map (λkv=>if kv.1=k then(kv.1,v) else kv) else kvs++[(k,v)]
theorem valV_nil{k:κ}:valV ([]:List (κ×V)) k=none:=rfl
theorem zcb{p:κ×V}{r:List (κ×V)}{k:κ}(e:p.1=k):valV (p::r) k=some p.2:=by simp[valV,yan,e]
theorem zcc{p:κ×V}{r:List (κ×V)}{k:κ}(e:¬p.1=k):valV (p::r) k=valV r k:=by simp[valV,yan,e]
theorem zeJ(k:κ):∀kvs:List (κ×V),(kvs.any λkv=>decide (kv.1=k))=(valV kvs k).isSome
 |[]=>rfl
 |p::r=>by
  rw[ydy];by_cases e:p.1=k
  ·simp only[zcb e,decide_eq_true e,Bool.true_or,ydd]
  ·rw[zcc e,decide_eq_false e,Bool.false_or];exact zeJ k r
theorem zcK(kvs:List (κ×V))(k:κ)(v:V):(putK kvs k v).length<=kvs.length+1:=by
 unfold putK;split
 ·rw[yQ];omega
 ·rw[qe,ju,yds];omega
theorem RelO.isSome_eq{o:Option V}{u:Option yb}(r:RelO o u):o.isSome=u.isSome:=by
 cases o with
 |none=>cases u with
  |none=>rfl
  |some _=>exact(show False from r).elim
 |some _=>cases u with
  |none=>exact(show False from r).elim
  |some _=>rfl
theorem KV.val{kvs:List (κ×V)}{vs:List (κ×yb)}(r:KV kvs vs)(k:κ):RelO (valV kvs k) (qU vs k):=by
 unfold KV at r
 induction r with
 |nil=>exact True.intro
 |@cons p q ps qs h t ih=>
  obtain⟨h1,h2⟩:=h;by_cases e:p.1=k
  ·have e':q.1=k:=h1.symm.trans e;have b:qU (q::qs) k=some q.2:=by simp[qU,yan,e']
   rw[zcb e,b];exact h2
  ·have e':¬q.1=k:=λz=>e (h1.trans z)
   have b:qU (q::qs) k=qU qs k:=by simp[qU,yan,e']
   rw[zcc e,b];exact ih
theorem KV.any{kvs:List (κ×V)}{vs:List (κ×yb)}(r:KV kvs vs)(k:κ):(kvs.any λkv=>decide (kv.1=k))=vs.any λkv=>decide (kv.1=k):=by
 unfold KV at r
 induction r with
 |nil=>rfl
 |cons h t ih=>rw[ydy,ydy,ih,h.1]
theorem KV.repl{kvs:List (κ×V)}{vs:List (κ×yb)}(r:KV kvs vs)(k:κ){y:V}{u:yb}(ry:ax y u):
  KV (kvs.map λkv=>if kv.1=k then(kv.1,y) else kv) (vs.map λkv=>if kv.1=k then(kv.1,u) else kv):=by
 unfold KV at r ⊢
 induction r with
 |nil=>exact .nil
 |@cons p q ps qs h t ih=>
  rw[yH,yH];refine .cons ?_ ih;obtain⟨h1,h2⟩:=h;by_cases e:p.1=k
  ·rw[if_pos e,if_pos (h1.symm.trans e)];exact⟨h1,ry⟩
  ·rw[if_neg e,if_neg (λz=>e (h1.trans z))];exact⟨h1,h2⟩
theorem KV.put{kvs:List (κ×V)}{vs:List (κ×yb)}(r:KV kvs vs)(k:κ){y:V}{u:yb}(ry:ax y u):KV (putK kvs k y) (stored vs k u):=by
 unfold putK stored;rw[r.any k];by_cases e:(vs.any λkv=>decide (kv.1=k))=true
 ·rw[if_pos e,if_pos e];exact r.repl k ry
 ·rw[if_neg e,if_neg e];exact Paired.snoc r ⟨rfl,ry⟩
theorem KV.length{kvs:List (κ×V)}{vs:List (κ×yb)}(r:KV kvs vs):kvs.length=vs.length:=Paired.length r
end
theorem kV_is{P:y6}{w:y0}{k:Key}{u:yb}(r:ax (kV k) u):(Wa P w).is k u=true:=by
 cases k with
 |inl i=>obtain⟨t,e⟩:=(show ∃t,u=yb.int i t from r);subst e;exact zhG P w i t
 |inr x=>obtain⟨t,e⟩:=(show ∃t,u=yb.str x t from r);subst e;exact zhF P w x t
theorem zgy{P:y6}{w:y0}:∀{ks:List Key}{us:List yb},Vals (ks.map kV) us->ItemsAre (Wa P w) ks us
 |[],_,r=>by rw[qW]at r;cases r;exact .nil
 |k::ks,_,r=>by
  rw[yH]at r;cases r with
  |cons h t=>exact .cons (kV_is h) (zgy t)
abbrev KT(H:Hp):List (List Key×V)->List (List Key×yc×yb)->Prop:=Paired λp q=>p.1=q.1/\H q.2.1=some (.tup (p.1.map kV))/\ax p.2 q.2.2
theorem KT.val{H:Hp}{kvs:List (List Key×V)}{xs:List (List Key×yc×yb)}(r:KT H kvs xs)(k:List Key):RelO (valV kvs k) ((atKey xs k).map (·.2)):=by
 induction r with
 |nil=>exact True.intro
 |@cons p q ps qs h t ih=>
  obtain⟨h1,_,h2⟩:=h;by_cases e:p.1=k
  ·have e':q.1=k:=h1.symm.trans e;have b:atKey (q::qs) k=some q.2:=by simp[atKey,yan,e']
   rw[zcb e,b];exact h2
  ·have e':¬q.1=k:=λz=>e (h1.trans z)
   have b:atKey (q::qs) k=atKey qs k:=by simp[atKey,yan,e']
   rw[zcc e,b];exact ih
theorem KT.repl{H:Hp}{kvs:List (List Key×V)}{xs:List (List Key×yc×yb)}(r:KT H kvs xs)(k:List Key){y:V}{u:yb}(ry:ax y u):
  KT H (kvs.map λkv=>if kv.1=k then(kv.1,y) else kv) (xs.map (putAt k u)):=by
 induction r with
 |nil=>exact .nil
 |@cons p q ps qs h t ih=>
  rw[yH,yH];refine .cons ?_ ih;obtain⟨h1,h2,h3⟩:=h;unfold putAt;by_cases e:p.1=k
  ·rw[if_pos e,if_pos (h1.symm.trans e)];exact⟨h1,h2,ry⟩
  ·rw[if_neg e,if_neg (λz=>e (h1.trans z))];exact⟨h1,h2,h3⟩
theorem KT.put{H:Hp}{kvs:List (List Key×V)}{xs:List (List Key×yc×yb)}(r:KT H kvs xs)(k:List Key){b:yc}{y:V}{u:yb}(hb:H b=some (.tup (k.map kV)))(ry:ax y u):
  KT H (putK kvs k y) (storedH xs k b u):=by
 have e:(kvs.any λkv=>decide (kv.1=k))=(atKey xs k).isSome:=by
  rw[zeJ,(r.val k).isSome_eq,ydj]
 unfold putK storedH;rw[e];by_cases q:(atKey xs k).isSome=true
 ·rw[if_pos q,if_pos q];exact r.repl k ry
 ·rw[if_neg q,if_neg q];exact Paired.snoc r ⟨rfl,hb,ry⟩
theorem KT.keeps{H H':Hp}{kvs:List (List Key×V)}{xs:List (List Key×yc×yb)}(r:KT H kvs xs)(ht:∀b ys,H b=some (.tup ys)->H' b=some (.tup ys)):KT H' kvs xs:=
 Paired.mapP r λ_ _ z=>⟨z.1,ht _ _ z.2.1,z.2.2⟩
section
variable {P:y6}{w:y0}{H:Hp}{h:yd}{a:yc}
theorem rd_of{u:HO}(ok:HOk P w H h)(e:Rd H a u):W4 P w H h a u:=e.ok ok
theorem dk_rd{kvs:List (Key×V)}(ok:HOk P w H h)(e:Rd H a (.dK kvs)):kvs.length<=y7/\(a == jM)=false/\∃vs,KV kvs vs/\h.DictOf (Wa P w) a vs:=
 show W4 P w H h a (.dK kvs) from rd_of ok e
theorem dk_of{kvs:List (Key×V)}(ok:HOk P w H h)(e:H a=some (.dK kvs)):kvs.length<=y7/\(a == jM)=false/\∃vs,KV kvs vs/\h.DictOf (Wa P w) a vs:=dk_rd ok (.inl e)
theorem zix{ks:List Key}(ok:HOk P w H h)(e:H a=some (.tup (ks.map kV))):(yaj (Wa P w)).is h ks a:=by
 obtain⟨_,its,r,o,h1,h2,n,h3⟩:=(show W4 P w H h a (.tup (ks.map kV)) from ok a _ e);exact⟨o,its.toArray,n,h1,h2,h3,by simpa using zgy r⟩
theorem dt_rd{kvs:List (List Key×V)}(ok:HOk P w H h)(e:Rd H a (.dT kvs)):kvs.length<=y7/\(a == jM)=false /\
  ∃xs,KT H kvs xs/\h.DictOfH (yaj (Wa P w)) a xs:=by
 obtain⟨z,y,xs,r,o,es,ep,h1,h2,h3,h4,h5⟩:=(show W4 P w H h a (.dT kvs) from rd_of ok e);refine⟨z,y,xs,r,o,es,ep,h1,h2,h3,h4,λx hx=>?_,h5⟩
 have all:∀{l:List (List Key×V)}{m:List (List Key×yc×yb)},KT H l m->∀x∈m,(yaj (Wa P w)).is h x.1 x.2.1:=by
  intro l m q
  induction q with
  |nil=>intro x hx;exact nomatch hx
  |@cons p q ps qs hq t ih=>
   intro x hx;rcases yG.mp hx with e|hx
   ·subst e;exact zix ok (by rw[<- hq.1];exact hq.2.1)
   ·exact ih x hx
 exact all r x hx
theorem dt_of{kvs:List (List Key×V)}(ok:HOk P w H h)(e:H a=some (.dT kvs)):kvs.length<=y7/\(a == jM)=false /\
  ∃xs,KT H kvs xs/\h.DictOfH (yaj (Wa P w)) a xs:=dt_rd ok (.inl e)
end
def DGet(H:Hp)(a:yc)(y:V)(r:Option V):Prop:=(∃kvs k,Rd H a (.dK kvs)/\y=kV k/\r=valV kvs k)\/∃kvs k b,Rd H a (.dT kvs)/\y=.ref b/\H b=some (.tup (k.map kV))/\r=valV kvs k
def DPut(H:Hp)(a:yc)(y v:V)(H':Hp):Prop:=(∃kvs k,H a=some (.dK kvs)/\y=kV k/\kvs.length<y7/\H'=upd H a (.dK (putK kvs k v))) \/
 ∃kvs k b,H a=some (.dT kvs)/\y=.ref b/\H b=some (.tup (k.map kV))/\kvs.length<y7/\H'=upd H a (.dT (putK kvs k v))
theorem DGet.t{H:Hp}{a b:yc}{kvs:List (List Key×V)}{k:List Key}(e:H a=some (.dT kvs))(eb:H b=some (.tup (k.map kV))):DGet H a (.ref b) (valV kvs k):=.inr ⟨kvs,k,b,.inl e,rfl,eb,rfl⟩
theorem DPut.t{H:Hp}{a b:yc}{kvs:List (List Key×V)}{k:List Key}{v:V}(e:H a=some (.dT kvs))(eb:H b=some (.tup (k.map kV)))(hl:kvs.length<y7):
  DPut H a (.ref b) v (upd H a (.dT (putK kvs k v))):=.inr ⟨kvs,k,b,e,rfl,eb,hl,rfl⟩
section
variable {X:Cx}{pins:List (yc×Obj)}{σ:St}{H:Hp}{s:ye}{a:yc}{y v:V}{u r:yb}{o:Option V}{A:yD}{E:yb->ye->Prop}
theorem Inv.big(I:Inv X pins σ H s):jM<s.heap.objs.size:=by
 have h:yn<s.heap.objs.size:=(I.mod.glob.keeps I.bk).lt;exact Nat.lt_trans (by decide) h
theorem zl8{Q:yb->ye->Prop}(hu:A.units+1<jv)(I:Inv X pins σ H s)(g:DGet H a y (some v))(ry:ax y u)(h:∀w' s',Inv X pins σ H s'->ax v w'->Q w' s'):
  yi (ym X.prog X.w) A (qx (.ref a) u) Q E s:=by
 rcases g with ⟨kvs,k,e,ey,l⟩|⟨kvs,k,b,e,ey,eb,l⟩
 ·subst ey;obtain⟨z,hd,vs,rel,dd⟩:=dk_rd I.hok e;obtain⟨w',hw,rw'⟩:=RelO.some_of (v:=v) (o:=qU vs k) (by rw[l];exact rel.val k)
  exact wpAny_getItem_of (kV_is ry) dd.mapOf hw (h w' _ (I.tok _) rw')
 ·subst ey;cases(show u=yb.ref b from ry);obtain⟨z,hd,xs,rel,dd⟩:=dt_rd I.hok e;obtain⟨w',hw,rw'⟩:=RelO.some_of (v:=v) (o:=(atKey xs k).map (·.2)) (by rw[l];exact rel.val k)
  obtain⟨p,hp,hp2⟩:=Option.map_eq_some_iff.mp hw;refine wpAny_getItem_heap (ycr hu) (zix I.hok eb) dd hp ?_;rw[hp2];exact h w' _ (I.tok _) rw'
theorem d_notIn{Q:yb->ye->Prop}(hu:A.units+1<jv)(I:Inv X pins σ H s)(g:DGet H a y o)(ry:ax y u)(h:∀s',Inv X pins σ H s'->Q (.bool (!o.isSome)) s'):
  yi (ym X.prog X.w) A (ji .NotIn u (.ref a)) Q E s:=by
 rcases g with ⟨kvs,k,e,ey,l⟩|⟨kvs,k,b,e,ey,eb,l⟩
 ·subst ey;obtain⟨z,hd,vs,rel,dd⟩:=dk_rd I.hok e;refine wpAny_notIn_of (kV_is ry) hd dd.mapOf ?_;rw[<- (rel.val k).isSome_eq,<- l];exact h _ (I.tok _)
 ·subst ey;cases(show u=yb.ref b from ry);obtain⟨z,hd,xs,rel,dd⟩:=dt_rd I.hok e;refine wpAny_notIn_heap (ycr hu) (zix I.hok eb) hd dd ?_;have q:=(rel.val k).isSome_eq;rw[ydj]at q;rw[<- q,<- l];exact h _ (I.tok _)
theorem zlY{h':yd}{t':Nat}{ob:HO}(I:Inv X pins σ H s)(mu:Mut (H a))(hs:qz a s.heap h')(he:∃q,h'.get? a=some q)(new:W4 X.prog X.w (upd H a ob) h' a ob):
  Inv X pins σ (upd H a ob) { s with heap:=h',toks:=t' }:=
 I.write (x:=a) (e:=a) mu (.inl rfl) (λb q hb z=>(hs.2 b hb).trans z) he new
theorem dk_new{P:y6}{w:y0}{H':Hp}{h':yd}{kvs:List (Key×V)}{vs:List (Key×yb)}(z:kvs.length<=y7)(hd:(a == jM)=false)(rel:KV kvs vs)(dd:h'.DictOf (Wa P w) a vs):
  W4 P w H' h' a (.dK kvs):=⟨z,hd,vs,rel,dd⟩
theorem zl1{H':Hp}{Q:Unit->ye->Prop}(hu:A.units+1<jv)(I:Inv X pins σ H s)(g:DPut H a y v H')(ry:ax y u)(rv:ax v r)(h:∀s',Inv X pins σ H' s'->Q () s'):
  yi (ym X.prog X.w) A (setItem (.ref a) u r) Q E s:=by
 rcases g with ⟨kvs,k,e,ey,l,eH⟩|⟨kvs,k,b,e,ey,eb,l,eH⟩
 ·subst ey eH;obtain⟨z,hd,vs,rel,dd⟩:=dk_of I.hok e;have hz:vs.length<=y7:=by rw[<- rel.length];exact z
  have hl:(putK kvs k v).length<=y7:=by have:=zcK kvs k v;omega
  refine wpAny_setItem_pairs (hsz:=hz) (kV_is ry) dd λh' dd' hs=>h _ ?_
  have he:∃q,h'.get? a=some q:=let⟨q,_,_,hq,_⟩:=dd';⟨q,hq⟩
  exact zlY I (by rw[e];exact True.intro) hs he (dk_new hl hd (rel.put k rv) dd')
 ·subst ey eH;cases(show u=yb.ref b from ry);obtain⟨z,hd,xs,rel,dd⟩:=dt_of I.hok e;have hz:xs.length<=y7:=by rw[<- Paired.length rel];exact z
  have hl:(putK kvs k v).length<=y7:=by have:=zcK kvs k v;omega
  refine wpAny_setItem_heap (hsz:=hz) (ycr hu) (zix I.hok eb) dd λh' dd' hs=>h _ ?_
  obtain⟨q,es,ep,hq,h2,h3,h4,_,h5⟩:=dd';refine zlY I (by rw[e];exact True.intro) hs ⟨q,hq⟩ ⟨hl,hd,_,(rel.put k eb rv).keeps λc ys ec=>?_,q,es,ep,hq,h2,h3,h4,h5⟩
  rw[Zu (ne_of ec e (λz=>nomatch z))]
  exact ec
end
def NoSl(i:yj):Prop:=∀ov iv,yb1 i false ov iv=operate [ov,iv] (qx ov iv)
theorem subD_of{prog:y6}{w:y0}{A:yD}{E:yb->ye->Prop}{s:ye}{env:Env}{value slice:yj}{pos:Pos}{T id:String}{Q:yb->ye->Prop}
  (hl:typeLookup (.type T) "__getitem__"=pure (some (.builtin id))) (hs:NoSl slice)
  (h:yi (ym prog w) A (yz value env) (λo s₁=>yi (ym prog w) A (yz slice env) (λi s₂=>s₂.TypeIs o T/\yi (ym prog w) A (qx o i) Q E s₂) E s₁) E s):
  yi (ym prog w) A (yz (.Subscript value slice pos) env) Q E s:=by
 refine Subscript_ (yI h (λo s₁ h₁=>yI h₁ (λi s₂ h₂=>?_) λ_ _ x=>x) λ_ _ x=>x)
 obtain⟨hT,h₂⟩:=h₂;unfold subscriptTail;refine yf ?_;rw[getitemInPython_of_ne hT.not_modules];refine yf (wpAny_specialOf hT hl ?_);have fin:yi (ym prog w) A (yb1 slice false o i) (λr s₃=>yi (ym prog w) A (letTemporaryGo value o r >>= λ_=>pure r) Q E s₃) E s₂:=by
  rw[hs o i];exact wpAny_operating (yI h₂ (λr s₃ h₃=>yf (wpAny_letTemporaryGo (yx h₃))) λ_ _ x=>x)
 first
  |exact yx (yf fin)
  |exact yf (yx (yf fin))
  |exact yf fin
theorem zhN{X:Cx}{pins:List (yc×Obj)}{σ:St}{H:Hp}{s:ye}{a:yc}{y:V}{o:Option V}(I:Inv X pins σ H s)(g:DGet H a y o):s.TypeIs (.ref a) "dict":=by
 rcases g with ⟨kvs,k,e,_,_⟩|⟨kvs,k,b,e,_,_,_⟩
 ·obtain⟨_,_,vs,_,dd⟩:=dk_rd I.hok e;exact dd.typeIs
 ·obtain⟨_,_,xs,_,dd⟩:=dt_rd I.hok e;exact dd.typeIs
def tDGet(td ty:TE):TE:=λσ H Q=>td σ H λx H1=>ty σ H1 λy H2=>∃a v,x=.ref a/\DGet H2 a y (some v)/\Q v H2
def tDNotIn(ty td:TE):TE:=λσ H Q=>ty σ H λy H1=>td σ H1 λx H2=>∃a o,x=.ref a/\DGet H2 a y o/\Q (.bl (!o.isSome)) H2
def sDPut(td ty tv:TE):TS:=λD σ H=>tv σ H λv H1=>td σ H1 λx H2=>ty σ H2 λy H3=>∃a H4,x=.ref a/\DPut H3 a y v H4/\D.nx σ H4
section
variable {X:Cx}{o i e value:yj}{pos pos' tpos:Pos}{td ty tv:TE}
theorem zk1(hu:X.A.units+1<jv)(ho:PE X o td)(hi:PE X i ty)(hs:NoSl i):PE X (.Subscript o i pos) (tDGet td ty):=by
 intro pins s σ H Q I h;refine subD_of PySem.F.slot_dict_getitem.lookup hs (thn (ho pins s σ H _ I h) λu s1 ⟨x,H1,I1,rx,q1⟩=>thn (hi pins s1 σ H1 _ I1 q1) λiv s2 ⟨y,H2,I2,ry,a,v,ex,g,q2⟩=>?_)
 subst ex;obtain rfl:u=yb.ref a:=rx;exact⟨zhN I2 g,zl8 hu I2 g ry λw' s3 I3 rw'=>⟨v,H2,I3,rw',q2⟩⟩
theorem zk3(hu:X.A.units+1<jv)(hi:PE X i ty)(ho:PE X o td):PC X .NotIn i o (tDNotIn ty td):=by
 intro pins s σ H Q I h;refine thn (hi pins s σ H _ I h) λiv s1 ⟨y,H1,I1,ry,q1⟩=>thn (ho pins s1 σ H1 _ I1 q1) λu s2 ⟨x,H2,I2,rx,a,ov,ex,g,q2⟩=>?_
 subst ex;obtain rfl:u=yb.ref a:=rx;exact d_notIn hu I2 g ry λs3 I3=>⟨.bl (!ov.isSome),H2,I3,rfl,q2⟩
theorem ps_dput(hu:X.A.units+1<jv)(ho:PE X o td)(hi:PE X i ty)(hv:PE X value tv)(hs:jz value (some (.Subscript o i pos')) pos.line X.env=pure false):
  PS X (.Assign [.Subscript o i pos'] value pos) (sDPut td ty tv):=by
 intro pins s σ H D I h;refine wpAny_Assign_Subscript (thn (hv pins s σ H _ I h) λr s1 ⟨v,H1,I1,rv,q1⟩=>thn (ho pins s1 σ H1 _ I1 q1) λu s2 ⟨x,H2,I2,rx,q2⟩=>thn (hi pins s2 σ H2 _ I2 q2) λiv s3 ⟨y,H3,I3,ry,a,H4,ex,g,q3⟩=>?_) hs
 subst ex;obtain rfl:u=yb.ref a:=rx;exact zl1 hu I3 g ry rv λs4 I4=>⟨σ,H4,I4,q3⟩
end
theorem dt_empty{P:y6}{w:y0}{H:Hp}(h:yd)(hb:jM<h.objs.size):W4 P w H (h.push { cls:=.type "dict",data:=.dict #[] }) h.objs.size (.dT []):=
 ⟨qi _,beq_eq_false_iff_ne.mpr (Ne.symm (yU hb)),[],.nil,_,#[],0,yO _ rfl,⟨rfl,rfl,rfl⟩,rfl,rfl,List.nodup_nil⟩
def tDNewT:TE:=λ_ H Q=>∀p,H p=none->Q (.ref p) (upd H p (.dT []))
section
variable {X:Cx}{pos:Pos}
theorem pe_dnewT:PE X (.Dict [] [] pos) tDNewT:=λpins s σ H Q I h=>
 wpAny_Dict_empty ⟨.ref s.heap.objs.size,_,I.laid (a:=s.heap.objs.size) (o:=.dT []) (t':=s.toks) (λ_ _ q=>yA _ q) (yu _) (dt_empty s.heap I.big),rfl,h _ (I.hok.fresh (yu _))⟩
end
end L2
namespace Fx
open PySem PySem.Spec PyProof.Rows L2
abbrev Vx(ns:List Int):List Key:=ns.map Sum.inl
theorem zgx{a b:List Int}(h:Vx a=Vx b):a=b:=by
 induction a generalizing b with
 |nil=>cases b with
  |nil=>rfl
  |cons y b=>cases h
 |cons x a ih=>cases b with
  |nil=>cases h
  |cons y b=>
   simp only[Vx,yH,List.cons.injEq]at h;rw[Sum.inl.inj h.1,ih h.2]
theorem ziz(ns:List Int):(Vx ns).map kV=ns.map V.int:=by
 induction ns with
 |nil=>rfl
 |cons n ns ih=>simp only[Vx,yH]at ih ⊢;rw[ih];rfl
section
variable {K:yh}{H:Hp}{P:Pv}
theorem zcx(ns:List Int):∀{es:List (ya×ya)}{kvs:List (List Key×V)},Rlk K H P es kvs->(zag ns es=none/\valV kvs (Vx ns)=none)\/∃t v,zag ns es=some t/\valV kvs (Vx ns)=some v/\Rl K H P t v
 |[],kvs,r=>by rw[zac.mp r];exact .inl ⟨rfl,rfl⟩
 |(k,t)::es,kvs,r=>by
  obtain⟨ms,v,r',rfl,rfl,rv,rr⟩:=VU.mp r;by_cases e:ms=ns
  ·subst e;exact .inr ⟨t,v,by simp[zag],zcb (p:=(_,v)) rfl,rv⟩
  ·have e2:¬(Vx ms=Vx ns):=λz=>e (zgx z)
   have e3:zag ns ((.tuple (ms.map .int),t)::es)=zag ns es:=by simp[zag,e]
   rw[e3,zcc (p:=(Vx ms,v)) e2];exact zcx ns rr
theorem zhp:∀{es:List (ya×ya)}{kvs:List (List Key×V)},Rlk K H P es kvs->es.length=kvs.length
 |[],kvs,r=>by rw[zac.mp r];rfl
 |(k,t)::es,kvs,r=>by
  obtain⟨ms,v,r',rfl,rfl,rv,rr⟩:=VU.mp r;simp only[ju,zhp rr]
theorem zho(ns:List Int){t:ya}{v:V}(rv:Rl K H P t v):∀{es:List (ya×ya)}{kvs:List (List Key×V)},Rlk K H P es kvs->Rlk K H P (es.map λe=>if Qc e.1=some ns then(e.1,t) else e) (kvs.map λkv=>if kv.1=Vx ns then(kv.1,v) else kv)
 |[],kvs,r=>by rw[zac.mp r];exact zac.mpr rfl
 |(k,t')::es,kvs,r=>by
  obtain⟨ms,v',r',rfl,rfl,rv',rr⟩:=VU.mp r;rw[yH,yH];by_cases e:ms=ns
  ·subst e;rw[if_pos (Qb ms),if_pos rfl];exact VU.mpr ⟨ms,v,_,rfl,rfl,rv,zho ms rv rr⟩
  ·rw[if_neg (λz=>e (by rw[Qb]at z;exact jr.inj z)),if_neg (λz=>e (zgx z))]
   exact VU.mpr ⟨ms,v',_,rfl,rfl,rv',zho ns rv rr⟩
theorem zig(ns:List Int){t:ya}{v:V}(rv:Rl K H P t v):∀{es:List (ya×ya)}{kvs:List (List Key×V)},Rlk K H P es kvs->Rlk K H P (es++[(.tuple (ns.map .int),t)]) (kvs++[(Vx ns,v)])
 |[],kvs,r=>by rw[zac.mp r];exact VU.mpr ⟨ns,v,[],rfl,rfl,rv,zac.mpr rfl⟩
 |(k,t')::es,kvs,r=>by
  obtain⟨ms,v',r',rfl,rfl,rv',rr⟩:=VU.mp r;exact VU.mpr ⟨ms,v',_,rfl,rfl,rv',zig ns rv rr⟩
theorem rlk_put(ns:List Int){t:ya}{v:V}{es:List (ya×ya)}{kvs:List (List Key×V)}(r:Rlk K H P es kvs)(rv:Rl K H P t v):Rlk K H P (zkR ns t es) (putK kvs (Vx ns) v):=by
 unfold zkR putK;rw[zeJ];rcases zcx ns r with ⟨e1,e2⟩|⟨t',v',e1,e2,_⟩
 ·rw[e1,e2,if_neg (by decide),if_neg (by decide)]
  exact zig ns rv r
 ·rw[e1,e2,if_pos ydd,if_pos ydd];exact zho ns rv r
theorem ziy{y:ya}{ns:List Int}{u:V}(e:Qc y=some ns)(r:Rl K H P y u):∃b,u=.ref b/\H b=some (.tup ((Vx ns).map kV)):=by
 rw[keyIs_ok e]at r;obtain⟨b,vs,rfl,s,rs⟩:=Yb.mp r;refine⟨b,rfl,?_⟩;have:vs=ns.map V.int:=by
  clear s e r
  induction ns generalizing vs with
  |nil=>exact Yy.mp rs
  |cons n ns ih=>
   obtain⟨v,r',rfl,a,c⟩:=ZY.mp rs;rw[ih r' c,Ym.mp a];rfl
 rw[ziz,<- this];exact s.1
end
section
variable {K:yh}{H H':Hp}{P P':Pv}{σ:L2.St}{G:List Sl}
theorem Hol.setDct(h:Hol K H P σ G){i:Nat}(hi:i<G.length){p:yc}(hp:H p=none):Hol K (upd H p (.dT [])) (P.put i p) (σ.set i (some (.ref p))) (G.set i (.dct []))/\Go H P (upd H p (.dT [])) (P.put i p):=by
 have g0:Go H P (upd H p (.dT [])) (P.put i p):=(Go.put hp).trans (.same (ZJ hp));have gg:=g0.tr;refine⟨⟨λj s q=>?_,λa b c h1 h2=>?_,λj a z=>?_,λa z=>?_,λj a z=>?_,?_,(ZJ hp).tab K h.tab⟩,g0⟩
 ·by_cases e:j=i
  ·subst e;rw[j3 hi]at q;cases q;exact⟨p,[],Qw (by rw[h.len];exact hi),if_pos rfl,Zw,zac.mpr rfl⟩
  ·rw[jo (Ne.symm e)]at q;have z:=h.sl j s q;rw[zaf e];cases s with
   |emp=>trivial
   |val t'=>obtain⟨v',e1,r'⟩:=z;exact⟨v',e1,Rl.go gg t' v' r'⟩
   |own xs'=>obtain⟨p',vs',e1,e2,e3,r'⟩:=z;exact⟨p',vs',e1,(by show(if j=i then some p else P.own j)=_;rw[if_neg e];exact e2),(ZJ hp).kp _ _ e3 zaG,Rls.go gg xs' vs' r'⟩
   |dct xs'=>obtain⟨p',vs',e1,e2,e3,r'⟩:=z;exact⟨p',vs',e1,(by show(if j=i then some p else P.own j)=_;rw[if_neg e];exact e2),(ZJ hp).kp _ _ e3 nt_dT,Rlk.go gg xs' vs' r'⟩
 ·have h1':(if a=i then some p else P.own a)=some c:=h1
  have h2':(if b=i then some p else P.own b)=some c:=h2
  split at h1'
  ·split at h2'
   ·rename_i z1 z2;rw[z1,z2]
   ·cases h1';obtain⟨ws,q,_⟩:=h.dom h2';rw[hp]at q;cases q
  ·split at h2'
   ·cases h2';obtain⟨ws,q,_⟩:=h.dom h1';rw[hp]at q;cases q
   ·exact h.inj a b c h1' h2'
 ·have z':(if j=i then some p else P.own j)=some a:=z
  split at z'
  ·rename_i e;subst e;exact⟨_,j3 hi,trivial⟩
  ·rename_i ne;obtain⟨xs,q,m⟩:=h.only j a z';exact⟨xs,by rw[jo (Ne.symm ne)];exact q,m⟩
 ·obtain⟨o,q,m⟩:=h.fbd a z;exact⟨o,(ZJ hp).kp _ _ q m.nt,m⟩
 ·have z':(if j=i then some p else P.own j)=some a:=z
  split at z'
  ·cases z';exact h.nofb hp
  ·exact h.nfb j a z'
 ·rw[jV,jV];exact h.len
theorem go_up{i:Nat}{p:yc}{o:HO}(h:Hol K H P σ G)(hp:P.own i=some p):Go H P (upd H p o) P:=by
 have hpl:=h.dom hp;exact⟨λa o e _ q=>⟨by rw[Zu (λz=>q i (by rw[z];exact hp))];exact e,q⟩,rfl,λ{b} w=>by
  by_cases z:b=p
  ·rw[z,Zw]at w;cases w
  ·rw[Zu z]at w;exact w,λK t=>Qm.mono t λb o e nl=>by
  rw[Zu (λz=>by obtain⟨us,w,m⟩:=hpl;rw[z,w]at e;cases e;exact nl m)];exact e,λb ps e=>⟨ps,by rw[Zu (λz=>by obtain⟨us,w,m⟩:=hpl;rw[z,w]at e;cases e;rcases m with ⟨_,m⟩|⟨_,m⟩<;>cases m)];exact e⟩⟩
theorem Hol.upDct(h:Hol K H P σ G){i:Nat}{ys es:List (ya×ya)}{kvs:List (List Key×V)}{p:yc}(hi:G[i]? = some (.dct ys))(hp:P.own i=some p)(r:Rlk K H P es kvs):Hol K (upd H p (.dT kvs)) P σ (G.set i (.dct es)):=by
 have g0:Go H P (upd H p (.dT kvs)) P:=go_up h hp;have gg:=g0.tr;have hl:i<G.length:=(yV.mp hi).1;refine⟨λj s q=>?_,h.inj,λj a z=>?_,λa z=>?_,h.nfb,by rw[jV];exact h.len,g0.tab K h.tab⟩
 ·by_cases e:j=i
  ·subst e;rw[j3 hl]at q;cases q;obtain⟨p',vs',e1,e2,_,_⟩:=h.sl j _ hi;rw[hp]at e2;cases e2;exact⟨p,kvs,e1,hp,Zw,Rlk.go gg es kvs r⟩
  ·rw[jo (Ne.symm e)]at q;have z:=h.sl j s q;cases s with
   |emp=>trivial
   |val t'=>obtain⟨v',e1,r'⟩:=z;exact⟨v',e1,Rl.go gg t' v' r'⟩
   |own xs'=>
    obtain⟨p',vs',e1,e2,e3,r'⟩:=z;exact⟨p',vs',e1,e2,by rw[Zu (λz=>e (h.inj j i p' e2 (by rw[z];exact hp)))];exact e3,Rls.go gg xs' vs' r'⟩
   |dct xs'=>
    obtain⟨p',vs',e1,e2,e3,r'⟩:=z;exact⟨p',vs',e1,e2,by rw[Zu (λz=>e (h.inj j i p' e2 (by rw[z];exact hp)))];exact e3,Rlk.go gg xs' vs' r'⟩
 ·by_cases e:j=i
  ·subst e;exact⟨_,j3 hl,trivial⟩
  ·obtain⟨xs',q,m⟩:=h.only j a z;exact⟨xs',by rw[jo (Ne.symm e)];exact q,m⟩
 ·rw[Zu (λe=>h.nfb i p hp (by rw[<- e];exact z))]
  exact h.fbd a z
end
theorem Inv.freeze{X:Cx}{pins:List (yc×Obj)}{σ:L2.St}{H:Hp}{s:ye}{p:yc}{kvs:List (List Key×V)}(I:Inv X pins σ H s)(e:H p=some (.dT kvs)):∃ob,Inv X pins σ (upd H p (.frz ob (.dT kvs))) s:=by
 have ho:=I.hok p _ e;obtain⟨_,_,xs,_,ob,es,ep,h1,_⟩:=id ho;have ne:∀b,H b=none->b≠p:=λb n z=>by rw[z,e]at n;cases n
 have st:∀b (u:HO),W4 X.prog X.w H s.heap b u->W4 X.prog X.w (upd H p (.frz ob (.dT kvs))) s.heap b u:=λb u x=>x.stay (λ_ _ _ q=>q) (λc q=>by rw[Zu (λz=>by rw[z,e]at q;cases q)];exact q) (λc ys q=>by rw[Zu (λz=>by rw[z,e]at q;cases q)];exact q)
 refine⟨ob,I.ok,I.os,I.bare,⟨I.base.keep,I.base.slot,λb u q n hx=>?_,I.base.there,λb ys q=>?_,λb o u q=>?_,λb ps q=>?_⟩,I.loc,I.cell,?_,λx c q=>?_,λq hq=>?_,λb u q=>?_,I.len⟩
 ·have w:=I.base.free b u q n hx;rw[Zu (ne b w)];exact w
 ·have w:=I.base.tups b ys q;rw[Zu (λz=>by rw[z,e]at w;cases w)];exact w
 ·have w:=I.base.frzs b o u q;rw[Zu (λz=>by rw[z,e]at w;cases w)];exact w
 ·obtain⟨m,w⟩:=I.base.tbls b ps q;exact⟨m,by rw[Zu (λz=>by rw[z,e]at w;cases w)];exact w⟩
 ·rw[Zu (ne _ I.free)];exact I.free
 ·rw[Zu (ne _ (I.freeC x c q))];exact I.freeC x c q
 ·obtain⟨a1,a2,a3⟩:=I.pin q hq;exact⟨a1,by rw[Zu (ne _ a2)];exact a2,a3⟩
 ·by_cases z:b=p
  ·subst z;rw[Zw]at q;cases q;exact⟨h1,st _ _ ho⟩
  ·rw[Zu z]at q;exact st _ _ (I.hok b u q)
def tFrz(t:TE):TE:=λσ H Q=>t σ H λv H1=>∃p kvs,v=.ref p/\H1 p=some (.dT kvs)/\∀ob,Q v (upd H1 p (.frz ob (.dT kvs)))
theorem pe_frz{X:Cx}{e:yj}{t:TE}(h:PE X e t):PE X e (tFrz t):=λpins s σ H Q I q=>
 yI (h pins s σ H _ I q) (λu s1 ⟨v,H1,I1,rv,p,kvs,ev,ep,q1⟩=>let⟨ob,I2⟩:=Fx.Inv.freeze I1 ep;⟨v,_,I2,rv,q1 ob⟩) λ_ _ z=>z
section
variable {X:Cx}{W:Str->Hp->Prop}{fl:Bool}{a b c e k:yj}{da db dk:DE}{pos p:Pos}{i:Nat}{x:Str}
theorem ss_newD{pos':Pos}(hN:X.N.Nodup)(hi:X.N[i]? = some x)(hx:Loc X.env.scope x)(hs:jz (.Dict [] [] p) (some (.Name x pos')) pos.line X.env=pure false:=by rfl)
  (hf:X.fn x=true\/X.env.scope.names.lookup x=some .local:=by first|exact .inl rfl|exact .inr rfl|assumption):SV X W fl (.Assign [.Name x pos'] (.Dict [] [] p) pos) (dNewD i):=
 X9 (zkU hN hi hx pe_dnewT hs hf) λD σ H ⟨G,P,h,q⟩=>by
  unfold dNewD at q;split at q
  ·rename_i hl;intro p hp;obtain⟨h1,g1⟩:=h.setDct hl hp;exact q _ _ _ g1 h1
  ·exact q.elim
theorem zkc(hu:X.A.units+1<jv)(hk:EV X W k dk)(hi:X.N[i]? = some x)(hv:Vis X.env.scope x:=by first|exact yg rfl|exact yC (yg rfl)|exact yC (yC rfl))(hd:(x == ("__debug__" : Str))=false:=by decide)
  (hcd:(x == ("__classdict__" : Str))=false:=by decide) (hm:jU .NotIn (.Name x p)=false:=by rfl):TV X W (.Compare k [.NotIn] [.Name x p] pos) (tV (zdr i dk)):=
 ze5 (zkS (zk3 hu hk (QS hi hv hd hcd)) hm) λσ H Q ⟨G,P,h,q⟩=>by
  refine⟨G,P,h,?_⟩;unfold Fx.tV zdr at q;cases ek:dk G with
  |stuck=>rw[ek]at q;exact q
  |exc c=>rw[ek]at q;exact q
  |ok y=>
   rw[ek]at q;simp only[Res.bind_ok]at q;intro u H1 s1 ru;split at q
   ·rename_i es ns eg ey;have h1:=h.same s1;obtain⟨pp,kvs,ev,ep,eh,rk⟩:=h1.sl i _ eg;obtain⟨b,rfl,hb⟩:=ziy ey ru;refine⟨.ref pp,getD_some ev,pp,_,rfl,DGet.t eh hb,_,rfl,?_⟩;have ee:(valV kvs (Vx ns)).isSome=(zag ns es).isSome:=by
     rcases zcx ns rk with ⟨e1,e2⟩|⟨_,_,e1,e2,_⟩<;>rw[e1,e2]<;>rfl
    rw[ee];exact q H1 s1
   ·exact q.elim
theorem ev_getN(hu:X.A.units+1<jv)(hi:X.N[i]? = some x)(hk:EV X W k dk)(hs:NoSl k)(hv:Vis X.env.scope x:=by first|exact yg rfl|exact yC (yg rfl)|exact yC (yC rfl))(hd:(x == ("__debug__" : Str))=false:=by decide)
  (hcd:(x == ("__classdict__" : Str))=false:=by decide):EV X W (.Subscript (.Name x p) k pos) (zme i dk):=
 Z7 (zk1 hu (QS hi hv hd hcd) hk hs) λσ H Q ⟨G,P,h,q⟩=>by
  unfold zme at q;split at q
  ·rename_i es eg;obtain⟨pp,kvs,ev,ep,eh,rk⟩:=h.sl i _ eg;refine⟨.ref pp,getD_some ev,G,P,h,?_⟩;cases ek:dk G with
   |stuck=>rw[ek]at q;exact q
   |exc c=>rw[ek]at q;exact q
   |ok y=>
    rw[ek,Res.bind_ok]at q;intro u H1 s1 ru;split at q
    ·rename_i ns ey;have h1:=h.same s1;obtain⟨pp',kvs',ev',ep',eh',rk'⟩:=h1.sl i _ eg;rw[ev]at ev';cases ev';obtain⟨b,rfl,hb⟩:=ziy ey ru;rcases zcx ns rk' with ⟨e1,e2⟩|⟨t,v,e1,e2,rv⟩
     ·rw[e1]at q;exact q.elim
     ·rw[e1]at q;exact⟨pp,v,rfl,by rw[<- e2];exact DGet.t eh' hb,q v H1 s1 rv⟩
    ·exact q.elim
  ·exact q.elim
theorem ss_putN{pos':Pos}(hu:X.A.units+1<jv)(hi:X.N[i]? = some x)(hk:EV X W k dk)(he:EV X W e da)(hv:Vis X.env.scope x:=by first|exact yg rfl|exact yC (yg rfl)|exact yC (yC rfl))(hd:(x == ("__debug__" : Str))=false:=by decide)
  (hcd:(x == ("__classdict__" : Str))=false:=by decide) (hs:jz e (some (.Subscript (.Name x p) k pos')) pos.line X.env=pure false:=by rfl):SV X W fl (.Assign [.Subscript (.Name x p) k pos'] e pos) (zmd i dk da):=
 X9 (ps_dput hu (QS hi hv hd hcd) hk he hs) λD σ H ⟨G,P,h,q⟩=>by
  unfold zmd at q;obtain⟨q1,q2,q3⟩:=zb6 q;refine Z1 h (λc e H' s=>q1 c e H' P (.same s)) q2 λt v H1 et s1 h1 rt=>?_
  have q4:=q3 t et;split at q4
  ·rename_i hdc;obtain⟨es,eg⟩:∃es,G[i]? = some (.dct es):=by
    unfold isDct at hdc;split at hdc
    ·rename_i es eg;exact⟨es,eg⟩
    ·cases hdc
   obtain⟨pp,kvs,ev,ep,eh,rk⟩:=h1.sl i _ eg;refine⟨.ref pp,getD_some ev,?_⟩;obtain⟨q5,q6,q7⟩:=zb6 q4;refine Z1 h1 (λc e H' s=>q5 c e H' P ((Go.same s1).trans (.same s))) q6 λy u H2 ey s2 h2 ru=>?_
   have q8:=q7 y ey;unfold zkQ at q8;rw[eg]at q8;cases en:Qc y with
   |none=>rw[en]at q8;exact q8.elim
   |some ns=>
    rw[en]at q8;simp only at q8;split at q8
    ·rename_i hl;obtain⟨pp',kvs',ev',ep',eh',rk'⟩:=h2.sl i _ eg;rw[ev]at ev';cases ev';obtain⟨b,rfl,hb⟩:=ziy en ru;have hlen:=zhp rk';refine⟨pp,_,rfl,DPut.t eh' hb (by rw[j6];omega),?_⟩
     exact q8 _ _ P (((Go.same s1).trans (.same s2)).trans (go_up h2 ep')) (h2.upDct eg ep' (rlk_put ns rk' (Rl.go (.same s2) t v rt)))
    ·exact q8.elim
  ·exact q4.elim
theorem ss_ifG{y z:List yk}{dc:DT}{dx dy:DS}(hc:TV X W c dc)(hx:SVs X W fl y dx)(hy:SVs X W fl z dy):SV X W fl (.If c y z pos) (dIfG dc dx dy):=
 X9 (ps_if hc hx hy) λD σ H ⟨G,P,h,q⟩=>by
  unfold dIfG at q;obtain⟨q1,q2,q3⟩:=zmm q;refine Qo h (λc e H' s=>q1 c e H' P (.same s)) q2 λk H1 ek s1 _=>?_
  have q4:=q3 k ek;cases k with
  |true=>exact iteT ⟨G,P,h.same s1,VZ.up q4 (.same s1)⟩
  |false=>exact iteF ⟨G,P,h.same s1,VZ.up q4 (.same s1)⟩
theorem ss_retD(hi:X.N[i]? = some x)(hv:Vis X.env.scope x:=by first|exact yg rfl|exact yC (yg rfl)|exact yC (yC rfl))(hd:(x == ("__debug__" : Str))=false:=by decide)
  (hcd:(x == ("__classdict__" : Str))=false:=by decide):SV X W false (.Return (some (.Name x p)) pos) (dRetD i):=
 X9 (zkV (pe_frz (QS hi hv hd hcd))) λD σ H ⟨G,P,h,q⟩=>by
  unfold dRetD at q;split at q
  ·rename_i es eg;obtain⟨pp,kvs,ev,ep,eh,rk⟩:=h.sl i _ eg;refine⟨.ref pp,getD_some ev,pp,kvs,rfl,eh,λob=>?_⟩
   have g1:Go H P (upd H pp (.frz ob (.dT kvs))) P:=go_up h ep;have g2:Go H P (upd H pp (.frz ob (.dT kvs))) (P.del i):=g1.trans .del;have off:Off (P.del i) pp:=⟨λj z=>by
    have z':(if j=i then none else P.own j)=some pp:=z
    split at z'
    ·cases z'
    ·rename_i ne;exact ne (h.inj j i pp z' ep),h.nfb i pp ep⟩
   exact q (.ref pp) _ (P.del i) g2 (ze3.mpr ⟨pp,ob,kvs,rfl,Zw,off,Rlk.go g2.tr es kvs rk⟩) λz=>by cases z
  ·exact q.elim
theorem ev_getD(hu:X.A.units+1<jv)(ha:EV X W a da)(hk:EV X W k dk)(hs:NoSl k):EV X W (.Subscript a k pos) (d2 fGetD da dk):=
 Z7 (zk1 hu ha hk hs) λσ H Q ⟨G,P,h,q⟩=>by
  unfold d2 at q;obtain⟨q1,q2,q3⟩:=QG q;refine Z1 h q1 q2 λtx v H1 ex s1 h1 rx=>?_
  obtain⟨q4,q5,q6⟩:=QG (q3 tx ex);refine Z1 h1 (λc e H' s=>q4 c e H' (s1.trans s)) q5 λty u H2 ey s2 h2 ru=>?_
  have q7:=q6 ty ey;unfold fGetD at q7;split at q7
  ·rename_i es;split at q7
   ·rename_i ns en;obtain⟨pp,ob,kvs,rfl,eh,off,rk⟩:=ze3.mp (Rl.go (.same s2) _ _ rx);obtain⟨b,rfl,hb⟩:=ziy en ru;rcases zcx ns rk with ⟨e1,e2⟩|⟨t,w,e1,e2,rw'⟩
    ·rw[e1]at q7;exact q7.elim
    ·rw[e1]at q7;exact⟨pp,w,rfl,.inr ⟨kvs,Vx ns,b,.inr ⟨ob,eh⟩,rfl,hb,e2.symm⟩,q7 w H2 (s1.trans s2) rw'⟩
   ·exact q7.elim
  ·exact q7.elim
theorem ev_join(ha:EV X W e da)(hb:EV X W e db):EV X W e (dJ da db):=λpins s σ H Q I ⟨G,P,h,q⟩=>by
 unfold dJ at q;cases ed:da G with
 |stuck=>rw[ed]at q;exact hb pins s σ H Q I ⟨G,P,h,q⟩
 |exc c=>rw[ed]at q;exact ha pins s σ H Q I ⟨G,P,h,by rw[ed];exact q⟩
 |ok t=>rw[ed]at q;exact ha pins s σ H Q I ⟨G,P,h,by rw[ed];exact q⟩
end
section
variable {prog:y6}{w:y0}{A:yD}{E:yb->ye->Prop}{s:ye}{d it:yc}{od:Obj}{es:Array qP}{ep i:Nat}
theorem dit_new{Q:yb->ye->Prop}(hd:(d == jM)=false)(ho:s.heap.get? d=some od)(hc:od.ExactDict)(hes:od.data=.dict es ep)
  (q:Q (.ref s.heap.objs.size) { s with heap:=s.heap.push { cls:=.type "dict_keyiterator",data:=.fields #[.ref d,.int 0 0,.int es.size 0,.int ep 0] } }):yi (ym prog w) A (pyIter (.ref d)) Q E s:=by
 have ty:s.TypeIs (.ref d) "dict":=⟨od,ho,hc.1⟩;refine wpAny_pyIter_slot ty yed (qk yed ty PySem.F.entry_dict_iter ?_ (PySem.F.args_dict_iter_1 _));unfold yB.«dict.__iter__»;refine yf ?_;unfold yB.Dict.dictSlotNone;refine yf (wpAny_notOrdered_dict ty ?_);show yi _ _ (pure (yb.ref d)) _ _ s;refine yx ?_;show yi _ _ (yB.Dict.showsAll d >>= _) _ _ s;unfold yB.Dict.showsAll;rw[if_neg (by rw[hd];decide)];refine yf (yx ?_)
 refine yf (yct ho hes ?_);refine yf (yc3 ho hes ?_);refine yf (jT (yx ⟨_,rfl,"dict_keyiterator",_,⟨_,yO _ rfl,rfl⟩,yaw.lookup,?_⟩));simpa[yW] using q
theorem dit_item{e:qP}{Q:Option yb->ye->Prop}(hi:s.heap.IsKeyIter it d i es.size ep)(hd:s.heap.get? d=some od)(hes:od.data=.dict es ep)(he:es[i]? = some e)
  (q:∀h',h'.IsKeyIter it d (i+1) es.size ep->qz it s.heap h'->Q (some e.key) { s with heap:=h' }):yi (ym prog w) A (j2 (.ref it)) Q E s:=by
 obtain⟨oi,h1,h2,h3⟩:=id hi;have lt:i<es.size:=(ybj.mp he).1;have eq:es[i]=e:=(ybj.mp he).2;unfold j2;refine yf (ybt (qE (name:=Str.ofString "__next__") hi.typeIs yaw (qk yaw hi.typeIs yd2 ?_ (yd1 _))));refine yf (yx ?_);refine yf ?_;refine yf ?_
 first|refine yf (ybg hi.typeIs (yx ?_))|refine yf (ybh hi.typeIs (yx ?_))
 refine yf (wpAny_fieldsOf h1 h3 ?_);have own:yB.Dict_items.ownsTuple "dict_keyiterator"=false:=by decide
 simp only[own,ybx,if_false];show yi _ _ (if(yb.ref d == yb.none)=true then _ else _) _ _ s;rw[if_neg (show ¬((yb.ref d == yb.none)=true) from jy)]
 refine yf (yx ?_);refine yf (yct hd hes ?_);rw[if_neg (by simp)]
 refine yf (yx ?_);refine yf (yc3 hd hes ?_);rw[if_neg (by simp)]
 refine yx ?_;simp only[show ¬((i:Int)<0) from by omega,if_false,ya3,Array.getElem?_eq_getElem lt,eq]
 refine yf ?_
 first|refine yf (ybg hi.typeIs (yx ?_))|refine yf (ybh hi.typeIs (yx ?_))
 refine yf (wpAny_isOneOf_keyiter hi.typeIs ?_);show yi _ _ (setField (.ref it) 1 (yW ((i:Int)+1)) >>= _) _ _ s;refine yf (yaz h1 h3 (by simp) ?_)
 have nx:(s.heap.update it (ycd (·.setIfInBounds 1 (yW ((i:Int)+1))))).IsKeyIter it d (i+1) es.size ep:=⟨_,ybn _ h1 (yc0 (yaf h3 _)),(Obj.cls_mapFields ..).trans h2,by rw[yaf h3];simp[yW]⟩
 refine yf (qc ?_);refine yf (wpAny_isOneOf_keyiter (s:={ s with heap:=s.heap.update it (ycd (·.setIfInBounds 1 (yW ((i:Int)+1)))) }) nx.typeIs ?_)
 show yi _ _ (pure e.key) _ _ _;exact yx (yx ⟨_,rfl,yx (q _ nx (yd.SameBut.update ..))⟩)
theorem dit_end{Q:Option yb->ye->Prop}(hh:A.handled=none)(hi:s.heap.IsKeyIter it d i es.size ep)(hd:s.heap.get? d=some od)(hes:od.data=.dict es ep)(ge:es.size<=i)
  (q:∀h',yd.ExtBut it s.heap h'->Q none { s with heap:=h' }):yi (ym prog w) A (j2 (.ref it)) Q E s:=by
 obtain⟨oi,h1,h2,h3⟩:=id hi;unfold j2;refine yf (ybt (qE (name:=Str.ofString "__next__") hi.typeIs yaw (qk yaw hi.typeIs yd2 ?_ (yd1 _))));refine yf (yx ?_);refine yf ?_;refine yf ?_
 first|refine yf (ybg hi.typeIs (yx ?_))|refine yf (ybh hi.typeIs (yx ?_))
 refine yf (wpAny_fieldsOf h1 h3 ?_);have own:yB.Dict_items.ownsTuple "dict_keyiterator"=false:=by decide
 simp only[own,ybx,if_false];show yi _ _ (if(yb.ref d == yb.none)=true then _ else _) _ _ s;rw[if_neg (show ¬((yb.ref d == yb.none)=true) from jy)]
 refine yf (yx ?_);refine yf (yct hd hes ?_);rw[if_neg (by simp)]
 refine yf (yx ?_);refine yf (yc3 hd hes ?_);rw[if_neg (by simp)]
 refine yx ?_;simp only[show ¬((i:Int)<0) from by omega,if_false,ya3,Array.getElem?_eq_none ge]
 refine yf ?_
 first|refine yf (ybg hi.typeIs (yx ?_))|refine yf (ybh hi.typeIs (yx ?_))
 show yi _ _ (setField (.ref it) 0 .none >>= _) _ _ s;refine yf (yaz h1 h3 (by simp) ?_)
 show yi _ _ (newExc (.type "StopIteration") [] >>= _) _ _ _;refine yf ?_;simp only[newExc,newTuple];refine yf (jT ?_ (by size_fits))
 refine yf (m:=ybp _ _) (wpAny_of_eq (a:=yb.none) (by first|rfl|(simp only[ybp];rfl)) ?_);refine jT ?_ (by size_fits)
 simp only[raiseNew];refine yf (wpAny_handled ?_);rw[show A.in1.handled=none from hh];refine yf (yx (wpAny_throw ?_));refine yf (wpAny_isInstance (T:="StopIteration") (b:=true) ⟨_,yO _ rfl,rfl⟩ isSubtype_stop ?_);exact yx (q _ (((yd.SameBut.update ..).extBut.push _).push _))
end
def Itd(ob:Obj)(es:Array qP)(a:yc):It:=
 ⟨λi H=>(∃kvs,H a=some (.frz ob (.dT kvs)))/\∃e b,es[i]? = some e/\e.key=.ref b,λi H x H'=>H'=H/\∃e b,es[i]? = some e/\e.key=.ref b/\x=.ref b,λi H=>(∃kvs,H a=some (.frz ob (.dT kvs)))/\es.size<=i⟩
theorem zkf{P:y6}{w:y0}{K:yh}{tg:yj}(a it:yc){ob:Obj}{es:Array qP}{ep:Nat}(hob:ob.data=.dict es ep):Turn P w K tg (Itd ob es a) [it] it (λi h=>h.IsKeyIter it a i es.size ep) where
 mem:=by simp
 obj:=λi h st b hb=>by
  have e:b=it:=by simpa using hb
  subst e;obtain⟨o,e,c,d⟩:=st;exact⟨o,e,λv z=>by rw[d]at z;cases z⟩
 keep:=λi h h' st k=>st.at λo e=>k it (by simp) o e
 item:=by
  intro X hP hw hK hc i pins s σ H E I hf st hg;subst hP hw hK;obtain⟨⟨kvs,hq⟩,en,b,he,hk⟩:=hg;obtain⟨hp,_⟩:=I.hok a _ hq;obtain⟨f0,f1,f2,f3,f4,f5⟩:=hf it (by simp)
  refine dit_item st hp hob he λh' st' sb=>?_
  have I1:Inv X pins σ H { s with heap:=h' }:=I.turned (t':=s.toks) (λb o hb e=>(sb.2 b hb).trans e) f0 f1 f3 f4 f5
  obtain⟨o,e,c,d⟩:=id st';refine⟨en.key,rfl,go_of (s:={ s with heap:=h' }) e c d (by decide) ⟨.ref b,H,I1,?_,⟨rfl,en,b,he,hk,rfl⟩,st',λb hb=>(hf b hb).1⟩⟩
  rw[hk];rfl
 done:=by
  intro X hP hw hK hc i pins s σ H E I hf st hg;subst hP hw hK;obtain⟨⟨kvs,hq⟩,ge⟩:=hg;obtain⟨hp,_⟩:=I.hok a _ hq;obtain⟨f0,f1,f2,f3,f4,f5⟩:=hf it (by simp)
  exact dit_end (I.ok.hd hc) st hp hob ge λh' eb=>⟨rfl,I.turned (t':=s.toks) (λb o hb e=>eb b o hb e) f0 f1 f3 f4 f5⟩
 self:=λ_ _ _ _ _ st h=>wpAny_pyIter_keyiter st h
def KeysAt(H:Hp)(es:Array qP)(kvs:List (List Key×V)):Prop:=es.size=kvs.length/\∀(i:Nat) (ks:List Key) (v:V),kvs[i]? = some (ks,v)->∃(e:qP) (b:yc),es[i]? = some e/\e.key=.ref b/\H b=some (.tup (ks.map kV))
theorem zef{α β:Type}{F:α->β->Prop}:∀{l₁:List α}{l₂:List β},Paired F l₁ l₂->∀(i:Nat) (a:α),l₁[i]? = some a->∃b,l₂[i]? = some b/\F a b
 |_,_,.nil,i,a,e=>by simp at e
 |_,_,.cons r t,0,a,e=>by simp at e;subst e;exact⟨_,rfl,r⟩
 |_,_,.cons r t,i+1,a,e=>by simpa using zef t i a (by simpa using e)
def iDk(tl:TE):TI:=λσ H R=>tl σ H λx H1=>∃a ob kvs,x=.ref a/\H1 a=some (.frz ob (.dT kvs))/\∀es,KeysAt H1 es kvs->R (Itd ob es a) H1
section
variable {X:Cx}{W:Str->Hp->Prop}{fl:Bool}{tg a e:yj}{da:DE}{pos:Pos}{i:Nat}{x:Str}
theorem pi_dk{l:yj}{tl:TE}(hl:PE X l tl):PI X tg l (iDk tl):=by
 intro pins s σ H R I h;refine thn (hl pins s σ H _ I h) λv s1 ⟨u,H1,I1,r1,a,ob,kvs,eu,hq,q⟩=>?_
 subst eu;cases r1;obtain⟨hp,_,hsm,xs,pr,od,es,ep,h1,h2,h3,h4,_⟩:=I1.hok a _ hq;rw[hp]at h1;cases h1;have hk:KeysAt H1 es kvs:=by
  refine⟨by rw[<- ya0,h4,yQ,<- Paired.length pr],λi ks v e=>?_⟩
  obtain⟨p,hx,e1,e2,_⟩:=zef pr i _ e;refine⟨entryOfKey (yaj (Wa X.prog X.w)) p,p.2.1,?_,rfl,e2⟩;rw[<- Array.getElem?_toList,h4,jb,hx];rfl
 refine dit_new hsm hp h2 h3 ?_;refine⟨s1.heap.objs.size,[s1.heap.objs.size],_,_,H1,rfl,I1.kept (t':=s1.toks) λb o e=>yA _ e,zkf a _ h3,⟨_,yO _ rfl,rfl,rfl⟩,λb hb=>?_,q es hk⟩
 have e:b=s1.heap.objs.size:=by simpa using hb
 subst e;exact I1.fpOk (yu _) (I1.hok.fresh (yu _))
theorem rlk_at{K:yh}{H:Hp}{P:Pv}:∀{es:List (ya×ya)}{kvs:List (List Key×V)},Rlk K H P es kvs->∀(i:Nat) (k t:ya),es[i]? = some (k,t)->∃ns v,kvs[i]? = some (Vx ns,v)/\k=.tuple (ns.map .int)
 |[],kvs,r,i,k,t,e=>by simp at e
 |(k',t')::es,kvs,r,i,k,t,e=>by
  obtain⟨ms,v,r',rfl,rfl,rv,rr⟩:=VU.mp r;cases i with
  |zero=>cases e;exact⟨ms,v,rfl,rfl⟩
  |succ i=>simpa using rlk_at rr i k t (by simpa using e)
theorem iv_keys(ha:EV X W a da):IV X W tg a (iKeys da):=
 zcC (pi_dk ha) λσ H R ⟨G,P,h,q⟩=>by
  unfold iKeys at q;obtain⟨q1,q2,q3⟩:=zmn q;refine Z1 h q1 q2 λtx v H1 ex s1 h1 rx=>?_
  have q4:=q3 tx ex;split at q4
  ·rename_i es;obtain⟨l,ob,kvs,rfl,hl,off,rk⟩:=ze3.mp rx;refine⟨l,ob,kvs,rfl,hl,λds hk=>q4 _ H1 s1 λH' P' tr nf i=>⟨λt et=>?_,λhge=>?_⟩⟩
   ·rw[jb]at et;cases ee:es[i]? with
    |none=>rw[ee]at et;cases et
    |some kt=>
     rw[ee]at et;cases et;obtain⟨ns,v,ev,ek⟩:=rlk_at rk i kt.1 kt.2 ee;obtain⟨en,b,e1,e2,e3⟩:=hk.2 i _ v ev;have hb:=tr b _ e3 nt_tup (h1.tup_off e3);refine⟨⟨⟨kvs,(tr l _ hl zeh off).1⟩,en,b,e1,e2⟩,λy H'' yy=>?_⟩
     obtain⟨rfl,en',b',e1',e2',rfl⟩:=yy;rw[e1]at e1';cases e1';rw[e2]at e2';cases e2';rw[ziz]at hb;exact⟨Same.refl _,by show Rl _ _ _ kt.1 _;rw[ek];exact Yb.mpr ⟨b,ns.map V.int,rfl,hb,zie ns⟩⟩
   ·exact⟨⟨kvs,(tr l _ hl zeh off).1⟩,by rw[hk.1,<- zhp rk];simpa using hge⟩
  ·exact q4.elim
theorem ss_ext{o:DA}{p1 p2 p3:Pos}(hi:X.N[i]? = some x)(he:OV X W e o)(hv:Vis X.env.scope x:=by first|exact yg rfl|exact yC (yg rfl)|exact yC (yC rfl))(hd:(x == ("__debug__" : Str))=false:=by decide)
  (hcd:(x == ("__classdict__" : Str))=false:=by decide) (hsw:jz (.Call (.Attribute (.Name x p1) "extend" p2) [e] [] p3) none pos.line X.env=pure false:=by rfl)
  (hbase:yae (.Name x p1) "extend" X.env (yz (.Name x p1) X.env)=yz (.Name x p1) X.env:=by rfl)
  (hfew:((jc p3 (yp [e] X.env)).all (λx=>!x.1) && (backToKw p3 (ya2 [] X.env)).all (λx=>x.1.isSome)
   && decide (([e]:List yj).length+([]:List qw).length+(if([]:List qw).isEmpty then 0 else 1)<30))=true:=by rfl)
  (hline:(p2.endLine == p3.line)=true:=by rfl) (hs:yp [e] X.env=(false,yz e X.env)::yp [] X.env:=by rfl):
  SV X W fl (.Expr (.Call (.Attribute (.Name x p1) "extend" p2) [e] [] p3) pos) (dExt i o):=
 X9 (zhq (pe_bm yd6 PySem.F.slot_list_extend PySem.F.type_list_extend zlj (QS hi hv hd hcd) (Y3 he W5 hs) hbase hfew hline hs rfl) hsw) λD σ H ⟨G,P,h,q⟩=>by
  unfold dExt at q;split at q
  ·rename_i ho;obtain⟨xs0,e0⟩:=zfu ho;obtain⟨p,vs,ev,ep,eh,rs⟩:=h.sl i _ e0;refine⟨.ref p,getD_some ev,.inl ⟨rfl,vs,SqL.of eh⟩,G,P,h,?_⟩;cases eo:o G with
   |stuck=>rw[eo]at q;exact q.elim
   |exc c=>rw[eo]at q;exact λH' s=>q H' P (.same s)
   |ok ts=>
    rw[eo,Res.bind_ok]at q;intro b us H1 s1 hb hl rb;unfold extOwn at q;rw[e0]at q;simp only at q;split at q
    ·rename_i hz;have h1:=h.same s1;obtain⟨p',vs',ev',ep',eh',rs'⟩:=h1.sl i _ e0;rw[ev]at ev';cases ev';have l1:=rs'.length;have l2:=rb.length;obtain⟨h4,g4⟩:=h1.upOwn e0 ep' (rs'.append (Rls.go .fbd ts us rb));exact⟨p,b,vs',us,rfl,rfl,eh',hl,by rw[j6];omega,q σ _ P ((Go.same s1).trans g4) h4⟩
    ·exact q.elim
  ·exact q.elim
end
theorem u1{n c:Nat}(h:n+64<c):n+1<c:=by omega
end Fx
namespace Fx
open PySem
theorem zhI{x m:Nat}(h:x<2 ^ m):x.log2<=m:=by
 by_cases hx:x=0
 ·subst hx;simp
 ·exact jB ((Nat.log2_lt hx).mpr h)
theorem Yp{i j:Int}{m n:Nat}(hi:i.natAbs<2 ^ m)(hj:j.natAbs<2 ^ n)(h:m+n+2<=134217728):Xj i j=true:=by
 have h1:=zhI hi;have h2:=zhI hj;simp only[Xj,qp,decide_eq_true_eq];omega
theorem mulOk_r{i j:Int}(hj:j.natAbs<18446744073709551616):Xj i j=true:=by
 simp only[Xj,qp,decide_eq_true_eq];exact .inr hj
theorem zbx{i j:Int}(hi:i.natAbs<18446744073709551616):Xj i j=true:=by
 simp only[Xj,qp,decide_eq_true_eq];exact .inl (.inr hi)
theorem zci{j:Int}{m:Nat}(h0:j≠0)(hj:j.natAbs<2 ^ m)(h:m<9000):zcZ j=true:=by
 have h2:=zhI hj;simp only[zcZ,jl,decide_eq_true_eq];exact⟨h0,by omega⟩
theorem ZA{i j:Int}{m n:Nat}(hi:i.natAbs<2 ^ m)(hj:j.natAbs<2 ^ n):(i * j).natAbs<2 ^ (m+n):=by
 rw[j9,Nat.pow_add];exact Nat.mul_lt_mul'' hi hj
theorem zfm{i j:Int}{m:Nat}(hi:i.natAbs<2 ^ m)(hj:j.natAbs<2 ^ m):(i+j).natAbs<2 ^ (m+1):=by
 have:=Int.natAbs_add_le i j;rw[ycg];omega
theorem zfl{i j:Int}{m:Nat}(hi:i.natAbs<2 ^ m)(hj:j.natAbs<2 ^ m):(i - j).natAbs<2 ^ (m+1):=by
 have:=Int.natAbs_sub_le i j;rw[ycg];omega
theorem zee{m n:Nat}(h:m<=n):2 ^ m<=2 ^ n:=Nat.pow_le_pow_right (by decide) h
def fr(q:Rat):ya:=.tuple [.int q.num,.int (q.den:Int)]
structure Sz(n:Nat)(q:Rat):Prop where
 num:q.num.natAbs<2 ^ n
 den:q.den<2 ^ n
theorem Sz.mono{m n:Nat}{q:Rat}(h:Sz m q)(l:m<=n):Sz n q:=⟨ja h.num (zee l),ja h.den (zee l)⟩
theorem Sz.denI{n:Nat}{q:Rat}(h:Sz n q):((q.den:Int)).natAbs<2 ^ n:=by rw[jE];exact h.den
theorem Y2(q:Rat):(q.den:Int)≠0:=by have:=q.den_nz;omega
theorem XH{u l:Int}{n:Nat}(hl:l≠0)(h1:u.natAbs<2 ^ n)(h2:l.natAbs<2 ^ n):Sz n (y8 u l):=by
 constructor
 ·rw[yca];refine jk ?_ h1;have e:(l.sign * u / (l.gcd u:Int)).natAbs<=(l.sign * u).natAbs:=Int.natAbs_ediv_le_natAbs _ _;refine yE e ?_;rw[j9,Int.natAbs_sign_of_ne_zero hl,ybd];exact yu _
 ·rw[ycb,if_neg hl];exact jk (yb7 _ _) h2
theorem zjU{u l:Int}(hl:l≠0){q:Rat}(e:q=y8 u l):q.num * l=u * q.den:=by
 have h:y8 q.num q.den=y8 u l:=by rw[jt];exact e
 exact(Rat.divInt_eq_divInt_iff (Y2 q) hl).mp h
theorem zcT(q:Rat):yN q.num q.den=1:=q.reduced
def uGcd:List Sl->Nat:=λG=>match(G[1]?:Option Sl) with
 |some (.val (.int b))=>b.natAbs+1
 |_=>0
def gcdC:DT:=tV (d2 fNe (aa 1) (dC (.int 0)))
def gcdB:DS:=ad (aj 2 [] (d2 fMod (aa 0) (aa 1))) (ad (aj 0 [] (aa 1)) (aj 1 [] (aa 2)))
theorem gcd_step{a b:Int}(ha:0<=a)(hb:0<=b):yN b (a % b)=yN a b:=by
 obtain⟨m,rfl⟩:=yd8 ha;obtain⟨n,rfl⟩:=yd8 hb;rw[<- Int.natCast_emod,yd9,yd9,Nat.gcd_comm n,<- Nat.gcd_rec,Nat.gcd_comm]
theorem ziH:∀(n:Nat) (a b:Int) (s:Sl),0<=a->0<=b->b.natAbs<n ->
  ∃s',YN gcdC gcdB n [.val (.int a),.val (.int b),s]=.ok (.nx [.val (.int (yN a b)),.val (.int 0),s'])
 |0,a,b,s,ha,hb,h=>by omega
 |n+1,a,b,s,ha,hb,h=>by
  unfold YN;by_cases hz:b=0
  ·subst hz;refine⟨s,?_⟩;simp[gcdC,fNe,Int.natAbs_of_nonneg ha]
  ·have hf:jS a b=a % b:=ybk a hb;have h1:0<=a % b:=yb8 a hz;have h2:a % b<b:=yby a (by omega)
   obtain⟨s',e⟩:=ziH n b (a % b) (.val (.int (a % b))) hb h1 (by omega)
   refine⟨s',?_⟩;rw[gcd_step ha hb]at e;simpa[gcdC,gcdB,fNe,hz,hf] using e
def dGcd:DS:=ad (aj 0 [] (d1 fAbs (aa 0))) (ad (aj 1 [] (d1 fAbs (aa 1))) (ad (JS uGcd gcdC gcdB) (ak (aa 0))))
theorem abs_if(a:Int):(if a<0 then -a else a)=(a.natAbs:Int):=by split<;>omega
theorem gcd_ok(a b:Int):ai 3 2 dGcd [.int a,.int b]=.ok (.int (yN a b)):=by
 obtain⟨s',e⟩:=ziH (b.natAbs+1) a.natAbs b.natAbs .emp (yde _) (yde _) (by simp)
 have g:yN (a.natAbs:Int) (b.natAbs:Int)=yN a b:=by simp[yN]
 rw[g]at e;simp[ai,dGcd,abs_if,uGcd,e]
theorem Vr{st:ya->List Sl->Res (List Sl)}{b:DS}(Inv:Nat->List Sl->Prop):∀(ts:List ya) (k:Nat) (G:List Sl),Inv k G ->
  (∀i t G,ts[i]? = some t->Inv (k+i) G->∃G1,st t G=.ok G1/\∃G2,(b G1=.ok (.nx G2)\/b G1=.ok (.ct G2))/\Inv (k+i+1) G2) ->
  ∃G',forL st b ts G=.ok (.nx G')/\Inv (k+ts.length) G'
 |[],k,G,h0,_=>⟨G,rfl,h0⟩
 |t::ts,k,G,h0,hs=>by
  obtain⟨G1,e1,G2,e2,h2⟩:=hs 0 t G rfl h0;obtain⟨G',e3,h3⟩:=Vr Inv ts (k+1) G2 h2 λi t' G' ht hi=>by
   have:=hs (i+1) t' G' (by simpa using ht) (by rw[<- ydz,Nat.add_right_comm];exact hi)
   simpa[ydz,qV,Nat.add_left_comm] using this
  refine⟨G',?_,by simpa[ydz,qV,Nat.add_left_comm] using h3⟩
  rw[forL,e1,Res.bind_ok];rcases e2 with e2|e2<;>rw[e2,Res.bind_ok]<;>exact e3
theorem XZ(lo:Int)(n:Nat):(aw lo n).length=n:=by simp[aw]
theorem zkK{lo:Int}{n i:Nat}{t:ya}(h:(aw lo n)[i]? = some t):i<n/\t=.int (lo+(i:Int)):=by
 unfold aw at h;rw[jb]at h;by_cases hi:i<n
 ·rw[jx (by simpa using hi)]at h
  simp at h;exact⟨hi,h.symm⟩
 ·rw[List.getElem?_eq_none (by simpa using hi)]at h
  cases h
theorem zbA{st:ya->List Sl->Res (List Sl)}{b:DS}{n:Nat}{G:List Sl}(Inv:Nat->List Sl->Prop)(h0:Inv 0 G)
  (hs:∀i G,i<n->Inv i G->∃G1,st (.int (i:Int)) G=.ok G1/\∃G2,(b G1=.ok (.nx G2)\/b G1=.ok (.ct G2))/\Inv (i+1) G2):
  ∃G',forL st b (aw 0 n) G=.ok (.nx G')/\Inv n G':=by
 obtain⟨G',e,h⟩:=Vr Inv (aw 0 n) 0 G h0 λi t G ht hi=>by
  obtain⟨hl,rfl⟩:=zkK ht;simpa using hs i G hl (by simpa using hi)
 refine⟨G',e,?_⟩;rw[XZ]at h;simpa using h
theorem zdu{st:ya->List Sl->Res (List Sl)}{e:DE}{C:List Sl}(f:ya->ya):∀(ts:List ya),(∀t∈ts,∃G1,st t C=.ok G1/\e G1=.ok (f t))->Xf st tT e C ts=.ok (ts.map f)
 |[],_=>rfl
 |t::ts,h=>by
  obtain⟨G1,e1,e2⟩:=h t yX;have ih:=zdu f ts λt' ht=>h t' (yS _ ht)
  unfold Xf;simp[e1,e2,ih]
theorem Yv{α:Type}{st:ya->List Sl->Res (List Sl)}{e:DE}{C:List Sl}(inj f:α->ya):∀(xs:List α),(∀x∈xs,∃G1,st (inj x) C=.ok G1/\e G1=.ok (f x))->Xf st tT e C (xs.map inj)=.ok (xs.map f)
 |[],_=>rfl
 |t::ts,h=>by
  obtain⟨G1,e1,e2⟩:=h t yX;have ih:=Yv inj f ts λt' ht=>h t' (yS _ ht)
  rw[yH];unfold Xf;simp[e1,e2,ih]
theorem JG{α:Type}{st:ya->List Sl->Res (List Sl)}{c:DT}{e:DE}{C:List Sl}(inj f:α->ya)(p:α->Bool):∀(xs:List α),(∀x∈xs,∃G1,st (inj x) C=.ok G1/\c G1=.ok (p x)/\(p x=true->e G1=.ok (f x))) ->
  Xf st c e C (xs.map inj)=.ok ((xs.filter p).map f)
 |[],_=>rfl
 |t::ts,h=>by
  obtain⟨G1,e1,e2,e3⟩:=h t yX;have ih:=JG inj f p ts λt' ht=>h t' (yS _ ht)
  rw[yH];unfold Xf;cases hp:p t with
  |false=>simp[e1,e2,ih,hp]
  |true=>simp[e1,e2,e3 hp,ih,hp]
theorem Uz(n:Nat):aw 0 n=(y4 n).map λ(k:Nat)=>ya.int (k:Int):=by simp[aw]
theorem Sz.ofInt{n:Nat}{i:Int}(h:i.natAbs<2 ^ n)(h1:0<n):Sz n (i:Rat):=⟨by simpa using h,by
 have:2 ^ 1<=2 ^ n:=zee h1;simp;omega⟩
theorem Sz.zero:Sz 1 0:=⟨by decide,by decide⟩
theorem zj6(a b:Rat):a+b=y8 (a.num * b.den+b.num * a.den) (a.den * b.den):=by
 have:=yc4 a.num b.num (Y2 a) (Y2 b);rw[jt,jt]at this;exact this
theorem zjh(a b:Rat):a - b=y8 (a.num * b.den - b.num * a.den) (a.den * b.den):=by
 have:=Rat.divInt_sub_divInt a.num b.num (Y2 a) (Y2 b);rw[jt,jt]at this;exact this
theorem zbw(a b:Rat):a * b=y8 (a.num * b.num) (a.den * b.den):=by
 have:=ybo a.num b.num (d₁:=a.den) (d₂:=b.den);rw[jt,jt]at this;exact this
theorem Sz.add{m n:Nat}{a b:Rat}(ha:Sz m a)(hb:Sz n b):Sz (m+n+1) (a+b):=by
 rw[zj6];have h1:=ZA ha.num hb.denI;have h2:=ZA hb.num ha.denI;rw[qV n m]at h2;exact XH (jO (Y2 a) (Y2 b)) (zfm h1 h2) (ja (ZA ha.denI hb.denI) (zee (yat _)))
theorem Sz.sub{m n:Nat}{a b:Rat}(ha:Sz m a)(hb:Sz n b):Sz (m+n+1) (a - b):=by
 rw[zjh];have h1:=ZA ha.num hb.denI;have h2:=ZA hb.num ha.denI;rw[qV n m]at h2;exact XH (jO (Y2 a) (Y2 b)) (zfl h1 h2) (ja (ZA ha.denI hb.denI) (zee (yat _)))
theorem Sz.mul{m n:Nat}{a b:Rat}(ha:Sz m a)(hb:Sz n b):Sz (m+n) (a * b):=by
 rw[zbw];exact XH (jO (Y2 a) (Y2 b)) (ZA ha.num hb.num) (ZA ha.denI hb.denI)
theorem zbG{α:Type}{f:α->ya}:∀(xs:List α),(∀x∈xs,(f x).canLay0=true)->ya.canLayAll0 (xs.map f)=true
 |[],_=>by simp[ya.canLayAll0]
 |x::xs,h=>by simp[ya.canLayAll0,h x yX,zbG xs λy hy=>h y (yS _ hy)]
theorem zc1{α:Type}{f:α->ya}{n:Nat}:∀(xs:List α),(∀x∈xs,(f x).depth<=n)->ya.depthAll (xs.map f)<=n
 |[],_=>by simp[ya.depthAll]
 |x::xs,h=>by
  have h1:=h x yX;have h2:=zc1 (f:=f) (n:=n) xs λy hy=>h y (yS _ hy)
  simp only[yH,ya.depthAll];omega
def Shp(n:Nat)(t:ya):Prop:=t.canLay0=true/\t.depth<=n
theorem Shp.ok{n:Nat}{t:ya}(h:Shp n t)(hn:n<=64):Wm t=true:=by
 simp[Wm,h.1];exact yE h.2 hn
theorem Shp.mono{m n:Nat}{t:ya}(h:Shp m t)(l:m<=n):Shp n t:=⟨h.1,yE h.2 l⟩
theorem zbh(i:Int):Shp 0 (.int i):=⟨by simp[ya.canLay0],by simp[ya.depth]⟩
theorem Jp{α:Type}{f:α->ya}{n:Nat}{xs:List α}(h:∀x∈xs,Shp n (f x)):Shp (n+1) (.list (xs.map f)):=by
 refine⟨by simp[ya.canLay0,zbG xs λx hx=>(h x hx).1],?_⟩
 have:=zc1 (f:=f) (n:=n) xs λx hx=>(h x hx).2
 simp[ya.depth];omega
theorem zkt{α:Type}{f:α->ya}{n:Nat}{xs:List α}(h:∀x∈xs,Shp n (f x)):Shp (n+1) (.tuple (xs.map f)):=by
 refine⟨by simp[ya.canLay0,zbG xs λx hx=>(h x hx).1],?_⟩
 have:=zc1 (f:=f) (n:=n) xs λx hx=>(h x hx).2
 simp[ya.depth];omega
theorem zia{n:Nat}{a b:ya}(ha:Shp n a)(hb:Shp n b):Shp (n+1) (.tuple [a,b]):=by
 have:=zkt (f:=id) (n:=n) (xs:=[a,b]) (by intro x hx;simp at hx;rcases hx with rfl|rfl<;>assumption)
 simpa using this
theorem zbI(q:Rat):Shp 1 (fr q):=zia (zbh _) (zbh _)
mutual
theorem zch:∀(t:ya),t.canLay0=true->t.eqv t=true
 |.none,_=>by simp[ya.eqv]
 |.bool b,_=>by simp[ya.eqv]
 |.int i,_=>by simp[ya.eqv]
 |.str x,_=>by simp[ya.eqv]
 |.list xs,h=>by simp only[ya.eqv];exact zah xs (by simpa[ya.canLay0] using h)
 |.tuple xs,h=>by simp only[ya.eqv];exact zah xs (by simpa[ya.canLay0] using h)
 |.dict _,h=>by simp[ya.canLay0]at h
theorem zah:∀(ts:List ya),ya.canLayAll0 ts=true->ya.eqvAll ts ts=true
 |[],_=>by simp[ya.eqvAll]
 |t::ts,h=>by
  simp only[ya.canLayAll0,jl]at h;simp[ya.eqvAll,zch t h.1,zah ts h.2]
end
theorem ziK{n:Nat}{t:ya}(h:Shp n t)(hn:n<=64):fEq t t=.ok (.bool true):=by
 unfold fEq;split
 ·simp
 ·simp[h.ok hn,zch t h.1]
theorem zfz{n:Nat}{t:ya}(h:Shp n t)(hn:n<=64):fNe t t=.ok (.bool false):=by
 unfold fNe;split
 ·simp
 ·simp[h.ok hn,zch t h.1]
theorem eqv_fr(a b:Rat):ya.eqv (fr a) (fr b)=decide (a=b):=by
 have:(a=b)↔(a.num=b.num/\(a.den:Int)=b.den):=⟨λh=>by subst h;exact⟨rfl,rfl⟩,λ⟨h1,h2⟩=>Rat.ext h1 (by exact_mod_cast h2)⟩
 by_cases h:a=b
 ·subst h;rw[zch _ (zbI a).1];simp
 ·simp only[fr,ya.eqv,ya.eqvAll,Bool.and_true];rw[decide_eq_false h];have:=λz=>h (this.mpr z)
  by_cases h1:a.num=b.num
  ·have h2:(a.den:Int)≠b.den:=λz=>this ⟨h1,z⟩
   simp[h1];exact_mod_cast h2
  ·simp[h1]
theorem zgF(a b:Rat):fEq (fr a) (fr b)=.ok (.bool (decide (a=b))):=by
 unfold fEq;split
 ·rename_i e1 e2;cases e1
 ·simp[(zbI a).ok (by decide),(zbI b).ok (by decide),eqv_fr]
theorem fNe_fr(a b:Rat):fNe (fr a) (fr b)=.ok (.bool (!decide (a=b))):=by
 unfold fNe;split
 ·rename_i e1 e2;cases e1
 ·simp[(zbI a).ok (by decide),(zbI b).ok (by decide),eqv_fr]
end Fx
namespace Lw
open PySem Fx
abbrev zaq:List Sl->Nat:=uGcd
abbrev zco:List Sl->Nat:=uGcd
def zez:DS:=(ak (za6 (d1 (fIs isInt) (aa 0)) (zjX (d1 (fIs zlD) (aa 0)))))
def Yw:DF:=ah 1 1 zez
def za1:DS:=(ak (aa 0))
def za2:DS:=
  ad (JS zaq (tV (d2 fNe (aa 1) (dC (.int 0)))) (ad (aj 2 [] (d2 fMod (aa 0) (aa 1))) (ad (aj 0 [] (aa 1)) (aj 1 [] (aa 2))))) za1
def za3:DS:=
  ad (aj 1 [] (d1 fAbs (aa 1))) za2
def zca:DS:=
  ad (aj 0 [] (d1 fAbs (aa 0))) za3
def Yl:DF:=ah 3 2 zca
def Je:DS:=(ak (za6 (d2 fGe (d2 ag (aa 0) (dC (.int 1))) (dC (.int 1))) (d2 fEq (Zj Yl (Zc (d2 ag (aa 0) (dC (.int 0))) (Zc (d2 ag (aa 0) (dC (.int 1))) ac))) (dC (.int 1)))))
def Jf:DS:=
  ad (aE (tOr (aC (tV (Zj Yw (Zc (d2 ag (aa 0) (dC (.int 0))) ac)))) (aC (tV (Zj Yw (Zc (d2 ag (aa 0) (dC (.int 1))) ac))))) (ak (dC (.bool false))) ZH) Je
def zaY:DS:=
  ad (aE (tOr (aC (tV (d1 (fIs zft) (aa 0)))) (tV (d2 fNe (d1 aB (aa 0)) (dC (.int 2))))) (ak (dC (.bool false))) ZH) Jf
def X3:DF:=ah 1 1 zaY
def zcj:DS:=(ak (au (Zc (d2 fDiv (aa 0) (aa 2)) (Zc (d2 fDiv (aa 1) (aa 2)) ac))))
def zck:DS:=
  ad (aE (tV (d2 fLt (aa 1) (dC (.int 0)))) (aj 2 [] (d1 fNeg (aa 2))) ZH) zcj
def zcl:DS:=
  ad (aj 2 [] (Zj Yl (Zc (aa 0) (Zc (aa 1) ac)))) zck
def zi0:DS:=
  ad (aE (tV (d2 fEq (aa 1) (dC (.int 0)))) dNev ZH) zcl
def Xg:DF:=ah 3 2 zi0
def d_plus:DS:=(ak (Zj Xg (Zc (d2 aF (d2 aA (d2 ag (aa 0) (dC (.int 0))) (d2 ag (aa 1) (dC (.int 1)))) (d2 aA (d2 ag (aa 1) (dC (.int 0))) (d2 ag (aa 0) (dC (.int 1))))) (Zc (d2 aA (d2 ag (aa 0) (dC (.int 1))) (d2 ag (aa 1) (dC (.int 1)))) ac))))
def UD:DF:=ah 2 2 d_plus
def d_less:DS:=(ak (Zj Xg (Zc (d2 fSub (d2 aA (d2 ag (aa 0) (dC (.int 0))) (d2 ag (aa 1) (dC (.int 1)))) (d2 aA (d2 ag (aa 1) (dC (.int 0))) (d2 ag (aa 0) (dC (.int 1))))) (Zc (d2 aA (d2 ag (aa 0) (dC (.int 1))) (d2 ag (aa 1) (dC (.int 1)))) ac))))
def zgD:DF:=ah 2 2 d_less
def zl0:DS:=(ak (Zj Xg (Zc (d2 aA (d2 ag (aa 0) (dC (.int 0))) (d2 ag (aa 1) (dC (.int 0)))) (Zc (d2 aA (d2 ag (aa 0) (dC (.int 1))) (d2 ag (aa 1) (dC (.int 1)))) ac))))
def Qy:DF:=ah 2 2 zl0
def d_over:DS:=(ak (Zj Xg (Zc (d2 aA (d2 ag (aa 0) (dC (.int 0))) (d2 ag (aa 1) (dC (.int 1)))) (Zc (d2 aA (d2 ag (aa 0) (dC (.int 1))) (d2 ag (aa 1) (dC (.int 0)))) ac))))
def zgC:DF:=ah 2 2 d_over
def zmc:DS:=(ak (d2 fLt (d2 aA (d2 ag (aa 0) (dC (.int 0))) (d2 ag (aa 1) (dC (.int 1)))) (d2 aA (d2 ag (aa 1) (dC (.int 0))) (d2 ag (aa 0) (dC (.int 1))))))
def Vm:DF:=ah 2 2 zmc
def zdh:DS:=(ak (za6 (Zj Yw (Zc (aa 0) ac)) (d2 fLe (d1 fAbs (aa 0)) (dC (.int 999999999999)))))
def Wq:DF:=ah 1 1 zdh
def zep:DS:=(ak (aa 2))
def zeq:DS:=
  ad (dFor (Uv 3 4) [] (iZip (av (aa 0)) (av (aa 1))) (aj 2 [] (Zj UD (Zc (aa 2) (Zc (Zj Xg (Zc (d2 aA (aa 3) (d2 ag (aa 4) (dC (.int 0)))) (Zc (d2 ag (aa 4) (dC (.int 1))) ac))) ac))))) zep
def ziQ:DS:=
  ad (aj 2 [] (au (Zc (dC (.int 0)) (Zc (dC (.int 1)) ac)))) zeq
def Xa:DF:=ah 5 2 ziQ
def Us:DS:=(ak (d2 aF (d2 aA (d2 ag (aa 0) (d2 fMod (aa 1) (d1 aB (aa 0)))) (dC (.int 31))) (aa 1)))
def W2:DS:=
  ad (aE (tV (d2 fEq (aa 0) (dLst ac))) (ak (dC (.int 0))) ZH) Us
def VX:DS:=
  ad (aE (tV (d2 fLt (aa 1) (d1 aB (aa 0)))) (ak (d2 ag (aa 0) (aa 1))) ZH) W2
def Zy:DF:=ah 2 2 VX
def UT:DS:=(ak (aa 2))
def UU:DS:=
  ad (aE (tV (d2 fGt (aa 2) (aa 1))) (ak (d2 fSub (d2 fSub (aa 2) (d2 aA (dC (.int 2)) (aa 1))) (dC (.int 1)))) ZH) UT
def Jb:DS:=
  ad (aj 2 [] (d2 fMod (aa 0) (d2 aF (d2 aA (dC (.int 2)) (aa 1)) (dC (.int 1))))) UU
def YD:DF:=ah 3 2 Jb
def zdd:DS:=(ak (aa 0))
def zde:DS:=
  ad (JS zco (tV (d2 fNe (aa 1) (dC (.int 0)))) (ad (aj 2 [] (d2 fMod (aa 0) (aa 1))) (ad (aj 0 [] (aa 1)) (aj 1 [] (aa 2))))) zdd
def zdf:DS:=
  ad (aj 1 [] (d1 fAbs (aa 1))) zde
def zfG:DS:=
  ad (aj 0 [] (d1 fAbs (aa 0))) zdf
def X2:DF:=ah 3 2 zfG
def zbZ:DS:=(ak (au (Zc (d2 fDiv (aa 0) (aa 2)) (Zc (d2 fDiv (aa 1) (aa 2)) ac))))
def zb0:DS:=
  ad (aE (tV (d2 fLt (aa 1) (dC (.int 0)))) (aj 2 [] (d1 fNeg (aa 2))) ZH) zbZ
def zex:DS:=
  ad (aj 2 [] (Zj X2 (Zc (aa 0) (Zc (aa 1) ac)))) zb0
def Qe:DF:=ah 3 2 zex
def zgM:DS:=(ak (Zj Qe (Zc (d2 aF (d2 aA (d2 aA (d2 ag (aa 0) (dC (.int 0))) (d2 ag (aa 1) (dC (.int 1)))) (d2 ag (aa 2) (dC (.int 1)))) (d2 aA (d2 aA (d2 ag (aa 2) (dC (.int 0))) (d2 ag (aa 1) (dC (.int 0)))) (d2 ag (aa 0) (dC (.int 1))))) (Zc (d2 aA (d2 aA (d2 ag (aa 0) (dC (.int 1))) (d2 ag (aa 1) (dC (.int 1)))) (d2 ag (aa 2) (dC (.int 1)))) ac))))
def Xb:DF:=ah 3 3 zgM
def zaR:DS:=(ak (aa 2))
def zaS:DS:=
  ad (dFor (Zt 3) [] (iRng (d1 aB (aa 1))) (aj 2 [] (Zj Xb (Zc (aa 2) (Zc (d2 ag (aa 1) (aa 3)) (Zc (au (Zc (d2 ag (aa 0) (aa 3)) (Zc (dC (.int 1)) ac))) ac)))))) zaR
def zdb:DS:=
  ad (aj 2 [] (au (Zc (dC (.int 0)) (Zc (dC (.int 1)) ac)))) zaS
def Yg:DF:=ah 4 2 zdb
def zhS:DS:=(ak (d2 fLt (d2 aA (d2 ag (aa 0) (dC (.int 0))) (d2 ag (aa 1) (dC (.int 1)))) (d2 aA (d2 ag (aa 1) (dC (.int 0))) (d2 ag (aa 0) (dC (.int 1))))))
def Wp:DF:=ah 2 2 zhS
def zda:DS:=(ak (za6 (d1 (fIs isInt) (aa 0)) (zjX (d1 (fIs zlD) (aa 0)))))
def Vk:DF:=ah 1 1 zda
def Uq:DS:=(ak (d2 fEq (Zj X2 (Zc (d2 ag (aa 0) (dC (.int 0))) (Zc (d2 ag (aa 0) (dC (.int 1))) ac))) (dC (.int 1))))
def Ur:DS:=
  ad (aE (tOr (aC (tV (Zj Vk (Zc (d2 ag (aa 0) (dC (.int 0))) ac)))) (tOr (aC (tV (Zj Vk (Zc (d2 ag (aa 0) (dC (.int 1))) ac)))) (tV (d2 fLt (d2 ag (aa 0) (dC (.int 1))) (dC (.int 1)))))) (ak (dC (.bool false))) ZH) Uq
def Qi:DS:=
  ad (aE (tOr (aC (tV (d1 (fIs zft) (aa 0)))) (tV (d2 fNe (d1 aB (aa 0)) (dC (.int 2))))) (ak (dC (.bool false))) ZH) Ur
def YT:DF:=ah 1 1 Qi
theorem zmi(a b:Int):Yl [.int a,.int b]=.ok (.int (yN a b)):=by show noX (ai 3 2 dGcd [.int a,.int b])=_;rw[gcd_ok];rfl
theorem ld_ok(a b:Int):X2 [.int a,.int b]=.ok (.int (yN a b)):=by show noX (ai 3 2 dGcd [.int a,.int b])=_;rw[gcd_ok];rfl
theorem zfy{u:Int}{g:Nat}:u.fdiv (g:Int)=u / (g:Int):=Int.fdiv_eq_ediv_of_nonneg _ (yde _)
theorem UO{u l:Int}{n:Nat}(hl:l≠0)(h2:l.natAbs<2 ^ n)(hn:n<9000):Xg [.int u,.int l]=.ok (fr (y8 u l)):=by
 have hg:0<yN u l:=Nat.pos_of_ne_zero (by simp[hl])
 have hgl:yN u l<=l.natAbs:=Nat.le_of_dvd (by omega) (Int.gcd_dvd_natAbs_right u l)
 have d1:zcZ (yN u l:Int)=true:=zci (m:=n) (by omega) (by rw[jE];omega) hn
 have d2:zcZ (-(yN u l:Int))=true:=zci (m:=n) (by omega) (by rw[qS,jE];omega) hn
 have hd1:(yN u l:Int) ∣ u:=Int.gcd_dvd_left ..;have hd2:(yN u l:Int) ∣ l:=ydk ..;by_cases c:l<0
 ·have e1:u.fdiv (-(yN u l:Int))=(y8 u l).num:=by
   rw[yca,Int.sign_eq_neg_one_of_neg c,ych l u,Int.neg_one_mul];obtain⟨k,hk⟩:=hd1;generalize hG:(yN u l:Int)=G at *
   have hG0:0<G:=by omega
   rw[hk,yea ⟨-k,by rw[Int.neg_mul_neg]⟩]
   rw[Int.ediv_neg,<- Int.mul_neg,yax _ (by omega),yax _ (by omega)]
  have e2:l.fdiv (-(yN u l:Int))=((y8 u l).den:Int):=by
   rw[ycb,if_neg hl,ych l u];obtain⟨k,hk⟩:=hd2;have hna:((l.natAbs / yN u l:Nat):Int)=-l / (yN u l:Int):=by
    rw[Int.natCast_ediv];have:(l.natAbs:Int)=-l:=by omega
    rw[this]
   rw[hna];generalize hG:(yN u l:Int)=G at *
   have hG0:0<G:=by omega
   rw[hk,yea ⟨-k,by rw[Int.neg_mul_neg]⟩]
   rw[Int.ediv_neg,<- Int.mul_neg,yax _ (by omega),yax _ (by omega)]
  simp[Xg,ah,ai,zi0,zcl,zck,zcj,fEq,zmi,hl,c,d2,e1,e2,fr]
 ·have e1:u.fdiv (yN u l:Int)=(y8 u l).num:=by
   rw[yca,Int.sign_eq_one_of_pos (by omega),ych l u,ybe,zfy]
  have e2:l.fdiv (yN u l:Int)=((y8 u l).den:Int):=by
   rw[ycb,if_neg hl,ych l u,zfy,Int.natCast_ediv];have:(l.natAbs:Int)=l:=by omega
   rw[this]
  simp[Xg,ah,ai,zi0,zcl,zck,zcj,fEq,zmi,hl,c,d1,e1,e2,fr]
theorem at0(x y:ya):atP [x,y] 0=some x:=rfl
theorem at1(x y:ya):atP [x,y] 1=some y:=rfl
section
variable {a b:Rat}{m n:Nat}
theorem ze7(ha:Sz m a)(hb:Sz n b)(h:m+n<8999):UD [fr a,fr b]=.ok (fr (a+b)):=by
 have o1:Xj a.num b.den=true:=Yp ha.num hb.denI (by omega)
 have o2:Xj b.num a.den=true:=Yp hb.num ha.denI (by omega)
 have o3:Xj a.den b.den=true:=Yp ha.denI hb.denI (by omega)
 have z:(a.den:Int) * b.den≠0:=jO (Y2 a) (Y2 b);have e:=UO (u:=a.num * b.den+b.num * a.den) (n:=m+n) z (ZA ha.denI hb.denI) (by omega)
 have q:a+b=y8 (a.num * b.den+b.num * a.den) (a.den * b.den):=by
  have:=yc4 a.num b.num (Y2 a) (Y2 b);rw[jt,jt]at this;exact this
 rw[q];simp[UD,ah,ai,d_plus,at0,at1,o1,o2,o3,e,fr]
theorem less_ok(ha:Sz m a)(hb:Sz n b)(h:m+n<8999):zgD [fr a,fr b]=.ok (fr (a - b)):=by
 have o1:Xj a.num b.den=true:=Yp ha.num hb.denI (by omega)
 have o2:Xj b.num a.den=true:=Yp hb.num ha.denI (by omega)
 have o3:Xj a.den b.den=true:=Yp ha.denI hb.denI (by omega)
 have z:(a.den:Int) * b.den≠0:=jO (Y2 a) (Y2 b);have e:=UO (u:=a.num * b.den - b.num * a.den) (n:=m+n) z (ZA ha.denI hb.denI) (by omega)
 have q:a - b=y8 (a.num * b.den - b.num * a.den) (a.den * b.den):=by
  have:=Rat.divInt_sub_divInt a.num b.num (Y2 a) (Y2 b);rw[jt,jt]at this;exact this
 rw[q];simp[zgD,ah,ai,d_less,at0,at1,o1,o2,o3,e,fr]
theorem zh2(ha:Sz m a)(hb:Sz n b)(h:m+n<8999):Qy [fr a,fr b]=.ok (fr (a * b)):=by
 have o1:Xj a.num b.num=true:=Yp ha.num hb.num (by omega)
 have o3:Xj a.den b.den=true:=Yp ha.denI hb.denI (by omega)
 have z:(a.den:Int) * b.den≠0:=jO (Y2 a) (Y2 b);have e:=UO (u:=a.num * b.num) (n:=m+n) z (ZA ha.denI hb.denI) (by omega)
 have q:a * b=y8 (a.num * b.num) (a.den * b.den):=by
  have:=ybo a.num b.num (d₁:=a.den) (d₂:=b.den);rw[jt,jt]at this;exact this
 rw[q];simp[Qy,ah,ai,zl0,at0,at1,o1,o3,e,fr]
theorem over_ok(ha:Sz m a)(hb:Sz n b)(h:m+n<8999)(hz:b≠0):zgC [fr a,fr b]=.ok (fr (a / b)):=by
 have o1:Xj a.num b.den=true:=Yp ha.num hb.denI (by omega)
 have o3:Xj a.den b.num=true:=Yp ha.denI hb.num (by omega)
 have hz':b.num≠0:=λz=>hz (ydt.mp z)
 have z:(a.den:Int) * b.num≠0:=jO (Y2 a) hz';have e:=UO (u:=a.num * b.den) (n:=m+n) z (ZA ha.denI hb.num) (by omega)
 have q:a / b=y8 (a.num * b.den) (a.den * b.num):=by
  have:=ybo a.num b.den (d₁:=a.den) (d₂:=b.num);rw[jt,<- Rat.inv_def]at this;rw[ycj];exact this
 rw[q];simp[zgC,ah,ai,d_over,at0,at1,o1,o3,e,fr]
theorem za9(ha:Sz m a)(hb:Sz n b)(h:m+n<8999):Vm [fr a,fr b]=.ok (.bool (decide (a<b))):=by
 have o1:Xj a.num b.den=true:=Yp ha.num hb.denI (by omega)
 have o2:Xj b.num a.den=true:=Yp hb.num ha.denI (by omega)
 simp[Vm,ah,ai,zmc,at0,at1,o1,o2,fr,Rat.lt_iff]
end
theorem isfr_ok(q:Rat):YT [fr q]=.ok (.bool true):=by
 have w:∀i:Int,Vk [.int i]=.ok (.bool true):=λi=>by simp[Vk,ah,ai,zda]
 have hd:¬((q.den:Int)<1):=by have:=q.den_nz;omega
 simp[YT,ah,ai,Qi,Ur,Uq,fr,at0,at1,w,ld_ok,hd,fNe,fEq,zcT]
theorem at_lt{ns:List Int}{k:Int}(h0:0<=k)(h:k<ns.length):∃c:Int,atP (ns.map .int) k=some (.int c):=by
 have hk:k.toNat<ns.length:=by omega
 refine⟨ns[k.toNat],?_⟩;simp[atP,ixP,h0,h,hk]
theorem zct:∀ns:List Int,Wm (.list (ns.map .int))=true:=by
 intro ns;have h1:∀ns:List Int,ya.canLayAll0 (ns.map .int)=true:=by
  intro ns
  induction ns with
  |nil=>simp[ya.canLayAll0]
  |cons n ns ih=>simp[ya.canLayAll0,ya.canLay0,ih]
 have h2:∀ns:List Int,ya.depthAll (ns.map .int)=0:=by
  intro ns
  induction ns with
  |nil=>simp[ya.depthAll]
  |cons n ns ih=>simp[ya.depthAll,ya.depth,ih]
 simp[Wm,ya.canLay0,ya.depth,h1,h2]
theorem eqv_nil(ns:List Int):ya.eqv (.list (ns.map .int)) (.list [])=ns.isEmpty:=by
 cases ns<;>simp[ya.eqv,ya.eqvAll]
theorem zbi:Wm (.list [])=true:=zct []
theorem QF(ns:List Int)(k:Int)(h0:0<=k):∃c:Int,Zy [.list (ns.map .int),.int k]=.ok (.int c):=by
 by_cases h:k<ns.length
 ·obtain⟨c,e⟩:=at_lt h0 h;exact⟨c,by simp[Zy,ah,ai,VX,W2,Us,h,e]⟩
 ·by_cases hz:ns=[]
  ·subst hz;exact⟨0,by
    have z:=zbi;have hk:¬k<0:=by omega
    simp[Zy,ah,ai,VX,W2,fEq,z,hk,ya.eqv,ya.eqvAll]⟩
  ·have hl:(0:Int)<ns.length:=by
    have:ns.length≠0:=by simpa using hz
    omega
   have hf:jS k ns.length=k % ns.length:=ybk _ (by omega)
   obtain⟨c,e⟩:=at_lt (ns:=ns) (k:=k % ns.length) (yb8 _ (by omega)) (yby _ hl)
   have hE:ns.isEmpty=false:=by simpa using hz
   have o:Xj c 31=true:=mulOk_r (by decide)
   refine⟨c * 31+k,?_⟩;simp[Zy,ah,ai,VX,W2,Us,h,fEq,zct,zbi,eqv_nil,hE,hz,hf,e,o]
theorem zgr(c w:Int)(hw:0<=w)(hs:w.natAbs<2 ^ 67):∃r:Int,YD [.int c,.int w]=.ok (.int r)/\-w<=r/\r<=w:=by
 have o:Xj 2 w=true:=zbx (by decide)
 have hm:2 * w+1≠0:=by omega
 have hf:jS c (2 * w+1)=c % (2 * w+1):=ybk _ (by omega)
 have h1:0<=c % (2 * w+1):=yb8 _ hm;have h2:c % (2 * w+1)<2 * w+1:=yby _ (by omega)
 by_cases h:w<c % (2 * w+1)
 ·refine⟨c % (2 * w+1) - 2 * w - 1,?_,by omega,by omega⟩
  simp[YD,ah,ai,Jb,UU,UT,o,hm,hf,h]
 ·refine⟨c % (2 * w+1),?_,by omega,by omega⟩
  simp[YD,ah,ai,Jb,UU,UT,o,hm,hf,h]
theorem lfrac_ok{u l:Int}{n:Nat}(hl:l≠0)(h2:l.natAbs<2 ^ n)(hn:n<9000):Qe [.int u,.int l]=.ok (fr (y8 u l)):=by
 have e:=UO (u:=u) hl h2 hn;rw[<- e];by_cases c:l<0<;>simp[Qe,Xg,ah,ai,zex,zb0,zbZ,zi0,zcl,zck,zcj,fEq,hl,c,zmi,ld_ok]
@[simp] def noD : ya -> Bool
 |.dict _=>false
 |_=>true
theorem WO(t:ya)(h:noD t=true):Yw [t]=.ok (.bool (match t with|.int _=>true|_=>false)):=by
 cases t<;>simp[Yw,ah,ai,zez]at h ⊢
theorem QQ(i:Int):Yw [.int i]=.ok (.bool true):=WO (.int i) rfl
theorem zlC(q:Rat):X3 [fr q]=.ok (.bool true):=by
 have hd:(1:Int)<=(q.den:Int):=by have:=q.den_nz;omega
 simp[X3,ah,ai,zaY,Jf,Je,fr,at0,at1,QQ,zmi,hd,fNe,fEq,zcT]
theorem Vy(w:Int):(ya.tuple [.int w,.int 1])=fr (w:Rat):=by simp[fr]
theorem VJ:(ya.tuple [.int 0,.int 1])=fr 0:=by simp[fr]
theorem zcO{a b:Rat}{m n:Nat}(ha:Sz m a)(hb:Sz n b)(h:m+n<8999):Wp [fr a,fr b]=.ok (.bool (decide (a<b))):=za9 ha hb h
theorem zmv{a b c:Rat}{m n k:Nat}(ha:Sz m a)(hb:Sz n b)(hc:Sz k c)(h:m+n+k<8999):Xb [fr a,fr b,fr c]=.ok (fr (a+c * b)):=by
 have o1:Xj a.num b.den=true:=Yp ha.num hb.denI (by omega)
 have o2:Xj (a.num * b.den) c.den=true:=Yp (ZA ha.num hb.denI) hc.denI (by omega)
 have o3:Xj c.num b.num=true:=Yp hc.num hb.num (by omega)
 have o4:Xj (c.num * b.num) a.den=true:=Yp (ZA hc.num hb.num) ha.denI (by omega)
 have o5:Xj a.den b.den=true:=Yp ha.denI hb.denI (by omega)
 have o6:Xj (a.den * b.den) c.den=true:=Yp (ZA ha.denI hb.denI) hc.denI (by omega)
 have z:(a.den:Int) * b.den * c.den≠0:=jO (jO (Y2 a) (Y2 b)) (Y2 c);have e:=lfrac_ok (u:=a.num * b.den * c.den+c.num * b.num * a.den) (n:=m+n+k) z (ZA (ZA ha.denI hb.denI) hc.denI) (by omega)
 have q:a+c * b=y8 (a.num * b.den * c.den+c.num * b.num * a.den) (a.den * b.den * c.den):=by
  have e1:c * b=y8 (c.num * b.num) (c.den * b.den):=zbw c b;have e2:a=y8 a.num a.den:=(jt a).symm;have e3:=yc4 a.num (c.num * b.num) (Y2 a) (jO (Y2 c) (Y2 b));rw[e1]
  conv=>lhs;rw[e2]
  rw[e3]
  congr 1
  ·rw[yce a.num,qX (b.den:Int)]
  ·rw[yce,qX (b.den:Int)]
 rw[q];simp[Xb,ah,ai,zgM,at0,at1,atP,ixP,o1,o2,o3,o4,o5,o6,e,fr]
def dot:List Int->List Rat->Rat
 |w::ws,p::ps=>(w:Rat) * p+dot ws ps
 |_,_=>0
theorem JD:∀(ws:List Int) (ps:List Rat) (i:Nat) (w:Int) (p:Rat),ws[i]? = some w->ps[i]? = some p->dot (ws.take (i+1)) (ps.take (i+1))=dot (ws.take i) (ps.take i)+(w:Rat) * p
 |w::ws,p::ps,0,w',p',h1,h2=>by
  simp at h1 h2;subst h1;subst h2;simp[dot,Rat.add_comm]
 |w::ws,p::ps,i+1,w',p',h1,h2=>by
  simp at h1 h2;have ih:=JD ws ps i w' p' h1 h2;simp only[List.take_succ_cons,dot];rw[ih,Rat.add_assoc]
 |[],_,i,w',p',h1,h2=>by simp at h1
 |_::_,[],i,w',p',h1,h2=>by simp at h2
structure WP(m n:Nat)(ws:List Int)(ps:List Rat):Prop where
 w:∀x∈ws,x.natAbs<2 ^ m
 p:∀x∈ps,Sz n x
 m1:0<m
 len:ws.length=ps.length
def wSz(m n i:Nat):Nat:=1+i * (m+n+1)
theorem WP.sz{m n:Nat}{ws:List Int}{ps:List Rat}(h:WP m n ws ps):∀i,i<=ps.length->Sz (wSz m n i) (dot (ws.take i) (ps.take i))
 |0,_=>by simpa[dot,wSz] using Sz.zero
 |i+1,hi=>by
  have hw:i<ws.length:=by rw[h.len];exact hi
  have hp:i<ps.length:=hi;rw[JD ws ps i ws[i] ps[i] (by simp[hw]) (by simp[hp])]
  have s1:=h.sz i (Nat.le_of_succ_le hi);have s2:=(Sz.ofInt (h.w _ (yT hw)) h.m1).mul (h.p _ (yT hp));have:=s1.add s2;refine this.mono ?_;simp only[wSz,ycf];omega
theorem XI{α:Type}{f:α->ya}{xs:List α}{i:Nat}(h:i<xs.length):atP (xs.map f) (i:Int)=some (f xs[i]):=by
 simp[atP,ixP,h]
theorem zap{m n i j:Nat}(h:i<=j):wSz m n i<=wSz m n j:=by
 unfold wSz;have:=Nat.mul_le_mul_right (m+n+1) h;omega
def zjL(t:ya)(xs:List ya):Prop:=t=.list xs\/t=.tuple xs
def zg4:DS:=aj 2 [] (Zj Xb (Zc (aa 2) (Zc (d2 ag (aa 1) (aa 3)) (Zc (au (Zc (d2 ag (aa 0) (aa 3)) (Zc (dC (.int 1)) ac))) ac))))
theorem zjc{m n:Nat}{ws:List Int}{ps:List Rat}{t:ya}(ht:zjL t (ws.map .int))(h:WP m n ws ps)(hb:wSz m n ps.length+m+n<8000)(i:Nat)(hi:i<ps.length):
  zg4 [.val t,.val (.list (ps.map fr)),.val (fr (dot (ws.take i) (ps.take i))),.val (.int i)]=.ok (.nx [.val t,.val (.list (ps.map fr)),.val (fr (dot (ws.take (i+1)) (ps.take (i+1)))),.val (.int i)]):=by
 have hw:i<ws.length:=by rw[h.len];exact hi
 have s1:=h.sz i (jB hi);have s2:=h.p _ (yT hi);have s3:=Sz.ofInt (h.w _ (yT hw)) h.m1;have l1:=zap (m:=m) (n:=n) (jB hi);have a:=zmv s1 s2 s3 (by omega)
 have i1:atP (ps.map fr) (i:Int)=some (fr ps[i]):=XI hi;have i2:atP (ws.map .int) (i:Int)=some (.int ws[i]):=XI hw;rw[JD ws ps i ws[i] ps[i] (by simp[hw]) (by simp[hi])]
 rcases ht with rfl|rfl<;>simp[zg4,i1,i2,Vy,a]
theorem zjd{m n:Nat}{ws:List Int}{ps:List Rat}{t:ya}(ht:zjL t (ws.map .int))(h:WP m n ws ps)(hb:wSz m n ps.length+m+n<8000):
  ∃s,forL (Zt 3) zg4 (aw 0 ps.length) [.val t,.val (.list (ps.map fr)),.val (fr 0),.emp]=.ok (.nx [.val t,.val (.list (ps.map fr)),.val (fr (dot ws ps)),s]):=by
 obtain⟨G',e,hG⟩:=zbA (st:=Zt 3) (b:=zg4) (n:=ps.length) (G:=[.val t,.val (.list (ps.map fr)),.val (fr 0),.emp]) (λi G=>∃s,G=[.val t,.val (.list (ps.map fr)),.val (fr (dot (ws.take i) (ps.take i))),s]) ⟨.emp,by simp[dot]⟩ λi G hi ⟨s,hG⟩=>by
   subst hG;exact⟨_,rfl,_,.inl (zjc ht h hb i hi),⟨_,rfl⟩⟩
 obtain⟨s,rfl⟩:=hG;have e1:dot (ws.take ps.length) (ps.take ps.length)=dot ws ps:=by rw[jd,<- h.len,jd]
 rw[e1]at e;exact⟨s,e⟩
theorem Jn{m n:Nat}{ws:List Int}{ps:List Rat}{t:ya}(ht:zjL t (ws.map .int))(h:WP m n ws ps)(hb:wSz m n ps.length+m+n<8000)(hl:ps.length<1000):Yg [t,.list (ps.map fr)]=.ok (fr (dot ws ps)):=by
 obtain⟨s,e⟩:=zjd ht h hb;have hl2:=Yn (n:=ps.length) (by omega)
 simp only[zg4]at e;simp[Yg,ah,ai,zdb,zaS,zaR,VJ,hl2,e]
theorem WN{α β:Type}{f:α->ya}{g:β->ya}:∀(xs:List α) (ys:List β),zipT (xs.map f) (ys.map g)=(xs.zip ys).map λp=>.tuple [f p.1,g p.2]
 |[],ys=>by simp[zipT]
 |x::xs,[]=>by simp[zipT]
 |x::xs,y::ys=>by simp[zipT,WN xs ys]
theorem UW{m n:Nat}{ws:List Int}{ps:List Rat}{t:ya}(ht:zjL t (ws.map .int))(h:WP m n ws ps)(hb:wSz m n ps.length+m+n<8000):Xa [t,.list (ps.map fr)]=.ok (fr (dot ws ps)):=by
 obtain⟨G',e,hG⟩:=Vr (st:=Uv 3 4) (b:=aj 2 [] (Zj UD (Zc (aa 2) (Zc (Zj Xg (Zc (d2 aA (aa 3) (d2 ag (aa 4) (dC (.int 0)))) (Zc (d2 ag (aa 4) (dC (.int 1))) ac))) ac))))
  (λi G=>∃s s',G=[.val t,.val (.list (ps.map fr)),.val (fr (dot (ws.take i) (ps.take i))),s,s']) (zipT (ws.map .int) (ps.map fr)) 0 [.val t,.val (.list (ps.map fr)),.val (fr 0),.emp,.emp] ⟨.emp,.emp,by simp[dot]⟩ λi x G hx ⟨s,s',hG⟩=>by
   rw[q9] at *
   subst hG;rw[WN,jb]at hx;cases hz:(ws.zip ps)[i]? with
   |none=>rw[hz]at hx;cases hx
   |some p=>
    rw[hz]at hx;simp at hx;subst hx;obtain⟨w1,p1⟩:=p;obtain⟨h1,h2⟩:=yd5.mp hz;have hi:i<ps.length:=(yV.mp h2).1;have s1:=h.sz i (jB hi);have s2:=h.p _ (qb h2);have s3:=h.w _ (qb h1);have l1:=zap (m:=m) (n:=n) (jB hi);have o1:Xj w1 p1.num=true:=Yp s3 s2.num (by omega)
    have e1:=UO (u:=w1 * p1.num) (l:=p1.den) (n:=n) (Y2 p1) s2.denI (by omega)
    have q1:y8 (w1 * p1.num) p1.den=(w1:Rat) * p1:=by
     rw[zbw];simp
    rw[q1]at e1;have e2:=ze7 s1 ((Sz.ofInt s3 h.m1).mul s2) (by omega)
    refine⟨_,rfl,[.val t,.val (.list (ps.map fr)),.val (fr (dot (ws.take (i+1)) (ps.take (i+1)))),.val (.int w1),.val (fr p1)],.inl ?_,⟨_,_,rfl⟩⟩;rw[JD ws ps i w1 p1 h1 h2];have f1:fr p1=.tuple [.int p1.num,.int p1.den]:=rfl;simp[f1,at0,at1,o1,e1,e2]
 obtain⟨s,s',rfl⟩:=hG;have el:(zipT (ws.map ya.int) (ps.map fr)).length=ps.length:=by rw[WN];simp[h.len]
 have e1:dot (ws.take ps.length) (ps.take ps.length)=dot ws ps:=by rw[jd,<- h.len,jd]
 rw[q9,el,e1]at e;rcases ht with rfl|rfl<;>simp[Xa,ah,ai,ziQ,zeq,zep,VJ,e]
abbrev Lim:=List Int×Int
def ao(l:Lim):ya:=.tuple [.list (l.1.map .int),.int l.2]
def aq(l:Lim):ya:=.tuple [.tuple (l.1.map .int),.int l.2]
theorem zaH{c:Int}{n:Nat}(h:0<n):∃r:Nat,jS c (n:Int)=(r:Int)/\r<n:=by
 rw[ybk _ (by omega)]
 have h1:=yb8 c (b:=(n:Int)) (by omega)
 have h2:=yby c (b:=(n:Int)) (by omega)
 exact⟨(c % n).toNat,by omega,by omega⟩
theorem ziA{i:Int}(h:i.natAbs<=999999999999):Wq [.int i]=.ok (.bool true):=by
 have:(if i<0 then -i else i)<=999999999999:=by split<;>omega
 simp[Wq,ah,ai,zdh,QQ,this]
theorem zba{α:Type}:∀(xs:List α),allT (xs.map λ_=>ya.bool true)=.ok true
 |[]=>rfl
 |_::xs=>by simp[allT,zba xs]
structure LimOk(k w:Nat)(l:Lim):Prop where
 len:l.1.length=k
 ws:∀x∈l.1,x.natAbs<=w
 bd:l.2.natAbs<=w
theorem zgG{α:Type}{f:α->ya}:∀(xs:List α) (n:Nat),zcY n (xs.map f)=(xs.zipIdx n).map λp=>.tuple [.int (p.2:Int),f p.1]
 |[],n=>rfl
 |x::xs,n=>by simp[zcY,zgG xs (n+1)]
def zbL(ls:List Lim)(ps:List Rat):List ya:=((ls.zipIdx).filter λp=>decide (dot p.1.1 ps=(p.1.2:Rat))).map λp=>.int (p.2:Int)
section
variable {k w:Nat}{ls:List Lim}{ps:List Rat}
theorem mem_zipIdx{α:Type}{xs:List α}{n:Nat}{p:α×Nat}(h:p∈xs.zipIdx n):p.1∈xs:=by
 have:=List.mem_zipIdx h;rw[this.2.2];exact yT _
end
def QL:DS:=(ak (dC (.bool true)))
def QM:DS:=
  ad (dFor (Zt 2) [] (av (aa 0)) (aE (aC (tV (Zj YT (Zc (aa 2) ac)))) (ak (dC (.bool false))) ZH)) QL
def JP:DS:=
  ad (aE (tOr (aC (tV (d1 (fIs isList) (aa 0)))) (tV (d2 fNe (d1 aB (aa 0)) (aa 1)))) (ak (dC (.bool false))) ZH) QM
def Ya:DF:=ah 3 2 JP
def QD:DS:=(ak (dC (.bool true)))
def zam:DS:=
  ad (dFor (Zt 2) [] (av (aa 0)) (aE (tV (Zj Wp (Zc (au (Zc (d2 ag (aa 2) (dC (.int 1))) (Zc (dC (.int 1)) ac))) (Zc (Zj Yg (Zc (d2 ag (aa 2) (dC (.int 0))) (Zc (aa 1) ac))) ac)))) (ak (dC (.bool false))) ZH)) QD
def Yh:DF:=ah 3 2 zam
def UH:DS:=(ak (dC (.bool true)))
def UI:DS:=
  ad (dFor (Zt 2) [] (av (aa 0)) (aE (tV (d2 fLt (d2 ag (aa 2) (dC (.int 0))) (dC (.int 0)))) (ak (dC (.bool false))) ZH)) UH
def QN:DS:=
  ad (aE (aC (tV (Zj Ya (Zc (aa 0) (Zc (aa 1) ac))))) (ak (dC (.bool false))) ZH) UI
def Yk:DF:=ah 3 2 QN
def zaT:DS:=(ak (au (Zc (aa 3) (Zc (aa 4) ac))))
def zaU:DS:=
  ad (dFor (Zt 5) [] (iRng (d1 aB (aa 0))) (ad (dFor (Zt 6) [] (iRng (aa 2)) (VS 3 [] (aa 6) (Zj Xb (Zc (dIxN 3 (aa 6)) (Zc (d2 ag (aa 1) (aa 5)) (Zc (au (Zc (d2 ag (d2 ag (d2 ag (aa 0) (aa 5)) (dC (.int 0))) (aa 6)) (Zc (dC (.int 1)) ac))) ac)))))) (aj 4 [] (Zj Xb (Zc (aa 4) (Zc (d2 ag (aa 1) (aa 5)) (Zc (au (Zc (d2 ag (d2 ag (aa 0) (aa 5)) (dC (.int 1))) (Zc (dC (.int 1)) ac))) ac))))))) zaT
def zaV:DS:=
  ad (aj 4 [] (au (Zc (dC (.int 0)) (Zc (dC (.int 1)) ac)))) zaU
def zdc:DS:=
  ad (zan 3 [] (Y4 1 [] (Zt 0) (iRng (aa 2)) tT (au (Zc (dC (.int 0)) (Zc (dC (.int 1)) ac))))) zaV
def Xt:DF:=ah 7 3 zdc
def Jc:DS:=(ak (za6 (d2 fEq (d2 ag (aa 3) (dC (.int 0))) (dL (Y4 1 [] (Zt 0) (iRng (aa 2)) tT (au (Zc (dC (.int 0)) (Zc (dC (.int 1)) ac)))))) (d2 fLt (d2 ag (d2 ag (aa 3) (dC (.int 1))) (dC (.int 0))) (dC (.int 0)))))
def Jd:DS:=
  ad (aj 3 [] (Zj Xt (Zc (aa 0) (Zc (aa 1) (Zc (aa 2) ac))))) Jc
def zaX:DS:=
  ad (aE (aC (tV (Zj Yk (Zc (aa 1) (Zc (d1 aB (aa 0)) ac))))) (ak (dC (.bool false))) ZH) Jd
def YM:DF:=ah 4 3 zaX
theorem Vi{ps:List Rat}{k:Nat}(h:ps.length=k):Ya [.list (ps.map fr),.int k]=.ok (.bool true):=by
 obtain⟨G',e,hG⟩:=Vr (st:=Zt 2) (b:=(aE (aC (tV (Zj YT (Zc (aa 2) ac)))) (ak (dC (.bool false))) ZH))
  (λ_ G=>∃s,G=[.val (.list (ps.map fr)),.val (.int k),s]) (ps.map fr) 0 [.val (.list (ps.map fr)),.val (.int k),.emp] ⟨.emp,rfl⟩ λi x G hx ⟨s,hG⟩=>by
   subst hG;rw[jb]at hx;cases hz:ps[i]? with
   |none=>rw[hz]at hx;cases hx
   |some q=>
    rw[hz]at hx;cases hx;exact⟨_,rfl,[.val (.list (ps.map fr)),.val (.int k),.val (fr q)],.inl (by simp[isfr_ok]),⟨_,rfl⟩⟩
 obtain⟨s,rfl⟩:=hG;simp[Ya,ah,ai,JP,QM,QL,fNe,h,e]
theorem zcg{m n k:Nat}{ls:List Lim}{ps:List Rat}(h:∀l∈ls,WP m n l.1 ps)(hs:∀l∈ls,l.2.natAbs<2 ^ m)(hb:wSz m n ps.length+m+n<8000)(hl:ps.length<1000)(hk:∀l∈ls,dot l.1 ps<=(l.2:Rat)):
  Yh [.list (ls.map ao),.list (ps.map fr)]=.ok (.bool true):=by
 obtain⟨G',e,hG⟩:=Vr (st:=Zt 2) (b:=(aE (tV (Zj Wp (Zc (au (Zc (d2 ag (aa 2) (dC (.int 1))) (Zc (dC (.int 1)) ac))) (Zc (Zj Yg (Zc (d2 ag (aa 2) (dC (.int 0))) (Zc (aa 1) ac))) ac)))) (ak (dC (.bool false))) ZH))
  (λ_ G=>∃s,G=[.val (.list (ls.map ao)),.val (.list (ps.map fr)),s]) (ls.map ao) 0 [.val (.list (ls.map ao)),.val (.list (ps.map fr)),.emp] ⟨.emp,rfl⟩ λi x G hx ⟨s,hG⟩=>by
   subst hG;rw[jb]at hx;cases hz:ls[i]? with
   |none=>rw[hz]at hx;cases hx
   |some l=>
    rw[hz]at hx;cases hx;have hm:=qb hz;have w:=Jn (.inl rfl) (h l hm) hb hl;have s1:=(h l hm).sz ps.length (yu _);have e1:dot (l.1.take ps.length) (ps.take ps.length)=dot l.1 ps:=by rw[jd,<- (h l hm).len,jd]
    rw[e1]at s1;have b:=zcO (Sz.ofInt (hs l hm) (h l hm).m1) s1 (by omega)
    have nb:¬((l.2:Rat)<dot l.1 ps):=qD.mpr (hk l hm);exact⟨_,rfl,[.val (.list (ls.map ao)),.val (.list (ps.map fr)),.val (ao l)],.inl (by simp[ao,at0,at1,w,Vy,b,nb]),⟨_,rfl⟩⟩
 obtain⟨s,rfl⟩:=hG;simp[Yh,ah,ai,zam,QD,e]
theorem QH{ss:List Rat}{k:Nat}(h:ss.length=k)(hn:∀s∈ss,0<=s):Yk [.list (ss.map fr),.int k]=.ok (.bool true):=by
 obtain⟨G',e,hG⟩:=Vr (st:=Zt 2) (b:=(aE (tV (d2 fLt (d2 ag (aa 2) (dC (.int 0))) (dC (.int 0)))) (ak (dC (.bool false))) ZH))
  (λ_ G=>∃s,G=[.val (.list (ss.map fr)),.val (.int k),s]) (ss.map fr) 0 [.val (.list (ss.map fr)),.val (.int k),.emp] ⟨.emp,rfl⟩ λi x G hx ⟨s,hG⟩=>by
   subst hG;rw[jb]at hx;cases hz:ss[i]? with
   |none=>rw[hz]at hx;cases hx
   |some q=>
    rw[hz]at hx;cases hx;have z:¬(q.num<0):=by
     have:=ycc.mpr (hn q (qb hz));omega
    exact⟨_,rfl,[.val (.list (ss.map fr)),.val (.int k),.val (fr q)],.inl (by simp[fr,at0,z]),⟨_,rfl⟩⟩
 obtain⟨s,rfl⟩:=hG;simp[Yk,ah,ai,QN,UI,UH,Vi h,e]
def colN(j:Nat)(l:Lim):Int:=l.1.getD j 0
def colS(ls:List Lim)(ss:List Rat)(i j:Nat):Rat:=dot ((ls.map (colN j)).take i) (ss.take i)
def bndS(ls:List Lim)(ss:List Rat)(i:Nat):Rat:=dot ((ls.map (·.2)).take i) (ss.take i)
def taken(ls:List Lim)(ss:List Rat)(k:Nat):List Rat:=(y4 k).map λj=>dot (ls.map (colN j)) ss
def Xm(ls:List Lim)(ss:List Rat):Rat:=dot (ls.map (·.2)) ss
theorem zcz{α:Type}(f:Nat->α)(k j:Nat)(v:α):((y4 k).map f).set j v=(y4 k).map λi=>if i=j then v else f i:=by
 apply yb5
 ·simp
 ·intro n h1 h2;simp at h1 h2 ⊢;rw[List.getElem_set];by_cases e:j=n
  ·subst e;simp
  ·simp[e,Ne.symm e]
structure TK(m n k:Nat)(ls:List Lim)(ss:List Rat):Prop where
 len:ls.length=ss.length
 wl:∀l∈ls,l.1.length=k
 w:∀l∈ls,∀x∈l.1,x.natAbs<2 ^ m
 b:∀l∈ls,l.2.natAbs<2 ^ m
 p:∀s∈ss,Sz n s
 m1:0<m
 sz:wSz m n ss.length+m+n<8000
 ll:ss.length<1000
 kl:k<1000
theorem TK.wp{m n k:Nat}{ls:List Lim}{ss:List Rat}(h:TK m n k ls ss)(j:Nat):WP m n (ls.map (colN j)) ss:=by
 refine⟨λx hx=>?_,h.p,h.m1,by simpa using h.len⟩
 obtain⟨l,hl,rfl⟩:=yR.mp hx;unfold colN;rw[y9];cases e:l.1[j]? with
 |none=>simpa using Nat.two_pow_pos m
 |some y=>exact h.w l hl y (qb e)
theorem TK.wpb{m n k:Nat}{ls:List Lim}{ss:List Rat}(h:TK m n k ls ss):WP m n (ls.map (·.2)) ss:=by
 refine⟨λx hx=>?_,h.p,h.m1,by simpa using h.len⟩
 obtain⟨l,hl,rfl⟩:=yR.mp hx;exact h.b l hl
def bCol:DS:=(VS 3 [] (aa 6) (Zj Xb (Zc (dIxN 3 (aa 6)) (Zc (d2 ag (aa 1) (aa 5)) (Zc (au (Zc (d2 ag (d2 ag (d2 ag (aa 0) (aa 5)) (dC (.int 0))) (aa 6)) (Zc (dC (.int 1)) ac))) ac)))))
def bTak:DS:=(ad (dFor (Zt 6) [] (iRng (aa 2)) (VS 3 [] (aa 6) (Zj Xb (Zc (dIxN 3 (aa 6)) (Zc (d2 ag (aa 1) (aa 5)) (Zc (au (Zc (d2 ag (d2 ag (d2 ag (aa 0) (aa 5)) (dC (.int 0))) (aa 6)) (Zc (dC (.int 1)) ac))) ac)))))) (aj 4 [] (Zj Xb (Zc (aa 4) (Zc (d2 ag (aa 1) (aa 5)) (Zc (au (Zc (d2 ag (d2 ag (aa 0) (aa 5)) (dC (.int 1))) (Zc (dC (.int 1)) ac))) ac))))))
section
variable {m n k:Nat}{ls:List Lim}{ss:List Rat}
theorem TK.col_step(h:TK m n k ls ss){i j:Nat}(hi:i<ss.length)(hj:j<k)(f:Nat->Rat)(hf:f j=colS ls ss i j)(s4 s6:Sl):
  bCol [.val (.list (ls.map ao)),.val (.list (ss.map fr)),.val (.int k),.own ((y4 k).map λj=>fr (f j)),s4,.val (.int i),.val (.int j)]
   = .ok (.nx [.val (.list (ls.map ao)),.val (.list (ss.map fr)),.val (.int k),.own ((y4 k).map λj'=>fr (if j'=j then colS ls ss (i+1) j else f j')),s4,.val (.int i),.val (.int j)]):=by
 have hl:i<ls.length:=by rw[h.len];exact hi
 have hw:=h.wl _ (yT hl);have wp:=h.wp j;have s1:=wp.sz i (jB hi);have s2:=h.p _ (yT hi);have hj':j<ls[i].1.length:=by omega
 have ec:colN j ls[i]=ls[i].1[j]:=by simp[colN,hj']
 have s3:=Sz.ofInt (h.w _ (yT hl) _ (yT hj')) h.m1;have l1:=zap (m:=m) (n:=n) (jB hi);have l2:=h.sz;have a:=zmv s1 s2 s3 (by omega)
 have i1:atP (ss.map fr) (i:Int)=some (fr ss[i]):=XI hi;have i2:atP (ls.map ao) (i:Int)=some (ao ls[i]):=XI hl;have i3:atP (ls[i].1.map .int) (j:Int)=some (.int ls[i].1[j]):=XI hj';have i4:atP ((y4 k).map λj=>fr (f j)) (j:Int)=some (fr (f j)):=by
  have:=XI (f:=λj=>fr (f j)) (xs:=y4 k) (i:=j) (by simpa using hj)
  simpa using this
 have i5:ixP k (j:Int)=some j:=by simp[ixP,hj]
 have st:=JD (ls.map (colN j)) ss i (colN j ls[i]) ss[i] (by simp[hl]) (by simp[hi])
 have e1:colS ls ss (i+1) j=f j+(ls[i].1[j]:Rat) * ss[i]:=by rw[hf,<- ec];exact st
 have a':Xb [fr (f j),fr ss[i],fr (ls[i].1[j]:Rat)]=.ok (fr (f j+(ls[i].1[j]:Rat) * ss[i])):=by rw[hf];exact a
 have rs:((y4 k).map λj=>fr (f j)).set j (fr (f j+(ls[i].1[j]:Rat) * ss[i]))=(y4 k).map λj'=>fr (if j'=j then colS ls ss (i+1) j else f j'):=by
  rw[zcz,e1];apply jD;intro j' _;split<;>rfl
 simp[bCol,i1,i2,i4,i5,ao,at0,i3,Vy,a',rs]
theorem TK.col_loop(h:TK m n k ls ss){i:Nat}(hi:i<ss.length)(s4 s6:Sl):∃s6',
  forL (Zt 6) bCol (aw 0 k) [.val (.list (ls.map ao)),.val (.list (ss.map fr)),.val (.int k),.own ((y4 k).map λj=>fr (colS ls ss i j)),s4,.val (.int i),s6]
   = .ok (.nx [.val (.list (ls.map ao)),.val (.list (ss.map fr)),.val (.int k),.own ((y4 k).map λj=>fr (colS ls ss (i+1) j)),s4,.val (.int i),s6']):=by
 obtain⟨G',e,hG⟩:=zbA (st:=Zt 6) (b:=bCol) (n:=k) (G:=[.val (.list (ls.map ao)),.val (.list (ss.map fr)),.val (.int k),.own ((y4 k).map λj=>fr (colS ls ss i j)),s4,.val (.int i),s6])
  (λj G=>∃s,G=[.val (.list (ls.map ao)),.val (.list (ss.map fr)),.val (.int k),.own ((y4 k).map λj'=>fr (if j' < j then colS ls ss (i+1) j' else colS ls ss i j')),s4,.val (.int i),s]) ⟨s6,by simp⟩ λj G hj ⟨s,hG⟩=>by
   subst hG;refine⟨_,rfl,_,.inl (h.col_step hi hj (λj'=>if j' < j then colS ls ss (i+1) j' else colS ls ss i j') (by simp) s4 s6),⟨.val (.int j),?_⟩⟩
   congr 4
   apply congrArg;apply jD;intro j' _
   congr 1
   by_cases e1:j'=j
   ·subst e1;simp
   ·by_cases e2:j' < j
    ·simp[e1,e2,ydh e2]
    ·have:¬(j' < j+1):=by omega
     simp[e1,e2,this]
 obtain⟨s,rfl⟩:=hG;refine⟨s,?_⟩;rw[e]
 congr 6
 apply congrArg;apply jD;intro j' hj';have:j' < k:=by simpa using hj'
 simp[this]
theorem TK.tak_step(h:TK m n k ls ss){i:Nat}(hi:i<ss.length)(s6:Sl):∃s6',
  bTak [.val (.list (ls.map ao)),.val (.list (ss.map fr)),.val (.int k),.own ((y4 k).map λj=>fr (colS ls ss i j)),.val (fr (bndS ls ss i)),.val (.int i),s6]
   = .ok (.nx [.val (.list (ls.map ao)),.val (.list (ss.map fr)),.val (.int k),.own ((y4 k).map λj=>fr (colS ls ss (i+1) j)),.val (fr (bndS ls ss (i+1))),.val (.int i),s6']):=by
 obtain⟨s6',e⟩:=h.col_loop hi (.val (fr (bndS ls ss i))) s6;refine⟨s6',?_⟩;have hl:i<ls.length:=by rw[h.len];exact hi
 have s1:=h.wpb.sz i (jB hi);have s2:=h.p _ (yT hi);have s3:=Sz.ofInt (h.b _ (yT hl)) h.m1;have l1:=zap (m:=m) (n:=n) (jB hi);have l2:=h.sz;have a:=zmv s1 s2 s3 (by omega)
 have i1:atP (ss.map fr) (i:Int)=some (fr ss[i]):=XI hi;have i2:atP (ls.map ao) (i:Int)=some (ao ls[i]):=XI hl;have st:=JD (ls.map (·.2)) ss i ls[i].2 ss[i] (by simp[hl]) (by simp[hi])
 have e1:bndS ls ss (i+1)=bndS ls ss i+(ls[i].2:Rat) * ss[i]:=st;have a':Xb [fr (bndS ls ss i),fr ss[i],fr (ls[i].2:Rat)]=.ok (fr (bndS ls ss (i+1))):=by rw[e1];exact a
 have hr:=Yn (n:=k) (by have:=h.kl;omega)
 simp only[bCol]at e;simp[bTak,hr,e,i1,i2,ao,at1,Vy,a']
theorem zeM(h:TK m n k ls ss):Xt [.list (ls.map ao),.list (ss.map fr),.int k]=.ok (.tuple [.list ((taken ls ss k).map fr),fr (Xm ls ss)]):=by
 have h0:((y4 k).map λj=>fr (colS ls ss 0 j))=(y4 k).map λ_=>fr 0:=by simp[colS,dot]
 obtain⟨G',e,hG⟩:=zbA (st:=Zt 5) (b:=bTak) (n:=ss.length) (G:=[.val (.list (ls.map ao)),.val (.list (ss.map fr)),.val (.int k),.own ((y4 k).map λj=>fr 0),.val (fr 0),.emp,.emp])
  (λi G=>∃s s',G=[.val (.list (ls.map ao)),.val (.list (ss.map fr)),.val (.int k),.own ((y4 k).map λj=>fr (colS ls ss i j)),.val (fr (bndS ls ss i)),s,s']) ⟨.emp,.emp,by rw[h0];simp[bndS,dot]⟩ λi G hi ⟨s,s',hG⟩=>by
   subst hG;obtain⟨s6',e⟩:=h.tak_step hi s';exact⟨_,rfl,_,.inl e,⟨_,_,rfl⟩⟩
 obtain⟨s,s',rfl⟩:=hG;have hr:=Yn (n:=k) (by have:=h.kl;omega)
 have hr2:=Yn (n:=ss.length) (by have:=h.ll;omega)
 have hk:k<=16777216:=by have:=h.kl;omega
 have ec:∀j,colS ls ss ss.length j=dot (ls.map (colN j)) ss:=λj=>by
  unfold colS;have:(ls.map (colN j)).length=ss.length:=by simpa using h.len
  rw[jd,<- this,jd]
 have eb:bndS ls ss ss.length=Xm ls ss:=by
  unfold bndS Xm;have:(ls.map (·.2)).length=ss.length:=by simpa using h.len
  rw[jd,<- this,jd]
 have cm:=zdu (st:=Zt 0) (e:=(au (Zc (dC (.int 0)) (Zc (dC (.int 1)) ac)))) (C:=[.emp]) (λ_=>fr 0) (aw 0 k) λt _=>⟨[.val t],rfl,by simp[VJ]⟩
 have cm2:(aw 0 k).map (λ_=>fr 0)=(y4 k).map λ_=>fr 0:=by simp[aw]
 rw[cm2]at cm;simp only[bTak]at e;simp only[ec,eb]at e;have et:(y4 k).map (λj=>fr (dot (ls.map (colN j)) ss))=(taken ls ss k).map fr:=by simp[taken]
 rw[et]at e;have hr3:=hr2;rw[<- h.len]at hr3 e;simp[Xt,ah,ai,zdc,zaV,zaU,zaT,hr,XZ,hk,cm,VJ,hr3,e]
theorem zbF(h:TK m n k ls ss)(hn:∀s∈ss,0<=s)(hz:∀j,j<k->dot (ls.map (colN j)) ss=0)(hb:Xm ls ss<0):YM [.list (ls.map ao),.list (ss.map fr),.int k]=.ok (.bool true):=by
 have t:=zeM h;have ez:(taken ls ss k).map fr=(y4 k).map λ_=>fr 0:=by
  unfold taken;rw[jf];apply jD;intro j hj;simp[hz j (by simpa using hj)]
 rw[ez]at t;have sh:=QH (k:=ls.length) h.len.symm hn;have hr:=Yn (n:=k) (by have:=h.kl;omega)
 have hk:k<=16777216:=by have:=h.kl;omega
 have cm:=zdu (st:=Zt 0) (e:=(au (Zc (dC (.int 0)) (Zc (dC (.int 1)) ac)))) (C:=[.emp]) (λ_=>fr 0) (aw 0 k) λt _=>⟨[.val t],rfl,by simp[VJ]⟩
 have cm2:(aw 0 k).map (λ_=>fr 0)=(y4 k).map λ_=>fr 0:=by simp[aw]
 rw[cm2]at cm;have eq:=ziK (t:=.list ((y4 k).map λ_=>fr 0)) (Jp λ_ _=>zbI 0) (by decide)
 have nb:(Xm ls ss).num<0:=by
  have:=mt ycc.mp (Rat.not_le.mpr hb);omega
 have nb':fr (Xm ls ss)=.tuple [.int (Xm ls ss).num,.int (Xm ls ss).den]:=rfl;simp[YM,ah,ai,zaX,Jd,Jc,sh,t,at0,at1,hr,XZ,hk,cm,eq,VJ,nb',nb]
end
def JV:List Sl->Nat:=λ_=>1000000000000
def ziS:DS:=(ak (aa 2))
def ziT:DS:=
  ad (VS 2 [] (aa 1) (dC (.int 1))) ziS
def d_unit:DS:=
  ad (zan 2 [] (oRep (oLst (Zc (dC (.int 0)) ac)) (aa 0))) ziT
def zem:DF:=ah 3 2 d_unit
def zeu:DS:=(ak (d2 aF (dL (Y4 1 [] (Zt 0) (av (d2 ag (aa 0) (dC (.int 0)))) tT (d1 fNeg (aa 0)))) (dLst (Zc (d2 ag (aa 0) (dC (.int 1))) ac))))
def Uc:DF:=ah 1 1 zeu
def Jg:DS:=(ak (dMk ["heads","divisor","rows"] (Zc (dL (zjD (iRng (aa 2)))) (Zc (dC (.int 1)) (Zc (d2 aF (d2 aF (aa 3) (aa 4)) (dLst (Zc (d2 aF (aa 1) (dLst (Zc (dC (.int 0)) ac))) ac))) ac)))))
def Jh:DS:=
  ad (aj 4 [] (dL (Y4 1 [] (Zt 0) (av (d2 ag (aa 0) (dC (.int 1)))) tT (Zj Uc (Zc (aa 0) ac))))) Jg
def Jj:DS:=
  ad (aj 3 [] (dL (Y4 1 [2] (Zt 0) (iRng (aa 2)) tT (Zj zem (Zc (d2 aF (aa 1) (dC (.int 1))) (Zc (aa 0) ac)))))) Jh
def zaZ:DS:=
  ad (aj 2 [] (d2 ag (aa 0) (dC (.int 0)))) Jj
def X4:DF:=ah 5 2 zaZ
def zes:DS:=(ak (dL (zjD (iRng2 (d1 aB (d1 (ay "heads") (aa 0))) (d2 fSub (d1 aB (d1 (ay "rows") (aa 0))) (dC (.int 1)))))))
def Y8:DF:=ah 1 1 zes
def QY:DS:=(ak (aa 6))
def QZ:DS:=
  ad (VS 6 [] (aa 2) (aa 5)) QY
def Q0:DS:=
  ad (zan 6 [] (Y4 2 [4,5,3] (Uv 0 1) (iZip (av (aa 0)) (av (aa 1))) tT (d2 fDiv (d2 fSub (d2 aA (aa 2) (aa 0)) (d2 aA (aa 3) (aa 1))) (aa 4)))) QZ
def Q1:DS:=
  ad (aj 5 [] (dIfE (tV (d2 fGt (d2 ag (aa 1) (aa 2)) (dC (.int 0)))) (d2 ag (aa 0) (aa 2)) (d1 fNeg (d2 ag (aa 0) (aa 2))))) Q0
def zaO:DS:=
  ad (aj 4 [] (d1 fAbs (d2 ag (aa 1) (aa 2)))) Q1
def X0:DF:=ah 7 4 zaO
def zc2:DS:=(ak (dMk ["heads","divisor","rows"] (Zc (aa 4) (Zc (d1 fAbs (d2 ag (aa 3) (aa 2))) (Zc (aa 5) ac)))))
def zc3:DS:=
  ad (aj 5 [] (dL (Y4 1 [3,2,0] (Zt 0) (av (d1 (ay "rows") (aa 0))) tT (Zj X0 (Zc (aa 0) (Zc (aa 1) (Zc (aa 2) (Zc (d1 (ay "divisor") (aa 3)) ac)))))))) zc2
def zc4:DS:=
  ad (VS 4 [] (aa 2) (aa 1)) zc3
def zc5:DS:=
  ad (zan 4 [] (zfi (d1 (ay "heads") (aa 0)))) zc4
def zgK:DS:=
  ad (aj 3 [] (d2 ag (d1 (ay "rows") (aa 0)) (aa 1))) zc5
def Xv:DF:=ah 6 3 zgK
def Qj:DS:=(ak (dC .none))
def Uu:DS:=
  ad (dFor (Zt 2) [] (av (Zj Y8 (Zc (aa 0) ac))) (aE (tV (d2 fNe (d2 ag (d2 ag (d1 (ay "rows") (aa 0)) (aa 2)) (aa 1)) (dC (.int 0)))) (ak (aa 2)) ZH)) Qj
def YF:DF:=ah 3 2 Uu
def zdi:DS:=(ak (aa 0))
def zl9:DS:=
  ad (dFor (Zt 1) [] (iRng (d1 aB (d1 (ay "heads") (aa 0)))) (ad (aj 2 [] (Zj YF (Zc (aa 0) (Zc (aa 1) ac)))) (aE (tV (d1 zaM (aa 2))) (aj 0 [] (Zj Xv (Zc (aa 0) (Zc (aa 2) (Zc (aa 1) ac))))) ZH))) zdi
def zcV:DF:=ah 3 1 zl9
def zl7:DS:=(ak (dOrV (d2 fGt (aa 2) (dC (.int 0))) (za6 (d2 fLt (aa 2) (dC (.int 0))) (d2 fLt (d2 ag (d1 (ay "heads") (aa 0)) (aa 1)) (d1 aB (d1 (ay "heads") (aa 0)))))))
def zbB:DF:=ah 3 3 zl7
def W0:DS:=(ak (dMinK [0] (aa 3) (d2 ag (d1 (ay "heads") (aa 1)) (aa 0))))
def W1:DS:=
  ad (aj 3 [] (dL (Y4 1 [0,2] (Zt 0) (iRng (d1 aB (d1 (ay "heads") (aa 0)))) (tV (Zj zbB (Zc (aa 1) (Zc (aa 0) (Zc (d2 ag (aa 2) (aa 0)) ac))))) (aa 0)))) W0
def VM:DS:=
  ad (aj 2 [] (d2 ag (d1 (ay "rows") (aa 0)) (aa 1))) W1
def Zo:DF:=ah 4 2 VM
def JO:DS:=(ak (dC .none))
def Q3:DS:=
  ad (dFor (Zt 1) [] (av (Zj Y8 (Zc (aa 0) ac))) (aE (tV (d2 fLt (d2 ag (d2 ag (d1 (ay "rows") (aa 0)) (aa 1)) (d1 fNeg (dC (.int 1)))) (dC (.int 0)))) (ak (aa 1)) ZH)) JO
def Z6:DF:=ah 2 1 Q3
def QC:DS:=(ak (au (Zc (aa 2) (Zc (dC .none) ac))))
def zc7:DS:=
  ad (JS JV (tV (d1 zaM (aa 3))) (ad (aj 4 [] (Zj Zo (Zc (aa 2) (Zc (aa 3) ac)))) (ad (aE (tV (d1 fIsN (aa 4))) (ak (au (Zc (aa 2) (Zc (aa 3) ac)))) ZH) (ad (aj 2 [] (Zj Xv (Zc (aa 2) (Zc (aa 3) (Zc (aa 4) ac))))) (aj 3 [] (Zj Z6 (Zc (aa 2) ac))))))) QC
def zak:DS:=
  ad (aj 3 [] (Zj Z6 (Zc (aa 2) ac))) zc7
def zc8:DS:=
  ad (aj 2 [] (Zj zcV (Zc (Zj X4 (Zc (aa 0) (Zc (aa 1) ac))) ac))) zak
def YZ:DF:=ah 5 2 zc8
def zev:DS:=(ak (dL (Y4 1 [0] (Zt 0) (iRng (d1 aB (d1 (ay "heads") (aa 0)))) tT (Zj Xg (Zc (d2 ag (d2 ag (d1 (ay "rows") (aa 1)) (aa 0)) (d1 fNeg (dC (.int 1)))) (Zc (d1 (ay "divisor") (aa 1)) ac))))))
def X1:DF:=ah 1 1 zev
def QB:DS:=(dRetO 3)
def zaP:DS:=
  ad (dFor (Uv 4 5) [] (iZip (av (d1 (ay "heads") (aa 0))) (av (d2 ag (d1 (ay "rows") (aa 0)) (aa 1)))) (aE (tV (d2 fGe (aa 4) (aa 2))) (VS 3 [] (d2 fSub (aa 4) (aa 2)) (Zj Xg (Zc (d1 fNeg (aa 5)) (Zc (d1 (ay "divisor") (aa 0)) ac)))) ZH)) QB
def zaQ:DS:=
  ad (zan 3 [] (oRep (oLst (Zc (au (Zc (dC (.int 0)) (Zc (dC (.int 1)) ac))) ac)) (d1 aB (Zj Y8 (Zc (aa 0) ac))))) zaP
def zc6:DS:=
  ad (aj 2 [] (d1 aB (d1 (ay "heads") (aa 0)))) zaQ
def Wo:DF:=ah 6 2 zc6
def zb3:DS:=(ak (aa 2))
def zb4:DS:=
  ad (VS 2 [] (d2 fSub (aa 1) (d1 aB (d1 (ay "heads") (aa 0)))) (au (Zc (dC (.int 1)) (Zc (dC (.int 1)) ac)))) zb3
def zeA:DS:=
  ad (zan 2 [] (oCall Wo (Zc (aa 0) (Zc (aa 1) ac)))) zb4
def WJ:DF:=ah 3 2 zeA
def zey:DS:=(ak (au (Zc (dC (.str (PySem.Str.ofString "clash"))) (Zc (Zj WJ (Zc (d2 ag (aa 1) (dC (.int 0))) (Zc (d2 ag (aa 1) (dC (.int 1))) ac))) ac))))
def zbD:DS:=
  ad (aE (tV (d1 fIsN (d2 ag (aa 1) (dC (.int 1))))) (ak (au (Zc (dC (.str (PySem.Str.ofString "point"))) (Zc (Zj X1 (Zc (d2 ag (aa 1) (dC (.int 0))) ac)) ac)))) ZH) zey
def zfM:DS:=
  ad (aj 1 [] (Zj YZ (Zc (aa 0) (Zc (dL (oRep (oLst (Zc (dC (.int 0)) ac)) (d2 ag (aa 0) (dC (.int 0))))) ac)))) zbD
def Wl:DF:=ah 2 1 zfM
end Lw
namespace Sx
def ar:Nat->(Nat->Int)->Int
 |0,_=>0
 |n+1,f=>ar n f+f n
theorem Yx:∀{n:Nat}{f g:Nat->Int},(∀i,i<n->f i=g i)->ar n f=ar n g
 |0,f,g,h=>rfl
 |n+1,f,g,h=>by
  simp only[ar];rw[Yx (λi hi=>h i (by omega)),h n (by omega)]
theorem zeO(n:Nat)(f g:Nat->Int):ar n (λi=>f i+g i)=ar n f+ar n g:=by
 induction n with
 |zero=>rfl
 |succ n ih=>simp only[ar,ih];omega
theorem Ue(n:Nat)(a:Int)(f:Nat->Int):ar n (λi=>a * f i)=a * ar n f:=by
 induction n with
 |zero=>simp[ar]
 |succ n ih=>simp only[ar,ih,Int.mul_add]
theorem zeN{n:Nat}{f:Nat->Int}(h:∀i,i<n->f i=0):ar n f=0:=by
 induction n with
 |zero=>rfl
 |succ n ih=>simp only[ar,ih (λi hi=>h i (by omega)),h n (by omega)];rfl
theorem zbe{n k:Nat}{f:Nat->Int}(hk:k<n)(h:∀i,i<n->i≠k->f i=0):ar n f=f k:=by
 induction n with
 |zero=>omega
 |succ n ih=>
  simp only[ar];by_cases e:k=n
  ·subst e;rw[zeN (λi hi=>h i (by omega) (by omega))];omega
  ·rw[ih (by omega) (λi hi=>h i (by omega)),h n (by omega) (by omega)];omega
theorem zha{n k l:Nat}{f:Nat->Int}(hk:k<l)(hl:l<n)(h:∀i,i<n->i≠k->i≠l->f i=0):ar n f=f k+f l:=by
 induction n with
 |zero=>omega
 |succ n ih=>
  simp only[ar];by_cases e:l=n
  ·subst e;rw[zbe (k:=k) (by omega) (λi hi hne=>h i (by omega) hne (by omega))]
  ·rw[ih (by omega) (λi hi=>h i (by omega)),h n (by omega) (by omega) (by omega)];omega
theorem sum_le{n:Nat}{f g:Nat->Int}(h:∀i,i<n->f i<=g i):ar n f<=ar n g:=by
 induction n with
 |zero=>simp[ar]
 |succ n ih=>
  have:=ih λi hi=>h i (by omega)
  have:=h n (by omega)
  simp only[ar];omega
theorem zkp(n:Nat)(a:Int):ar n (λ_=>a)=n * a:=by
 induction n with
 |zero=>simp[ar]
 |succ n ih=>simp only[ar,ih];rw[Int.natCast_succ,Int.add_mul];omega
abbrev Vec:=Nat->Int
abbrev Mat:=Nat->Vec
def skip(i:Nat)(v:Mat):Mat:=λk=>if k<i then v k else v (k+1)
def sg:Nat->Int
 |0=>1
 |n+1=>- sg n
def det:Nat->Mat->Int
 |0,_=>1
 |n+1,v=>ar (n+1) λi=>sg i * v i n * det n (skip i v)
def put(v:Mat)(k:Nat)(x:Vec):Mat:=λi=>if i=k then x else v i
@[simp] theorem WS (v : Mat) (k : Nat) (x : Vec) : put v k x k = x := if_pos rfl
theorem UA{v:Mat}{k i:Nat}{x:Vec}(h:i≠k):put v k x i=v i:=if_neg h
theorem put_put(v:Mat)(k:Nat)(x y:Vec):put (put v k x) k y=put v k y:=by
 funext i;unfold put;by_cases e:i=k<;>simp[e]
theorem UB{v:Mat}{k l:Nat}{x y:Vec}(h:k≠l):put (put v k x) l y=put (put v l y) k x:=by
 funext i;unfold put
 by_cases e:i=k
 ·by_cases e2:i=l
  ·omega
  ·simp[e,h]
 ·simp[e]
theorem Qr(v:Mat)(k:Nat):put v k (v k)=v:=by
 funext i;unfold put;by_cases e:i=k<;>simp[e]
theorem VD:∀{n:Nat}{v u:Mat},(∀i c,i<n->c<n->v i c=u i c)->det n v=det n u
 |0,v,u,h=>rfl
 |n+1,v,u,h=>by
  simp only[det];refine Yx λi hi=>?_
  rw[h i n hi (by omega)]
  congr 1
  refine VD λk c hk hc=>?_
  unfold skip;split
  ·exact h k c (by omega) (by omega)
  ·exact h (k+1) c (by omega) (by omega)
theorem zeS(v:Mat)(k:Nat)(x:Vec):skip k (put v k x)=skip k v:=by
 funext i;unfold skip put
 split
 ·rw[if_neg (by omega)]
 ·rw[if_neg (by omega)]
theorem JY{v:Mat}{i k:Nat}{x:Vec}(h:k<i):skip i (put v k x)=put (skip i v) k x:=by
 funext j;unfold skip put
 by_cases e:j=k
 ·subst e;simp[h]
 ·simp only[e,if_false];split
  ·rfl
  ·rw[if_neg (by omega)]
theorem JZ{v:Mat}{i k:Nat}{x:Vec}(h:i<k):skip i (put v k x)=put (skip i v) (k - 1) x:=by
 funext j;unfold skip put
 by_cases e:j=k - 1
 ·subst e;rw[if_neg (by omega),if_pos (by omega),if_pos rfl]
 ·rw[if_neg e];split
  ·rename_i g;rw[if_neg (by omega)];exact(if_pos g).symm
  ·rename_i g;rw[if_neg (by omega)];exact(if_neg g).symm
theorem zaj:∀{n:Nat}(v:Mat) {k:Nat}(a b:Int) (x y:Vec),k<n->det n (put v k λc=>a * x c+b * y c)=a * det n (put v k x)+b * det n (put v k y)
 |0,v,k,a,b,x,y,h=>by omega
 |n+1,v,k,a,b,x,y,h=>by
  simp only[det];rw[<- Ue,<- Ue,<- zeO];refine Yx λi hi=>?_
  by_cases e:i=k
  ·subst e;simp only[WS,zeS];generalize det n (skip i v)=d;generalize sg i=s
   grind
  ·rw[UA e,UA e,UA e];rcases ybz e with g|g
   ·rw[JZ g,JZ g,JZ g,zaj (skip i v) a b x y (by omega)]
    grind
   ·rw[JY g,JY g,JY g,zaj (skip i v) a b x y (by omega)]
    grind
theorem zfE:∀{n:Nat}{v:Mat}{k:Nat},k+1<n->(∀c,c<n->v k c=v (k+1) c)->det n v=0
 |0,v,k,h,e=>by omega
 |n+1,v,k,h,e=>by
  simp only[det];rw[zha (k:=k) (l:=k+1) (by omega) h λi hi h1 h2=>?_]
  ·have:det n (skip k v)=det n (skip (k+1) v):=by
    refine VD λi c hi hc=>?_
    unfold skip;by_cases g:i<k
    ·rw[if_pos g,if_pos (by omega)]
    ·rw[if_neg g];by_cases g2:i=k
     ·subst g2;rw[if_pos (by omega)];exact(e c (by omega)).symm
     ·rw[if_neg (by omega)]
   rw[this,e n (by omega)]
   simp only[sg];generalize det n (skip (k+1) v)=d
   grind
  ·rcases ybz h1 with g|g
   ·rw[zfE (n:=n) (v:=skip i v) (k:=k - 1) (by omega),jp]
    intro c hc;unfold skip;rw[if_neg (by omega),if_neg (by omega),show k - 1+1=k by omega]
    exact e c (by omega)
   ·rw[zfE (n:=n) (v:=skip i v) (k:=k) (by omega),jp]
    intro c hc;unfold skip;rw[if_pos (by omega),if_pos (by omega)]
    exact e c (by omega)
theorem zc0{n:Nat}{v:Mat}{p l:Nat}(hp:p<n)(hl:l<n)(hne:p≠l)(alt:∀z:Vec,det n (put (put v p z) l z)=0)(x y:Vec):det n (put (put v p y) l x)=- det n (put (put v p x) l y):=by
 have h:=alt λc=>1 * x c+1 * y c
 rw[zaj _ 1 1 x y hl,UB hne,UB hne,zaj _ 1 1 x y hp,zaj _ 1 1 x y hp,<- UB hne,<- UB hne,<- UB hne,<- UB hne,alt x,alt y]at h;omega
theorem zhP{n:Nat}:∀(d:Nat) {v:Mat}{k l:Nat},l=k+1+d->l<n->(∀c,c<n->v k c=v l c)->det n v=0
 |0,v,k,l,h,hl,e=>by subst h;exact zfE hl e
 |d+1,v,k,l,h,hl,e=>by
  obtain⟨m,rfl⟩:∃m,l=m+1:=⟨k+1+d,by omega⟩
  have an:=zc0 (n:=n) (v:=v) (p:=m) (l:=m+1) (by omega) hl (by omega) (λz=>zfE hl λc hc=>by
   rw[UA (i:=m) (k:=m+1) (by omega),WS,WS]) (v m) (v (m+1))
  have z:=zhP (n:=n) d (v:=put (put v m (v (m+1))) (m+1) (v m)) (k:=k) (l:=m) (by omega) (by omega) λc hc=>by
   rw[UA (i:=k) (k:=m+1) (by omega),UA (i:=k) (k:=m) (by omega),UA (i:=m) (k:=m+1) (by omega),WS];exact e c hc
  rw[z,Qr,Qr]at an;omega
theorem QW{n:Nat}{v:Mat}{k l:Nat}(hk:k<n)(hl:l<n)(hne:k≠l)(e:∀c,c<n->v k c=v l c):det n v=0:=by
 rcases ybz hne with g|g
 ·exact zhP (l - k - 1) (by omega) hl e
 ·exact zhP (k - l - 1) (by omega) hk λc hc=>(e c hc).symm
theorem det_anti{n:Nat}{v:Mat}{p l:Nat}(hp:p<n)(hl:l<n)(hne:p≠l)(x y:Vec):det n (put (put v p y) l x)=- det n (put (put v p x) l y):=
 zc0 hp hl hne (λz=>QW hp hl hne λc hc=>by rw[UA hne,WS,WS]) x y
theorem zfD{n:Nat}(v:Mat){k:Nat}(a:Int)(x:Vec)(h:k<n):det n (put v k λc=>a * x c)=a * det n (put v k x):=by
 have:=zaj v a 0 x x h;simpa using this
theorem zhO{n:Nat}(v:Mat){k:Nat}(h:k<n)(m:Nat)(a:Nat->Int)(u:Nat->Vec):det n (put v k λc=>ar m λj=>a j * u j c)=ar m λj=>a j * det n (put v k (u j)):=by
 induction m with
 |zero=>
  simp only[ar];have:=zfD v 0 (λ_=>0) h
  simpa using this
 |succ m ih=>
  simp only[ar];have:=zaj v 1 (a m) (λc=>ar m λj=>a j * u j c) (u m) h
  simp only[ybe]at this;rw[this,ih]
theorem sg_abs(n:Nat):sg n=1\/sg n=-1:=by
 induction n with
 |zero=>exact .inl rfl
 |succ n ih=>simp only[sg];omega
def fact:Nat->Nat
 |0=>1
 |n+1=>(n+1) * fact n
theorem sum_abs{n:Nat}{f:Nat->Int}{B:Nat}(h:∀i,i<n->(f i).natAbs<=B):(ar n f).natAbs<=n * B:=by
 induction n with
 |zero=>simp[ar]
 |succ n ih=>
  have h1:=ih λi hi=>h i (by omega)
  have h2:=h n (by omega)
  simp only[ar,ycf];omega
theorem zhQ{B:Nat}:∀{n:Nat}{v:Mat},(∀i c,i<n->c<n->(v i c).natAbs<=B)->(det n v).natAbs<=fact n * B ^ n
 |0,v,h=>by simp[det,fact]
 |n+1,v,h=>by
  simp only[det,fact];have:=sum_abs (n:=n+1) (f:=λi=>sg i * v i n * det n (skip i v)) (B:=B * (fact n * B ^ n)) λi hi=>by
   have h1:=h i n hi (by omega)
   have h2:=zhQ (n:=n) (v:=skip i v) (B:=B) λk c hk hc=>by
    unfold skip;split
    ·exact h k c (by omega) (by omega)
    ·exact h (k+1) c (by omega) (by omega)
   rw[j9,j9];have h3:(sg i).natAbs=1:=by rcases sg_abs i with e|e<;>rw[e]<;>rfl
   rw[h3,ybd];exact qu h1 h2
  refine yE this (Nat.le_of_eq ?_);rw[ycg];simp only[yd0,Nat.mul_comm,Nat.mul_left_comm]
end Sx
namespace Sx
def eK(K:Nat):Vec:=λc=>if c=K then 1 else 0
def Vh(K:Nat)(M:Mat)(h:Nat->Nat):Mat:=λj=>if j<K then M (h j) else eK K
structure Bd where
 h:Nat->Nat
 D:Int
 R:Nat->Nat->Int
structure Good(K N:Nat)(M:Mat)(b:Bd):Prop where
 pos:0<b.D
 dt:∃σ:Int,σ * σ=1/\b.D=σ * det (K+1) (Vh K M b.h)/\∀i j,i<N->j<=K->b.R i j=σ * det (K+1) (put (Vh K M b.h) j (M i))
 cr:∀i c,i<N->c<=K->ar (K+1) (λj=>b.R i j * Vh K M b.h j c)=b.D * M i c
 hN:∀j,j<K->b.h j<N
def iabs(x:Int):Int:=if x<0 then -x else x
def tk(x y:Int):Int:=if 0<x then y else -y
theorem iabs_pos{x:Int}(h:x≠0):0<iabs x:=by unfold iabs;split<;>omega
def swR(b:Bd)(t p:Nat)(i j:Nat):Int:=if j=p then tk (b.R t p) (b.R i p) else(iabs (b.R t p) * b.R i j - tk (b.R t p) (b.R i p) * b.R t j).fdiv b.D
def swp(b:Bd)(t p:Nat):Bd:=⟨λj=>if j=p then t else b.h j,iabs (b.R t p),swR b t p⟩
theorem zko{n p:Nat}(h:p<n)(a:Int):ar n (λj=>if j=p then a else 0)=a:=by
 rw[zbe h λi hi hne=>if_neg hne,if_pos rfl]
theorem sum_two'{n k l:Nat}{f:Nat->Int}(hkn:k<n)(hln:l<n)(hne:k≠l)(h:∀i,i<n->i≠k->i≠l->f i=0):ar n f=f k+f l:=by
 rcases ybz hne with g|g
 ·exact zha g hln h
 ·rw[zha g hkn λi hi h1 h2=>h i hi h2 h1];omega
theorem fdiv_of{x y d:Int}(hd:0<d)(h:x=d * y):x.fdiv d=y:=by
 rw[h,Int.mul_fdiv_cancel_left _ (by omega)]
section
variable {K N:Nat}{M:Mat}{b b1 b2:Bd}{t p:Nat}
theorem Vh_swp(hp:p<K):Vh K M (swp b t p).h=put (Vh K M b.h) p (M t):=by
 funext j
 show(if j<K then M (if j=p then t else b.h j) else eK K)=(if j=p then M t else if j<K then M (b.h j) else eK K)
 by_cases e:j=p
 ·subst e;simp[hp]
 ·simp[e]
theorem Vh_K:Vh K M b.h K=eK K:=if_neg (by omega)
theorem Vh_lt{j:Nat}(h:j<K):Vh K M b.h j=M (b.h j):=if_pos h
theorem Good.lin(g:Good K N M b1){q:Nat}(hq:q<=K):∃φ:Vec->Int,(∀i,i<N->b1.R i q=φ (M i))/\(∀m (a:Nat->Int) (u:Nat->Vec),φ (λc=>ar m λj=>a j * u j c)=ar m λj=>a j * φ (u j))/\(∀u u':Vec,(∀c,c<=K->u c=u' c)->φ u=φ u')/\(∀a u,φ (λc=>a * u c)=a * φ u)/\φ (eK K)=(if q=K then b1.D else 0)/\∀j,j<K->φ (M (b1.h j))=if j=q then b1.D else 0:=by
 obtain⟨σ,hs,hD,hR⟩:=g.dt;refine⟨λu=>σ * det (K+1) (put (Vh K M b1.h) q u),λi hi=>hR i q hi hq,λm a u=>?_,λu u' e=>?_,λa u=>?_,?_,λj hj=>?_⟩
 ·show σ * _=_;rw[zhO _ (by omega),<- Ue]
  exact Yx λj _=>by rw[yag]
 ·show σ * _=σ * _
  congr 1
  refine VD λi c hi hc=>?_
  unfold put;split
  ·exact e c (by omega)
  ·rfl
 ·show σ * _=a * (σ * _);rw[zfD _ _ _ (by omega),yag]
 ·show σ * det (K+1) (put (Vh K M b1.h) q (eK K))=_;by_cases e:q=K
  ·subst e;rw[if_pos rfl,hD,<- Vh_K (b:=b1) (M:=M),Qr]
  ·rw[if_neg e,QW (k:=q) (l:=K) (by omega) (by omega) e (λc hc=>by rw[WS,UA (Ne.symm e),Vh_K]),jp]
 ·show σ * det (K+1) (put (Vh K M b1.h) q (M (b1.h j)))=_;rw[<- Vh_lt (b:=b1) (M:=M) hj];by_cases e:j=q
  ·subst e;rw[if_pos rfl,hD,Qr]
  ·rw[if_neg e,QW (k:=q) (l:=j) (by omega) (by omega) (Ne.symm e) (λc hc=>by rw[WS,UA e]),jp]
theorem Good.two(g1:Good K N M b1)(g2:Good K N M b2){i q:Nat}(hi:i<N)(hq:q<=K):
  b2.D * b1.R i q=ar K (λj=>b2.R i j * b1.R (b2.h j) q)+b2.R i K * (if q=K then b1.D else 0):=by
 obtain⟨φ,h1,h2,h3,h4,h5,_⟩:=g1.lin hq;rw[h1 i hi,<- h4,<- h5,h3 _ (λc=>ar (K+1) λj=>b2.R i j * Vh K M b2.h j c) λc hc=>(g2.cr i c hi hc).symm,h2]
 simp only[ar];rw[Vh_K]
 congr 1
 exact Yx λj hj=>by rw[Vh_lt hj,h1 _ (g2.hN j hj)]
theorem Good.head(g:Good K N M b){j q:Nat}(hj:j<K)(hq:q<=K):b.R (b.h j) q=if j=q then b.D else 0:=by
 obtain⟨φ,h1,h2,h3,h4,h5,h6⟩:=g.lin hq;rw[h1 _ (g.hN j hj),h6 j hj]
theorem Good.inj(g:Good K N M b){j l:Nat}(hj:j<K)(hl:l<K)(e:b.h j=b.h l):j=l:=by
 have h:=g.head hj (q:=l) (by omega)
 rw[e,g.head hl (by omega),if_pos rfl]at h
 have:=g.pos;by_cases q:j=l
 ·exact q
 ·rw[if_neg q]at h;omega
theorem Good.swap(g:Good K N M b)(ht:t<N)(hp:p<K)(hne:b.R t p≠0):
  Good K N M (swp b t p)/\∀i j,i<N->j<=K->j≠p->b.D * (swp b t p).R i j=iabs (b.R t p) * b.R i j - tk (b.R t p) (b.R i p) * b.R t j:=by
 obtain⟨σ,hs,hD,hR⟩:=g.dt;obtain⟨s,hs2,hab,htk⟩:∃s:Int,s * s=1/\iabs (b.R t p)=s * b.R t p/\∀y,tk (b.R t p) y=s * y:=by
  by_cases e:0<b.R t p
  ·exact⟨1,rfl,by unfold iabs;rw[if_neg (by omega)];omega,λy=>by unfold tk;rw[if_pos e];omega⟩
  ·exact⟨-1,rfl,by unfold iabs;rw[if_pos (by omega)];omega,λy=>by unfold tk;rw[if_neg e];omega⟩
 have hV:=Vh_swp (K:=K) (M:=M) (b:=b) (t:=t) hp;have dR:∀i j,i<N->j<=K->det (K+1) (put (Vh K M b.h) j (M i))=σ * b.R i j:=λi j hi hj=>by
  rw[hR i j hi hj,<- yce,hs,ybe]
 have key:∀i j,i<N->j<=K->j≠p->b.D * det (K+1) (put (put (Vh K M b.h) p (M t)) j (M i))=σ * (b.R t p * b.R i j - b.R i p * b.R t j):=by
  intro i j hi hj hjp;rw[UB (Ne.symm hjp),<- zfD _ _ _ (by omega),VD (u:=put (put (Vh K M b.h) j (M i)) p λc=>ar (K+1) λl=>b.R t l * Vh K M b.h l c),zhO _ (by omega),sum_two' (k:=p) (l:=j) (by omega) (by omega) (Ne.symm hjp) λl hl h1 h2=>?_]
  ·rw[UB hjp,Qr,dR i j hi hj,det_anti (by omega) (by omega) hjp,Qr,dR i p hi (by omega)]
   grind
  ·rw[QW (k:=p) (l:=l) (by omega) hl (Ne.symm h1) (λc hc=>by rw[WS,UA h1,UA h2]),jp]
  ·intro a c ha hc;unfold put;split
   ·exact(g.cr t c ht (by omega)).symm
   ·rfl
 have ex:∀i j,i<N->j<=K->j≠p->(swp b t p).R i j=s * σ * det (K+1) (put (put (Vh K M b.h) p (M t)) j (M i)):=by
  intro i j hi hj hjp;show swR b t p i j=_;unfold swR;rw[if_neg hjp,hab,htk];refine fdiv_of g.pos ?_;have k:=key i j hi hj hjp;have e:b.D * (s * σ * det (K+1) (put (put (Vh K M b.h) p (M t)) j (M i)))=s * σ * (b.D * det (K+1) (put (put (Vh K M b.h) p (M t)) j (M i))):=by rw[yag]
  rw[e,k];have e2:s * σ * (σ * (b.R t p * b.R i j - b.R i p * b.R t j))=s * (σ * σ) * (b.R t p * b.R i j - b.R i p * b.R t j):=by grind
  rw[e2,hs]
  grind
 have exD:∀i j,i<N->j<=K->j≠p->b.D * (swp b t p).R i j=iabs (b.R t p) * b.R i j - tk (b.R t p) (b.R i p) * b.R t j:=by
  intro i j hi hj hjp;rw[ex i j hi hj hjp];have k:=key i j hi hj hjp;have e:b.D * (s * σ * det (K+1) (put (put (Vh K M b.h) p (M t)) j (M i)))=s * σ * (b.D * det (K+1) (put (put (Vh K M b.h) p (M t)) j (M i))):=by rw[yag]
  rw[e,k,hab,htk];have e2:s * σ * (σ * (b.R t p * b.R i j - b.R i p * b.R t j))=s * (σ * σ) * (b.R t p * b.R i j - b.R i p * b.R t j):=by grind
  rw[e2,hs]
  grind
 have exp:∀i,(swp b t p).R i p=s * b.R i p:=λi=>by
  show swR b t p i p=_;unfold swR;rw[if_pos rfl,htk]
 refine⟨⟨iabs_pos hne,⟨s * σ,by grind,?_,λi j hi hj=>?_⟩,λi c hi hc=>?_,λj hj=>?_⟩,exD⟩
 ·show iabs _=_;rw[hV,dR t p ht (by omega),hab]
  have:s * σ * (σ * b.R t p)=s * (σ * σ) * b.R t p:=by grind
  rw[this,hs,qB]
 ·rw[hV];by_cases e:j=p
  ·subst e;rw[put_put,dR i j hi hj,exp];have:s * σ * (σ * b.R i j)=s * (σ * σ) * b.R i j:=by grind
   rw[this,hs,qB]
  ·exact ex i j hi hj e
 ·have hD0:b.D≠0:=by have:=g.pos;omega
  refine Int.eq_of_mul_eq_mul_left hD0 ?_;rw[<- Ue,hV];have:∀j,j<K+1->b.D * ((swp b t p).R i j * put (Vh K M b.h) p (M t) j c)=(s * b.R t p * (b.R i j * Vh K M b.h j c)+(-(s * b.R i p)) * (b.R t j * Vh K M b.h j c))+(if j=p then b.D * (s * b.R i p) * M t c else 0):=by
   intro j hj;by_cases e:j=p
   ·subst e;rw[exp,WS,if_pos rfl]
    grind
   ·rw[UA e,if_neg e,<- yce,exD i j hi (by omega) e,hab,htk]
    grind
  rw[Yx this,zeO,zeO,Ue,Ue,zko (by omega),g.cr i c hi hc,g.cr t c ht hc]
  show _=b.D * (iabs _ * _);rw[hab]
  grind
 ·show(if j=p then t else b.h j)<N
  split
  ·exact ht
  ·exact g.hN j hj
theorem Good.size(g:Good K N M b){B:Nat}(hB:1<=B)(hM:∀i c,i<N->c<=K->(M i c).natAbs<=B):b.D.natAbs<=fact (K+1) * B ^ (K+1)/\∀i j,i<N->j<=K->(b.R i j).natAbs<=fact (K+1) * B ^ (K+1):=by
 obtain⟨σ,hs,hD,hR⟩:=g.dt;have s1:σ.natAbs=1:=by
  have:σ.natAbs * σ.natAbs=1:=by rw[<- j9,hs];rfl
  exact Nat.eq_one_of_mul_eq_one_left this
 have hV:∀i c,i<K+1->c<K+1->(Vh K M b.h i c).natAbs<=B:=λi c hi hc=>by
  unfold Vh;split
  ·rename_i hj;exact hM _ c (g.hN i hj) (by omega)
  ·unfold eK;split<;>simp<;>omega
 constructor
 ·rw[hD,j9,s1,ybd];exact zhQ hV
 ·intro i j hi hj;rw[hR i j hi hj,j9,s1,ybd];refine zhQ λa c ha hc=>?_
  unfold put;split
  ·exact hM i c hi (by omega)
  ·exact hV a c ha hc
end
end Sx
namespace Sx
section
variable {K N:Nat}{M:Mat}
theorem Good.head0{b:Bd}(g:Good K N M b){j:Nat}(hj:j<K):b.R (b.h j) K=0:=by
 rw[g.head hj (yu K),if_neg (by omega)]
theorem zkn{n k:Nat}{f:Nat->Int}(hk:k<n)(h:∀i,i<n->f i<=0)(h2:f k<0):ar n f<0:=by
 induction n with
 |zero=>omega
 |succ n ih=>
  simp only[ar];by_cases e:k=n
  ·subst e;have:=sum_le (n:=k) (f:=f) (g:=λ_=>0) λi hi=>h i (by omega)
   rw[zkp]at this;omega
  ·have:=ih (by omega) λi hi=>h i (by omega)
   have:=h n (by omega)
   omega
theorem mul_np{a b:Int}(ha:a<=0)(hb:0<=b):a * b<=0:=by
 have:=yap (show 0 <= -a by omega) hb
 rw[Int.neg_mul]at this;omega
theorem zei{a b:Int}(ha:0<a)(hb:b<0):a * b<0:=by
 have:=Int.mul_pos ha (show 0 < -b by omega)
 rw[Int.mul_neg]at this;omega
theorem zjr{a b:Int}(ha:0<a)(h:a * b<0):b<0:=by
 rcases(show b<0\/0<=b by omega) with g|g
 ·exact g
 ·have:=yap (show 0<=a by omega) g;omega
theorem bland1{b1 b2:Bd}(g1:Good K N M b1)(g2:Good K N M b2){q t p:Nat}(hq:b1.R q K<0)(hlow:∀i,K<=i->i<q->0<=b1.R i K)
  (hp:p<K) (hpq:b2.h p=q) (ht:t<N) (h0:b2.R t p > 0) (h1:b2.R t K<0) (h2:∀j,j<K->b2.h j<q->b2.R t j<=0) (h3:∀j,j<K->b2.h j<K->b2.R t j=0) (htK:K<=t) (htq:t<q)
  (h4:∀j,j<K->q<b2.h j->∃l,l<K/\b1.h l=b2.h j):False:=by
 have e:=g1.two g2 ht (yu K);rw[if_pos rfl]at e;have s:ar K (λj=>b2.R t j * b1.R (b2.h j) K)<0:=by
  refine zkn hp (λj hj=>?_) ?_
  ·rcases ydi (b2.h j) q with z|z|z
   ·by_cases zk:b2.h j<K
    ·rw[h3 j hj zk,qY];exact jR 0
    ·exact mul_np (h2 j hj z) (hlow _ (by omega) z)
   ·have:j=p:=g2.inj hj hp (by rw[z,hpq])
    subst this;rw[z];exact qZ (zei h0 hq)
   ·obtain⟨l,hl,el⟩:=h4 j hj z;rw[<- el,g1.head0 hl,jp];exact jR 0
  ·show b2.R t p * b1.R (b2.h p) K<0;rw[hpq];exact zei h0 hq
 have s2:b2.R t K * b1.D<0:=by rw[qX];exact zei g1.pos h1
 have:=zjr g2.pos (show b2.D * b1.R t K<0 by rw[e];omega)
 have:=hlow t htK htq;omega
theorem bland2{b1 b2:Bd}(g1:Good K N M b1)(g2:Good K N M b2){w q p1 p:Nat}(hw:w<N)(hp1:p1<K)(hq1:b1.h p1=q)(h1:b1.R w p1 > 0)(h2:∀j,j<K->b1.h j<q->b1.R w j<=0)(h3:∀j,j<K->b1.h j<K->b1.R w j=0)
  (hp:p<K) (k1:b2.R w p > 0) (k2:b2.R q p<0) (k3:0<=b2.R q K) (k4:∀i,K<=i->i<q->b2.R i p<0->b2.R q K * -b2.R i p<b2.R i K * -b2.R q p)
  (same:∀i,i<N->b1.R i K * b2.D=b2.R i K * b1.D) (h4:∀j,j<K->q<b1.h j->∃l,l<K/\l≠p/\b2.h l=b1.h j):False:=by
 have e:=g2.two g1 hw (q:=p) (by omega)
 rw[if_neg (by omega),jp,ybb]at e
 have s:ar K (λj=>b1.R w j * b2.R (b1.h j) p)<0:=by
  refine zkn hp1 (λj hj=>?_) ?_
  ·rcases ydi (b1.h j) q with z|z|z
   ·by_cases zk:b1.h j<K
    ·rw[h3 j hj zk,qY];exact jR 0
    ·rcases(show b2.R (b1.h j) p<0\/0<=b2.R (b1.h j) p by omega) with n|n
     ·have k:=k4 _ (by omega) z n
      have s:=same _ (g1.hN j hj);rw[g1.head0 hj,qY]at s;have:b2.R (b1.h j) K=0:=by
       rcases ydu.mp s.symm with y|y
       ·exact y
       ·have:=g1.pos;omega
      rw[this,qY]at k;have:=yap k3 (show 0 <= -b2.R (b1.h j) p by omega)
      omega
     ·exact mul_np (h2 j hj z) n
   ·have:j=p1:=g1.inj hj hp1 (by rw[z,hq1])
    subst this;rw[z];exact qZ (zei h1 k2)
   ·obtain⟨l,hl,hlp,el⟩:=h4 j hj z;rw[<- el,g2.head hl (by omega),if_neg hlp,jp]
    exact jR 0
  ·show b1.R w p1 * b2.R (b1.h p1) p<0;rw[hq1];exact zei h1 k2
 have:=Int.mul_pos g1.pos k1;omega
structure Walk(K:Nat)(B:Nat->Nat->Nat)(T P:Nat->Nat)(x y:Nat):Prop where
 st:∀k,x<=k->k<y->B (k+1)=λj=>if j=P k then T k else B k j
 pl:∀k,x<=k->k<y->P k<K
 nh:∀k,x<=k->k<y->∀j,j<K->B k j≠T k
 ij:∀k,x<=k->k<y->∀i j,i<K->j<K->B k i=B k j->i=j
def Hd(K:Nat)(h:Nat->Nat)(s:Nat):Prop:=∃j,j<K/\h j=s
theorem Walk.stays{B:Nat->Nat->Nat}{T P:Nat->Nat}{x y:Nat}(w:Walk K B T P x y){s:Nat}(hs:∀k,x<=k->k<y->B k (P k)≠s):∀d a,x<=a->a+d<=y->Hd K (B a) s->Hd K (B (a+d)) s
 |0,a,_,_,h=>h
 |d+1,a,ha,hd,h=>by
  obtain⟨j,hj,e⟩:=w.stays hs d a ha (by omega) h
  refine⟨j,hj,?_⟩;show B (a+d+1) j=s;rw[w.st (a+d) (by omega) (by omega)]
  show(if j=P (a+d) then T (a+d) else B (a+d) j)=s
  rw[if_neg (λz=>hs (a+d) (by omega) (by omega) (by rw[<- z];exact e)),e]
theorem Walk.stayn{B:Nat->Nat->Nat}{T P:Nat->Nat}{x y:Nat}(w:Walk K B T P x y){s:Nat}(hs:∀k,x<=k->k<y->T k≠s):∀d a,x<=a->a+d<=y->¬Hd K (B a) s->¬Hd K (B (a+d)) s
 |0,a,_,_,h=>h
 |d+1,a,ha,hd,h=>by
  rintro⟨j,hj,e⟩
  have e':B (a+d+1) j=s:=e;rw[w.st (a+d) (by omega) (by omega)]at e'
  have e2:(if j=P (a+d) then T (a+d) else B (a+d) j)=s:=e'
  split at e2
  ·exact hs (a+d) (by omega) (by omega) e2
  ·exact w.stayn hs d a ha (by omega) h ⟨j,hj,e2⟩
theorem exmax{x:Nat}(T U:Nat->Nat):∀d,∃q,(∃k,x<=k/\k<x+d+1/\(T k=q\/U k=q))/\∀k,x<=k->k<x+d+1->T k<=q/\U k<=q
 |0=>⟨max (T x) (U x),⟨x,yu x,by omega,by omega⟩,λk h1 h2=>by
  have e:k=x:=by omega
  subst e;omega⟩
 |d+1=>by
  obtain⟨q,⟨k,h1,h2,h3⟩,h4⟩:=exmax T U d;refine⟨max q (max (T (x+d+1)) (U (x+d+1))),?_,λk' a1 a2=>?_⟩
  ·by_cases z:max (T (x+d+1)) (U (x+d+1))<=q
   ·exact⟨k,h1,by omega,by omega⟩
   ·exact⟨x+d+1,by omega,by omega,by omega⟩
  ·by_cases z:k'=x+d+1
   ·subst z;omega
   ·have:=h4 k' a1 (by omega);omega
theorem Walk.round{B:Nat->Nat->Nat}{T P:Nat->Nat}{x y:Nat}(w:Walk K B T P x y)(hxy:x<y)(he:∀j,j<K->B x j=B y j):
  ∃q k1 k2,x<=k1/\k1<y/\x<=k2/\k2<y/\T k1=q/\B k2 (P k2)=q/\(∀k,x<=k->k<y->T k<=q/\B k (P k)<=q)/\∀a c s,x<=a->a<=y->x<=c->c<=y->q<s->Hd K (B a) s->Hd K (B c) s:=by
 obtain⟨q,⟨k,h1,h2,h3⟩,h4⟩:=exmax (x:=x) T (λk=>B k (P k)) (y - x - 1)
 rw[show x+(y - x - 1)+1=y by omega]at h2 h4
 have hxy':∀s,Hd K (B x) s↔Hd K (B y) s:=λs=>⟨λ⟨j,hj,e⟩=>⟨j,hj,by rw[<- he j hj];exact e⟩,λ⟨j,hj,e⟩=>⟨j,hj,by rw[he j hj];exact e⟩⟩
 have inn:∃k1,x<=k1/\k1<y/\T k1=q:=by
  rcases h3 with h3|h3
  ·exact⟨k,h1,h2,h3⟩
  ·refine js λno=>?_
   have nn:∀k',x<=k'->k' < y->T k'≠q:=λk' a1 a2 a3=>no ⟨k',a1,a2,a3⟩
   have out:¬Hd K (B (k+1)) q:=by
    rintro⟨j,hj,e⟩
    rw[w.st k h1 h2]at e;have e2:(if j=P k then T k else B k j)=q:=e
    have h3':B k (P k)=q:=h3;split at e2
    ·exact nn k h1 h2 e2
    ·rename_i ne;exact ne (w.ij k h1 h2 j (P k) hj (w.pl k h1 h2) (e2.trans h3'.symm))
   exact(by
    have:=w.stayn nn (y - (k+1)) (k+1) (by omega) (by omega) out
    rw[show k+1+(y - (k+1))=y by omega]at this
    have h0:¬Hd K (B x) q:=λz=>this ((hxy' q).mp z)
    have:=w.stayn nn (k - x) x (by omega) (by omega) h0
    rw[show x+(k - x)=k by omega]at this
    exact this ⟨P k,w.pl k h1 h2,h3⟩)
 have out:∃k2,x<=k2/\k2<y/\B k2 (P k2)=q:=by
  obtain⟨k,h1,h2,h3⟩:=inn;refine js λno=>?_
  have nn:∀k',x<=k'->k' < y->B k' (P k')≠q:=λk' a1 a2 a3=>no ⟨k',a1,a2,a3⟩
  have hin:Hd K (B (k+1)) q:=⟨P k,w.pl k h1 h2,by
   rw[w.st k h1 h2];show(if P k=P k then T k else _)=q
   rw[if_pos rfl,h3]⟩
  have a:=w.stays nn (y - (k+1)) (k+1) (by omega) (by omega) hin
  rw[show k+1+(y - (k+1))=y by omega]at a
  have a2:=w.stays nn (k - x) x (by omega) (by omega) ((hxy' q).mpr a)
  rw[show x+(k - x)=k by omega]at a2
  obtain⟨j,hj,e⟩:=a2;exact w.nh k h1 h2 j hj (by rw[e,h3])
 obtain⟨k1,a1,a2,a3⟩:=inn;obtain⟨k2,c1,c2,c3⟩:=out;refine⟨q,k1,k2,a1,a2,c1,c2,a3,c3,h4,λa c s ha1 ha2 hc1 hc2 hs h=>?_⟩
 have n1:∀k,x<=k->k<y->B k (P k)≠s:=λk h1 h2 e=>by have:=(h4 k h1 h2).2;omega
 have n2:∀k,x<=k->k<y->T k≠s:=λk h1 h2 e=>by have:=(h4 k h1 h2).1;omega
 have b0:Hd K (B y) s:=by
  have:=w.stays n1 (y - a) a ha1 (by omega) h
  rwa [show a+(y - a)=y by omega]at this
 have:=w.stays n1 (c - x) x (by omega) (by omega) ((hxy' s).mpr b0)
 rwa [show x+(c - x)=c by omega]at this
theorem zkZ:∀(n:Nat) (f:Nat->Nat),(∀i,i<=n->f i<n)->∃i j,i<j/\j<=n/\f i=f j
 |0,f,h=>absurd (h 0 (yu 0)) (by omega)
 |n+1,f,h=>by
  by_cases e:∃i,i<=n/\f i=f (n+1)
  ·obtain⟨i,hi,e⟩:=e;exact⟨i,n+1,by omega,yu _,e⟩
  ·-- the value of the last one is left out
   have hn:=h (n+1) (yu _);obtain⟨i,j,h1,h2,h3⟩:=zkZ n (λi=>if f i<f (n+1) then f i else f i - 1) (λi hi=>by
    have a:=h i (by omega)
    have b:f i≠f (n+1):=λz=>e ⟨i,hi,z⟩
    show(if f i<f (n+1) then f i else f i - 1)<n
    split<;>omega)
   refine⟨i,j,h1,by omega,?_⟩
   have b1:f i≠f (n+1):=λz=>e ⟨i,by omega,z⟩
   have b2:f j≠f (n+1):=λz=>e ⟨j,h2,z⟩
   have h3':(if f i<f (n+1) then f i else f i - 1)=(if f j<f (n+1) then f j else f j - 1):=h3
   split at h3'<;>split at h3'<;>omega
def code(N:Nat):Nat->(Nat->Nat)->Nat
 |0,_=>0
 |K+1,h=>code N K h+N ^ K * h K
theorem zdv{N:Nat}:∀{K:Nat}{h:Nat->Nat},(∀j,j<K->h j<N)->code N K h<N ^ K
 |0,h,_=>by simp[code]
 |K+1,h,e=>by
  have a:=zdv (N:=N) (K:=K) (h:=h) λj hj=>e j (by omega)
  have b:=e K (by omega)
  simp only[code,ycg];have:N ^ K * (h K+1)<=N ^ K * N:=ybv _ (by omega)
  rw[Nat.mul_add]at this;omega
theorem zfQ{N:Nat}:∀{K:Nat}{h h':Nat->Nat},(∀j,j<K->h j<N)->(∀j,j<K->h' j<N)->code N K h=code N K h'->∀j,j<K->h j=h' j
 |0,h,h',_,_,_,j,hj=>by omega
 |K+1,h,h',a,b,e,j,hj=>by
  simp only[code]at e;have a1:=zdv (N:=N) (K:=K) (h:=h) λj hj=>a j (by omega)
  have b1:=zdv (N:=N) (K:=K) (h:=h') λj hj=>b j (by omega)
  have hp:0<N ^ K:=by omega
  have e1:h K=h' K:=by
   have q1:(code N K h+N ^ K * h K) / N ^ K=h K:=by rw[Nat.add_mul_div_left _ _ hp,Nat.div_eq_of_lt a1,q9]
   have q2:(code N K h'+N ^ K * h' K) / N ^ K=h' K:=by rw[Nat.add_mul_div_left _ _ hp,Nat.div_eq_of_lt b1,q9]
   rw[<- q1,<- q2,e]
  have e2:code N K h=code N K h':=by rw[e1]at e;omega
  by_cases z:j=K
  ·rw[z];exact e1
  ·exact zfQ (λj hj=>a j (by omega)) (λj hj=>b j (by omega)) e2 j (by omega)
structure Ch1(K N:Nat)(b:Bd)(t p:Nat):Prop where
 tK:K<=t
 tN:t<N
 pK:p<K
 sh:b.R t K<0
 low:∀i,K<=i->i<t->0<=b.R i K
 hp:0<b.R t p
 hj:∀j,j<K->b.h j<b.h p->b.R t j<=0
 am:∀j,j<K->b.h j<K->b.R t j=0
theorem zhf{B:Nat->Bd}{T P:Nat->Nat}{L:Nat}(g:∀k,k<=L->Good K N M (B k))(ch:∀k,k<L->Ch1 K N (B k) (T k) (P k))(st:∀k,k<L->B (k+1)=swp (B k) (T k) (P k)):L<N ^ K:=by
 refine js λno=>?_
 obtain⟨x,y,h1,h2,h3⟩:=zkZ (N ^ K) (λk=>code N K (B k).h) λi hi=>zdv (g i (by omega)).hN
 have he:=zfQ (g x (by omega)).hN (g y (by omega)).hN h3
 have w:Walk K (λk=>(B k).h) T P x y:=by
  refine⟨λk a b=>?_,λk a b=>(ch k (by omega)).pK,λk a b j hj e=>?_,λk a b i j hi hj e=>(g k (by omega)).inj hi hj e⟩
  ·show(B (k+1)).h=_;rw[st k (by omega)];rfl
  ·have:=(g k (by omega)).head0 hj
   have e':(B k).h j=T k:=e;rw[e']at this;have:=(ch k (by omega)).sh
   omega
 obtain⟨q,k1,k2,a1,a2,c1,c2,e1,e2,mx,sm⟩:=w.round h1 he;have c1':=ch k1 (by omega)
 have c2':=ch k2 (by omega)
 have hq:(B k2).h (P k2)=q:=e2;have tq:T k2<q:=by
  have:=(mx k2 c1 c2).1;rcases Nat.lt_or_ge (T k2) q with z|z
  ·exact z
  ·exact absurd (show(B k2).h (P k2)=T k2 by omega) (w.nh k2 c1 c2 (P k2) c2'.pK)
 refine bland1 (g k1 (by omega)) (g k2 (by omega)) (q:=q) (t:=T k2) (p:=P k2) (by rw[<- e1];exact c1'.sh) (λi h1 h2=>c1'.low i h1 (by omega)) c2'.pK hq c2'.tN c2'.hp c2'.sh (λj hj z=>c2'.hj j hj (by omega)) c2'.am c2'.tK tq λj hj z=>?_
 exact sm k2 k1 _ c1 (by omega) a1 (by omega) z ⟨j,hj,rfl⟩
structure Ch2(K N w:Nat)(b:Bd)(t p:Nat):Prop where
 tK:K<=t
 tN:t<N
 pK:p<K
 hp:0<b.R w p
 hj:∀j,j<K->b.h j<b.h p->b.R w j<=0
 am:∀j,j<K->b.h j<K->b.R w j=0
 ng:b.R t p<0
 fe:0<=b.R t K
 lo:∀i,K<=i->i<t->b.R i p<0->b.R t K * -b.R i p<b.R i K * -b.R t p
theorem zkj{b:Bd}{t p:Nat}(g:Good K N M b)(ht:t<N)(hp:p<K)(hn:b.R t p<0){i j:Nat}(hi:i<N)(hj:j<=K)(hjp:j≠p):
  (swp b t p).D=-b.R t p/\b.D * (swp b t p).R i j=-b.R t p * b.R i j+b.R i p * b.R t j:=by
 have e:=(g.swap ht hp (by omega)).2 i j hi hj hjp
 have e1:iabs (b.R t p)=-b.R t p:=by unfold iabs;rw[if_pos hn]
 have e2:tk (b.R t p) (b.R i p)=-b.R i p:=by unfold tk;rw[if_neg (by omega)]
 refine⟨e1,?_⟩;rw[e,e1,e2]
 grind
theorem zeE{b:Bd}{w t p:Nat}(g:Good K N M b)(hw:w<N)(c:Ch2 K N w b t p):
  b.R w K * (swp b t p).D<=(swp b t p).R w K * b.D/\(b.R w K * (swp b t p).D=(swp b t p).R w K * b.D->∀i,i<N->b.R i K * (swp b t p).D=(swp b t p).R i K * b.D):=by
 have f:=λi (hi:i<N)=>zkj g c.tN c.pK c.ng hi (yu K) (by have:=c.pK;omega)
 have e:∀i,i<N->(swp b t p).R i K * b.D=b.R i K * (swp b t p).D+b.R i p * b.R t K:=λi hi=>by
  obtain⟨h1,h2⟩:=f i hi;rw[qX,h2,h1];grind
 rw[e w hw];refine⟨?_,λz i hi=>?_⟩
 ·have:=yap (qZ c.hp) c.fe;omega
 ·have z0:b.R w p * b.R t K=0:=by omega
  rcases ydu.mp z0 with y|y
  ·have:=c.hp;omega
  ·rw[e i hi,y,jp,ybb]
theorem Qv{a b c x y z:Int}(hx:0<x)(hy:0<y)(hz:0<z)(h1:a * y<=b * x)(h2:b * z<=c * y):a * z<=c * x:=by
 have h3:=ycm h1 (qZ hz);have h4:=ycm h2 (qZ hx);have h5:a * z * y<=c * x * y:=by
  have e1:a * y * z=a * z * y:=by grind
  have e2:b * x * z=b * z * x:=by grind
  have e3:c * y * x=c * x * y:=by grind
  rw[e1,e2]at h3;rw[e3]at h4;omega
 exact Int.le_of_mul_le_mul_right h5 hy
theorem zfC{a b c x y z:Int}(hy:0<y)(h1:a * y=b * x)(h2:b * z=c * y):a * z=c * x:=by
 have h5:a * z * y=c * x * y:=by
  have e1:a * z * y=a * y * z:=by grind
  have e2:b * x * z=b * z * x:=by grind
  rw[e1,h1,e2,h2];grind
 exact Int.eq_of_mul_eq_mul_right (by omega) h5
theorem zj2{B:Nat->Bd}{T P:Nat->Nat}{L w:Nat}(hw:w<N)(g:∀k,k<=L->Good K N M (B k))(ch:∀k,k<L->Ch2 K N w (B k) (T k) (P k))(st:∀k,k<L->B (k+1)=swp (B k) (T k) (P k)):L<N ^ K:=by
 refine js λno=>?_
 obtain⟨x,y,h1,h2,h3⟩:=zkZ (N ^ K) (λk=>code N K (B k).h) λi hi=>zdv (g i (by omega)).hN
 have he:=zfQ (g x (by omega)).hN (g y (by omega)).hN h3
 have wk:Walk K (λk=>(B k).h) T P x y:=by
  refine⟨λk a b=>?_,λk a b=>(ch k (by omega)).pK,λk a b j hj e=>?_,λk a b i j hi hj e=>(g k (by omega)).inj hi hj e⟩
  ·show(B (k+1)).h=_;rw[st k (by omega)];rfl
  ·have c:=ch k (by omega)
   have:=(g k (by omega)).head hj (q:=P k) (by have:=c.pK;omega)
   have e':(B k).h j=T k:=e;rw[e']at this;have:=c.ng;have:=(g k (by omega)).pos
   split at *<;>omega
 -- worth does not fall from step to step
 have mono:∀d a,a+d<=L->(B a).R w K * (B (a+d)).D<=(B (a+d)).R w K * (B a).D:=by
  intro d
  induction d with
  |zero=>intro a _;exact jR _
  |succ d ih=>
   intro a hd;have s:=(zeE (g (a+d) (by omega)) hw (ch (a+d) (by omega))).1
   rw[<- st (a+d) (by omega)]at s
   exact Qv (g a (by omega)).pos (g (a+d) (by omega)).pos (g (a+d+1) (by omega)).pos (ih a (by omega)) s
 -- the board at the end of the round tells the same worth as at its start
 have fin:∀i,i<N->(B x).R i K * (B y).D=(B y).R i K * (B x).D:=by
  intro i hi;have e:=(g x (by omega)).two (g y (by omega)) hi (yu K)
  rw[if_pos rfl,zeN λj hj=>by rw[<- he j hj,(g x (by omega)).head0 hj,jp]]at e
  rw[qX,e];omega
 have flat:∀k,x<=k->k<y->(B k).R w K * (B (k+1)).D=(B (k+1)).R w K * (B k).D:=by
  intro k a b;have m1:=mono (k - x) x (by omega)
  rw[show x+(k - x)=k by omega]at m1
  have m2:=mono (y - (k+1)) (k+1) (by omega)
  rw[show k+1+(y - (k+1))=y by omega]at m2
  have m3:=mono 1 k (by omega)
  have e:(B (k+1)).R w K * (B k).D<=(B k).R w K * (B (k+1)).D:=by
   have s1:(B (k+1)).R w K * (B x).D<=(B x).R w K * (B (k+1)).D:=by
    have:=fin w hw;exact Qv (g (k+1) (by omega)).pos (g y (by omega)).pos (g x (by omega)).pos m2 (by omega)
   exact Qv (g (k+1) (by omega)).pos (g x (by omega)).pos (g k (by omega)).pos s1 m1
  omega
 have pts:∀d a,x<=a->a+d<=y->∀i,i<N->(B a).R i K * (B (a+d)).D=(B (a+d)).R i K * (B a).D:=by
  intro d
  induction d with
  |zero=>intro a _ _ i _;rfl
  |succ d ih=>
   intro a ha hd i hi;have s:=(zeE (g (a+d) (by omega)) hw (ch (a+d) (by omega))).2
   rw[<- st (a+d) (by omega)]at s
   exact zfC (g (a+d) (by omega)).pos (ih a ha (by omega) i hi) (s (flat (a+d) (by omega) (by omega)) i hi)
 have pall:∀a c,x<=a->a<=y->x<=c->c<=y->∀i,i<N->(B a).R i K * (B c).D=(B c).R i K * (B a).D:=by
  intro a c h1 h2 h3 h4 i hi;rcases Nat.le_total a c with z|z
  ·have:=pts (c - a) a h1 (by omega) i hi
   rwa [show a+(c - a)=c by omega]at this
  ·have:=pts (a - c) c h3 (by omega) i hi
   rw[show c+(a - c)=a by omega]at this
   exact this.symm
 obtain⟨q,k1,k2,a1,a2,c1,c2,e1,e2,mx,sm⟩:=wk.round h1 he;have d1:=ch k1 (by omega)
 have d2:=ch k2 (by omega)
 have hq:(B k2).h (P k2)=q:=e2;refine bland2 (g k2 (by omega)) (g k1 (by omega)) (w:=w) (q:=q) (p1:=P k2) (p:=P k1) hw d2.pK hq d2.hp (λj hj z=>d2.hj j hj (by omega)) d2.am d1.pK d1.hp (by rw[<- e1];exact d1.ng) (by rw[<- e1];exact d1.fe) (λi h1 h2 h3=>by rw[<- e1];exact d1.lo i h1 (by omega) h3) (pall k2 k1 c1 (by omega) a1 (by omega)) λj hj z=>?_
 obtain⟨l,hl,el⟩:=sm k2 k1 _ c1 (by omega) a1 (by omega) z ⟨j,hj,rfl⟩
 refine⟨l,hl,λn=>?_,el⟩
 subst n;have:=(mx k1 a1 a2).2;have el':(B k1).h (P k1)=(B k2).h j:=el;have:(B k1).h (P k1)<=q:=this;omega
end
end Sx
namespace Lw
open PySem Fx
structure LB where
 heads:List Nat
 D:Int
 rows:List (List Int)
abbrev eI(xs:List Int):ya:=.list (xs.map .int)
abbrev eH(hs:List Nat):ya:=.list (hs.map λ(h:Nat)=>.int (h:Int))
def eB(b:LB):ya:=.dict [(.str "heads",eH b.heads),(.str "divisor",.int b.D),(.str "rows",.list (b.rows.map eI))]
def LB.bd(b:LB):Sx.Bd:=⟨λj=>b.heads.getD j 0,b.D,λi j=>(b.rows.getD i []).getD j 0⟩
@[simp] theorem bd_D (b : LB) : b.bd.D = b.D := rfl
@[simp] theorem bd_h (b : LB) (j : Nat) : b.bd.h j = b.heads.getD j 0 := rfl
theorem bd_R(b:LB)(i j:Nat):b.bd.R i j=(b.rows.getD i []).getD j 0:=rfl
structure WFb(K m:Nat)(b:LB):Prop where
 hl:b.heads.length=K
 rl:b.rows.length=K+m+1
 ll:∀r∈b.rows,r.length=K+1
 kk:K<=1000
 mm:m<=1000
structure Sm(b:LB):Prop where
 d0:b.D≠0
 d:b.D.natAbs<2 ^ 1000
 r:∀r∈b.rows,∀x∈r,x.natAbs<2 ^ 1000
@[simp] theorem zlL (b : LB) : ay "heads" (eB b) = .ok (eH b.heads) := rfl
@[simp] theorem fld_div (b : LB) : ay "divisor" (eB b) = .ok (.int b.D) := rfl
@[simp] theorem fld_rows (b : LB) : ay "rows" (eB b) = .ok (.list (b.rows.map eI)) := rfl
@[simp] theorem scalT_eB (b : LB) : W3 (eB b) = false := rfl
theorem zmr{α:Type}{f:α->ya}{xs:List α}{i:Nat}(d:α)(h:i<xs.length):atP (xs.map f) (i:Int)=some (f (xs.getD i d)):=by
 rw[XI h];simp[y9,h]
theorem at_last{α:Type}{f:α->ya}{xs:List α}{k:Nat}(d:α)(h:xs.length=k+1):atP (xs.map f) (-1)=some (f (xs.getD k d)):=by
 unfold atP ixP;rw[yQ,h];rw[if_neg (by omega),if_pos (by omega)]
 have e:((-1:Int)+((k+1:Nat):Int)).toNat=k:=by omega
 rw[e];simp[y9,h]
section
variable {K m:Nat}{b:LB}
theorem WFb.row(w:WFb K m b){i:Nat}(h:i<K+m+1):(b.rows.getD i []).length=K+1:=by
 have hi:i<b.rows.length:=by rw[w.rl];exact h
 have e:b.rows.getD i []=b.rows[i]:=by simp[y9,hi]
 rw[e];exact w.ll _ (yT hi)
theorem WFb.mem(w:WFb K m b){i:Nat}(h:i<K+m+1):b.rows.getD i []∈b.rows:=by
 have hi:i<b.rows.length:=by rw[w.rl];exact h
 have e:b.rows.getD i []=b.rows[i]:=by simp[y9,hi]
 rw[e];exact yT hi
theorem WV{α:Type}{xs:List α}{i:Nat}{d:α}(h:i<xs.length):xs.getD i d∈xs:=by
 have e:xs.getD i d=xs[i]:=by simp[y9,h]
 rw[e];exact yT h
theorem JL(w:WFb K m b){i:Nat}(h:i<K+m+1):ag (.list (b.rows.map eI)) (.int (i:Int))=.ok (eI (b.rows.getD i [])):=by
 simp only[ag];rw[zmr [] (by rw[w.rl];exact h)]
 rfl
theorem JM{row:List Int}{j:Nat}(h:j<row.length):ag (eI row) (.int (j:Int))=.ok (.int (row.getD j 0)):=by
 simp only[eI,ag];rw[zmr 0 h]
 rfl
theorem zfs{row:List Int}{k:Nat}(h:row.length=k+1):ag (eI row) (.int (-1))=.ok (.int (row.getD k 0)):=by
 simp only[eI,ag];rw[at_last 0 h]
 rfl
theorem zlA{hs:List Nat}{j:Nat}(h:j<hs.length):ag (eH hs) (.int (j:Int))=.ok (.int ((hs.getD j 0:Nat):Int)):=by
 simp only[eH,ag];rw[zmr 0 h]
 rfl
theorem zcf(w:WFb K m b):Y8 [eB b]=.ok (.list (aw K m)):=by
 have e:((K+m+1:Nat):Int) - 1=((K+m:Nat):Int):=by omega
 have h1:Uw (K:Int)=true:=Yn (by have:=w.kk;omega)
 have h2:Uw ((K+m:Nat):Int)=true:=Yn (by have:=w.kk;have:=w.mm;omega)
 have e3:(((K+m:Nat):Int) - (K:Int)).toNat=m:=by omega
 have h3:(aw (K:Int) m).length<=16777216:=by rw[XZ];have:=w.mm;omega
 have e':(K:Int)+(m:Int)+1 - 1=((K+m:Nat):Int):=by omega
 simp[Y8,zes,ah,ai,w.hl,w.rl,h1,e,e',h2,e3,h3,-jW]
end
def zbd(row line:List Int)(p:Nat)(D:Int):List Int:=((row.zip line).map λq=>(Sx.iabs (line.getD p 0) * q.1 - Sx.tk (line.getD p 0) (row.getD p 0) * q.2).fdiv D).set p (Sx.tk (line.getD p 0) (row.getD p 0))
theorem iabs_sz{x:Int}{n:Nat}(h:x.natAbs<2 ^ n):(Sx.iabs x).natAbs<2 ^ n:=by unfold Sx.iabs;split<;>omega
theorem tk_sz{x y:Int}{n:Nat}(h:y.natAbs<2 ^ n):(Sx.tk x y).natAbs<2 ^ n:=by unfold Sx.tk;split<;>omega
theorem zdA{row line:List Int}{p:Nat}{D:Int}{K:Nat}(hr:row.length=K+1)(hl:line.length=K+1)(hp:p<K)(hK:K<=1000)(d0:D≠0)(hD:D.natAbs<2 ^ 1000)(h1:∀x∈row,x.natAbs<2 ^ 1000)(h2:∀x∈line,x.natAbs<2 ^ 1000):
  X0 [eI row,eI line,.int p,.int D]=.ok (eI (zbd row line p D)):=by
 have e1:ag (eI line) (.int (p:Int))=.ok (.int (line.getD p 0)):=JM (by omega)
 have e2:ag (eI row) (.int (p:Int))=.ok (.int (row.getD p 0)):=JM (by omega)
 have hdv:zcZ D=true:=zci d0 hD (by omega)
 have hpv:=iabs_sz (h2 _ (WV (xs:=line) (i:=p) (d:=0) (by omega)))
 have htk:=tk_sz (x:=line.getD p 0) (h1 _ (WV (xs:=row) (i:=p) (d:=0) (by omega)))
 unfold zbd;generalize line.getD p 0=lp at *
 generalize row.getD p 0=rp at *
 have ea:(if lp<0 then -lp else lp)=Sx.iabs lp:=rfl
 have et:(if 0<lp then(Res.ok (ya.int rp)) else .ok (.int (-rp)))=.ok (.int (Sx.tk lp rp)):=by unfold Sx.tk;split<;>rfl
 generalize Sx.iabs lp=pv at *
 generalize Sx.tk lp rp=tv at *
 have hlen:(zipT (row.map .int) (line.map .int)).length<=16777216:=by
  rw[WN];simp;omega
 have hc:Xf (Uv 0 1) tT (d2 fDiv (d2 fSub (d2 aA (aa 2) (aa 0)) (d2 aA (aa 3) (aa 1))) (aa 4)) [.emp,.emp,.val (.int pv),.val (.int tv),.val (.int D)] (zipT (row.map .int) (line.map .int))
   = .ok (((row.zip line).map λq=>(pv * q.1 - tv * q.2).fdiv D).map .int):=by
  rw[WN,jf];refine Yv (λ(q:Int×Int)=>ya.tuple [.int q.1,.int q.2]) _ _ λq hq=>?_
  have m1:=Yp hpv (h1 _ (j1 hq).1) (by omega)
  have m2:=Yp htk (h2 _ (j1 hq).2) (by omega)
  refine⟨_,rfl,?_⟩;simp[m1,m2,hdv]
 have es:ixP (((row.zip line).map λq=>(pv * q.1 - tv * q.2).fdiv D).map ya.int).length (p:Int)=some p:=by
  unfold ixP;rw[if_pos (by omega),if_pos (by simp;omega)]
  simp
 generalize hw:((row.zip line).map λq=>(pv * q.1 - tv * q.2).fdiv D)=ws at *
 have es':ixP ws.length (p:Int)=some p:=by simpa using es
 simp[X0,zaO,Q1,Q0,QZ,QY,ah,ai,e1,e2,ea,et,eI,hlen,hc,es',-ag,yci]
theorem zkk{row line:List Int}{p:Nat}{D:Int}{n:Nat}(hr:row.length=n)(hl:line.length=n):(zbd row line p D).length=n:=by
 simp[zbd,hr,hl]
def lsw(b:LB)(t p:Nat):LB:=⟨b.heads.set p t,Sx.iabs (b.bd.R t p),b.rows.map λrow=>zbd row (b.rows.getD t []) p b.D⟩
section
variable {K m:Nat}{b:LB}{t p:Nat}
theorem lsw_wf(w:WFb K m b)(ht:t<K+m+1):WFb K m (lsw b t p):=by
 refine⟨by simp[lsw,w.hl],by simp[lsw,w.rl],λr hr=>?_,w.kk,w.mm⟩
 obtain⟨row,hrow,rfl⟩:=yR.mp hr;exact zkk (w.ll row hrow) (w.row ht)
theorem zkl{row line:List Int}{p j:Nat}{D:Int}{n:Nat}(hr:row.length=n)(hl:line.length=n)(hp:p<n):
  (zbd row line p D).getD j 0=if j=p then Sx.tk (line.getD p 0) (row.getD p 0) else(Sx.iabs (line.getD p 0) * row.getD j 0 - Sx.tk (line.getD p 0) (row.getD p 0) * line.getD j 0).fdiv D:=by
 unfold zbd;rw[y9,yb3];by_cases e:j=p
 ·subst e;simp[hr,hl,hp]
 ·rw[if_neg (Ne.symm e),if_neg e];by_cases hj:j<n
  ·have ez:(row.zip line)[j]? = some (row.getD j 0,line.getD j 0):=by
    rw[yd5];constructor
    ·rw[jx (by omega)];simp[y9,jx (show j<row.length by omega)]
    ·rw[jx (by omega)];simp[y9,jx (show j<line.length by omega)]
   rw[jb,ez]
   rfl
  ·have ez:(row.zip line)[j]? = none:=by rw[ycp];simp[hr,hl];omega
   have e1:row.getD j 0=0:=by rw[y9,ycp.mpr (by omega)];rfl
   have e2:line.getD j 0=0:=by rw[y9,ycp.mpr (by omega)];rfl
   rw[jb,ez,e1,e2];simp
theorem JU(w:WFb K m b)(ht:t<K+m+1)(hp:p<K):(lsw b t p).bd=Sx.swp b.bd t p:=by
 unfold LB.bd Sx.swp
 congr 1
 ·funext j
  show(b.heads.set p t).getD j 0=if j=p then t else b.heads.getD j 0
  rw[y9,yb3];by_cases e:j=p
  ·subst e;simp[w.hl,hp]
  ·rw[if_neg (Ne.symm e),if_neg e,y9]
 ·funext i j
  show((b.rows.map λrow=>zbd row (b.rows.getD t []) p b.D).getD i []).getD j 0=Sx.swR b.bd t p i j
  by_cases hi:i<K+m+1
  ·have e:(b.rows.map λrow=>zbd row (b.rows.getD t []) p b.D).getD i []=zbd (b.rows.getD i []) (b.rows.getD t []) p b.D:=by
    have hi':i<b.rows.length:=by rw[w.rl];exact hi
    simp[y9,hi']
   rw[e,zkl (w.row hi) (w.row ht) (by omega)]
   rfl
  ·have e:(b.rows.map λrow=>zbd row (b.rows.getD t []) p b.D).getD i []=[]:=by
    have hi':¬i<b.rows.length:=by rw[w.rl];exact hi
    simp[y9,hi']
   have e2:∀j,b.bd.R i j=0:=λj=>by
    have hi':¬i<b.rows.length:=by rw[w.rl];exact hi
    simp[bd_R,y9,hi']
   rw[e];unfold Sx.swR;rw[e2,e2];have t0:Sx.tk (b.bd.R t p) 0=0:=by unfold Sx.tk;split<;>rfl
   rw[t0];simp
theorem zbc(w:WFb K m b)(s:Sm b)(ht:t<K+m+1)(hp:p<K):Xv [eB b,.int t,.int p]=.ok (eB (lsw b t p)):=by
 have hr:=JL w ht;have hlen:b.rows.length<=16777216:=by rw[w.rl];have:=w.kk;have:=w.mm;omega
 have hc:Xf (Zt 0) tT (Zj X0 (Zc (aa 0) (Zc (aa 1) (Zc (aa 2) (Zc (d1 (ay "divisor") (aa 3)) ac))))) [.emp,.val (eI (b.rows.getD t [])),.val (.int p),.val (eB b)] (b.rows.map eI)=.ok (b.rows.map λrow=>eI (zbd row (b.rows.getD t []) p b.D)):=by
  refine Yv eI _ _ λrow hrow=>⟨_,rfl,?_⟩
  have:=zdA (w.ll row hrow) (w.row ht) hp w.kk s.d0 s.d (s.r row hrow) (s.r _ (w.mem ht));simp[this,-y9]
 have hp2:ixP b.heads.length (p:Int)=some p:=by
  unfold ixP;rw[if_pos (by omega),if_pos (by rw[w.hl];omega)]
  simp
 have e1:ag (eI (b.rows.getD t [])) (.int (p:Int))=.ok (.int (b.bd.R t p)):=JM (by rw[w.row ht];omega)
 have ea:(if b.bd.R t p<0 then -b.bd.R t p else b.bd.R t p)=Sx.iabs (b.bd.R t p):=rfl
 generalize hline:b.rows.getD t []=line at *
 generalize hR:b.bd.R t p=rtp at *
 have el:lsw b t p=⟨b.heads.set p t,Sx.iabs rtp,b.rows.map λrow=>zbd row line p b.D⟩:=by unfold lsw;rw[hline,hR]
 rw[el];simp[Xv,zgK,zc5,zc4,zc3,zc2,ah,ai,hr,hc,hp2,e1,ea,hlen,-ag,zipK];simp[eB,yci,Function.comp_def]
theorem zkJ(lo:Int)(n:Nat):aw lo (n+1)=.int lo::aw (lo+1) n:=by
 unfold aw;rw[yee];simp only[yH,jf,Int.natCast_zero,ybb]
 congr 1
 refine jD λk _=>?_
 simp only[Function.comp]
 congr 1
 omega
theorem zky{st:ya->List Sl->Res (List Sl)}{b:DS}{P:Nat->Bool}(Inv:List Sl->Prop):∀(n lo:Nat) (G:List Sl),Inv G ->
  (∀t G',lo<=t->t<lo+n->Inv G'->∃G1 G2,st (.int (t:Int)) G'=.ok G1/\b G1=(if P t=true then .ok (.rt (.int (t:Int))) else .ok (.nx G2))/\Inv G2) ->
  (∃t,lo<=t/\t<lo+n/\P t=true/\(∀t',lo<=t'->t' < t->P t'=false)/\forL st b (aw (lo:Int) n) G=.ok (.rt (.int (t:Int)))) \/
  ((∀t,lo<=t->t<lo+n->P t=false)/\∃G',Inv G'/\forL st b (aw (lo:Int) n) G=.ok (.nx G'))
 |0,lo,G,hG,h=>.inr ⟨λt h1 h2=>by omega,G,hG,by simp[aw,forL]⟩
 |n+1,lo,G,hG,h=>by
  obtain⟨G1,G2,e1,e2,h2⟩:=h lo G (yu _) (by omega) hG
  rw[zkJ];have ec:(lo:Int)+1=((lo+1:Nat):Int):=by omega
  rw[ec];unfold forL;rw[e1,Res.bind_ok,e2];cases hp:P lo with
  |true=>exact .inl ⟨lo,yu _,by omega,hp,λt' a b=>by omega,by simp⟩
  |false=>
   simp only[ybx,if_false,Res.bind_ok];rcases zky Inv n (lo+1) G2 h2 (λt G' a b c=>h t G' (by omega) (by omega) c) with ⟨t,a1,a2,a3,a4,a5⟩|⟨a1,G',a2,a3⟩
   ·refine .inl ⟨t,by omega,by omega,a3,λt' b1 b2=>?_,a5⟩
    by_cases z:t'=lo
    ·rw[z];exact hp
    ·exact a4 t' (by omega) b2
   ·refine .inr ⟨λt b1 b2=>?_,G',a2,a3⟩
    by_cases z:t=lo
    ·rw[z];exact hp
    ·exact a1 t (by omega) (by omega)
theorem zlO(i j:Int):fNe (.int i) (.int j)=.ok (.bool (!decide (i=j))):=by simp[fNe]
theorem zfx(w:WFb K m b)(hp:p<K):(∃t,K<=t/\t<K+m/\b.bd.R t p≠0/\YF [eB b,.int p]=.ok (.int t))\/((∀t,K<=t->t<K+m->b.bd.R t p=0)/\YF [eB b,.int p]=.ok .none):=by
 have hrm:=zcf w;have hs:=zky (st:=Zt 2) (b:=(aE (tV (d2 fNe (d2 ag (d2 ag (d1 (ay "rows") (aa 0)) (aa 2)) (aa 1)) (dC (.int 0)))) (ak (aa 2)) ZH)) (P:=λt=>!decide (b.bd.R t p=0))
  (λG=>∃s,G=[.val (eB b),.val (.int p),s]) m K [.val (eB b),.val (.int p),.emp] ⟨_,rfl⟩ λt G' h1 h2 ⟨s,hG⟩=>by
   subst hG;have e1:=JL w (i:=t) (by omega)
   have e2:ag (eI (b.rows.getD t [])) (.int (p:Int))=.ok (.int (b.bd.R t p)):=JM (by rw[w.row (by omega)];omega)
   refine⟨_,[.val (eB b),.val (.int p),.val (.int t)],rfl,?_,⟨_,rfl⟩⟩;generalize b.bd.R t p=r at *
   by_cases hz:r=0<;>simp[e1,e2,zlO,hz,-ag,-y9]
 rcases hs with ⟨t,a1,a2,a3,_,a5⟩|⟨a1,G',⟨s,hG⟩,a3⟩
 ·refine .inl ⟨t,a1,a2,by simpa using a3,?_⟩
  simp[YF,Uu,ah,ai,hrm,a5,-ag,-aE]
 ·refine .inr ⟨λt h1 h2=>by simpa using a1 t h1 h2,?_⟩
  simp[YF,Uu,Qj,ah,ai,hrm,a3,-ag,-aE]
theorem zeT(w:WFb K m b):(∃t,K<=t/\t<K+m/\b.bd.R t K<0/\(∀i,K<=i->i<t->0<=b.bd.R i K)/\Z6 [eB b]=.ok (.int t))\/((∀t,K<=t->t<K+m->0<=b.bd.R t K)/\Z6 [eB b]=.ok .none):=by
 have hrm:=zcf w;have hs:=zky (st:=Zt 1) (b:=(aE (tV (d2 fLt (d2 ag (d2 ag (d1 (ay "rows") (aa 0)) (aa 1)) (d1 fNeg (dC (.int 1)))) (dC (.int 0)))) (ak (aa 1)) ZH)) (P:=λt=>decide (b.bd.R t K<0))
  (λG=>∃s,G=[.val (eB b),s]) m K [.val (eB b),.emp] ⟨_,rfl⟩ λt G' h1 h2 ⟨s,hG⟩=>by
   subst hG;have e1:=JL w (i:=t) (by omega)
   have e2:ag (eI (b.rows.getD t [])) (.int (-1))=.ok (.int (b.bd.R t K)):=zfs (w.row (by omega))
   refine⟨_,[.val (eB b),.val (.int t)],rfl,?_,⟨_,rfl⟩⟩;generalize b.bd.R t K=r at *
   by_cases hz:r<0<;>simp[e1,e2,hz,-ag,-y9]
 rcases hs with ⟨t,a1,a2,a3,a4,a5⟩|⟨a1,G',⟨s,hG⟩,a3⟩
 ·refine .inl ⟨t,a1,a2,by simpa using a3,λi h1 h2=>by have:=a4 i h1 h2;simp at this;omega,?_⟩
  simp[Z6,Q3,ah,ai,hrm,a5,-ag,-aE]
 ·refine .inr ⟨λt h1 h2=>by have:=a1 t h1 h2;simp at this;omega,?_⟩
  simp[Z6,Q3,JO,ah,ai,hrm,a3,-ag,-aE]
def hlp(b:LB)(K t j:Nat):Bool:=decide (0<b.bd.R t j) || (decide (b.bd.R t j<0) && decide (b.bd.h j<K))
theorem helps_ok(w:WFb K m b){j:Nat}(hj:j<K)(r:Int):zbB [eB b,.int j,.int r]=.ok (.bool (decide (0<r) || (decide (r<0) && decide (b.bd.h j<K)))):=by
 have e1:ag (eH b.heads) (.int (j:Int))=.ok (.int ((b.heads.getD j 0:Nat):Int)):=zlA (by rw[w.hl];exact hj)
 rw[bd_h];generalize b.heads.getD j 0=hj' at *
 by_cases h1:0<r<;>by_cases h2:r<0<;>simp[zbB,zl7,ah,ai,e1,w.hl,h1,h2,-ag]
theorem zfo{key:ya->Res ya}{g:Nat->Int}:∀(cs:List Nat) (j0:Nat),(∀j∈cs,key (.int (j:Int))=.ok (.int (g j)))->∃j,(j=j0\/j∈cs)/\g j<=g j0/\(∀j'∈cs,g j<=g j')/\minL key (.int (j0:Int)) (g j0) (cs.map λ(j:Nat)=>.int (j:Int))=.ok (.int (j:Int))
 |[],j0,_=>⟨j0,.inl rfl,jR _,λ_ h=>by simp at h,rfl⟩
 |c::cs,j0,h=>by
  simp only[yH,minL];rw[h c (by simp),Res.bind_ok]
  by_cases hlt:g c<g j0
  ·obtain⟨j,a1,a2,a3,a4⟩:=zfo cs c λj hj=>h j (by simp[hj])
   refine⟨j,?_,by omega,λj' hj'=>?_,by simp only[hlt,if_true];exact a4⟩
   ·rcases a1 with a1|a1
    ·exact .inr (by simp[a1])
    ·exact .inr (by simp[a1])
   ·rcases yG.mp hj' with z|z
    ·rw[z];exact a2
    ·exact a3 j' z
  ·obtain⟨j,a1,a2,a3,a4⟩:=zfo cs j0 λj hj=>h j (by simp[hj])
   refine⟨j,?_,a2,λj' hj'=>?_,by simp only[hlt,if_false];exact a4⟩
   ·rcases a1 with a1|a1
    ·exact .inl a1
    ·exact .inr (by simp[a1])
   ·rcases yG.mp hj' with z|z
    ·rw[z];omega
    ·exact a3 j' z
theorem minT_int{key:ya->Res ya}{g:Nat->Int}(cs:List Nat)(h:∀j∈cs,key (.int (j:Int))=.ok (.int (g j))):(cs=[]/\minT key (cs.map λ(j:Nat)=>.int (j:Int))=.ok .none)\/∃j,j∈cs/\(∀j'∈cs,g j<=g j')/\minT key (cs.map λ(j:Nat)=>.int (j:Int))=.ok (.int (j:Int)):=by
 cases cs with
 |nil=>exact .inl ⟨rfl,rfl⟩
 |cons c cs=>
  obtain⟨j,a1,a2,a3,a4⟩:=zfo cs c λj hj=>h j (by simp[hj])
  refine .inr ⟨j,?_,λj' hj'=>?_,?_⟩
  ·rcases a1 with a1|a1
   ·simp[a1]
   ·simp[a1]
  ·rcases yG.mp hj' with z|z
   ·rw[z];exact a2
   ·exact a3 j' z
  ·simp only[yH,minT];rw[h c (by simp),Res.bind_ok]
   exact a4
theorem Jz(w:WFb K m b)(ht:t<K+m+1):(∃p,p<K/\hlp b K t p=true/\(∀j,j<K->hlp b K t j=true->b.bd.h p<=b.bd.h j)/\Zo [eB b,.int t]=.ok (.int p))\/((∀j,j<K->hlp b K t j=false)/\Zo [eB b,.int t]=.ok .none):=by
 have e0:=JL w ht;have hK:=w.kk;have hrg:Uw (K:Int)=true:=Yn (by omega)
 have hlen:(aw 0 K).length<=16777216:=by rw[XZ];omega
 have hc:Xf (Zt 0) (tV (Zj zbB (Zc (aa 1) (Zc (aa 0) (Zc (d2 ag (aa 2) (aa 0)) ac))))) (aa 0) [.emp,.val (eB b),.val (eI (b.rows.getD t []))] (aw 0 K)=.ok (((y4 K).filter λj=>hlp b K t j).map λ(j:Nat)=>.int (j:Int)):=by
  rw[Uz];refine JG (λ(j:Nat)=>ya.int (j:Int)) (λ(j:Nat)=>ya.int (j:Int)) (λj=>hlp b K t j) (y4 K) λj hj=>⟨_,rfl,?_,λ_=>rfl⟩
  have hj':=jq.mp hj;have e1:ag (eI (b.rows.getD t [])) (.int (j:Int))=.ok (.int (b.bd.R t j)):=JM (by rw[w.row ht];omega)
  have e2:=helps_ok w hj' (b.bd.R t j);unfold hlp;generalize b.bd.R t j=r at *
  simp[e1,e2,-ag,-y9]
 have hm:=minT_int (key:=λx=>noX ((d2 ag (d1 (ay "heads") (aa 1)) (aa 0)) (.val x::[.val (eB b)]))) (g:=λj=>(b.bd.h j:Int)) ((y4 K).filter λj=>hlp b K t j) λj hj=>by
  have hj':=jq.mp (j8.mp hj).1;have e1:ag (eH b.heads) (.int (j:Int))=.ok (.int ((b.heads.getD j 0:Nat):Int)):=zlA (by rw[w.hl];exact hj')
  simp[e1,-ag]
 rcases hm with ⟨a1,a2⟩|⟨p,a1,a2,a3⟩
 ·refine .inr ⟨λj hj=>?_,?_⟩
  ·have:=List.filter_eq_nil_iff.mp a1 j (jq.mpr hj);simpa using this
  ·simp only[a1]at hc a2;simp[Zo,VM,W1,W0,ah,ai,e0,w.hl,hrg,hlen,hc,minT,-ag,-y9]
 ·obtain⟨b1,b2⟩:=j8.mp a1;refine .inl ⟨p,jq.mp b1,b2,λj hj hh=>?_,?_⟩
  ·have:=a2 j (j8.mpr ⟨jq.mpr hj,hh⟩);omega
  ·generalize ((y4 K).filter λj=>hlp b K t j)=cs at *
   simp only[d2,d1,aa,ycu,yay,Res.bind_ok,zlL,noX]at a3;simp[Zo,VM,W1,W0,ah,ai,e0,w.hl,hrg,hlen,hc,a3,-ag,-y9]
end
end Lw
namespace Sx
def idM:Mat:=λi c=>if c=i then 1 else 0
theorem ziP:∀n,det n idM * det n idM=1
 |0=>rfl
 |n+1=>by
  have e:det (n+1) idM=sg n * det n idM:=by
   simp only[det];rw[zbe (k:=n) (by omega) λi hi hne=>by
    have:idM i n=0:=if_neg (λz=>hne z.symm)
    rw[this,jp,qY]]
   have h1:idM n n=1:=if_pos rfl;have h2:det n (skip n idM)=det n idM:=VD λi c hi hc=>by unfold skip;rw[if_pos hi]
   rw[h1,h2,qB]
  have ih:=ziP n;have hs:sg n * sg n=1:=by rcases sg_abs n with h|h<;>rw[h]<;>rfl
  rw[e];have:sg n * det n idM * (sg n * det n idM)=(sg n * sg n) * (det n idM * det n idM):=by grind
  rw[this,hs,ih];rfl
theorem zjV{n j:Nat}(hj:j<n)(x:Vec):det n (put idM j x)=x j * det n idM:=by
 have e:det n (put idM j x)=det n (put idM j λc'=>ar n λc=>x c * idM c c'):=by
  refine VD λi c hi hc=>?_
  unfold put;split
  ·show x c=ar n λa=>x a * idM a c
   rw[zbe (k:=c) hc λa ha hne=>by
    have:idM a c=0:=if_neg (λz=>hne z.symm)
    rw[this,jp]]
   have:idM c c=1:=if_pos rfl;rw[this,qB]
  ·rfl
 rw[e,zhO _ hj,zbe (k:=j) hj λa ha hne=>by
  rw[QW (k:=j) (l:=a) hj ha (Ne.symm hne) (λc hc=>by rw[WS,UA hne]),jp],Qr]
theorem zjR{K N:Nat}{M:Mat}{b:Bd}(hh:∀j,j<K->b.h j=j)(hD:b.D=1)(hR:∀i j,b.R i j=M i j)(hM:∀j c,j<K->c<=K->M j c=if c=j then 1 else 0)(hKN:K<=N):Good K N M b:=by
 have hV:∀i c,i<K+1->c<K+1->Vh K M b.h i c=idM i c:=λi c hi hc=>by
  unfold Vh idM;split
  ·rename_i h;rw[hh i h,hM i c h (by omega)]
  ·have:i=K:=by omega
   rw[this];rfl
 have dV:det (K+1) (Vh K M b.h)=det (K+1) idM:=VD hV;refine⟨by rw[hD];decide,⟨det (K+1) idM,ziP _,?_,λi j hi hj=>?_⟩,λi c hi hc=>?_,λj hj=>by rw[hh j hj];omega⟩
 ·rw[hD,dV,ziP]
 ·have e:det (K+1) (put (Vh K M b.h) j (M i))=det (K+1) (put idM j (M i)):=VD λa c ha hc=>by
   unfold put;split
   ·rfl
   ·exact hV a c ha hc
  rw[e,zjV (by omega),hR,yag,ziP,qB]
 ·rw[hD,ybe,zbe (k:=c) (by omega) λa ha hne=>by
   rw[hV a c ha (by omega)]
   have:idM a c=0:=if_neg (λz=>hne z.symm)
   rw[this,jp],hV c c (by omega) (by omega),hR]
  have:idM c c=1:=if_pos rfl;rw[this,qB]
def Fr(K m:Nat)(b:Bd):Prop:=∀j,j<K->b.h j<K->∀t,K<=t->t<K+m->b.R t j=0
theorem zf1{K N m:Nat}{M:Mat}{b:Bd}{t p:Nat}(g:Good K N M b)(hN:N=K+m+1)(ht:K<=t)(ht2:t<K+m)(hp:p<K)(hne:b.R t p≠0){j:Nat}(hj:j<K)(hjp:j≠p)(hz:∀i,K<=i->i<K+m->b.R i j=0):∀i,K<=i->i<K+m->(swp b t p).R i j=0:=λi h1 h2=>by
 have e:=(g.swap (by omega) hp hne).2 i j (by omega) (by omega) hjp
 rw[hz i h1 h2,hz t ht ht2,jp,jp,yas]at e;rcases ydu.mp e with z|z
 ·have:=g.pos;omega
 ·exact z
theorem zlK{K N m:Nat}{M:Mat}{b:Bd}{t p:Nat}(g:Good K N M b)(hN:N=K+m+1)(f:Fr K m b)(ht:K<=t)(ht2:t<K+m)(hp:p<K)(hne:b.R t p≠0):Fr K m (swp b t p):=λj hj hh i h1 h2=>by
 by_cases e:j=p
 ·subst e;have:(if j=j then t else b.h j)<K:=hh
  rw[if_pos rfl]at this;omega
 ·have hh':(if j=p then t else b.h j)<K:=hh
  rw[if_neg e]at hh';exact zf1 g hN ht ht2 hp hne hj e (f j hj hh') i h1 h2
end Sx
namespace Lw
open PySem Fx
def zfZ(n i:Nat):List Int:=(y3 n 0).set i 1
def zgh(l:Lim):List Int:=l.1.map (λx=>-x)++[l.2]
def QP(K:Nat)(ls:List Lim)(goal:List Int):List (List Int):=(y4 K).map (λi=>zfZ (K+1) i)++ls.map zgh++[goal++[0]]
def lb0(K:Nat)(ls:List Lim)(goal:List Int):LB:=⟨y4 K,1,QP K ls goal⟩
theorem unit_ok{n i:Nat}(h:i<n)(hn:n<=1001):zem [.int n,.int i]=.ok (eI (zfZ n i)):=by
 have h1:Uw (n:Int)=true:=Yn (by omega)
 have h2:ixP n (i:Int)=some i:=by
  unfold ixP;rw[if_pos (by omega),if_pos (by omega)]
  simp
 have h3:n<=16777216:=by omega
 have e:(y3 n [ya.int 0]).flatten=(y3 n (0:Int)).map .int:=by
  rw[List.map_replicate];clear h h1 h2 h3 hn
  induction n with
  |zero=>rfl
  |succ n ih=>rw[qd,qM,ih,qd];rfl
 simp[zem,d_unit,ziT,ziS,ah,ai,h1,h3,e,h2,zfZ,yci]
theorem zhn{l:Lim}{k:Nat}(h:l.1.length=k)(hk:k<=1000):Uc [aq l]=.ok (eI (zgh l)):=by
 have hc:Xf (Zt 0) tT (d1 fNeg (aa 0)) [.emp] (l.1.map .int)=.ok ((l.1.map λx=>-x).map .int):=by
  rw[jf];exact Yv ya.int _ _ λx _=>⟨_,rfl,rfl⟩
 have hl:l.1.length<=16777216:=by omega
 have hl2:l.1.length+1<=16777216:=by omega
 simp[Uc,zeu,ah,ai,aq,at0,at1,hc,hl,hl2,zgh]
theorem zdW{K m:Nat}{ls:List Lim}{goal:List Int}(hK:K<=1000)(hm:ls.length=m)(hm2:m<=1000)(hw:∀l∈ls,l.1.length=K)(hg:goal.length=K):X4 [.tuple [.int K,.tuple (ls.map aq)],eI goal]=.ok (eB (lb0 K ls goal)):=by
 have h1:Uw (K:Int)=true:=Yn (by omega)
 have h2:(aw 0 K).length<=16777216:=by rw[XZ];omega
 have c1:Xf (Zt 0) tT (Zj zem (Zc (d2 aF (aa 1) (dC (.int 1))) (Zc (aa 0) ac))) [.emp,.val (.int K)] (aw 0 K)=.ok ((y4 K).map λi=>eI (zfZ (K+1) i)):=by
  rw[Uz];refine Yv (λ(k:Nat)=>ya.int (k:Int)) _ _ λi hi=>⟨_,rfl,?_⟩
  have:=unit_ok (n:=K+1) (i:=i) (by have:=jq.mp hi;omega) (by omega)
  have e:((K+1:Nat):Int)=(K:Int)+1:=by omega
  rw[e]at this;simp[this]
 have c2:Xf (Zt 0) tT (Zj Uc (Zc (aa 0) ac)) [.emp] (ls.map aq)=.ok (ls.map λl=>eI (zgh l)):=by
  refine Yv aq _ _ λl hl=>⟨_,rfl,?_⟩
  simp[zhn (hw l hl) hK]
 have h3:ls.length<=16777216:=by omega
 have h4:K+ls.length<=16777216:=by omega
 have h5:K+ls.length+1<=16777216:=by omega
 have h6:goal.length+1<=16777216:=by omega
 simp[X4,zaZ,Jj,Jh,Jg,ah,ai,at0,at1,h1,h2,c1,c2,h3,h4,h5,h6,zipK];simp[eB,lb0,QP,Uz,Function.comp_def]
section
variable {K m:Nat}{ls:List Lim}{goal:List Int}
theorem zkH(hm:ls.length=m):(QP K ls goal).length=K+m+1:=by simp[QP,hm];omega
theorem lb0_wf(hK:K<=1000)(hm:ls.length=m)(hm2:m<=1000)(hw:∀l∈ls,l.1.length=K)(hg:goal.length=K):WFb K m (lb0 K ls goal):=by
 refine⟨by simp[lb0],zkH hm,λr hr=>?_,hK,hm2⟩
 have hr':r∈QP K ls goal:=hr;unfold QP at hr';rcases jN.mp hr' with h|h
 ·rcases jN.mp h with h|h
  ·obtain⟨i,_,rfl⟩:=yR.mp h;simp[zfZ]
  ·obtain⟨l,hl,rfl⟩:=yR.mp h;simp[zgh,hw l hl]
 ·rw[ql.mp h];simp[hg]
theorem zkI{i:Nat}(hi:i<K):(QP K ls goal).getD i []=zfZ (K+1) i:=by
 unfold QP;rw[y9,yb2,jK (by simpa using hi)]
 simp[hi]
theorem zib{i:Nat}(hi:i<ls.length):(QP K ls goal).getD (K+i) []=zgh (ls.getD i ([],0)):=by
 unfold QP;rw[y9,yb2,jC (by simp)]
 simp[hi,y9,jK]
theorem zgg:(QP K ls goal).getD (K+ls.length) []=goal++[0]:=by
 unfold QP;rw[y9,jC (by simp)]
 simp
def M0(K:Nat)(ls:List Lim)(goal:List Int):Sx.Mat:=(lb0 K ls goal).bd.R
theorem ziu(hm:ls.length=m):Sx.Good K (K+m+1) (M0 K ls goal) (lb0 K ls goal).bd:=by
 refine Sx.zjR (λj hj=>?_) rfl (λ_ _=>rfl) (λj c hj hc=>?_) (by omega)
 ·show(y4 K).getD j 0=j;simp[hj]
 ·show((QP K ls goal).getD j []).getD c 0=_;rw[zkI hj];unfold zfZ;rw[y9,yb3];by_cases e:c=j
  ·subst e;rw[if_pos rfl,if_pos (by simp;omega),if_pos rfl];rfl
  ·rw[if_neg (Ne.symm e),if_neg e,qG];split<;>rfl
end
structure Bo(K m:Nat)(M:Sx.Mat)(b:LB):Prop where
 wf:WFb K m b
 g:Sx.Good K (K+m+1) M b.bd
 hw:∀j,j<K->b.bd.h j<K+m
structure Mz(K m:Nat)(M:Sx.Mat)(B:Nat):Prop where
 b1:1<=B
 le:∀i c,i<K+m+1->c<=K->(M i c).natAbs<=B
 z:Sx.fact (K+1) * B ^ (K+1)<2 ^ 1000
section
variable {K m B:Nat}{M:Sx.Mat}{b:LB}{t p:Nat}
theorem Bo.sm(o:Bo K m M b)(z:Mz K m M B):Sm b:=by
 obtain⟨h1,h2⟩:=o.g.size z.b1 z.le;refine⟨by have:0<b.D:=o.g.pos;omega,jk h1 z.z,λr hr x hx=>?_⟩
 obtain⟨i,hi,rfl⟩:=qK hr;obtain⟨j,hj,rfl⟩:=qK hx;rw[o.wf.rl]at hi;have hj':=hj;rw[o.wf.ll _ (yT _)]at hj';have:=h2 i j hi (by omega)
 have e:b.bd.R i j=b.rows[i][j]:=by
  rw[bd_R];have e1:b.rows.getD i []=b.rows[i]:=by simp[y9,show i<b.rows.length by rw[o.wf.rl];exact hi]
  rw[e1];simp[y9,hj]
 rw[e]at this;exact jk this z.z
theorem Bo.swap(o:Bo K m M b)(ht:K<=t)(ht2:t<K+m)(hp:p<K)(hne:b.bd.R t p≠0):Bo K m M (lsw b t p):=by
 refine⟨lsw_wf o.wf (by omega),?_,λj hj=>?_⟩
 ·rw[JU o.wf (by omega) hp]
  exact(o.g.swap (by omega) hp hne).1
 ·rw[JU o.wf (by omega) hp]
  show(if j=p then t else b.bd.h j)<K+m
  split
  ·exact ht2
  ·exact o.hw j hj
def zg6:DS:=(ad (aj 2 [] (Zj YF (Zc (aa 0) (Zc (aa 1) ac)))) (aE (tV (d1 zaM (aa 2))) (aj 0 [] (Zj Xv (Zc (aa 0) (Zc (aa 2) (Zc (aa 1) ac))))) ZH))
theorem zjT(z:Mz K m M B)(o:Bo K m M b)(hp:p<K)(s2:Sl):∃b' s2',Bo K m M b'/\(∀j,j<K->j≠p->(∀i,K<=i->i<K+m->b.bd.R i j=0)->∀i,K<=i->i<K+m->b'.bd.R i j=0)/\(∀j,j<K->j≠p->b'.bd.h j=b.bd.h j)/\(b'.bd.h p<K->∀i,K<=i->i<K+m->b'.bd.R i p=0) /\
  zg6 [.val (eB b),.val (.int p),s2]=.ok (.nx [.val (eB b'),.val (.int p),s2']):=by
 rcases zfx o.wf hp with ⟨t,h1,h2,h3,h4⟩|⟨h1,h2⟩
 ·refine⟨lsw b t p,.val (.int t),o.swap h1 h2 hp h3,λj hj hjp hz=>?_,λj hj hjp=>?_,λhh=>?_,?_⟩
  ·rw[JU o.wf (by omega) hp]
   exact Sx.zf1 o.g rfl h1 h2 hp h3 hj hjp hz
  ·rw[JU o.wf (by omega) hp]
   exact if_neg hjp
  ·rw[JU o.wf (by omega) hp]at hh
   have:(if p=p then t else b.bd.h p)<K:=hh
   rw[if_pos rfl]at this;omega
  ·have hs:=zbc o.wf (o.sm z) (t:=t) (by omega) hp
   simp[zg6,h4,hs]
 ·exact⟨b,.val .none,o,λj hj _ hz=>hz,λj hj _=>rfl,λ_=>h1,by simp[zg6,h2]⟩
theorem freed_ok(z:Mz K m M B)(o:Bo K m M b):∃b',Bo K m M b'/\Sx.Fr K m b'.bd/\zcV [eB b]=.ok (eB b'):=by
 have h1:Uw (K:Int)=true:=Yn (by have:=o.wf.kk;omega)
 obtain⟨G',e,b',s1,s2,hG,o',f'⟩:=zbA (st:=Zt 1) (b:=zg6) (n:=K) (G:=[.val (eB b),.emp,.emp])
  (λi G=>∃b' s1 s2,G=[.val (eB b'),s1,s2]/\Bo K m M b'/\∀j,j<i->j<K->b'.bd.h j<K->∀t,K<=t->t<K+m->b'.bd.R t j=0)
  ⟨b,.emp,.emp,rfl,o,λj hj=>by omega⟩ (λi G hi ⟨b1,s1,s2,hG,o1,f1⟩=>by
   subst hG;obtain⟨b2,s2',o2,k1,k2,k3,k4⟩:=zjT z o1 hi s2;refine⟨_,rfl,_,.inl k4,b2,_,_,rfl,o2,λj hj hjK hh=>?_⟩
   by_cases e:j=i
   ·subst e;exact k3 hh
   ·rw[k2 j hjK e]at hh;exact k1 j hjK e (f1 j (by omega) hjK hh))
 subst hG;refine⟨b',o',λj hj hh=>f' j hj hj hh,?_⟩
 have hd:zl9=ad (dFor (Zt 1) [] (iRng (d1 aB (d1 (ay "heads") (aa 0)))) zg6) zdi:=rfl;simp[zcV,hd,zdi,ah,ai,o.wf.hl,h1,e]
end
def tOf(b:LB):Option Nat:=match Z6 [eB b] with
 |.ok (.int t)=>some t.toNat
 |_=>none
def pOf(b:LB)(t:Nat):Option Nat:=match Zo [eB b,.int t] with
 |.ok (.int p)=>some p.toNat
 |_=>none
def nxt(b:LB):Option LB:=(tOf b).bind λt=>(pOf b t).map λp=>lsw b t p
def End:Nat->LB->Prop
 |0,b=>nxt b=none
 |n+1,b=>nxt b=none\/∃b',nxt b=some b'/\End n b'
section
variable {K m B:Nat}{M:Sx.Mat}{b:LB}
theorem ziG(f:Sx.Fr K m b.bd){t j:Nat}(ht:K<=t)(ht2:t<K+m)(hj:j<K):hlp b K t j=decide (0<b.bd.R t j):=by
 unfold hlp;by_cases hh:b.bd.h j<K
 ·rw[f j hj hh t ht ht2];rfl
 ·rw[decide_eq_false hh,Bool.and_false,Bool.or_false]
theorem zbg(o:Bo K m M b)(f:Sx.Fr K m b.bd):
  ((∀t,K<=t->t<K+m->0<=b.bd.R t K)/\Z6 [eB b]=.ok .none/\nxt b=none) \/
  (∃t,K<=t/\t<K+m/\b.bd.R t K<0/\(∀j,j<K->hlp b K t j=false)/\Z6 [eB b]=.ok (.int t)/\Zo [eB b,.int t]=.ok .none/\nxt b=none) \/
  ∃t p,t<K+m/\Sx.Ch1 K (K+m+1) b.bd t p/\Z6 [eB b]=.ok (.int t)/\Zo [eB b,.int t]=.ok (.int p)/\nxt b=some (lsw b t p):=by
 rcases zeT o.wf with ⟨t,h1,h2,h3,h4,h5⟩|⟨h1,h2⟩
 ·have e1:tOf b=some t:=by unfold tOf;rw[h5];simp
  rcases Jz o.wf (t:=t) (by omega) with ⟨p,k1,k2,k3,k4⟩|⟨k1,k2⟩
  ·have e2:pOf b t=some p:=by unfold pOf;rw[k4];simp
   refine .inr (.inr ⟨t,p,h2,⟨h1,by omega,k1,h3,h4,?_,λj hj hlt=>?_,λj hj hh=>f j hj hh t h1 h2⟩,h5,k4,by unfold nxt;rw[e1];simp[e2]⟩)
   ·rw[ziG f h1 h2 k1]at k2;simpa using k2
   ·rcases(show b.bd.R t j<=0\/0<b.bd.R t j by omega) with z|z
    ·exact z
    ·have:=k3 j hj (by rw[ziG f h1 h2 hj];simpa using z)
     omega
  ·have e2:pOf b t=none:=by unfold pOf;rw[k2]
   exact .inr (.inl ⟨t,h1,h2,h3,k1,h5,k2,by unfold nxt;rw[e1];simp[e2]⟩)
 ·exact .inl ⟨h1,h2,by unfold nxt tOf;rw[h2];rfl⟩
theorem zcq(o:Bo K m M b)(f:Sx.Fr K m b.bd){b':LB}(e:nxt b=some b'):∃t p,t<K+m/\Sx.Ch1 K (K+m+1) b.bd t p/\b'=lsw b t p/\Bo K m M b'/\Sx.Fr K m b'.bd:=by
 rcases zbg o f with ⟨_,_,h⟩|⟨_,_,_,_,_,_,_,h⟩|⟨t,p,h1,ch,_,_,h⟩
 ·rw[h]at e;cases e
 ·rw[h]at e;cases e
 ·rw[h]at e;cases e;have hne:b.bd.R t p≠0:=by have:=ch.hp;omega
  refine⟨t,p,h1,ch,rfl,o.swap ch.tK h1 ch.pK hne,?_⟩;rw[JU o.wf (by omega) ch.pK]
  exact Sx.zlK o.g rfl f ch.tK h1 ch.pK hne
theorem ends(o:Bo K m M b)(f:Sx.Fr K m b.bd):End ((K+m+1) ^ K) b:=by
 refine js λno=>?_
 let it:Nat->LB:=λk=>Nat.rec b (λ_ x=>(nxt x).getD x) k
 have it1:∀k,it (k+1)=(nxt (it k)).getD (it k):=λk=>rfl
 have all:∀k,k<=(K+m+1) ^ K->¬End ((K+m+1) ^ K - k) (it k)/\Bo K m M (it k)/\Sx.Fr K m (it k).bd:=by
  intro k
  induction k with
  |zero=>exact λ_=>⟨no,o,f⟩
  |succ k ih=>
   intro hk;obtain⟨h1,h2,h3⟩:=ih (by omega)
   obtain⟨d,hd⟩:∃d,(K+m+1) ^ K - k=d+1:=⟨(K+m+1) ^ K - k - 1,by omega⟩
   rw[hd]at h1;cases e:nxt (it k) with
   |none=>exact absurd (.inl e) h1
   |some b'=>
    have e2:it (k+1)=b':=by rw[it1,e];rfl
    obtain⟨t,p,_,_,_,a5,a6⟩:=zcq h2 h3 e;rw[e2,show(K+m+1) ^ K - (k+1)=d by omega]
    exact⟨λz=>h1 (.inr ⟨b',e,z⟩),a5,a6⟩
 have step:∀k,∃q:Nat×Nat,k<(K+m+1) ^ K->Sx.Ch1 K (K+m+1) (it k).bd q.1 q.2/\(it (k+1)).bd=Sx.swp (it k).bd q.1 q.2:=by
  intro k;by_cases hk:k<(K+m+1) ^ K
  ·obtain⟨h1,h2,h3⟩:=all k (by omega)
   obtain⟨d,hd⟩:∃d,(K+m+1) ^ K - k=d+1:=⟨(K+m+1) ^ K - k - 1,by omega⟩
   rw[hd]at h1;cases e:nxt (it k) with
   |none=>exact absurd (.inl e) h1
   |some b'=>
    obtain⟨t,p,a1,a2,a3,_,_⟩:=zcq h2 h3 e;refine⟨(t,p),λ_=>⟨a2,?_⟩⟩
    have e2:it (k+1)=b':=by rw[it1,e];rfl
    rw[e2,a3,JU h2.wf (by omega) a2.pK]
  ·exact⟨(0,0),λz=>absurd z hk⟩
 obtain⟨q,hq⟩:=yeb step;exact absurd (Sx.zhf (K:=K) (N:=K+m+1) (M:=M) (B:=λk=>(it k).bd) (T:=λk=>(q k).1) (P:=λk=>(q k).2) (L:=(K+m+1) ^ K) (λk hk=>(all k hk).2.1.g) (λk hk=>(hq k hk).1) λk hk=>(hq k hk).2) (jY _)
def cS:DT:=tV (d1 zaM (aa 3))
def bS:DS:=(ad (aj 4 [] (Zj Zo (Zc (aa 2) (Zc (aa 3) ac)))) (ad (aE (tV (d1 fIsN (aa 4))) (ak (au (Zc (aa 2) (Zc (aa 3) ac)))) ZH) (ad (aj 2 [] (Zj Xv (Zc (aa 2) (Zc (aa 3) (Zc (aa 4) ac))))) (aj 3 [] (Zj Z6 (Zc (aa 2) ac))))))
theorem zhe(z:Mz K m M B)(tk tg:ya):∀(n:Nat) (b:LB),End n b->Bo K m M b->Sx.Fr K m b.bd->∀(fuel:Nat),n<fuel->∀(th:ya) (s4:Sl),Z6 [eB b]=.ok th ->
  ∃b',Bo K m M b'/\Sx.Fr K m b'.bd/\(((∀t,K<=t->t<K+m->0<=b'.bd.R t K)/\∃s4',YN cS bS fuel [.val tk,.val tg,.val (eB b),.val th,s4]=.ok (.nx [.val tk,.val tg,.val (eB b'),.val .none,s4'])) \/
   ∃t,K<=t/\t<K+m/\b'.bd.R t K<0/\(∀j,j<K->hlp b' K t j=false)/\YN cS bS fuel [.val tk,.val tg,.val (eB b),.val th,s4]=.ok (.rt (.tuple [eB b',.int t]))):=by
 intro n
 induction n with
 |zero=>
  intro b he o f fuel hf th s4 hth;obtain⟨fu,rfl⟩:∃fu,fuel=fu+1:=⟨fuel - 1,by omega⟩
  have he':nxt b=none:=he;rcases zbg o f with ⟨a1,a2,_⟩|⟨t,a1,a2,a3,a4,a5,a6,_⟩|⟨t,p,_,_,_,_,a5⟩
  ·rw[hth]at a2;cases a2;refine⟨b,o,f,.inl ⟨a1,s4,?_⟩⟩;simp[YN,cS]
  ·rw[hth]at a5;cases a5;refine⟨b,o,f,.inr ⟨t,a1,a2,a3,a4,?_⟩⟩;simp[YN,cS,bS,a6]
  ·rw[he']at a5;cases a5
 |succ n ih=>
  intro b he o f fuel hf th s4 hth;obtain⟨fu,rfl⟩:∃fu,fuel=fu+1:=⟨fuel - 1,by omega⟩
  rcases zbg o f with ⟨a1,a2,_⟩|⟨t,a1,a2,a3,a4,a5,a6,_⟩|⟨t,p,a0,ch,a3,a4,a5⟩
  ·rw[hth]at a2;cases a2;refine⟨b,o,f,.inl ⟨a1,s4,?_⟩⟩;simp[YN,cS]
  ·rw[hth]at a5;cases a5;refine⟨b,o,f,.inr ⟨t,a1,a2,a3,a4,?_⟩⟩;simp[YN,cS,bS,a6]
  ·rw[hth]at a3;cases a3;have he2:End n (lsw b t p):=by
    have he':nxt b=none\/∃b',nxt b=some b'/\End n b':=he;rcases he' with h|⟨b',h,h'⟩
    ·rw[a5]at h;cases h
    ·rw[a5]at h;cases h;exact h'
   obtain⟨_,_,_,_,_,o2,f2⟩:=zcq o f a5;obtain⟨th2,hth2⟩:∃th2,Z6 [eB (lsw b t p)]=.ok th2:=by
    rcases zeT o2.wf with ⟨t',_,_,_,_,h⟩|⟨_,h⟩
    ·exact⟨_,h⟩
    ·exact⟨_,h⟩
   have hs:=zbc o.wf (o.sm z) (t:=t) (p:=p) (by omega) ch.pK
   obtain⟨b',o',f',r⟩:=ih (lsw b t p) he2 o2 f2 fu (by omega) th2 (.val (.int p)) hth2
   have ew:YN cS bS (fu+1) [.val tk,.val tg,.val (eB b),.val (.int t),s4]=YN cS bS fu [.val tk,.val tg,.val (eB (lsw b t p)),.val th2,.val (.int p)]:=by
    have ec:cS (az [.val tk,.val tg,.val (eB b),.val (.int t),s4])=.ok true:=by simp[cS]
    have eb:bS [.val tk,.val tg,.val (eB b),.val (.int t),s4]=.ok (.nx [.val tk,.val tg,.val (eB (lsw b t p)),.val th2,.val (.int p)]):=by simp[bS,a4,hs,hth2]
    rw[YN,ec,Res.bind_ok,if_pos rfl,eb]
    rfl
   rw[ew];exact⟨b',o',f',r⟩
theorem zji(z:Mz K m M B){tk tg:ya}(o:Bo K m M b)(h0:X4 [tk,tg]=.ok (eB b))(hf:(K+m+1) ^ K<1000000000000):
  ∃b',Bo K m M b'/\Sx.Fr K m b'.bd/\(((∀t,K<=t->t<K+m->0<=b'.bd.R t K)/\YZ [tk,tg]=.ok (.tuple [eB b',.none])) \/
   ∃t,K<=t/\t<K+m/\b'.bd.R t K<0/\(∀j,j<K->hlp b' K t j=false)/\YZ [tk,tg]=.ok (.tuple [eB b',.int t])):=by
 obtain⟨b1,o1,f1,e1⟩:=freed_ok z o;obtain⟨th,hth⟩:∃th,Z6 [eB b1]=.ok th:=by
  rcases zeT o1.wf with ⟨t',_,_,_,_,h⟩|⟨_,h⟩
  ·exact⟨_,h⟩
  ·exact⟨_,h⟩
 have hd:zc7=ad (JS JV cS bS) QC:=rfl;obtain⟨b',o',f',r⟩:=zhe z tk tg _ b1 (ends o1 f1) o1 f1 1000000000000 hf th .emp hth;refine⟨b',o',f',?_⟩;have hu:∀G,JV G=1000000000000:=λ_=>rfl
 rcases r with ⟨r1,s4,r2⟩|⟨t,r1,r2,r3,r4,r5⟩
 ·refine .inl ⟨r1,?_⟩;simp[YZ,zc8,zak,hd,QC,ah,ai,h0,e1,hth,hu,r2]
 ·refine .inr ⟨t,r1,r2,r3,r4,?_⟩;simp[YZ,zc8,zak,hd,QC,ah,ai,h0,e1,hth,hu,r5]
end
theorem div_add{a b D:Int}(h:D≠0):y8 a D+y8 b D=y8 (a+b) D:=by
 simp only[ya4];have:(D:Rat)≠0:=by exact_mod_cast h
 grind
theorem zlX{a b D:Int}:(a:Rat) * y8 b D=y8 (a * b) D:=by
 simp only[ya4,ydv]
 grind
theorem div_le{a b D:Int}(h:0<D)(hh:a<=b * D):y8 a D<=(b:Rat):=by
 rw[Rat.le_iff_sub_nonneg];have e:(b:Rat) - y8 a D=y8 (b * D - a) D:=by
  simp only[ya4,ydv,Rat.intCast_sub];have:(D:Rat)≠0:=by exact_mod_cast (show D≠0 by omega)
  grind
 rw[e];exact(ycl h).mpr (by omega)
theorem div_neg{a D:Int}(h:0<D)(hh:a<0):y8 a D<0:=by
 rw[<- Rat.not_le,ycl h];omega
theorem zlW{a D:Int}(h:0<D)(hh:0<=a):0<=y8 a D:=(ycl h).mpr hh
theorem ziN{D:Int}:y8 0 D=0:=Rat.zero_divInt D
theorem zlV{D:Int}(h:D≠0):y8 D D=1:=by
 rw[ya4];have:(D:Rat)≠0:=by exact_mod_cast h
 grind
theorem zf2:∀(n:Nat) (f:Nat->Int),Sx.ar (n+1) f=f 0+Sx.ar n (λi=>f (i+1))
 |0,f=>by simp[Sx.ar]
 |n+1,f=>by
  have:=zf2 n f;simp only[Sx.ar]at this ⊢;omega
theorem zai{α:Type}(d:α)(f:α->Int){D:Int}(hD:D≠0):∀(ls:List α) (g:Nat->Int),dot (ls.map f) ((y4 ls.length).map λi=>y8 (g i) D)=y8 (Sx.ar ls.length λi=>f (ls.getD i d) * g i) D
 |[],g=>by simp[dot,Sx.ar]
 |l::ls,g=>by
  have ih:=zai d f hD ls (λi=>g (i+1))
  rw[ju,yee,yH,yH,jf,zf2];simp only[dot];have e:((y4 ls.length).map ((λi=>y8 (g i) D) ∘ Nat.succ))=(y4 ls.length).map λi=>y8 (g (i+1)) D:=rfl
  rw[e,ih,zlX,div_add hD]
  rfl
theorem zaK{α:Type}{xs:List α}{n:Nat}{d:α}(h:n<xs.length):xs[n]=xs.getD n d:=by simp[y9,h]
def pt(K:Nat)(b:LB):List Rat:=(y4 K).map λi=>y8 (b.bd.R i K) b.D
section
variable {K m B:Nat}{M:Sx.Mat}{b:LB}{t:Nat}
theorem Qs(o:Bo K m M b)(s:Sm b):X1 [eB b]=.ok (.list ((pt K b).map fr)):=by
 have h1:Uw (K:Int)=true:=Yn (by have:=o.wf.kk;omega)
 have h2:(aw 0 K).length<=16777216:=by rw[XZ];have:=o.wf.kk;omega
 have hc:Xf (Zt 0) tT (Zj Xg (Zc (d2 ag (d2 ag (d1 (ay "rows") (aa 1)) (aa 0)) (d1 fNeg (dC (.int 1)))) (Zc (d1 (ay "divisor") (aa 1)) ac))) [.emp,.val (eB b)] (aw 0 K)=.ok ((y4 K).map λi=>fr (y8 (b.bd.R i K) b.D)):=by
  rw[Uz];refine Yv (λ(k:Nat)=>ya.int (k:Int)) _ _ λi hi=>⟨_,rfl,?_⟩
  have hi':=jq.mp hi;have e1:=JL o.wf (i:=i) (by omega)
  have e2:ag (eI (b.rows.getD i [])) (.int (-1))=.ok (.int (b.bd.R i K)):=zfs (o.wf.row (by omega))
  have e3:=UO (u:=b.bd.R i K) s.d0 s.d (by omega)
  generalize b.bd.R i K=r at *
  simp[e1,e2,e3,-ag,-y9]
 simp[X1,zev,ah,ai,o.wf.hl,h1,h2,hc,pt]
def shZ(b:LB)(K t:Nat):Nat->Nat->Int
 |0,_=>0
 |c+1,i=>if b.bd.h c=K+i then -(b.bd.R t c) else shZ b K t c i
def zbH:DS:=(aE (tV (d2 fGe (aa 4) (aa 2))) (VS 3 [] (d2 fSub (aa 4) (aa 2)) (Zj Xg (Zc (d1 fNeg (aa 5)) (Zc (d1 (ay "divisor") (aa 0)) ac)))) ZH)
def shL(b:LB)(K m t c:Nat):List Rat:=(y4 m).map λi=>y8 (shZ b K t c i) b.D
theorem zhd(o:Bo K m M b)(s:Sm b){c:Nat}(hc:c<K)(ht:t<K+m+1)(s4 s5:Sl):
  zbH [.val (eB b),.val (.int t),.val (.int K),.own ((shL b K m t c).map fr),.val (.int (b.bd.h c:Int)),.val (.int (b.bd.R t c))]
   = .ok (.nx [.val (eB b),.val (.int t),.val (.int K),.own ((shL b K m t (c+1)).map fr),.val (.int (b.bd.h c:Int)),.val (.int (b.bd.R t c))]):=by
 have hw:=o.hw c hc;by_cases hh:K<=b.bd.h c
 ·have e3:=UO (u:=-(b.bd.R t c)) s.d0 s.d (by omega)
  have e4:ixP m ((b.bd.h c:Int) - (K:Int))=some (b.bd.h c - K):=by
   unfold ixP;rw[if_pos (by omega),if_pos (by omega)]
   congr 1
   omega
  have e5:((shL b K m t c).map fr).set (b.bd.h c - K) (fr (y8 (-(b.bd.R t c)) b.D))=(shL b K m t (c+1)).map fr:=by
   unfold shL;rw[jf,jf,zcz];refine jD λi hi=>?_
   simp only[Function.comp,shZ];by_cases e:i=b.bd.h c - K
   ·rw[if_pos e,if_pos (by omega)]
   ·rw[if_neg e,if_neg (by omega)]
  have e6:((shL b K m t c).map fr).length=m:=by simp[shL]
  generalize b.bd.R t c=r at *
  generalize b.bd.h c=hc' at *
  generalize (shL b K m t c).map fr=sl at *
  generalize (shL b K m t (c+1)).map fr=sl2 at *
  have hh':(K:Int)<=(hc':Int):=by omega
  simp[zbH,hh',e3,e4,e5,e6]
 ·have e5:shL b K m t (c+1)=shL b K m t c:=by
   unfold shL;refine jD λi hi=>?_
   simp only[shZ];rw[if_neg (by omega)]
  rw[e5];generalize b.bd.R t c=r at *
  generalize b.bd.h c=hc' at *
  have hh':¬(K:Int)<=(hc':Int):=by omega
  simp[zbH,hh']
theorem zf6(o:Bo K m M b)(s:Sm b)(ht:t<K+m+1):Wo [eB b,.int t]=.ok (.list ((shL b K m t K).map fr)):=by
 have hrm:=zcf o.wf;have e1:=JL o.wf ht;have hmk:=o.wf.mm;have hz:zipT (b.heads.map λ(h:Nat)=>ya.int (h:Int)) ((b.rows.getD t []).map ya.int)=(y4 K).map λi=>.tuple [.int (b.bd.h i:Int),.int (b.bd.R t i)]:=by
  have er:=o.wf.row ht;have eh:=o.wf.hl;apply yb5
  ·rw[WN];simp[eh,er,-y9]
  ·intro n h1 h2;simp only[WN,List.getElem_map,List.getElem_zip,ydc];have hn:n<K:=by simpa using h2
   have a1:b.heads[n]'(by omega)=b.bd.h n:=by simp[y9,show n<b.heads.length by omega]
   have a2:(b.rows.getD t [])[n]'(by omega)=b.bd.R t n:=by
    rw[bd_R];exact zaK _
   rw[a1,a2]
 have start:y3 m (ya.tuple [.int 0,.int 1])=(shL b K m t 0).map fr:=by
  rw[VJ];unfold shL;rw[jf];apply yb5
  ·simp
  ·intro n h1 h2;simp[shZ,ziN]
 have hm3:(m:Int)<=16777216:=by omega
 have loop:∃s4 s5,forL (Uv 4 5) zbH (zipT (b.heads.map λ(h:Nat)=>ya.int (h:Int)) ((b.rows.getD t []).map ya.int)) [.val (eB b),.val (.int t),.val (.int K),.own ((shL b K m t 0).map fr),.emp,.emp]=.ok (.nx [.val (eB b),.val (.int t),.val (.int K),.own ((shL b K m t K).map fr),s4,s5]):=by
  rw[hz];obtain⟨G',e,s4,s5,hG⟩:=Vr (st:=Uv 4 5) (b:=zbH) (λc G=>∃s4 s5,G=[.val (eB b),.val (.int t),.val (.int K),.own ((shL b K m t c).map fr),s4,s5]) ((y4 K).map λi=>ya.tuple [.int (b.bd.h i:Int),.int (b.bd.R t i)]) 0
   [.val (eB b),.val (.int t),.val (.int K),.own ((shL b K m t 0).map fr),.emp,.emp] ⟨.emp,.emp,rfl⟩ λi x G hx ⟨s4,s5,hG⟩=>by
    subst hG;rw[jb]at hx;cases ei:(y4 K)[i]? with
    |none=>rw[ei]at hx;cases hx
    |some j=>
     rw[ei]at hx;obtain⟨hj,ej⟩:=yV.mp ei;rw[ydc]at ej;subst ej;cases hx;have hiK:i<K:=by simpa using hj
     have st:=zhd o s hiK ht .emp .emp;have e0:0+i=i:=by omega
     have e1:0+i+1=i+1:=by omega
     rw[e0];exact⟨_,rfl,_,.inl st,_,_,rfl⟩
  have el:0+((y4 K).map λi=>ya.tuple [.int (b.bd.h i:Int),.int (b.bd.R t i)]).length=K:=by simp
  rw[el]at hG;subst hG;exact⟨s4,s5,e⟩
 obtain⟨s4,s5,loop⟩:=loop;have hm1:Uw (m:Int)=true:=Yn (by omega)
 have hm2:m<=16777216:=by omega
 have hd:zaP=ad (dFor (Uv 4 5) [] (iZip (av (d1 (ay "heads") (aa 0))) (av (d2 ag (d1 (ay "rows") (aa 0)) (aa 1)))) zbH) QB:=rfl;simp[Wo,zc6,zaQ,hd,QB,ah,ai,o.wf.hl,hrm,XZ,hm1,hm2,hm3,start,e1,loop,-ag,-y9]
end
section
variable {K m:Nat}{ls:List Lim}{goal:List Int}
theorem zfT(hw:∀l∈ls,l.1.length=K){i c:Nat}(hi:i<ls.length)(hc:c<K):M0 K ls goal (K+i) c=-(colN c (ls.getD i ([],0))):=by
 show((QP K ls goal).getD (K+i) []).getD c 0=_;rw[zib hi];have hl:=hw _ (WV (xs:=ls) (d:=([],0)) hi);generalize ls.getD i ([],0)=l at *
 unfold zgh colN;rw[y9,jK (by simpa[hl] using hc),jb,y9,jx (by omega)]
 rfl
theorem zcn(hw:∀l∈ls,l.1.length=K){i:Nat}(hi:i<ls.length):M0 K ls goal (K+i) K=(ls.getD i ([],0)).2:=by
 show((QP K ls goal).getD (K+i) []).getD K 0=_;rw[zib hi];have hl:=hw _ (WV (xs:=ls) (d:=([],0)) hi);generalize ls.getD i ([],0)=l at *
 unfold zgh;rw[y9,jC (by simp[hl])]
 simp[hl]
theorem zhW(hm:ls.length=m)(hg:goal.length=K){c:Nat}(hc:c<K):M0 K ls goal (K+m) c=goal.getD c 0:=by
 show((QP K ls goal).getD (K+m) []).getD c 0=_;rw[<- hm,zgg,y9,jK (by omega),y9]
theorem zfU(hm:ls.length=m)(hg:goal.length=K):M0 K ls goal (K+m) K=0:=by
 show((QP K ls goal).getD (K+m) []).getD K 0=_;rw[<- hm,zgg,y9,jC (by omega)]
 simp[hg]
theorem M0_amt{i c:Nat}(hi:i<K)(hc:c<=K):M0 K ls goal i c=if c=i then 1 else 0:=by
 show((QP K ls goal).getD i []).getD c 0=_;rw[zkI hi];unfold zfZ;rw[y9,yb3];by_cases e:c=i
 ·subst e;rw[if_pos rfl,if_pos (by simp;omega),if_pos rfl];rfl
 ·rw[if_neg (Ne.symm e),if_neg e,qG];split<;>rfl
theorem Mz.of{B:Nat}(hb:1<=B)(hm:ls.length=m)(hw:∀l∈ls,l.1.length=K)(hg:goal.length=K)(h1:∀l∈ls,(∀x∈l.1,x.natAbs<=B)/\l.2.natAbs<=B)(h2:∀x∈goal,x.natAbs<=B)(hz:Sx.fact (K+1) * B ^ (K+1)<2 ^ 1000):Mz K m (M0 K ls goal) B:=by
 refine⟨hb,λi c hi hc=>?_,hz⟩
 rcases(show i<K\/(K<=i/\i<K+m)\/i=K+m by omega) with h|h|h
 ·rw[M0_amt h hc];split<;>simp<;>omega
 ·obtain⟨j,rfl⟩:∃j,i=K+j:=⟨i - K,by omega⟩
  have hj:j<ls.length:=by omega
  have hmem:=WV (xs:=ls) (d:=([],0)) hj;by_cases e:c=K
  ·subst e;rw[zcn hw hj];exact(h1 _ hmem).2
  ·rw[zfT hw hj (by omega),qS]
   exact(h1 _ hmem).1 _ (WV (by rw[hw _ hmem];omega))
 ·subst h;by_cases e:c=K
  ·subst e;rw[zfU hm hg];simp
  ·rw[zhW hm hg (by omega)]
   exact h2 _ (WV (by omega))
end
section
variable {K m B:Nat}{ls:List Lim}{goal:List Int}{b:LB}{t:Nat}
theorem Bo.lin(o:Bo K m (M0 K ls goal) b)(hm:ls.length=m){i q:Nat}(hi:i<K+m+1)(hq:q<=K):b.bd.R i q=Sx.ar K (λc=>M0 K ls goal i c * b.bd.R c q)+M0 K ls goal i K * (if q=K then b.D else 0):=by
 have e:=o.g.two (ziu (K:=K) (ls:=ls) (goal:=goal) hm) hi hq;have e1:(lb0 K ls goal).bd.D=1:=rfl;rw[e1,ybe]at e;rw[e]
 congr 1
 refine Sx.Yx λc hc=>?_
 have e2:(lb0 K ls goal).bd.h c=c:=by show(y4 K).getD c 0=c;simp[hc]
 rw[e2];rfl
theorem Bo.room(o:Bo K m (M0 K ls goal) b)(hm:ls.length=m)(hw:∀l∈ls,l.1.length=K){i q:Nat}(hi:i<m)(hq:q<=K):
  Sx.ar K (λc=>colN c (ls.getD i ([],0)) * b.bd.R c q)=(if q=K then(ls.getD i ([],0)).2 * b.D else 0) - b.bd.R (K+i) q:=by
 rw[o.lin hm (i:=K+i) (by omega) hq,zcn hw (by omega)]
 have e:Sx.ar K (λc=>M0 K ls goal (K+i) c * b.bd.R c q)=Sx.ar K (λc=>(-1) * (colN c (ls.getD i ([],0)) * b.bd.R c q)):=Sx.Yx λc hc=>by
  rw[zfT hw (by omega) hc];grind
 rw[e,Sx.Ue];by_cases h:q=K
 ·rw[if_pos h,if_pos h];omega
 ·rw[if_neg h,if_neg h];omega
theorem Bo.worth(o:Bo K m (M0 K ls goal) b)(hm:ls.length=m)(hg:goal.length=K){q:Nat}(hq:q<=K):Sx.ar K (λc=>goal.getD c 0 * b.bd.R c q)=b.bd.R (K+m) q:=by
 rw[o.lin hm (i:=K+m) (by omega) hq,zfU hm hg,qY,ybb]
 exact Sx.Yx λc hc=>by rw[zhW hm hg hc]
theorem dot_pt{ws:List Int}(hl:ws.length=K)(hD:b.D≠0):dot ws (pt K b)=y8 (Sx.ar K λc=>ws.getD c 0 * b.bd.R c K) b.D:=by
 have:=zai (0:Int) (λx=>x) hD ws (λi=>b.bd.R i K)
 rw[hl,List.map_id'']at this
 ·exact this
 ·intro x;rfl
theorem zkw{i:Nat}:∀(c:Nat),(∀j,j<c->b.bd.h j≠K+i)->shZ b K t c i=0
 |0,_=>rfl
 |c+1,h=>by
  unfold shZ;rw[if_neg (h c (by omega))]
  exact zkw c λj hj=>h j (by omega)
theorem zkx{i:Nat}:∀(c:Nat),c<=K->(∀j,j<K->b.bd.R t j<=0)->0<=shZ b K t c i
 |0,_,_=>jR 0
 |c+1,hc,h=>by
  unfold shZ;split
  ·have:=h c (by omega);omega
  ·exact zkx c (by omega) h
theorem zkm{n a:Nat}{v:Int}(f g:Nat->Int)(ha:a<n):Sx.ar n (λi=>f i * (if i=a then v else g i))=Sx.ar n (λi=>f i * g i)+f a * (v - g a):=by
 have e:∀i,i<n->f i * (if i=a then v else g i)=f i * g i+(if i=a then f a * (v - g a) else 0):=λi _=>by
  split
  ·rename_i h;subst h;grind
  ·omega
 rw[Sx.Yx e,Sx.zeO,Sx.zko ha]
theorem sh_sum{M:Sx.Mat}(o:Bo K m M b)(F:Nat->Int):∀(c:Nat),c<=K->Sx.ar m (λi=>F (K+i) * shZ b K t c i)=Sx.ar c (λj=>if K<=b.bd.h j then F (b.bd.h j) * -(b.bd.R t j) else 0)
 |0,_=>by simp only[shZ,jp,Sx.ar];exact Sx.zeN λ_ _=>rfl
 |c+1,hc=>by
  have ih:=sh_sum o F c (by omega)
  have hw:=o.hw c (by omega)
  simp only[Sx.ar,<- ih];by_cases h:K<=b.bd.h c
  ·rw[if_pos h];have e:∀i,i<m->F (K+i) * shZ b K t (c+1) i=F (K+i) * (if i=b.bd.h c - K then -(b.bd.R t c) else shZ b K t c i):=λi hi=>by
    congr 1
    simp only[shZ];by_cases z:i=b.bd.h c - K
    ·rw[if_pos z,if_pos (by omega)]
    ·rw[if_neg z,if_neg (by omega)]
   rw[Sx.Yx e,zkm (λi=>F (K+i)) (λi=>shZ b K t c i) (by omega)]
   have z0:shZ b K t c (b.bd.h c - K)=0:=zkw c λj hj z=>by
    have:=o.g.inj (j:=j) (l:=c) (by omega) (by omega) (by omega)
    omega
   have z1:K+(b.bd.h c - K)=b.bd.h c:=by omega
   simp only[z0,z1,yas]
  ·rw[if_neg h,ybb];refine Sx.Yx λi hi=>?_
   congr 1
   simp only[shZ];rw[if_neg (by omega)]
theorem zku{M:Sx.Mat}(o:Bo K m M b)(ht:t<K+m+1)(hz:∀j,j<K->b.bd.h j<K->b.bd.R t j=0){c:Nat}(hc:c<=K):Sx.ar m (λi=>M (K+i) c * shZ b K t K i)=(if c=K then b.bd.R t K else 0) - b.D * M t c:=by
 rw[sh_sum o (λi=>M i c) K (yu _)]
 have cr:=o.g.cr t c ht hc;simp only[Sx.ar]at cr;rw[Sx.Vh_K]at cr;have e:Sx.ar K (λj=>if K<=b.bd.h j then M (b.bd.h j) c * -(b.bd.R t j) else 0)=Sx.ar K (λj=>(-1) * (b.bd.R t j * Sx.Vh K M b.bd.h j c)):=Sx.Yx λj hj=>by
  rw[Sx.Vh_lt hj];by_cases h:K<=b.bd.h j
  ·rw[if_pos h];grind
  ·rw[if_neg h,hz j hj (by omega)];omega
 rw[e,Sx.Ue];have ek:Sx.eK K c=if c=K then 1 else 0:=rfl
 rw[ek]at cr;rw[bd_D]at cr;by_cases h:c=K
 ·rw[if_pos h]at cr ⊢;omega
 ·rw[if_neg h]at cr ⊢;omega
def clZ(b:LB)(K t:Nat)(i:Nat):Int:=if i=t - K then b.D else shZ b K t K i
def clL(b:LB)(K m t:Nat):List Rat:=(y4 m).map λi=>y8 (clZ b K t i) b.D
theorem zi5{M:Sx.Mat}(o:Bo K m M b)(s:Sm b)(ht:K<=t)(ht2:t<K+m):WJ [eB b,.int t]=.ok (.list ((clL b K m t).map fr)):=by
 have h1:=zf6 o s (t:=t) (by omega)
 have e4:ixP m ((t:Int) - (K:Int))=some (t - K):=by
  unfold ixP;rw[if_pos (by omega),if_pos (by omega)]
  congr 1
  omega
 have e6:((shL b K m t K).map fr).length=m:=by simp[shL]
 have e5:((shL b K m t K).map fr).set (t - K) (ya.tuple [.int 1,.int 1])=(clL b K m t).map fr:=by
  have e1:ya.tuple [.int 1,.int 1]=fr 1:=by simp[fr]
  unfold shL clL;rw[e1,jf,jf,zcz];refine jD λi hi=>?_
  simp only[Function.comp,clZ];by_cases e:i=t - K
  ·rw[if_pos e,if_pos e,zlV s.d0]
  ·rw[if_neg e,if_neg e]
 generalize (shL b K m t K).map fr=sl at *
 generalize (clL b K m t).map fr=cl at *
 simp[WJ,zeA,zb4,zb3,ah,ai,oCall,h1,o.wf.hl,e4,e6,e5]
theorem cl_rows{M:Sx.Mat}(o:Bo K m M b)(ht:K<=t)(ht2:t<K+m)(hsh:b.bd.R t K<0)(hz:∀j,j<K->b.bd.h j<K->b.bd.R t j=0){c:Nat}(hc:c<=K):Sx.ar m (λi=>M (K+i) c * clZ b K t i)=if c=K then b.bd.R t K else 0:=by
 unfold clZ;rw[zkm (λi=>M (K+i) c) (λi=>shZ b K t K i) (by omega),zku o (by omega) hz hc]
 have z0:shZ b K t K (t - K)=0:=zkw K λj hj z=>by
  have:=o.g.head0 hj;rw[z,show K+(t - K)=t by omega]at this
  omega
 have z1:K+(t - K)=t:=by omega
 simp only[z0,z1,yas];have:M t c * b.D=b.D * M t c:=qX _ _;omega
end
structure DK(K m B n0:Nat)(ls:List Lim):Prop where
 k:K<=1000
 m1:m<=1000
 len:ls.length=m
 w:∀l∈ls,l.1.length=K
 b1:1<=B
 sz:∀l∈ls,(∀x∈l.1,x.natAbs<=B)/\l.2.natAbs<=B
 z:Sx.fact (K+1) * B ^ (K+1)<2 ^ n0
 n:n0<=1000
 fu:(K+m+1) ^ K<1000000000000
abbrev Zz(K:Nat)(ls:List Lim):ya:=.tuple [.int K,.tuple (ls.map aq)]
structure SzB(K m n0:Nat)(b:LB):Prop where
 d:b.D.natAbs<2 ^ n0
 r:∀i j,i<K+m+1->j<=K->(b.bd.R i j).natAbs<2 ^ n0
section
variable {K m B n0:Nat}{ls:List Lim}{goal:List Int}{b:LB}{t:Nat}
theorem DK.mz(d:DK K m B n0 ls)(hg:goal.length=K)(h2:∀x∈goal,x.natAbs<=B):Mz K m (M0 K ls goal) B:=
 .of d.b1 d.len d.w hg d.sz h2 (ja d.z (zee d.n))
theorem DK.szb(d:DK K m B n0 ls)(hg:goal.length=K)(h2:∀x∈goal,x.natAbs<=B)(o:Bo K m (M0 K ls goal) b):SzB K m n0 b:=by
 obtain⟨h1,h3⟩:=o.g.size d.b1 (d.mz hg h2).le;exact⟨jk h1 d.z,λi j hi hj=>jk (h3 i j hi hj) d.z⟩
theorem DK.bo0(d:DK K m B n0 ls)(hg:goal.length=K):Bo K m (M0 K ls goal) (lb0 K ls goal):=by
 refine⟨lb0_wf d.k d.len d.m1 d.w hg,ziu d.len,λj hj=>?_⟩
 show(y4 K).getD j 0<K+m;simp[hj];omega
theorem DK.settled(d:DK K m B n0 ls)(hg:goal.length=K)(h2:∀x∈goal,x.natAbs<=B):
  ∃b,Bo K m (M0 K ls goal) b/\Sx.Fr K m b.bd/\Sm b/\SzB K m n0 b/\(((∀t,K<=t->t<K+m->0<=b.bd.R t K)/\YZ [Zz K ls,eI goal]=.ok (.tuple [eB b,.none])) \/
   ∃t,K<=t/\t<K+m/\b.bd.R t K<0/\(∀j,j<K->hlp b K t j=false)/\YZ [Zz K ls,eI goal]=.ok (.tuple [eB b,.int t])):=by
 obtain⟨b,o,f,r⟩:=zji (d.mz hg h2) (d.bo0 hg) (zdW d.k d.len d.m1 d.w hg) d.fu;exact⟨b,o,f,o.sm (d.mz hg h2),d.szb hg h2 o,r⟩
theorem pt_sz(o:SzB K m n0 b)(s:Sm b):∀q∈pt K b,Sz n0 q:=λq hq=>by
 obtain⟨i,hi,rfl⟩:=yR.mp hq;exact XH s.d0 (o.r i K (by have:=jq.mp hi;omega) (yu _)) o.d
theorem zkv(o:SzB K m n0 b)(ht:t<K+m+1){i:Nat}:∀c,c<=K->(shZ b K t c i).natAbs<2 ^ n0
 |0,_=>by simp only[shZ];exact Nat.two_pow_pos n0
 |c+1,hc=>by
  unfold shZ;split
  ·rw[qS];exact o.r t c ht (by omega)
  ·exact zkv o ht c (by omega)
theorem shL_sz(o:SzB K m n0 b)(s:Sm b)(ht:t<K+m+1):∀q∈shL b K m t K,Sz n0 q:=λq hq=>by
 obtain⟨i,hi,rfl⟩:=yR.mp hq;exact XH s.d0 (zkv o ht K (yu _)) o.d
theorem clL_sz(o:SzB K m n0 b)(s:Sm b)(ht:t<K+m+1):∀q∈clL b K m t,Sz n0 q:=λq hq=>by
 obtain⟨i,hi,rfl⟩:=yR.mp hq;refine XH s.d0 ?_ o.d;unfold clZ;split
 ·exact o.d
 ·exact zkv o ht K (yu _)
theorem ziq{j:Nat}(h:hlp b K t j=false):b.bd.R t j<=0/\(b.bd.h j<K->b.bd.R t j=0):=by
 unfold hlp at h;rw[Bool.or_eq_false_iff,Bool.and_eq_false_iff]at h;obtain⟨h1,h2⟩:=h;have h1':¬0<b.bd.R t j:=of_decide_eq_false h1;refine⟨by omega,λhh=>?_⟩
 rcases h2 with h2|h2
 ·have:=of_decide_eq_false h2;omega
 ·exact absurd hh (of_decide_eq_false h2)
theorem zaB(d:DK K m B n0 ls)(o:Bo K m (M0 K ls goal) b)(s:Sm b)(h:∀t,K<=t->t<K+m->0<=b.bd.R t K):∀l∈ls,dot l.1 (pt K b)<=(l.2:Rat):=λl hl=>by
 obtain⟨i,hi,rfl⟩:=qK hl;have hi':i<m:=by rw[<- d.len];exact hi
 rw[dot_pt (d.w _ hl) s.d0];refine div_le o.g.pos ?_;have e:=o.room d.len d.w hi' (yu K);rw[if_pos rfl]at e;have eg:ls.getD i ([],0)=ls[i]:=(zaK hi).symm;rw[eg]at e;have:=h (K+i) (by omega) (by omega)
 have e2:Sx.ar K (λc=>ls[i].1.getD c 0 * b.bd.R c K)=Sx.ar K (λc=>colN c ls[i] * b.bd.R c K):=rfl
 rw[e2,e];show _<=ls[i].2 * b.D;omega
theorem zi6(d:DK K m B n0 ls)(o:Bo K m (M0 K ls goal) b)(s:Sm b)(ht:K<=t)(ht2:t<K+m)(hsh:b.bd.R t K<0)(hn:∀j,j<K->hlp b K t j=false):
  (∀q∈clL b K m t,0<=q)/\(∀j,j<K->dot (ls.map (colN j)) (clL b K m t)=0)/\Xm ls (clL b K m t)<0:=by
 have hD:0<b.D:=o.g.pos;have rows:=λc hc=>cl_rows (c:=c) o ht ht2 hsh (λj hj hh=>(ziq (hn j hj)).2 hh) hc
 refine⟨λq hq=>?_,λj hj=>?_,?_⟩
 ·obtain⟨i,hi,rfl⟩:=yR.mp hq;refine zlW hD ?_;unfold clZ;split
  ·omega
  ·exact zkx K (yu _) λj hj=>(ziq (hn j hj)).1
 ·have e:=zai ([],(0:Int)) (colN j) s.d0 ls (clZ b K t);rw[d.len]at e;have e2:Sx.ar m (λi=>colN j (ls.getD i ([],0)) * clZ b K t i)=0:=by
   have r:=rows j (by omega)
   rw[if_neg (by omega)]at r
   have e3:Sx.ar m (λi=>M0 K ls goal (K+i) j * clZ b K t i)=Sx.ar m (λi=>(-1) * (colN j (ls.getD i ([],0)) * clZ b K t i)):=Sx.Yx λi hi=>by
    rw[zfT d.w (by rw[d.len];exact hi) hj];grind
   rw[e3,Sx.Ue]at r;omega
  rw[e2,ziN]at e;exact e
 ·have e:=zai ([],(0:Int)) (λl:Lim=>l.2) s.d0 ls (clZ b K t)
  rw[d.len]at e;have r:=rows K (yu _);rw[if_pos rfl]at r;have e3:Sx.ar m (λi=>M0 K ls goal (K+i) K * clZ b K t i)=Sx.ar m (λi=>(ls.getD i ([],0)).2 * clZ b K t i):=Sx.Yx λi hi=>by
   rw[zcn d.w (by rw[d.len];exact hi)]
  rw[e3]at r;rw[r]at e;show dot (ls.map (·.2)) ((y4 m).map λi=>y8 (clZ b K t i) b.D)<0
  rw[e];exact div_neg hD hsh
theorem zlx(d:DK K m B n0 ls):(∃ps:List Rat,ps.length=K/\(∀q∈ps,Sz n0 q)/\(∀l∈ls,dot l.1 ps<=(l.2:Rat))/\Wl [Zz K ls]=.ok (.tuple [.str "point",.list (ps.map fr)])) \/
  ∃ss:List Rat,ss.length=m/\(∀q∈ss,Sz n0 q)/\(∀q∈ss,0<=q)/\(∀j,j<K->dot (ls.map (colN j)) ss=0)/\Xm ls ss<0/\Wl [Zz K ls]=.ok (.tuple [.str "clash",.list (ss.map fr)]):=by
 have hg:(y3 K (0:Int)).length=K:=by simp
 have h2:∀x∈y3 K (0:Int),x.natAbs<=B:=λx hx=>by rw[(List.mem_replicate.mp hx).2];simp
 obtain⟨b,o,f,s,sz,r⟩:=d.settled hg h2;have hK:=d.k;have k1:Uw (K:Int)=true:=Yn (by omega)
 have k2:(K:Int)<=16777216:=by omega
 have k3:K<=16777216:=by omega
 have er:y3 K (ya.int 0)=(y3 K (0:Int)).map .int:=by rw[List.map_replicate]
 rcases r with ⟨r1,r2⟩|⟨t,r1,r2,r3,r4,r5⟩
 ·refine .inl ⟨pt K b,by simp[pt],pt_sz sz s,zaB d o s r1,?_⟩
  have hp:=Qs o s;generalize pt K b=ps at *
  have r2':YZ [Zz K ls,.list (y3 K (.int 0))]=.ok (.tuple [eB b,.none]):=by rw[er];exact r2
  simp[Wl,zfM,zbD,ah,ai,at0,at1,k1,k2,k3,r2',hp]
 ·obtain⟨c1,c2,c3⟩:=zi6 d o s r1 r2 r3 r4;refine .inr ⟨clL b K m t,by simp[clL],clL_sz sz s (by omega),c1,c2,c3,?_⟩
  have hp:=zi5 o s r1 r2;generalize clL b K m t=ss at *
  have r5':YZ [Zz K ls,.list (y3 K (.int 0))]=.ok (.tuple [eB b,.int t]):=by rw[er];exact r5
  simp[Wl,zfM,zbD,zey,ah,ai,at0,at1,k1,k2,k3,r5',hp]
end
def JW:List Sl->Nat:=λ_=>1000000000000
def zeo:DS:=(ak (d2 fSub (d1 aB (d1 (ay "rows") (aa 0))) (dC (.int 1))))
def XC:DF:=ah 1 1 zeo
def ziU:DS:=(ak (d2 fLt (d2 aA (d2 ag (aa 0) (d1 fNeg (dC (.int 1)))) (d1 fNeg (d2 ag (aa 1) (aa 2)))) (d2 aA (d2 ag (aa 1) (d1 fNeg (dC (.int 1)))) (d1 fNeg (d2 ag (aa 0) (aa 2))))))
def JC:DF:=ah 3 3 ziU
def UV:DS:=(ak (aa 2))
def JQ:DS:=
  ad (dFor (Zt 3) [] (av (Zj Y8 (Zc (aa 0) ac))) (ad (aj 4 [] (d2 ag (d1 (ay "rows") (aa 0)) (aa 3))) (aE (tAnd (tV (d2 fLt (d2 ag (aa 4) (aa 1)) (dC (.int 0)))) (tOr (tV (d1 fIsN (aa 2))) (tV (Zj JC (Zc (aa 4) (Zc (d2 ag (d1 (ay "rows") (aa 0)) (aa 2)) (Zc (aa 1) ac))))))) (aj 2 [] (aa 3)) ZH))) UV
def zb2:DS:=
  ad (aj 2 [] (dC .none)) JQ
def YE:DF:=ah 5 2 zb2
def zer:DS:=(ak (dL (Y4 1 [2,0,1] (Zt 0) (iRng (d1 aB (d1 (ay "heads") (aa 0)))) tT (Zj Xg (Zc (d2 aA (aa 1) (d2 ag (d2 ag (d1 (ay "rows") (aa 2)) (aa 0)) (aa 3))) (Zc (d1 (ay "divisor") (aa 2)) ac))))))
def ziR:DS:=
  ad (aj 2 [] (dIfE (tV (d2 fGt (d2 ag (d2 ag (d1 (ay "rows") (aa 0)) (Zj XC (Zc (aa 0) ac))) (aa 1)) (dC (.int 0)))) (dC (.int 1)) (d1 fNeg (dC (.int 1))))) zer
def JB:DF:=ah 3 2 ziR
def QE:DS:=(ak (au (Zc (dC (.str (PySem.Str.ofString "best"))) (Zc (Zj X1 (Zc (aa 0) ac)) (Zc (Zj Wo (Zc (aa 0) (Zc (Zj XC (Zc (aa 0) ac)) ac))) ac)))))
def zdp:DS:=
  ad (JS JW (tV (d1 zaM (aa 1))) (ad (aj 2 [] (Zj YE (Zc (aa 0) (Zc (aa 1) ac)))) (ad (aE (tV (d1 fIsN (aa 2))) (ak (au (Zc (dC (.str (PySem.Str.ofString "endless"))) (Zc (Zj X1 (Zc (aa 0) ac)) (Zc (Zj JB (Zc (aa 0) (Zc (aa 1) ac))) ac))))) ZH) (ad (aj 0 [] (Zj Xv (Zc (aa 0) (Zc (aa 2) (Zc (aa 1) ac))))) (aj 1 [] (Zj Zo (Zc (aa 0) (Zc (Zj XC (Zc (aa 0) ac)) ac)))))))) QE
def zdq:DS:=
  ad (aj 1 [] (Zj Zo (Zc (aa 0) (Zc (Zj XC (Zc (aa 0) ac)) ac)))) zdp
def VB:DF:=ah 3 1 zdq
section
variable {K m B n0:Nat}{M:Sx.Mat}{b:LB}{t p:Nat}
theorem Qn(w:WFb K m b):XC [eB b]=.ok (.int ((K+m:Nat):Int)):=by
 have e:((K+m+1:Nat):Int) - 1=((K+m:Nat):Int):=by omega
 simp[XC,zeo,ah,ai,w.rl,e,-jW]
theorem zks{row oth:List Int}{K:Nat}(hr:row.length=K+1)(ho:oth.length=K+1)(hp:p<K)(h1:∀x∈row,x.natAbs<2 ^ 1000)(h2:∀x∈oth,x.natAbs<2 ^ 1000):
  JC [eI row,eI oth,.int p]=.ok (.bool (decide (row.getD K 0 * -(oth.getD p 0)<oth.getD K 0 * -(row.getD p 0)))):=by
 have e1:ag (eI row) (.int (-1))=.ok (.int (row.getD K 0)):=zfs hr;have e2:ag (eI oth) (.int (-1))=.ok (.int (oth.getD K 0)):=zfs ho;have e3:ag (eI row) (.int (p:Int))=.ok (.int (row.getD p 0)):=JM (by omega)
 have e4:ag (eI oth) (.int (p:Int))=.ok (.int (oth.getD p 0)):=JM (by omega)
 have s1:=h1 _ (WV (xs:=row) (i:=K) (d:=0) (by omega))
 have s2:=h2 _ (WV (xs:=oth) (i:=K) (d:=0) (by omega))
 have s3:=h1 _ (WV (xs:=row) (i:=p) (d:=0) (by omega))
 have s4:=h2 _ (WV (xs:=oth) (i:=p) (d:=0) (by omega))
 generalize row.getD K 0=rK at *
 generalize oth.getD K 0=oK at *
 generalize row.getD p 0=rp at *
 generalize oth.getD p 0=op at *
 have m1:Xj rK (-op)=true:=Yp s1 (by rw[qS];exact s4) (by omega)
 have m2:Xj oK (-rp)=true:=Yp s2 (by rw[qS];exact s3) (by omega)
 simp[JC,ziU,ah,ai,e1,e2,e3,e4,m1,m2,-ag]
theorem lt_frac{a b c x y z:Int}(hx:0<x)(hy:0<y)(hz:0<z)(h1:a * y<b * x)(h2:b * z<=c * y):a * z<c * x:=by
 have h3:=Int.mul_lt_mul_of_pos_right h1 hz;have h4:=ycm h2 (qZ hx);have h5:a * z * y<c * x * y:=by
  have e1:a * y * z=a * z * y:=by grind
  have e2:b * x * z=b * z * x:=by grind
  have e3:c * y * x=c * x * y:=by grind
  rw[e1,e2]at h3;rw[e3]at h4;omega
 exact Int.lt_of_mul_lt_mul_right h5 (qZ hy)
def Stop(b:LB)(K p n:Nat):Option Nat->Prop
 |none=>∀i,K<=i->i<K+n->0<=b.bd.R i p
 |some t=>K<=t/\t<K+n/\b.bd.R t p<0/\∀i,K<=i->i<K+n->b.bd.R i p<0->b.bd.R t K * -b.bd.R i p<=b.bd.R i K * -b.bd.R t p/\(i<t->b.bd.R t K * -b.bd.R i p<b.bd.R i K * -b.bd.R t p)
def eO:Option Nat->ya
 |none=>.none
 |some t=>.int (t:Int)
def zg5:DS:=(ad (aj 4 [] (d2 ag (d1 (ay "rows") (aa 0)) (aa 3))) (aE (tAnd (tV (d2 fLt (d2 ag (aa 4) (aa 1)) (dC (.int 0)))) (tOr (tV (d1 fIsN (aa 2))) (tV (Zj JC (Zc (aa 4) (Zc (d2 ag (d1 (ay "rows") (aa 0)) (aa 2)) (Zc (aa 1) ac))))))) (aj 2 [] (aa 3)) ZH))
theorem zkq(w:WFb K m b)(s:Sm b)(hp:p<K){n:Nat}(hn:n<m)(f:Option Nat)(hf:Stop b K p n f)(s4:Sl):∃f' s4',Stop b K p (n+1) f' /\
  zg5 [.val (eB b),.val (.int p),.val (eO f),.val (.int ((K+n:Nat):Int)),s4]=.ok (.nx [.val (eB b),.val (.int p),.val (eO f'),.val (.int ((K+n:Nat):Int)),s4']):=by
 have e1:=JL w (i:=K+n) (by omega)
 have e2:ag (eI (b.rows.getD (K+n) [])) (.int (p:Int))=.ok (.int (b.bd.R (K+n) p)):=JM (by rw[w.row (by omega)];omega)
 by_cases hneg:b.bd.R (K+n) p<0
 ·cases f with
  |none=>
   refine⟨some (K+n),.val (eI (b.rows.getD (K+n) [])),⟨by omega,by omega,hneg,λi h1 h2 h3=>?_⟩,?_⟩
   ·by_cases z:i=K+n
    ·subst z;exact⟨jR _,λq=>by omega⟩
    ·have:=hf i h1 (by omega);omega
   ·generalize b.bd.R (K+n) p=r at *
    simp[zg5,e1,e2,hneg,eO,-ag,-y9,-jW]
  |some t=>
   obtain⟨t1,t2,t3,t4⟩:=hf;have e3:=JL w (i:=t) (by omega)
   have e4:=zks (row:=b.rows.getD (K+n) []) (oth:=b.rows.getD t []) (p:=p) (K:=K) (w.row (by omega)) (w.row (by omega)) hp (s.r _ (w.mem (by omega))) (s.r _ (w.mem (by omega)))
   have e5:(b.rows.getD (K+n) []).getD K 0 * -(b.rows.getD t []).getD p 0=b.bd.R (K+n) K * -b.bd.R t p:=rfl;have e6:(b.rows.getD t []).getD K 0 * -(b.rows.getD (K+n) []).getD p 0=b.bd.R t K * -b.bd.R (K+n) p:=rfl;rw[e5,e6]at e4;by_cases hs:b.bd.R (K+n) K * -b.bd.R t p<b.bd.R t K * -b.bd.R (K+n) p
   ·refine⟨some (K+n),.val (eI (b.rows.getD (K+n) [])),⟨by omega,by omega,hneg,λi h1 h2 h3=>?_⟩,?_⟩
    ·by_cases z:i=K+n
     ·subst z;exact⟨jR _,λq=>by omega⟩
     ·have:=(t4 i h1 (by omega) h3).1
      have:=lt_frac (x:=-b.bd.R (K+n) p) (y:=-b.bd.R t p) (z:=-b.bd.R i p) (by omega) (by omega) (by omega) hs this
      exact⟨by omega,λ_=>this⟩
    ·rw[decide_eq_true hs]at e4;generalize b.bd.R (K+n) p=r at *
     simp[zg5,e1,e2,e3,e4,hneg,eO,-ag,-y9,-jW]
   ·refine⟨some t,.val (eI (b.rows.getD (K+n) [])),⟨by omega,by omega,t3,λi h1 h2 h3=>?_⟩,?_⟩
    ·by_cases z:i=K+n
     ·subst z;exact⟨by omega,λq=>by omega⟩
     ·exact t4 i h1 (by omega) h3
    ·rw[decide_eq_false hs]at e4;generalize b.bd.R (K+n) p=r at *
     simp[zg5,e1,e2,e3,e4,hneg,eO,-ag,-y9,-jW]
 ·refine⟨f,.val (eI (b.rows.getD (K+n) [])),?_,?_⟩
  ·cases f with
   |none=>
    intro i h1 h2;by_cases z:i=K+n
    ·subst z;omega
    ·exact hf i h1 (by omega)
   |some t=>
    obtain⟨t1,t2,t3,t4⟩:=hf;refine⟨t1,by omega,t3,λi h1 h2 h3=>?_⟩
    by_cases z:i=K+n
    ·subst z;omega
    ·exact t4 i h1 (by omega) h3
  ·generalize b.bd.R (K+n) p=r at *
   simp[zg5,e1,e2,hneg,-ag,-y9,-jW]
theorem zfw(w:WFb K m b)(s:Sm b)(hp:p<K):∃f,Stop b K p m f/\YE [eB b,.int p]=.ok (eO f):=by
 have hrm:=zcf w;obtain⟨G',e,f,s3,s4,hG,hf⟩:=Vr (st:=Zt 3) (b:=zg5) (λn G=>∃f s3 s4,G=[.val (eB b),.val (.int p),.val (eO f),s3,s4]/\Stop b K p n f) (aw K m) 0
  [.val (eB b),.val (.int p),.val (eO none),.emp,.emp] ⟨none,.emp,.emp,rfl,λi h1 h2=>by omega⟩ λi x G hx ⟨f,s3,s4,hG,hf⟩=>by
   subst hG;obtain⟨hi,rfl⟩:=zkK hx;rw[q9]at hf ⊢;obtain⟨f',s4',h1,h2⟩:=zkq w s hp hi f hf s4;have ec:(K:Int)+(i:Int)=((K+i:Nat):Int):=by omega
   rw[ec];exact⟨_,rfl,_,.inl h2,f',_,_,rfl,h1⟩
 rw[XZ,q9]at hf;subst hG;refine⟨f,hf,?_⟩;have hd:JQ=ad (dFor (Zt 3) [] (av (Zj Y8 (Zc (aa 0) ac))) zg5) UV:=rfl;have e':forL (Zt 3) zg5 (aw (K:Int) m) [.val (eB b),.val (.int p),.val .none,.emp,.emp]=.ok (.nx [.val (eB b),.val (.int p),.val (eO f),s3,s4]):=e;simp[YE,zb2,hd,UV,ah,ai,hrm,e']
end
def qOf(b:LB)(w:Nat):Option Nat:=match Zo [eB b,.int w] with
 |.ok (.int p)=>some p.toNat
 |_=>none
def sOf(b:LB)(p:Nat):Option Nat:=match YE [eB b,.int p] with
 |.ok (.int t)=>some t.toNat
 |_=>none
def nxc(w:Nat)(b:LB):Option LB:=(qOf b w).bind λp=>(sOf b p).map λt=>lsw b t p
def EndC(w:Nat):Nat->LB->Prop
 |0,b=>nxc w b=none
 |n+1,b=>nxc w b=none\/∃b',nxc w b=some b'/\EndC w n b'
def Fe(K m:Nat)(b:Sx.Bd):Prop:=∀t,K<=t->t<K+m->0<=b.R t K
section
variable {K m B:Nat}{M:Sx.Mat}{b:LB}
theorem zao(o:Bo K m M b)(s:Sm b)(f:Sx.Fr K m b.bd)(fe:Fe K m b.bd):
  ((∀j,j<K->hlp b K (K+m) j=false)/\Zo [eB b,.int ((K+m:Nat):Int)]=.ok .none/\nxc (K+m) b=none) \/
  (∃p,p<K/\hlp b K (K+m) p=true/\(∀i,K<=i->i<K+m->0<=b.bd.R i p)/\Zo [eB b,.int ((K+m:Nat):Int)]=.ok (.int p)/\YE [eB b,.int p]=.ok .none/\nxc (K+m) b=none) \/
  ∃t p,t<K+m/\Sx.Ch2 K (K+m+1) (K+m) b.bd t p/\(∀i,K<=i->i<K+m->b.bd.R i p<0->b.bd.R t K * -b.bd.R i p<=b.bd.R i K * -b.bd.R t p)/\Zo [eB b,.int ((K+m:Nat):Int)]=.ok (.int p)/\YE [eB b,.int p]=.ok (.int t)/\nxc (K+m) b=some (lsw b t p):=by
 rcases Jz o.wf (t:=K+m) (by omega) with ⟨p,k1,k2,k3,k4⟩|⟨k1,k2⟩
 ·have e1:qOf b (K+m)=some p:=by unfold qOf;rw[k4];simp
  obtain⟨fd,h1,h2⟩:=zfw o.wf s k1;cases fd with
  |none=>
   have h2':YE [eB b,.int p]=.ok .none:=h2;have e2:sOf b p=none:=by unfold sOf;rw[h2']
   exact .inr (.inl ⟨p,k1,k2,h1,k4,h2',by unfold nxc;rw[e1];simp[e2]⟩)
  |some t=>
   have h2':YE [eB b,.int p]=.ok (.int t):=h2;have e2:sOf b p=some t:=by unfold sOf;rw[h2'];simp
   obtain⟨t1,t2,t3,t4⟩:=h1;have hpK:K<=b.bd.h p:=by
    rcases Nat.lt_or_ge (b.bd.h p) K with z|z
    ·have:=f p k1 z t t1 t2;omega
    ·exact z
   have hpos:0<b.bd.R (K+m) p:=by
    unfold hlp at k2;rw[qp,jl]at k2;rcases k2 with z|z
    ·exact of_decide_eq_true z
    ·have:=of_decide_eq_true z.2;omega
   refine .inr (.inr ⟨t,p,t2,⟨t1,by omega,k1,hpos,λj hj hlt=>?_,λj hj hh=>?_,t3,fe t t1 t2,λi h1 h2 h3=>(t4 i h1 (by omega) h3).2 h2⟩,λi h1 h2 h3=>(t4 i h1 h2 h3).1,k4,h2',by unfold nxc;rw[e1];simp[e2]⟩)
   ·rcases(show b.bd.R (K+m) j<=0\/0<b.bd.R (K+m) j by omega) with z|z
    ·exact z
    ·have:=k3 j hj (by unfold hlp;rw[decide_eq_true z];rfl)
     omega
   ·rcases(show b.bd.R (K+m) j=0\/b.bd.R (K+m) j<0\/0<b.bd.R (K+m) j by omega) with z|z|z
    ·exact z
    ·have:=k3 j hj (by unfold hlp;rw[decide_eq_true z,decide_eq_true hh];simp)
     omega
    ·have:=k3 j hj (by unfold hlp;rw[decide_eq_true z];rfl)
     omega
 ·have e1:qOf b (K+m)=none:=by unfold qOf;rw[k2]
  exact .inl ⟨k1,k2,by unfold nxc;rw[e1];rfl⟩
theorem zbE(z:Mz K m M B)(o:Bo K m M b)(f:Sx.Fr K m b.bd)(fe:Fe K m b.bd){b':LB}(e:nxc (K+m) b=some b'):∃t p,t<K+m/\Sx.Ch2 K (K+m+1) (K+m) b.bd t p/\b'=lsw b t p/\Bo K m M b'/\Sx.Fr K m b'.bd/\Fe K m b'.bd:=by
 rcases zao o (o.sm z) f fe with ⟨_,_,h⟩|⟨_,_,_,_,_,_,h⟩|⟨t,p,h1,ch,mn,_,_,h⟩
 ·rw[h]at e;cases e
 ·rw[h]at e;cases e
 ·rw[h]at e;cases e;have hne:b.bd.R t p≠0:=by have:=ch.ng;omega
  refine⟨t,p,h1,ch,rfl,o.swap ch.tK h1 ch.pK hne,?_,?_⟩
  ·rw[JU o.wf (by omega) ch.pK]
   exact Sx.zlK o.g rfl f ch.tK h1 ch.pK hne
  ·rw[JU o.wf (by omega) ch.pK]
   intro i h2 h3;have e:=(Sx.zkj o.g (by omega) ch.pK ch.ng (i:=i) (j:=K) (by omega) (yu K) (by have:=ch.pK;omega)).2
   have hpos:=o.g.pos;have ge:0 <= -b.bd.R t p * b.bd.R i K+b.bd.R i p * b.bd.R t K:=by
    have f1:=fe i h2 h3;have f2:=fe t ch.tK h1;have f3:=ch.ng;rcases(show b.bd.R i p<0\/0<=b.bd.R i p by omega) with q|q
    ·have:=mn i h2 h3 q;have e1:b.bd.R t K * -b.bd.R i p=-(b.bd.R i p * b.bd.R t K):=by grind
     have e2:b.bd.R i K * -b.bd.R t p=-b.bd.R t p * b.bd.R i K:=by grind
     omega
    ·have a1:=yap (show 0 <= -b.bd.R t p by omega) f1
     have a2:=yap q f2;omega
   rw[<- e]at ge;rcases(show(Sx.swp b.bd t p).R i K<0\/0<=(Sx.swp b.bd t p).R i K by omega) with q|q
   ·have:=Sx.zei hpos q;omega
   ·exact q
theorem endsC(z:Mz K m M B)(o:Bo K m M b)(f:Sx.Fr K m b.bd)(fe:Fe K m b.bd):EndC (K+m) ((K+m+1) ^ K) b:=by
 refine js λno=>?_
 let it:Nat->LB:=λk=>Nat.rec b (λ_ x=>(nxc (K+m) x).getD x) k
 have it1:∀k,it (k+1)=(nxc (K+m) (it k)).getD (it k):=λk=>rfl
 have all:∀k,k<=(K+m+1) ^ K->¬EndC (K+m) ((K+m+1) ^ K - k) (it k)/\Bo K m M (it k)/\Sx.Fr K m (it k).bd/\Fe K m (it k).bd:=by
  intro k
  induction k with
  |zero=>exact λ_=>⟨no,o,f,fe⟩
  |succ k ih=>
   intro hk;obtain⟨h1,h2,h3,h4⟩:=ih (by omega)
   obtain⟨d,hd⟩:∃d,(K+m+1) ^ K - k=d+1:=⟨(K+m+1) ^ K - k - 1,by omega⟩
   rw[hd]at h1;cases e:nxc (K+m) (it k) with
   |none=>exact absurd (.inl e) h1
   |some b'=>
    have e2:it (k+1)=b':=by rw[it1,e];rfl
    obtain⟨t,p,_,_,_,a5,a6,a7⟩:=zbE z h2 h3 h4 e;rw[e2,show(K+m+1) ^ K - (k+1)=d by omega]
    exact⟨λz=>h1 (.inr ⟨b',e,z⟩),a5,a6,a7⟩
 have step:∀k,∃q:Nat×Nat,k<(K+m+1) ^ K->Sx.Ch2 K (K+m+1) (K+m) (it k).bd q.1 q.2/\(it (k+1)).bd=Sx.swp (it k).bd q.1 q.2:=by
  intro k;by_cases hk:k<(K+m+1) ^ K
  ·obtain⟨h1,h2,h3,h4⟩:=all k (by omega)
   obtain⟨d,hd⟩:∃d,(K+m+1) ^ K - k=d+1:=⟨(K+m+1) ^ K - k - 1,by omega⟩
   rw[hd]at h1;cases e:nxc (K+m) (it k) with
   |none=>exact absurd (.inl e) h1
   |some b'=>
    obtain⟨t,p,a1,a2,a3,_,_,_⟩:=zbE z h2 h3 h4 e;refine⟨(t,p),λ_=>⟨a2,?_⟩⟩
    have e2:it (k+1)=b':=by rw[it1,e];rfl
    rw[e2,a3,JU h2.wf (by omega) a2.pK]
  ·exact⟨(0,0),λz=>absurd z hk⟩
 obtain⟨q,hq⟩:=yeb step;exact absurd (Sx.zj2 (K:=K) (N:=K+m+1) (M:=M) (B:=λk=>(it k).bd) (T:=λk=>(q k).1) (P:=λk=>(q k).2) (L:=(K+m+1) ^ K) (w:=K+m) (by omega) (λk hk=>(all k hk).2.1.g) (λk hk=>(hq k hk).1) λk hk=>(hq k hk).2) (jY _)
def sgW(x:Int):Int:=if 0<x then 1 else -1
def wayL(b:LB)(K m p:Nat):List Rat:=(y4 K).map λi=>y8 (sgW (b.bd.R (K+m) p) * b.bd.R i p) b.D
theorem sgW_abs(x y:Int):(sgW x * y).natAbs=y.natAbs:=by unfold sgW;split<;>simp[j9]
theorem way_ok{p:Nat}(o:Bo K m M b)(s:Sm b)(hp:p<K):JB [eB b,.int p]=.ok (.list ((wayL b K m p).map fr)):=by
 have h1:Uw (K:Int)=true:=Yn (by have:=o.wf.kk;omega)
 have h2:(aw 0 K).length<=16777216:=by rw[XZ];have:=o.wf.kk;omega
 have e1:=Qn o.wf;have e2:=JL o.wf (i:=K+m) (by omega)
 have e3:ag (eI (b.rows.getD (K+m) [])) (.int (p:Int))=.ok (.int (b.bd.R (K+m) p)):=JM (by rw[o.wf.row (by omega)];omega)
 have eg:(if 0<b.bd.R (K+m) p then(Res.ok (ya.int 1)) else .ok (.int (-1)))=.ok (.int (sgW (b.bd.R (K+m) p))):=by unfold sgW;split<;>rfl
 have hsg:(sgW (b.bd.R (K+m) p)).natAbs<18446744073709551616:=by unfold sgW;split<;>decide
 unfold wayL;generalize hsw:sgW (b.bd.R (K+m) p)=sw at *
 have hc:Xf (Zt 0) tT (Zj Xg (Zc (d2 aA (aa 1) (d2 ag (d2 ag (d1 (ay "rows") (aa 2)) (aa 0)) (aa 3))) (Zc (d1 (ay "divisor") (aa 2)) ac))) [.emp,.val (.int sw),.val (eB b),.val (.int p)] (aw 0 K)=.ok ((y4 K).map λi=>fr (y8 (sw * b.bd.R i p) b.D)):=by
  rw[Uz];refine Yv (λ(k:Nat)=>ya.int (k:Int)) _ _ λi hi=>⟨_,rfl,?_⟩
  have hi':=jq.mp hi;have a1:=JL o.wf (i:=i) (by omega)
  have a2:ag (eI (b.rows.getD i [])) (.int (p:Int))=.ok (.int (b.bd.R i p)):=JM (by rw[o.wf.row (by omega)];omega)
  have a3:=UO (u:=sw * b.bd.R i p) s.d0 s.d (by omega)
  have a4:Xj sw (b.bd.R i p)=true:=zbx hsg;generalize b.bd.R i p=r at *
  simp[a1,a2,a3,a4,-ag,-y9]
 generalize b.bd.R (K+m) p=rw' at *
 simp[JB,ziR,zer,ah,ai,o.wf.hl,h1,h2,e1,e2,e3,eg,hc,-ag,-y9,-jW]
def cC:DT:=tV (d1 zaM (aa 1))
def bC:DS:=(ad (aj 2 [] (Zj YE (Zc (aa 0) (Zc (aa 1) ac)))) (ad (aE (tV (d1 fIsN (aa 2))) (ak (au (Zc (dC (.str (PySem.Str.ofString "endless"))) (Zc (Zj X1 (Zc (aa 0) ac)) (Zc (Zj JB (Zc (aa 0) (Zc (aa 1) ac))) ac))))) ZH) (ad (aj 0 [] (Zj Xv (Zc (aa 0) (Zc (aa 2) (Zc (aa 1) ac))))) (aj 1 [] (Zj Zo (Zc (aa 0) (Zc (Zj XC (Zc (aa 0) ac)) ac)))))))
theorem zj1(z:Mz K m M B):∀(n:Nat) (b:LB),EndC (K+m) n b->Bo K m M b->Sx.Fr K m b.bd->Fe K m b.bd->∀(fuel:Nat),n<fuel->∀(cl:ya) (s2:Sl),Zo [eB b,.int ((K+m:Nat):Int)]=.ok cl ->
  ∃b',Bo K m M b'/\Sx.Fr K m b'.bd/\Fe K m b'.bd/\(((∀j,j<K->hlp b' K (K+m) j=false)/\∃s2',YN cC bC fuel [.val (eB b),.val cl,s2]=.ok (.nx [.val (eB b'),.val .none,s2'])) \/
   ∃p,p<K/\hlp b' K (K+m) p=true/\(∀i,K<=i->i<K+m->0<=b'.bd.R i p)/\YN cC bC fuel [.val (eB b),.val cl,s2]=.ok (.rt (.tuple [.str "endless",.list ((pt K b').map fr),.list ((wayL b' K m p).map fr)]))):=by
 intro n
 induction n with
 |zero=>
  intro b he o f fe fuel hf cl s2 hcl;obtain⟨fu,rfl⟩:∃fu,fuel=fu+1:=⟨fuel - 1,by omega⟩
  have he':nxc (K+m) b=none:=he;have s:=o.sm z;rcases zao o s f fe with ⟨a1,a2,_⟩|⟨p,a1,a2,a3,a4,a5,_⟩|⟨t,p,_,_,_,_,_,a5⟩
  ·rw[hcl]at a2;cases a2;refine⟨b,o,f,fe,.inl ⟨a1,s2,?_⟩⟩;simp[YN,cC]
  ·rw[hcl]at a4;cases a4;have h1:=Qs o s;have h2:=way_ok o s a1;refine⟨b,o,f,fe,.inr ⟨p,a1,a2,a3,?_⟩⟩;generalize pt K b=ps at *
   generalize wayL b K m p=ws at *
   simp[YN,cC,bC,a5,h1,h2]
  ·rw[he']at a5;cases a5
 |succ n ih=>
  intro b he o f fe fuel hf cl s2 hcl;obtain⟨fu,rfl⟩:∃fu,fuel=fu+1:=⟨fuel - 1,by omega⟩
  have s:=o.sm z;rcases zao o s f fe with ⟨a1,a2,_⟩|⟨p,a1,a2,a3,a4,a5,_⟩|⟨t,p,a0,ch,_,a3,a4,a5⟩
  ·rw[hcl]at a2;cases a2;refine⟨b,o,f,fe,.inl ⟨a1,s2,?_⟩⟩;simp[YN,cC]
  ·rw[hcl]at a4;cases a4;have h1:=Qs o s;have h2:=way_ok o s a1;refine⟨b,o,f,fe,.inr ⟨p,a1,a2,a3,?_⟩⟩;generalize pt K b=ps at *
   generalize wayL b K m p=ws at *
   simp[YN,cC,bC,a5,h1,h2]
  ·rw[hcl]at a3;cases a3;have he2:EndC (K+m) n (lsw b t p):=by
    have he':nxc (K+m) b=none\/∃b',nxc (K+m) b=some b'/\EndC (K+m) n b':=he;rcases he' with h|⟨b',h,h'⟩
    ·rw[a5]at h;cases h
    ·rw[a5]at h;cases h;exact h'
   obtain⟨_,_,_,_,_,o2,f2,fe2⟩:=zbE z o f fe a5;obtain⟨cl2,hcl2⟩:∃cl2,Zo [eB (lsw b t p),.int ((K+m:Nat):Int)]=.ok cl2:=by
    rcases Jz o2.wf (t:=K+m) (by omega) with ⟨_,_,_,_,h⟩|⟨_,h⟩
    ·exact⟨_,h⟩
    ·exact⟨_,h⟩
   have hs:=zbc o.wf s (t:=t) (p:=p) (by omega) ch.pK
   have hwo:=Qn o2.wf;obtain⟨b',o',f',fe',r⟩:=ih (lsw b t p) he2 o2 f2 fe2 fu (by omega) cl2 (.val (.int t)) hcl2
   have ew:YN cC bC (fu+1) [.val (eB b),.val (.int p),s2]=YN cC bC fu [.val (eB (lsw b t p)),.val cl2,.val (.int t)]:=by
    have ec:cC (az [.val (eB b),.val (.int p),s2])=.ok true:=by simp[cC]
    have eb:bC [.val (eB b),.val (.int p),s2]=.ok (.nx [.val (eB (lsw b t p)),.val cl2,.val (.int t)]):=by simp[bC,a4,hs,hwo,hcl2,-jW]
    rw[YN,ec,Res.bind_ok,if_pos rfl,eb]
    rfl
   rw[ew];exact⟨b',o',f',fe',r⟩
theorem zj0(z:Mz K m M B)(o:Bo K m M b)(f:Sx.Fr K m b.bd)(fe:Fe K m b.bd)(hf:(K+m+1) ^ K<1000000000000):
  ∃b',Bo K m M b'/\Sx.Fr K m b'.bd/\Fe K m b'.bd/\(((∀j,j<K->hlp b' K (K+m) j=false)/\VB [eB b]=.ok (.tuple [.str "best",.list ((pt K b').map fr),.list ((shL b' K m (K+m) K).map fr)])) \/
   ∃p,p<K/\hlp b' K (K+m) p=true/\(∀i,K<=i->i<K+m->0<=b'.bd.R i p)/\VB [eB b]=.ok (.tuple [.str "endless",.list ((pt K b').map fr),.list ((wayL b' K m p).map fr)])):=by
 obtain⟨cl,hcl⟩:∃cl,Zo [eB b,.int ((K+m:Nat):Int)]=.ok cl:=by
  rcases Jz o.wf (t:=K+m) (by omega) with ⟨_,_,_,_,h⟩|⟨_,h⟩
  ·exact⟨_,h⟩
  ·exact⟨_,h⟩
 have hwo:=Qn o.wf;have hd:zdp=ad (JS JW cC bC) QE:=rfl;have hu:∀G,JW G=1000000000000:=λ_=>rfl
 obtain⟨b',o',f',fe',r⟩:=zj1 z _ b (endsC z o f fe) o f fe 1000000000000 hf cl .emp hcl;refine⟨b',o',f',fe',?_⟩;rcases r with ⟨r1,s2,r2⟩|⟨p,r1,r2,r3,r4⟩
 ·refine .inl ⟨r1,?_⟩;have h1:=Qs o' (o'.sm z);have h2:=zf6 o' (o'.sm z) (t:=K+m) (by omega)
  have h3:=Qn o'.wf;generalize pt K b'=ps at *
  generalize shL b' K m (K+m) K=ss at *
  simp[VB,zdq,hd,QE,ah,ai,hwo,hcl,hu,r2,h1,h2,h3,-jW]
 ·refine .inr ⟨p,r1,r2,r3,?_⟩;generalize pt K b'=ps at *
  generalize wayL b' K m p=ws at *
  simp[VB,zdq,hd,QE,ah,ai,hwo,hcl,hu,r4,-jW]
end
structure Pt(K n0:Nat)(ls:List Lim)(ps:List Rat):Prop where
 len:ps.length=K
 sz:∀q∈ps,Sz n0 q
 kp:∀l∈ls,dot l.1 ps<=(l.2:Rat)
structure Cl(K n0:Nat)(ls:List Lim)(ss:List Rat):Prop where
 len:ss.length=ls.length
 sz:∀q∈ss,Sz n0 q
 nn:∀q∈ss,0<=q
 z:∀j,j<K->dot (ls.map (colN j)) ss=0
 b:Xm ls ss<0
structure Pr(K n0:Nat)(ls:List Lim)(goal:List Int)(ps ss:List Rat):Prop where
 len:ss.length=ls.length
 sz:∀q∈ss,Sz n0 q
 nn:∀q∈ss,0<=q
 w:∀j,j<K->dot (ls.map (colN j)) ss=((goal.getD j 0:Int):Rat)
 b:Xm ls ss=dot goal ps
structure Wy(K n0:Nat)(ls:List Lim)(goal:List Int)(ws:List Rat):Prop where
 len:ws.length=K
 sz:∀q∈ws,Sz n0 q
 l:∀l∈ls,dot l.1 ws<=0
 g:0<dot goal ws
inductive Best (K n0:Nat) (ls:List Lim) (goal:List Int):ya->Prop
 |clash {ss:List Rat}(c:Cl K n0 ls ss):Best K n0 ls goal (.tuple [.str "clash",.list (ss.map fr)])
 |best {ps ss:List Rat}(p:Pt K n0 ls ps) (r:Pr K n0 ls goal ps ss):Best K n0 ls goal (.tuple [.str "best",.list (ps.map fr),.list (ss.map fr)])
 |endless {ps ws:List Rat}(p:Pt K n0 ls ps) (w:Wy K n0 ls goal ws):Best K n0 ls goal (.tuple [.str "endless",.list (ps.map fr),.list (ws.map fr)])
section
variable {K m B n0:Nat}{ls:List Lim}{goal:List Int}{b:LB}
theorem zhT(d:DK K m B n0 ls)(hg:goal.length=K)(o:Bo K m (M0 K ls goal) b)(s:Sm b)(sz:SzB K m n0 b)(hn:∀j,j<K->hlp b K (K+m) j=false):Pr K n0 ls goal (pt K b) (shL b K m (K+m) K):=by
 have hD:0<b.D:=o.g.pos;have rows:=λc hc=>zku (t:=K+m) (c:=c) o (by omega) (λj hj hh=>(ziq (hn j hj)).2 hh) hc
 refine⟨by simp[shL,d.len],shL_sz sz s (by omega),λq hq=>?_,λj hj=>?_,?_⟩
 ·obtain⟨i,hi,rfl⟩:=yR.mp hq;exact zlW hD (zkx K (yu _) λj hj=>(ziq (hn j hj)).1)
 ·have e:=zai ([],(0:Int)) (colN j) s.d0 ls (shZ b K (K+m) K);rw[d.len]at e;have e2:Sx.ar m (λi=>colN j (ls.getD i ([],0)) * shZ b K (K+m) K i)=goal.getD j 0 * b.D:=by
   have r:=rows j (by omega)
   rw[if_neg (by omega),zhW d.len hg hj]at r
   have e3:Sx.ar m (λi=>M0 K ls goal (K+i) j * shZ b K (K+m) K i)=Sx.ar m (λi=>(-1) * (colN j (ls.getD i ([],0)) * shZ b K (K+m) K i)):=Sx.Yx λi hi=>by
    rw[zfT d.w (by rw[d.len];exact hi) hj];grind
   rw[e3,Sx.Ue]at r;have:b.D * goal.getD j 0=goal.getD j 0 * b.D:=qX _ _;omega
  rw[e2]at e;show dot (ls.map (colN j)) ((y4 m).map λi=>y8 (shZ b K (K+m) K i) b.D)=_
  rw[e,<- zlX,zlV s.d0,Rat.mul_one]
 ·have e:=zai ([],(0:Int)) (λl:Lim=>l.2) s.d0 ls (shZ b K (K+m) K)
  rw[d.len]at e;have r:=rows K (yu _);rw[if_pos rfl,zfU d.len hg,jp,yas]at r;have e3:Sx.ar m (λi=>M0 K ls goal (K+i) K * shZ b K (K+m) K i)=Sx.ar m (λi=>(ls.getD i ([],0)).2 * shZ b K (K+m) K i):=Sx.Yx λi hi=>by
   rw[zcn d.w (by rw[d.len];exact hi)]
  rw[e3]at r;rw[r]at e;show dot (ls.map (·.2)) ((y4 m).map λi=>y8 (shZ b K (K+m) K i) b.D)=_
  rw[e,dot_pt hg s.d0,o.worth d.len hg (yu K)]
theorem div_pos{a D:Int}(h:0<D)(hh:0<a):0<y8 a D:=by
 rw[<- Rat.not_le];intro z;have h3:y8 a D=0:=Rat.le_antisymm z (zlW h (by omega))
 have:=zjU (u:=a) (l:=D) (by omega) h3.symm
 simp at this;omega
theorem sgW_pos{x:Int}(h:x≠0):0<sgW x * x:=by unfold sgW;split<;>omega
theorem way_wy{p:Nat}(d:DK K m B n0 ls)(hg:goal.length=K)(o:Bo K m (M0 K ls goal) b)(f:Sx.Fr K m b.bd)(s:Sm b)(sz:SzB K m n0 b)(hp:p<K)(hh:hlp b K (K+m) p=true)(hr:∀i,K<=i->i<K+m->0<=b.bd.R i p):Wy K n0 ls goal (wayL b K m p):=by
 have hD:0<b.D:=o.g.pos;have hne:b.bd.R (K+m) p≠0:=by
  intro z;unfold hlp at hh;rw[z]at hh;simp at hh
 have dw:∀ws:List Int,ws.length=K->dot ws (wayL b K m p)=y8 (sgW (b.bd.R (K+m) p) * Sx.ar K λc=>ws.getD c 0 * b.bd.R c p) b.D:=λws hl=>by
  have e:=zai (0:Int) (λx=>x) s.d0 ws (λi=>sgW (b.bd.R (K+m) p) * b.bd.R i p)
  rw[hl,List.map_id'']at e
  ·show dot ws ((y4 K).map λi=>y8 (sgW (b.bd.R (K+m) p) * b.bd.R i p) b.D)=_
   rw[e,<- Sx.Ue]
   congr 1
   exact Sx.Yx λc _=>by rw[yag]
  ·intro x;rfl
 refine⟨by simp[wayL],λq hq=>?_,λl hl=>?_,?_⟩
 ·obtain⟨i,hi,rfl⟩:=yR.mp hq;have hi':=jq.mp hi;exact XH s.d0 (by rw[sgW_abs];exact sz.r i p (by omega) (by omega)) sz.d
 ·rw[dw _ (d.w l hl)];obtain⟨i,hi,rfl⟩:=qK hl;have hi':i<m:=by rw[<- d.len];exact hi
  have e:=o.room d.len d.w hi' (q:=p) (by omega)
  rw[if_neg (by omega)]at e
  have eg:ls.getD i ([],0)=ls[i]:=(zaK hi).symm;rw[eg]at e;have e2:Sx.ar K (λc=>ls[i].1.getD c 0 * b.bd.R c p)=Sx.ar K (λc=>colN c ls[i] * b.bd.R c p):=rfl
  rw[e2,e];have h0:sgW (b.bd.R (K+m) p) * (0 - b.bd.R (K+i) p)<=0 * b.D:=by
   rw[qY];have h1:=hr (K+i) (by omega) (by omega)
   by_cases hk:b.bd.h p<K
   ·rw[f p hp hk (K+i) (by omega) (by omega)];simp
   ·have:0<b.bd.R (K+m) p:=by
     unfold hlp at hh;rw[qp,jl]at hh;rcases hh with z|z
     ·exact of_decide_eq_true z
     ·exact absurd (of_decide_eq_true z.2) hk
    have e1:sgW (b.bd.R (K+m) p)=1:=if_pos this;rw[e1];omega
  have:=div_le (b:=0) hD h0;simpa using this
 ·rw[dw goal hg,o.worth d.len hg (by omega)]
  exact div_pos hD (sgW_pos hne)
theorem zmp(d:DK K m B n0 ls)(hg:goal.length=K)(h2:∀x∈goal,x.natAbs<=B):
  (∃b t ss,Cl K n0 ls ss/\YZ [Zz K ls,eI goal]=.ok (.tuple [eB b,.int (t:Nat)])/\WJ [eB b,.int (t:Nat)]=.ok (.list (ss.map fr))) \/
  ∃b r,Best K n0 ls goal r/\YZ [Zz K ls,eI goal]=.ok (.tuple [eB b,.none])/\VB [eB b]=.ok r:=by
 obtain⟨b,o,f,s,sz,r⟩:=d.settled hg h2;have z:=d.mz hg h2;rcases r with ⟨r1,r2⟩|⟨t,r1,r2,r3,r4,r5⟩
 ·obtain⟨b',o',f',fe',r⟩:=zj0 z o f r1 d.fu;have s':=o'.sm z;have sz':=d.szb hg h2 o';have pp:Pt K n0 ls (pt K b'):=⟨by simp[pt],pt_sz sz' s',zaB d o' s' fe'⟩
  rcases r with ⟨q1,q2⟩|⟨p,q1,q2,q3,q4⟩
  ·exact .inr ⟨b,_,.best pp (zhT d hg o' s' sz' q1),r2,q2⟩
  ·exact .inr ⟨b,_,.endless pp (way_wy d hg o' f' s' sz' q1 q2 q3),r2,q4⟩
 ·obtain⟨c1,c2,c3⟩:=zi6 d o s r1 r2 r3 r4;exact .inl ⟨b,t,clL b K m t,⟨by simp[clL,d.len],clL_sz sz s (by omega),c1,c2,c3⟩,r5,zi5 o s r1 r2⟩
end
theorem zjE{q:Rat}(h:0<q):0<q.num:=by
 have h1:=ycc.mpr (Rat.le_of_lt h);rcases(show q.num=0\/0<q.num by omega) with z|z
 ·rw[ydt.mp z]at h;exact absurd h (Rat.lt_irrefl)
 ·exact z
theorem zlf{q:Rat}(h:q<=0):¬0<q.num:=λz=>by
 have h1:0<=q:=ycc.mp (by omega)
 have h2:q=0:=Rat.le_antisymm h h1;rw[h2]at z;simp at z
theorem zed(goal:List Int):((y4 goal.length).map λj=>((goal.getD j 0:Int):Rat))=goal.map λ(x:Int)=>(x:Rat):=by
 apply yb5
 ·simp
 ·intro n h1 h2;have:n<goal.length:=by simpa using h2
  simp[y9,this]
theorem UF{a b:Str}(ha:ya.strOk a=true)(hb:ya.strOk b=true):fEq (.str a) (.str b)=.ok (.bool (decide (a=b))):=by
 simp only[fEq,Wm,ya.canLay0,ya.depth,ya.eqv,ha,hb];by_cases h:a=b<;>simp[h]
end Lw
namespace Lx
open PySem Fx Lw
def zbS:DS:=(ak (au (Zc (d1 zaL (aa 2)) (Zc (aa 3) ac))))
def zbT:DS:=
  ad (aE (aC (tV (Zj Wq (Zc (aa 3) ac)))) (VG "NoDesk" (Zc (dC (.str (PySem.Str.ofString "a bound is a whole number of at most 12 figures"))) ac)) ZH) zbS
def zbU:DS:=
  ad (aE (aC (tV (d1 fAll (dL (Y4 1 [] (Zt 0) (av (aa 2)) tT (Zj Wq (Zc (aa 0) ac))))))) (VG "NoDesk" (Zc (dC (.str (PySem.Str.ofString "a weight is a whole number of at most 12 figures"))) ac)) ZH) zbT
def zbV:DS:=
  ad (aE (tOr (aC (tV (d1 (fIs isList) (aa 2)))) (tV (d2 fNe (d1 aB (aa 2)) (aa 0)))) (VG "NoDesk" (Zc (dC (.str (PySem.Str.ofString "weights are a list with one number for each kind"))) ac)) ZH) zbU
def zbW:DS:=
  ad (aj 3 [] (d2 ag (aa 1) (dC (.int 1)))) zbV
def zbX:DS:=
  ad (aj 2 [] (d2 ag (aa 1) (dC (.int 0)))) zbW
def zew:DS:=
  ad (aE (tOr (aC (tV (d1 (fIs zft) (aa 1)))) (tV (d2 fNe (d1 aB (aa 1)) (dC (.int 2))))) (VG "NoDesk" (Zc (dC (.str (PySem.Str.ofString "a limit is a tuple of weights and a bound"))) ac)) ZH) zbX
def Ud:DF:=ai 4 2 zew
def zdm:DS:=(ak (au (Zc (aa 0) (Zc (d1 zaL (dL (Y4 1 [0] (Zt 0) (av (aa 1)) tT (Zj Ud (Zc (aa 1) (Zc (aa 0) ac)))))) ac))))
def zdn:DS:=
  ad (aE (tOr (aC (tV (d1 (fIs isList) (aa 1)))) (tV (d2 fGt (d1 aB (aa 1)) (dC (.int 10))))) (VG "NoDesk" (Zc (dC (.str (PySem.Str.ofString "limits are a list of at most 10"))) ac)) ZH) zdm
def zgP:DS:=
  ad (aE (tOr (aC (tV (Zj Yw (Zc (aa 0) ac)))) (tOr (tV (d2 fLt (aa 0) (dC (.int 1)))) (tV (d2 fGt (aa 0) (dC (.int 4)))))) (VG "NoDesk" (Zc (dC (.str (PySem.Str.ofString "kinds are a whole number from 1 to 4"))) ac)) ZH) zdn
def QU:DF:=ai 2 2 zgP
def za5:DS:=(aE (tOr (aC (tV (Zj Yw (Zc (aa 1) ac)))) (tOr (tV (d2 fLt (aa 1) (dC (.int 0)))) (tV (d2 fGe (aa 1) (aa 0))))) (VG "NoPlace" (Zc (dC (.str (PySem.Str.ofString "a place is a whole number from 0 to below how many there are"))) ac)) ZH)
def Xu:DF:=ai 2 2 za5
def JR:DS:=(aE (aC (tV (d1 fAll (dL (Y4 1 [] (Zt 0) (av (aa 1)) tT (Zj Yw (Zc (aa 0) ac))))))) (VG "NoGoal" (Zc (dC (.str (PySem.Str.ofString "a goal is of whole numbers"))) ac)) ZH)
def zb5:DS:=
  ad (aE (tOr (aC (tV (d1 (fIs isList) (aa 1)))) (tV (d2 fNe (d1 aB (aa 1)) (aa 0)))) (VG "NoGoal" (Zc (dC (.str (PySem.Str.ofString "a goal is a list with one number for each kind"))) ac)) ZH) JR
def VC:DF:=ai 2 2 zb5
def zi1:DS:=(ak (Zj VB (Zc (d2 ag (aa 2) (dC (.int 0))) ac)))
def zfN:DS:=
  ad (aE (tV (d1 zaM (d2 ag (aa 2) (dC (.int 1))))) (ak (au (Zc (dC (.str (PySem.Str.ofString "clash"))) (Zc (Zj WJ (Zc (d2 ag (aa 2) (dC (.int 0))) (Zc (d2 ag (aa 2) (dC (.int 1))) ac))) ac)))) ZH) zi1
def zfO:DS:=
  ad (aj 2 [] (Zj YZ (Zc (aa 0) (Zc (aa 1) ac)))) zfN
def zmb:DS:=
  ad (zdY (Zj VC (Zc (d2 ag (aa 0) (dC (.int 0))) (Zc (aa 1) ac)))) zfO
def Uk:DF:=ai 3 2 zmb
def d_top_3:DS:=(ak (Zj Xa (Zc (aa 1) (Zc (d2 ag (aa 2) (dC (.int 1))) ac))))
def d_top_2:DS:=
  ad (aE (tV (d2 fEq (d2 ag (aa 2) (dC (.int 0))) (dC (.str (PySem.Str.ofString "endless"))))) (ak (dC .none)) ZH) d_top_3
def zlZ:DS:=
  ad (aE (tV (d2 fEq (d2 ag (aa 2) (dC (.int 0))) (dC (.str (PySem.Str.ofString "clash"))))) (VG "NoPoint" (Zc (dC (.str (PySem.Str.ofString "the limits of the desk clash"))) ac)) ZH) d_top_2
def d_top:DS:=
  ad (aj 2 [] (Zj Uk (Zc (aa 0) (Zc (aa 1) ac)))) zlZ
def zlM:DF:=ai 3 2 d_top
variable {K m B n0:Nat}{ls:List Lim}{goal:List Int}
theorem limit_ok{k w:Nat}{l:Lim}(h:LimOk k w l)(hw:w<=999999999999)(hk:k<=1000):Ud [.int k,ao l]=.ok (aq l):=by
 have e:=Yv (st:=Zt 0) (e:=(Zj Wq (Zc (aa 0) ac))) (C:=[.emp]) ya.int (λ_=>ya.bool true) l.1 λx hx=>⟨[.val (.int x)],rfl,by simp[ziA (yE (h.ws x hx) hw)]⟩
 have hl:l.1.length<=16777216:=by rw[h.len];omega
 have hb:=ziA (yE h.bd hw);have a:=zba l.1;obtain rfl:=h.len;simp[Ud,ai,zew,zbX,zbW,zbV,zbU,zbT,zbS,ao,aq,at0,at1,fNe,hl,e,hb,a]
theorem zjW{k w:Nat}{ls:List Lim}(h:∀l∈ls,LimOk k w l)(hw:w<=999999999999)(hk:1<=k/\k<=4)(hl:ls.length<=10):QU [.int k,.list (ls.map ao)]=.ok (.tuple [.int k,.tuple (ls.map aq)]):=by
 have e:=Yv (st:=Zt 0) (e:=(Zj Ud (Zc (aa 1) (Zc (aa 0) ac)))) (C:=[.emp,.val (.int k)]) ao aq ls λl hm=>⟨[.val (ao l),.val (.int k)],rfl,by simp[limit_ok (h l hm) hw (by omega)]⟩
 have h1:¬((k:Int)<1):=by omega
 have h2:¬(4<(k:Int)):=by omega
 have h3:¬(10<(ls.length:Int)):=by omega
 have h4:ls.length<=16777216:=by omega
 simp[QU,ai,zgP,zdn,zdm,QQ,h1,h2,h3,h4,e]
theorem JT{n i:Nat}(h:i<n):Xu [.int n,.int i]=.ok .none:=by
 have h1:¬((i:Int)<0):=by omega
 have h2:¬((n:Int)<=(i:Int)):=by omega
 simp[Xu,za5,ai,QQ,h1,h2]
theorem zfR(hg:goal.length=K)(hK:K<=1000):VC [.int K,eI goal]=.ok .none:=by
 have e:=Yv (st:=Zt 0) (e:=(Zj Yw (Zc (aa 0) ac))) (C:=[.emp]) ya.int (λ_=>ya.bool true) goal λx hx=>⟨[.val (.int x)],rfl,by simp[QQ]⟩
 have hl:K<=16777216:=by omega
 have a:=zba goal;simp[VC,zb5,JR,ai,hg,zlO,e,hl,a]
theorem zdx(d:DK K m B n0 ls)(hg:goal.length=K)(h2:∀x∈goal,x.natAbs<=B):∃r,Best K n0 ls goal r/\Uk [Zz K ls,eI goal]=.ok r:=by
 have hc:=zfR hg d.k;rcases zmp d hg h2 with ⟨b,t,ss,c,e1,e2⟩|⟨b,r,c,e1,e2⟩
 ·refine⟨_,.clash c,?_⟩;simp[Uk,zmb,zfO,zfN,ai,at0,at1,hc,e1,e2]
 ·refine⟨r,c,?_⟩;simp[Uk,zmb,zfO,zfN,zi1,ai,at0,at1,hc,e1,e2]
end Lx
namespace Lw
open PySem Fx
def sumR:Nat->(Nat->Rat)->Rat
 |0,_=>0
 |n+1,f=>sumR n f+f n
theorem zbf:∀{n:Nat}{f g:Nat->Rat},(∀i,i<n->f i=g i)->sumR n f=sumR n g
 |0,f,g,h=>rfl
 |n+1,f,g,h=>by
  simp only[sumR];rw[zbf (λi hi=>h i (by omega)),h n (by omega)]
theorem sumR_lin(n:Nat)(a:Rat)(f g:Nat->Rat):sumR n (λi=>a * f i+g i)=a * sumR n f+sumR n g:=by
 induction n with
 |zero=>simp only[sumR];grind
 |succ n ih=>simp only[sumR,ih];grind
theorem zcp{n:Nat}{f:Nat->Rat}(h:∀i,i<n->f i=0):sumR n f=0:=by
 induction n with
 |zero=>rfl
 |succ n ih=>simp only[sumR,ih (λi hi=>h i (by omega)),h n (by omega)];grind
theorem zd1:∀(n:Nat) (f:Nat->Rat),sumR (n+1) f=f 0+sumR n (λi=>f (i+1))
 |0,f=>by simp only[sumR];grind
 |n+1,f=>by
  have:=zd1 n f;simp only[sumR]at this ⊢;rw[this];grind
theorem zhK:∀(ws:List Int) (ps:List Rat),ws.length=ps.length->dot ws ps=sumR ps.length (λj=>((ws.getD j 0:Int):Rat) * ps.getD j 0)
 |[],[],_=>rfl
 |[],_::_,h=>by simp at h
 |_::_,[],h=>by simp at h
 |w::ws,p::ps,h=>by
  rw[ju,zd1];simp only[dot];rw[zhK ws ps (by simpa using h)]
  rfl
def sumW(ps:List Rat):List Lim->List Rat->Rat
 |l::ls,s::ss=>s * dot l.1 ps+sumW ps ls ss
 |_,_=>0
theorem zhb{ps:List Rat}:∀(ls:List Lim) (ss:List Rat),ls.length=ss.length->(∀q∈ss,0<=q)->(∀l∈ls,dot l.1 ps<=(l.2:Rat))->sumW ps ls ss<=Xm ls ss
 |[],[],_,_,_=>Rat.le_refl
 |[],_::_,h,_,_=>by simp at h
 |_::_,[],h,_,_=>by simp at h
 |l::ls,s::ss,h,hn,hk=>by
  have ih:=zhb ls ss (by simpa using h) (λq hq=>hn q (by simp[hq])) (λl hl=>hk l (by simp[hl]))
  have h1:=hk l (by simp)
  have h2:=hn s (by simp)
  have h3:=ybi h1 h2;have e:Xm (l::ls) (s::ss)=(l.2:Rat) * s+Xm ls ss:=rfl;have e2:sumW ps (l::ls) (s::ss)=s * dot l.1 ps+sumW ps ls ss:=rfl;rw[e,e2]
  grind
theorem zhc{ps:List Rat}:∀(ls:List Lim) (ss:List Rat),(∀l∈ls,l.1.length=ps.length)->sumW ps ls ss=sumR ps.length (λj=>ps.getD j 0 * dot (ls.map (colN j)) ss)
 |[],ss,_=>by
  have:∀j,dot (([]:List Lim).map (colN j)) ss=0:=λj=>by cases ss<;>rfl
  have e:sumW ps [] ss=0:=by cases ss<;>rfl
  rw[e,zcp λj _=>by rw[this,ybc]]
 |_::_,[],_=>by
  rw[zcp λj _=>by rw[show dot _ ([]:List Rat)=0 from rfl,ybc]]
  rfl
 |l::ls,s::ss,h=>by
  have ih:=zhc (ps:=ps) ls ss (λl hl=>h l (by simp[hl]))
  have e2:sumW ps (l::ls) (s::ss)=s * dot l.1 ps+sumW ps ls ss:=rfl;rw[e2,ih,zhK _ _ (h l (by simp)),<- sumR_lin]
  refine zbf λj _=>?_
  have e3:dot ((l::ls).map (colN j)) (s::ss)=((colN j l:Int):Rat) * s+dot (ls.map (colN j)) ss:=rfl;rw[e3];have e4:((l.1.getD j 0:Int):Rat)=((colN j l:Int):Rat):=rfl;rw[e4]
  grind
theorem zfj{K n1 n2:Nat}{ls:List Lim}{ss ps:List Rat}(hw:∀l∈ls,l.1.length=K)(c:Cl K n1 ls ss)(p:Pt K n2 ls ps):False:=by
 have h1:=zhb ls ss c.len.symm c.nn p.kp;have h2:=zhc (ps:=ps) ls ss (λl hl=>by rw[hw l hl,p.len])
 rw[zcp λj hj=>by rw[c.z j (by rw[<- p.len];exact hj),ybc]]at h2
 rw[h2]at h1;have h3:=c.b
 grind
end Lw
namespace Lq
open PySem Fx Lw
def Xl:DS:=(ak (au (Zc (d2 ag (aa 0) (dC (.int 0))) (Zc (d2 fAddU (zgT (d2 ag (aa 0) (dC (.int 1))) pNo (pAt (aa 1))) (zgT (d2 ag (aa 0) (dC (.int 1))) (pAt (d2 aF (aa 1) (dC (.int 1)))) pNo)) ac))))
def Ys:DF:=ah 2 2 Xl
def Yd:DS:=(ak (d2 aF (d2 aF (dL (oCut (aa 0) pNo (pAt (aa 1)))) (dLst (Zc (au (Zc (dC (.int 0)) (Zc (dC (.int 1)) ac))) ac))) (dL (oCut (aa 0) (pAt (aa 1)) pNo))))
def ZN:DF:=ah 2 2 Yd
def Wb:DS:=(ak (dL (Y4 2 [2] (Uv 0 1) (iZip (av (aa 0)) (av (aa 1))) tT (Zj UD (Zc (aa 0) (Zc (Zj Qy (Zc (aa 2) (Zc (aa 1) ac))) ac))))))
def Xe:DF:=ah 3 3 Wb
def ZK:DS:=(ak (Zj Xe (Zc (aa 1) (Zc (aa 2) (Zc (aa 4) ac)))))
def ZL:DS:=
  ad (aj 4 [] (Zj UD (Zc (Zj zgC (Zc (aa 3) (Zc (Zj Xa (Zc (d2 ag (aa 0) (dC (.int 0))) (Zc (aa 2) ac))) ac))) (Zc (au (Zc (dC (.int 1)) (Zc (dC (.int 1)) ac))) ac)))) ZK
def ZC:DS:=
  ad (aE (tV (Zj Vm (Zc (aa 3) (Zc (au (Zc (dC (.int 0)) (Zc (dC (.int 1)) ac))) ac)))) (ak (aa 1)) ZH) ZL
def Z0:DS:=
  ad (aj 3 [] (Zj zgD (Zc (au (Zc (d2 ag (aa 0) (dC (.int 1))) (Zc (dC (.int 1)) ac))) (Zc (Zj Xa (Zc (d2 ag (aa 0) (dC (.int 0))) (Zc (aa 1) ac))) ac)))) ZC
def Zx:DF:=ah 5 3 Z0
end Lq
namespace Lw
open PySem Fx
def oth{α:Type}(ls:List α)(p:Nat):List α:=ls.take p++ls.drop (p+1)
def insZ(ss:List Rat)(p:Nat):List Rat:=ss.take p++0::ss.drop p
def Sz.divS{m n:Nat}{a b:Rat}(ha:Sz m a)(hb:Sz n b)(hz:b≠0):Sz (m+n) (a / b):=by
 have hz':b.num≠0:=λz=>hz (ydt.mp z)
 have q:a / b=y8 (a.num * b.den) (a.den * b.num):=by
  have:=ybo a.num b.den (d₁:=a.den) (d₂:=b.num);rw[jt,<- Rat.inv_def]at this;rw[ycj];exact this
 rw[q];exact XH (jO (Y2 a) hz') (ZA ha.num hb.denI) (ZA ha.denI hb.num)
theorem zeB{xs:List ya}{p:Nat}(h:p<=xs.length):cutT xs none (some (p:Int))=xs.take p:=by
 have h1:¬((p:Int)<0):=by omega
 have h2:min p xs.length=p:=by omega
 simp[cutT,sIxT,h1,h2]
theorem zgU{xs:List ya}{p:Nat}(h:p<=xs.length):cutT xs (some (p:Int)) none=xs.drop p:=by
 have h1:¬((p:Int)<0):=by omega
 have h2:min p xs.length=p:=by omega
 simp only[cutT,sIxT,if_neg h1,ya3,h2];exact List.take_of_length_le (by simp)
theorem VI{α:Type}{ls:List α}{p:Nat}(h:p<ls.length):(oth ls p).length=ls.length - 1:=by
 simp[oth];omega
theorem Uh{α:Type}{ls:List α}{p:Nat}{l:α}(h:l∈oth ls p):l∈ls:=by
 rcases jN.mp h with h|h
 ·exact yc7 h
 ·exact List.mem_of_mem_drop h
theorem ziE{ss:List Rat}{p:Nat}(h:p<=ss.length):(insZ ss p).length=ss.length+1:=by
 simp[insZ];omega
theorem ziD{ss:List Rat}{p:Nat}{q:Rat}(h:q∈insZ ss p):q=0\/q∈ss:=by
 rcases jN.mp h with h|h
 ·exact .inr (yc7 h)
 ·rcases yG.mp h with h|h
  ·exact .inl h
  ·exact .inr (List.mem_of_mem_drop h)
theorem ziF{ss:List Rat}{p:Nat}(h:p<=ss.length):(insZ ss p)[p]? = some 0:=by
 unfold insZ;rw[jC (by simp;omega)]
 simp[Nat.min_eq_left h]
theorem zhM:∀(a b:List Int) (c d:List Rat),a.length=c.length->dot (a++b) (c++d)=dot a c+dot b d
 |[],b,[],d,_=>by
  rw[yal,yal,show dot [] []=0 from rfl,Rat.zero_add]
 |[],b,_::_,d,h=>by simp at h
 |_::_,b,[],d,h=>by simp at h
 |x::a,b,y::c,d,h=>by
  have ih:=zhM a b c d (by simpa using h)
  show(x:Rat) * y+dot (a++b) (c++d)=((x:Rat) * y+dot a c)+dot b d;rw[ih,Rat.add_assoc]
theorem JE{α:Type}(f:α->Int){ls:List α}{ss:List Rat}{p:Nat}(hp:p<ls.length)(hl:ss.length+1=ls.length):dot (ls.map f) (insZ ss p)=dot ((oth ls p).map f) ss:=by
 have e1:ls=ls.take p++ls[p]::ls.drop (p+1):=by rw[yef,yc5]
 have e2:dot (ls.map f) (insZ ss p)=dot ((ls.take p++ls[p]::ls.drop (p+1)).map f) (insZ ss p):=by rw[<- e1]
 have e3:dot ((oth ls p).map f) ss=dot ((oth ls p).map f) (ss.take p++ss.drop p):=by rw[yc5]
 rw[e2,e3];unfold insZ oth;rw[yb9,yb9,zhM _ _ _ _ (by simp;omega),zhM _ _ _ _ (by simp;omega),yH]
 congr 1
 show(f ls[p]:Rat) * 0+dot _ _=_;rw[ybc,Rat.zero_add]
section
variable {K B n0 p:Nat}{ls ls':List Lim}
def mv(ps ws:List Rat)(t:Rat):List Rat:=(ps.zip ws).map λq=>q.1+t * q.2
theorem zlU{t:Rat}:∀(w:List Int) (ps ws:List Rat),ps.length=ws.length->dot w (mv ps ws t)=dot w ps+t * dot w ws
 |[],ps,ws,_=>by
  have h:∀x,dot [] x=0:=λx=>by cases x<;>rfl
  rw[h,h,h];grind
 |_::_,[],[],_=>by
  show(0:Rat)=0+t * 0
  grind
 |_::_,[],_::_,h=>by simp at h
 |_::_,_::_,[],h=>by simp at h
 |x::w,y::ps,z::ws,h=>by
  have ih:=zlU (t:=t) w ps ws (by simpa using h)
  show(x:Rat) * (y+t * z)+dot w (mv ps ws t)=((x:Rat) * y+dot w ps)+t * ((x:Rat) * z+dot w ws);rw[ih];grind
inductive Cov (K n0 N:Nat) (ls:List Lim) (p:Nat) (l:Lim):ya->Prop
 |clash {ss:List Rat}(c:Cl K n0 ls ss) (z:ss[p]? = some 0):Cov K n0 N ls p l (.tuple [.str "clash",.list (ss.map fr)])
 |shares {ss:List Rat}(len:ss.length=ls.length) (sz:∀q∈ss,Sz n0 q) (nn:∀q∈ss,0<=q) (z:ss[p]? = some 0) (w:∀j,j<K->dot (ls.map (colN j)) ss=((l.1.getD j 0:Int):Rat)) (b:Xm ls ss<=(l.2:Rat)):Cov K n0 N ls p l (.tuple [.str "shares",.list (ss.map fr)])
 |point {ps:List Rat}(q:Pt K N (oth ls p) ps) (v:(l.2:Rat)<dot l.1 ps):Cov K n0 N ls p l (.tuple [.str "point",.list (ps.map fr)])
theorem sz_ins{n:Nat}{ss:List Rat}(h:∀q∈ss,Sz n q)(hn:1<=n):∀q∈insZ ss p,Sz n q:=λq hq=>by
 rcases ziD hq with rfl|hq
 ·exact Sz.zero.mono hn
 ·exact h q hq
theorem nn_ins{ss:List Rat}(h:∀q∈ss,0<=q):∀q∈insZ ss p,0<=q:=λq hq=>by
 rcases ziD hq with rfl|hq
 ·exact Rat.le_refl
 ·exact h q hq
theorem cl_ins{ss:List Rat}(hp:p<ls.length)(hn:1<=n0)(c:Cl K n0 (oth ls p) ss):Cl K n0 ls (insZ ss p)/\(insZ ss p)[p]? = some 0:=by
 have hl:ss.length+1=ls.length:=by rw[c.len,VI hp];omega
 refine⟨⟨by rw[ziE (by omega)];exact hl,sz_ins c.sz hn,nn_ins c.nn,λj hj=>?_,?_⟩,ziF (by omega)⟩
 ·rw[JE _ hp hl];exact c.z j hj
 ·unfold Xm;rw[JE _ hp hl];exact c.b
theorem pr_ins{ss ps:List Rat}{l:Lim}(hp:p<ls.length)(hn:1<=n0)(c:Pr K n0 (oth ls p) l.1 ps ss)(hb:dot l.1 ps<=(l.2:Rat))(N:Nat):Cov K n0 N ls p l (.tuple [.str "shares",.list ((insZ ss p).map fr)]):=by
 have hl:ss.length+1=ls.length:=by rw[c.len,VI hp];omega
 refine .shares (by rw[ziE (by omega)];exact hl) (sz_ins c.sz hn) (nn_ins c.nn) (ziF (by omega)) (λj hj=>?_) ?_
 ·rw[JE _ hp hl];exact c.w j hj
 ·unfold Xm;rw[JE _ hp hl];have:=c.b;unfold Xm at this;rw[this];exact hb
end
end Lw
namespace Lq
open PySem Fx Lw
variable {K B n0 p:Nat}{ls:List Lim}
theorem Xx(hp:p<ls.length)(hl:ls.length<=1000):Ys [Zz K ls,.int p]=.ok (Zz K (oth ls p)):=by
 have c1:=zeB (xs:=ls.map aq) (p:=p) (by simp;omega)
 have c2:=zgU (xs:=ls.map aq) (p:=p+1) (by simp;omega)
 rw[show((p+1:Nat):Int)=(p:Int)+1 by omega]at c2
 have n1:¬(sIxT ls.length 0 none=0/\sIxT ls.length ls.length (some (p:Int))=ls.length):=by
  have:¬((p:Int)<0):=by omega
  simp only[sIxT,if_neg this];omega
 have n2:¬(sIxT ls.length 0 (some ((p:Int)+1))=0/\sIxT ls.length ls.length none=ls.length):=by
  have:¬((p:Int)+1<0):=by omega
  simp only[sIxT,if_neg this];omega
 have h3:min p ls.length+(ls.length - (p+1))<=16777216:=by omega
 simp only[Ys,Xl,ah,ai,ak,au,Zc,ac,d2,zgT,aa,dC,pNo,pAt,ag,az,yau,ju,yds,y3,jF];simp[at0,at1,n1,n2,c1,c2,h3,oth,-not_and]
theorem Yr{ss:List Rat}(hp:p<=ss.length)(hl:ss.length<=1000):ZN [.list (ss.map fr),.int p]=.ok (.list ((insZ ss p).map fr)):=by
 have c1:=zeB (xs:=ss.map fr) (p:=p) (by simpa using hp)
 have c2:=zgU (xs:=ss.map fr) (p:=p) (by simpa using hp)
 have hm:min p ss.length=p:=Nat.min_eq_left hp;have h3:p<=16777215:=by omega
 have h4:p+1+(ss.length - p)<=16777216:=by omega
 simp[ZN,Yd,ah,ai,c1,c2,hm,h3,h4,insZ,VJ]
theorem Wk{ps ws:List Rat}{t:Rat}{a c:Nat}(hp:∀q∈ps,Sz a q)(hw:∀q∈ws,Sz a q)(ht:Sz c t)(hs:c+a+a<8999)(hl:ps.length<=1000):
  Xe [.list (ps.map fr),.list (ws.map fr),fr t]=.ok (.list ((mv ps ws t).map fr)):=by
 have e:=Yv (st:=Uv 0 1) (e:=(Zj UD (Zc (aa 0) (Zc (Zj Qy (Zc (aa 2) (Zc (aa 1) ac))) ac)))) (C:=[.emp,.emp,.val (fr t)]) (λp:Rat×Rat=>ya.tuple [fr p.1,fr p.2]) (λp=>fr (p.1+t * p.2)) (ps.zip ws) λp hm=>by
  have h1:=hp _ (j1 hm).1;have h2:=hw _ (j1 hm).2;have e1:=zh2 ht h2 (by omega)
  have e2:=ze7 h1 (ht.mul h2) (by omega)
  exact⟨[.val (fr p.1),.val (fr p.2),.val (fr t)],rfl,by simp[e1,e2]⟩
 have hz:(zipT (ps.map fr) (ws.map fr)).length<=16777216:=by rw[WN];simp;omega
 rw[<- WN]at e;have e3:((ps.zip ws).map λp=>fr (p.1+t * p.2))=(mv ps ws t).map fr:=by simp[mv]
 rw[e3]at e;simp[Xe,Wb,ah,ai,hz,e]
theorem zbP{a g:Rat}(h:g≠0):a / g * g=a:=by
 rw[ycj,Rat.mul_assoc,Rat.inv_mul_cancel g h,Rat.mul_one]
theorem div_nn'{a g:Rat}(ha:0<=a)(hg:0<g):0<=a / g:=by
 rw[<- qD];intro z;have h1:=zbP (a:=a) (g:=g) (by grind)
 have h2:=Rat.mul_lt_mul_of_pos_right z hg
 grind
end Lq
namespace Lw
open PySem Fx
theorem sp:∀{a b:Str},ya.strOk a=true->ya.strOk b=true->fNe (.str a) (.str b)=.ok (.bool (!decide (a=b))):=λ{a b} ha hb=>by
 simp only[fNe,Wm,ya.canLay0,ya.depth,ya.eqv,ha,hb];by_cases h:a=b<;>simp[h]
theorem q_cc:fEq (.str "clash") (.str "clash")=.ok (.bool true):=by rw[UF (by decide +kernel) (by decide +kernel)];rfl
theorem q_bc:fEq (.str "best") (.str "clash")=.ok (.bool false):=by rw[UF (by decide +kernel) (by decide +kernel)];rfl
theorem q_be:fEq (.str "best") (.str "endless")=.ok (.bool false):=by rw[UF (by decide +kernel) (by decide +kernel)];rfl
theorem q_ec:fEq (.str "endless") (.str "clash")=.ok (.bool false):=by rw[UF (by decide +kernel) (by decide +kernel)];rfl
theorem q_ee:fEq (.str "endless") (.str "endless")=.ok (.bool true):=by rw[UF (by decide +kernel) (by decide +kernel)];rfl
theorem n_pp:fNe (.str "point") (.str "point")=.ok (.bool false):=by rw[sp (by decide +kernel) (by decide +kernel)];rfl
theorem n_cp:fNe (.str "clash") (.str "point")=.ok (.bool true):=by rw[sp (by decide +kernel) (by decide +kernel)];rfl
theorem n_sp:fNe (.str "shares") (.str "point")=.ok (.bool true):=by rw[sp (by decide +kernel) (by decide +kernel)];rfl
theorem at20(x y:ya):atP [x,y] 0=some x:=rfl
theorem at3a(x y z:ya):atP [x,y,z] 0=some x:=rfl
theorem at3b(x y z:ya):atP [x,y,z] 1=some y:=rfl
theorem at3c(x y z:ya):atP [x,y,z] 2=some z:=rfl
def isPt:ya->Bool
 |.tuple (.str s::_)=>decide (s=("point" : Str))
 |_=>false
theorem ziC{ss:List Rat}{p:Nat}(h:ss[p]? = some 0):insZ (oth ss p) p=ss:=by
 obtain⟨hp,h0⟩:=yV.mp h;unfold insZ oth;have hl:(ss.take p).length=p:=by rw[ya6];omega
 have e1:(ss.take p++ss.drop (p+1)).take p=ss.take p:=List.take_left' hl;have e2:(ss.take p++ss.drop (p+1)).drop p=ss.drop (p+1):=List.drop_left' hl;rw[e1,e2,<- h0,yef,yc5]
section
variable {K B n0 N M p:Nat}{ls:List Lim}
theorem zgV{r:ya}(hp:p<ls.length)(hw:∀l∈ls,l.1.length=K)(hr:Cov K n0 N ls p ls[p] r){ps:List Rat}(q:Pt K M (oth ls p) ps)(v:(ls[p].2:Rat)<dot ls[p].1 ps):isPt r=true:=by
 cases hr with
 |point _ _=>simp[isPt]
 |@clash ss c z=>
  exfalso
  have hs:p<ss.length:=(yV.mp z).1;have l1:=VI hs;have l2:=VI hp;have cl:=c.len;have di:=λf:Lim->Int=>JE f (ss:=oth ss p) hp (by omega)
  rw[ziC z]at di;refine zfj (λl hl=>hw l (Uh hl)) (⟨by omega,λq hq=>c.sz q (Uh hq),λq hq=>c.nn q (Uh hq),λj hj=>?_,?_⟩:Cl K n0 (oth ls p) (oth ss p)) q
  ·rw[<- di];exact c.z j hj
  ·unfold Xm;rw[<- di];exact c.b
 |@shares ss len sz nn z w b=>
  exfalso
  have hs:p<ss.length:=(yV.mp z).1;have l1:=VI hs;have l2:=VI hp;have di:=λf:Lim->Int=>JE f (ss:=oth ss p) hp (by omega)
  rw[ziC z]at di;have h1:=zhb (ps:=ps) (oth ls p) (oth ss p) (by omega) (λq hq=>nn q (Uh hq)) q.kp
  have h2:=zhc (ps:=ps) (oth ls p) (oth ss p) (λl hl=>by rw[hw l (Uh hl),q.len])
  have h3:Xm (oth ls p) (oth ss p)=Xm ls ss:=by unfold Xm;rw[<- di]
  have h4:=zhK ls[p].1 ps (by rw[hw _ (yT hp),q.len])
  have h5:sumR ps.length (λj=>ps.getD j 0 * dot ((oth ls p).map (colN j)) (oth ss p))=sumR ps.length (λj=>((ls[p].1.getD j 0:Int):Rat) * ps.getD j 0):=zbf λj hj=>by
   rw[<- di,w j (by rw[<- q.len];exact hj),Rat.mul_comm]
  rw[h5,<- h4]at h2
  grind
end
theorem zcE{α:Type}{ls:List α}{p j:Nat}(h:p<ls.length):(oth ls p)[j]? = if j<p then ls[j]? else ls[j+1]?:=by
 unfold oth;have hl:(ls.take p).length=p:=by rw[ya6];omega
 by_cases c:j<p
 ·rw[jK (by omega),if_pos c,List.getElem?_take,if_pos c]
 ·rw[jC (by omega),if_neg c,hl,List.getElem?_drop]
  congr 1;omega
theorem zfp{α:Type}{ls:List α}{p:Nat}{l:α}(h:p<ls.length):l∈oth ls p↔∃j,j≠p/\ls[j]? = some l:=by
 rw[List.mem_iff_getElem?];constructor
 ·rintro⟨j,e⟩
  rw[zcE h]at e;split at e
  ·exact⟨j,by omega,e⟩
  ·exact⟨j+1,by omega,e⟩
 ·rintro⟨j,hj,e⟩
  by_cases c:j<p
  ·exact⟨j,by rw[zcE h,if_pos c];exact e⟩
  ·refine⟨j - 1,?_⟩;rw[zcE h,if_neg (by omega)]
   rw[show j - 1+1=j by omega];exact e
def Need(K:Nat)(ls:List Lim)(i:Nat):Prop:=∃(l:Lim) (M:Nat) (ps:List Rat),ls[i]? = some l/\Pt K M (oth ls i) ps/\(l.2:Rat)<dot l.1 ps
theorem need_oth{K:Nat}{ls:List Lim}{i p:Nat}(hp:p<ls.length)(hi:i<p)(h:Need K ls i):Need K (oth ls p) i:=by
 obtain⟨l,M,ps,e,q,v⟩:=h;refine⟨l,M,ps,by rw[zcE hp,if_pos hi];exact e,⟨q.len,q.sz,λl' hl=>q.kp l' ?_⟩,v⟩
 have h2:i<(oth ls p).length:=by rw[VI hp];omega
 obtain⟨j,hj,e'⟩:=(zfp h2).mp hl;rw[zcE hp]at e';split at e'
 ·exact(zfp (by omega)).mpr ⟨j,hj,e'⟩
 ·exact(zfp (by omega)).mpr ⟨j+1,by omega,e'⟩
end Lw
namespace Lx
open PySem Fx
open Lw
open Lq (Xe Wb)
def Jk:DS:=(aE (aC (tV (d1 fAll (dL (Y4 1 [] (Zt 0) (av (aa 1)) tT (Zj X3 (Zc (aa 0) ac))))))) (VG "BadPoint" (Zc (dC (.str (PySem.Str.ofString "an amount is a fraction without a common divisor, its lower number from 1 on"))) ac)) ZH)
def za4:DS:=
  ad (aE (tOr (aC (tV (d1 (fIs isList) (aa 1)))) (tV (d2 fNe (d1 aB (aa 1)) (aa 0)))) (VG "BadPoint" (Zc (dC (.str (PySem.Str.ofString "a point is a list with one fraction for each kind"))) ac)) ZH) Jk
def WZ:DF:=ai 2 2 za4
def ziZ:DS:=(ak (dL (Y4 2 [1] (Uv 0 1) (iEnum (av (d2 ag (aa 0) (dC (.int 1))))) (tV (d2 fEq (Zj Xa (Zc (d2 ag (aa 1) (dC (.int 0))) (Zc (aa 2) ac))) (au (Zc (d2 ag (aa 1) (dC (.int 1))) (Zc (dC (.int 1)) ac))))) (aa 0))))
def d_just:DS:=
  ad (zdY (Zj WZ (Zc (d2 ag (aa 0) (dC (.int 0))) (Zc (aa 1) ac)))) ziZ
def zgE:DF:=ai 2 2 d_just
def JN:DS:=(ak (d2 ag (aa 1) (dC (.int 1))))
def UQ:DS:=
  ad (aE (tV (d2 fEq (d2 ag (aa 1) (dC (.int 0))) (dC (.str (PySem.Str.ofString "clash"))))) (VG "NoPoint" (Zc (dC (.str (PySem.Str.ofString "the limits of the desk clash"))) ac)) ZH) JN
def Q2:DS:=
  ad (aj 1 [] (Zj Wl (Zc (aa 0) ac))) UQ
def Vz:DF:=ai 2 1 Q2
def zb1:DS:=(ak (d2 fEq (Zj Xa (Zc (d2 ag (aa 0) (dC (.int 0))) (Zc (aa 1) ac))) (au (Zc (d2 ag (aa 0) (dC (.int 1))) (Zc (dC (.int 1)) ac)))))
def Xn:DF:=ah 2 2 zb1
def zbQ:DS:=(ak (d2 ag (aa 2) (dC (.int 1))))
def UG:DS:=
  ad (aE (tV (d2 fEq (d2 ag (aa 2) (dC (.int 0))) (dC (.str (PySem.Str.ofString "endless"))))) (ak (Zj Xe (Zc (d2 ag (aa 2) (dC (.int 1))) (Zc (d2 ag (aa 2) (dC (.int 2))) (Zc (au (Zc (dC (.int 1)) (Zc (dC (.int 1)) ac))) ac))))) ZH) zbQ
def zet:DS:=
  ad (aj 2 [] (Zj Uk (Zc (aa 0) (Zc (dL (Y4 1 [] (Zt 0) (av (d2 ag (aa 1) (dC (.int 0)))) tT (d1 fNeg (aa 0)))) ac)))) UG
def Vj:DF:=ai 3 2 zet
def zgN:DS:=(ak (dL (Y4 2 [] (Uv 0 1) (iZip (av (aa 0)) (av (aa 1))) tT (Zj Qy (Zc (au (Zc (dC (.int 1)) (Zc (dC (.int 2)) ac))) (Zc (Zj UD (Zc (aa 0) (Zc (aa 1) ac))) ac))))))
def Qf:DF:=ah 2 2 zgN
def Ul:DS:=(ak (aa 1))
def QX:DS:=
  ad (dFor (Zt 2) [] (av (d2 ag (aa 0) (dC (.int 1)))) (aE (tV (Zj Xn (Zc (aa 2) (Zc (aa 1) ac)))) (ad (aj 3 [] (Zj Vj (Zc (aa 0) (Zc (aa 2) ac)))) (aE (aC (tV (Zj Xn (Zc (aa 2) (Zc (aa 3) ac))))) (aj 1 [] (Zj Qf (Zc (aa 1) (Zc (aa 3) ac)))) ZH)) ZH)) Ul
def QA:DS:=
  ad (aj 1 [] (Zj Vz (Zc (aa 0) ac))) QX
def Yt:DF:=ai 4 1 QA
def zhR:DS:=(ak (Zj zgE (Zc (aa 0) (Zc (Zj Yt (Zc (aa 0) ac)) ac))))
def Qz:DF:=ai 1 1 zhR
end Lx
namespace K06
open PySem Fx Lx
open Lw
theorem at30(x y z:ya):atP [x,y,z] 0=some x:=rfl
theorem at31(x y z:ya):atP [x,y,z] 1=some y:=rfl
theorem at32(x y z:ya):atP [x,y,z] 2=some z:=rfl
end K06
namespace K11
open PySem Fx Lw Lq
def XD:DS:=(ak (dJ (d2 aF (dL (oCut (aa 0) pNo (pAt (aa 1)))) (dL (oCut (aa 0) (pAt (d2 aF (aa 1) (dC (.int 1)))) pNo))) (d2 fAddU (zgT (aa 0) pNo (pAt (aa 1))) (zgT (aa 0) (pAt (d2 aF (aa 1) (dC (.int 1)))) pNo))))
def YC:DF:=ah 2 2 XD
def YU:DS:=(ak (au (Zc (Zj YC (Zc (aa 5) (Zc (aa 2) ac))) (Zc (d2 aF (d2 aA (aa 3) (d2 ag (aa 0) (dC (.int 1)))) (d2 aA (aa 4) (d2 ag (aa 1) (dC (.int 1))))) ac))))
def YV:DS:=
  ad (aj 5 [] (dL (Y4 2 [3,4] (Uv 0 1) (iZip (av (d2 ag (aa 0) (dC (.int 0)))) (av (d2 ag (aa 1) (dC (.int 0))))) tT (d2 aF (d2 aA (aa 2) (aa 0)) (d2 aA (aa 3) (aa 1)))))) YU
def YW:DS:=
  ad (aj 4 [] (d2 ag (d2 ag (aa 0) (dC (.int 0))) (aa 2))) YV
def X6:DS:=
  ad (aj 3 [] (d1 fNeg (d2 ag (d2 ag (aa 1) (dC (.int 0))) (aa 2)))) YW
def Y0:DF:=ah 6 3 X6
def ZP:DS:=(ak (aa 2))
def ZV:DS:=
  ad (dFor (Zt 5) [] (av (aa 3)) (dExt 2 (Y4 1 [5,1] (Zt 0) (av (aa 4)) tT (Zj Y0 (Zc (aa 1) (Zc (aa 0) (Zc (aa 2) ac))))))) ZP
def ZW:DS:=
  ad (aj 4 [] (dL (Y4 1 [1] (Zt 0) (av (aa 0)) (tV (d2 fLt (d2 ag (d2 ag (aa 0) (dC (.int 0))) (aa 1)) (dC (.int 0)))) (aa 0)))) ZV
def ZX:DS:=
  ad (aj 3 [] (dL (Y4 1 [1] (Zt 0) (av (aa 0)) (tV (d2 fGt (d2 ag (d2 ag (aa 0) (dC (.int 0))) (aa 1)) (dC (.int 0)))) (aa 0)))) ZW
def Yf:DS:=
  ad (zan 2 [] (Y4 1 [1] (Zt 0) (av (aa 0)) (tV (d2 fEq (d2 ag (d2 ag (aa 0) (dC (.int 0))) (aa 1)) (dC (.int 0)))) (au (Zc (Zj YC (Zc (d2 ag (aa 0) (dC (.int 0))) (Zc (aa 1) ac))) (Zc (d2 ag (aa 0) (dC (.int 1))) ac))))) ZX
def ZU:DF:=ah 6 2 Yf
def ZR:DS:=(ak (d2 fMax (aa 1) (dC (.int 1))))
def Z5:DS:=
  ad (dFor (Zt 2) [] (av (aa 0)) (aj 1 [] (Zj Yl (Zc (aa 1) (Zc (aa 2) ac))))) ZR
def Yi:DS:=
  ad (aj 1 [] (dC (.int 0))) Z5
def ZT:DF:=ah 3 1 Yi
def ZD:DS:=(dRetD 1)
def ZM:DS:=
  ad (dFor (Zt 2) [] (av (aa 0)) (ad (aj 3 [] (Zj ZT (Zc (d2 ag (aa 2) (dC (.int 0))) ac))) (ad (aj 4 [] (d1 zaL (dL (Y4 1 [3] (Zt 0) (av (d2 ag (aa 2) (dC (.int 0)))) tT (d2 fDiv (aa 0) (aa 1)))))) (ad (aj 5 [] (Zj Xg (Zc (d2 ag (aa 2) (dC (.int 1))) (Zc (aa 3) ac)))) (dIfG (tOr (tV (zdr 1 (aa 4))) (tV (Zj Vm (Zc (aa 5) (Zc (zme 1 (aa 4)) ac))))) (zmd 1 (aa 4) (aa 5)) ZH))))) ZD
def Z4:DS:=
  ad (dNewD 1) ZM
def ZI:DF:=ah 6 1 Z4
def Ye:DS:=(ak (au (Zc (d1 zaL (dL (Y4 1 [1] (Zt 0) (av (aa 0)) tT (d2 aA (aa 0) (d2 ag (aa 1) (dC (.int 1))))))) (Zc (d2 ag (aa 1) (dC (.int 0))) ac))))
def ZO:DF:=ah 2 2 Ye
end K11
namespace K23
open PySem Fx Lx
open Lw
open Lq (Xl Ys Yd ZN Wb Xe ZK ZL ZC Z0 Zx)
open K11 (XD YC YU YV YW X6 Y0 ZP ZV ZW ZX Yf ZU ZR Z5 Yi ZT ZD ZM Z4 ZI Ye ZO)
def zeK:List Fx.Sl->Nat:=λ_=>1000
def zgQ:DS:=(ak (au (Zc (dC (.str (PySem.Str.ofString "shares"))) (Zc (Zj ZN (Zc (d2 ag (aa 3) (dC (.int 2))) (Zc (aa 1) ac))) ac))))
def zdo:DS:=
  ad (aE (tV (Zj Vm (Zc (au (Zc (d2 ag (aa 2) (dC (.int 1))) (Zc (dC (.int 1)) ac))) (Zc (Zj Xa (Zc (d2 ag (aa 2) (dC (.int 0))) (Zc (d2 ag (aa 3) (dC (.int 1))) ac))) ac)))) (ak (au (Zc (dC (.str (PySem.Str.ofString "point"))) (Zc (d2 ag (aa 3) (dC (.int 1))) ac)))) ZH) zgQ
def za0:DS:=
  ad (aE (tV (d2 fEq (d2 ag (aa 3) (dC (.int 0))) (dC (.str (PySem.Str.ofString "endless"))))) (ak (au (Zc (dC (.str (PySem.Str.ofString "point"))) (Zc (Zj Zx (Zc (aa 2) (Zc (d2 ag (aa 3) (dC (.int 1))) (Zc (d2 ag (aa 3) (dC (.int 2))) ac)))) ac)))) ZH) zdo
def Qk:DS:=
  ad (aE (tV (d2 fEq (d2 ag (aa 3) (dC (.int 0))) (dC (.str (PySem.Str.ofString "clash"))))) (ak (au (Zc (dC (.str (PySem.Str.ofString "clash"))) (Zc (Zj ZN (Zc (d2 ag (aa 3) (dC (.int 1))) (Zc (aa 1) ac))) ac)))) ZH) za0
def zgR:DS:=
  ad (aj 3 [] (Zj Uk (Zc (Zj Ys (Zc (aa 0) (Zc (aa 1) ac))) (Zc (dL (zfi (d2 ag (aa 2) (dC (.int 0))))) ac)))) Qk
def zgS:DS:=
  ad (aj 2 [] (d2 ag (d2 ag (aa 0) (dC (.int 1))) (aa 1))) zgR
def zma:DS:=
  ad (zdY (Zj Xu (Zc (d1 aB (d2 ag (aa 0) (dC (.int 1)))) (Zc (aa 1) ac)))) zgS
def VL:DF:=ai 4 2 zma
def JF:DS:=(ak (d2 fNe (d2 ag (Zj VL (Zc (aa 0) (Zc (aa 1) ac))) (dC (.int 0))) (dC (.str (PySem.Str.ofString "point")))))
def WI:DF:=ai 2 2 JF
def zfF:DS:=(ak (aa 0))
def ziV:DS:=
  ad (JS zeK (tV (d2 fLt (aa 1) (d1 aB (d2 ag (aa 0) (dC (.int 1)))))) (aE (tV (Zj WI (Zc (aa 0) (Zc (aa 1) ac)))) (aj 0 [] (Zj Ys (Zc (aa 0) (Zc (aa 1) ac)))) (aj 1 [] (d2 aF (aa 1) (dC (.int 1)))))) zfF
def d_lean:DS:=
  ad (aj 1 [] (dC (.int 0))) ziV
def zbM:DF:=ai 2 1 d_lean
def zdj:DS:=(ak (Zj zbM (Zc (au (Zc (d2 fSub (d2 ag (aa 0) (dC (.int 0))) (dC (.int 1))) (Zc (d1 zaL (dL (Y4 1 [2] (Zt 0) (iKeys (aa 2)) tT (Zj ZO (Zc (aa 0) (Zc (d2 fGetD (aa 1) (aa 0)) ac)))))) ac))) ac)))
def zdk:DS:=
  ad (aj 2 [] (Zj ZI (Zc (Zj ZU (Zc (d2 ag (Zj zbM (Zc (aa 0) ac)) (dC (.int 1))) (Zc (aa 1) ac))) ac))) zdj
def zdl:DS:=
  ad (aE (tV (d2 fEq (d2 ag (aa 0) (dC (.int 0))) (dC (.int 1)))) (VG "NoPlace" (Zc (dC (.str (PySem.Str.ofString "a desk of one kind has no kinds but that"))) ac)) ZH) zdk
def zgO:DS:=
  ad (zdY (Zj Xu (Zc (d2 ag (aa 0) (dC (.int 0))) (Zc (aa 1) ac)))) zdl
def VA:DF:=ai 3 2 zgO
def UR:DS:=(ak (dC .none))
def US:DS:=
  ad (aE (tAnd (tV (d2 fEq (d2 ag (aa 2) (dC (.int 0))) (dC (.str (PySem.Str.ofString "best"))))) (tV (Zj Vm (Zc (au (Zc (d2 ag (aa 1) (dC (.int 1))) (Zc (dC (.int 1)) ac))) (Zc (Zj Xa (Zc (d2 ag (aa 1) (dC (.int 0))) (Zc (d2 ag (aa 2) (dC (.int 1))) ac))) ac))))) (ak (d2 ag (aa 2) (dC (.int 1)))) ZH) UR
def Vv:DS:=
  ad (aE (tV (d2 fEq (d2 ag (aa 2) (dC (.int 0))) (dC (.str (PySem.Str.ofString "endless"))))) (ak (Zj Zx (Zc (aa 1) (Zc (d2 ag (aa 2) (dC (.int 1))) (Zc (d2 ag (aa 2) (dC (.int 2))) ac))))) ZH) US
def zbR:DS:=
  ad (aj 2 [] (Zj Uk (Zc (aa 0) (Zc (dL (zfi (d2 ag (aa 1) (dC (.int 0))))) ac)))) Vv
def XG:DF:=ai 3 2 zbR
def zal:DS:=(ak (dC .none))
def zc9:DS:=
  ad (dFor (Zt 2) [] (av (d2 ag (aa 1) (dC (.int 1)))) (ad (aj 3 [] (Zj XG (Zc (aa 0) (Zc (aa 2) ac)))) (aE (tV (d1 zaM (aa 3))) (ak (aa 3)) ZH))) zal
def zgL:DS:=
  ad (aE (tV (d2 fNe (d2 ag (aa 0) (dC (.int 0))) (d2 ag (aa 1) (dC (.int 0))))) (VG "Unlike" (Zc (dC (.str (PySem.Str.ofString "desks of as many kinds lie within one another"))) ac)) ZH) zc9
def Qd:DF:=ai 4 2 zgL
def VE:DS:=(ak (aa 7))
def WK:DS:=
  ad (aE (tAnd (tV (d2 fGt (d2 ag (aa 7) (dC (.int 0))) (dC (.int 1)))) (tAnd (tV (d2 fEq (d2 fMod (Zj Zy (Zc (aa 0) (Zc (dC (.int 5)) ac))) (dC (.int 2))) (dC (.int 1)))) (tV (d2 fLt (d1 aB (d2 ag (aa 7) (dC (.int 1)))) (dC (.int 7)))))) (aj 7 [] (Zj VA (Zc (aa 7) (Zc (d2 fMod (Zj Zy (Zc (aa 0) (Zc (dC (.int 4)) ac))) (d2 ag (aa 7) (dC (.int 0)))) ac)))) ZH) VE
def Q4:DS:=
  ad (aj 7 [4] (Zj VA (Zc (Zj QU (Zc (aa 1) (Zc (aa 4) ac))) (Zc (d2 fMod (Zj Zy (Zc (aa 0) (Zc (dC (.int 4)) ac))) (aa 1)) ac)))) WK
def zbY:DS:=
  ad (dFor (Zt 5) [] (iRng (aa 2)) (ad (zan 6 [] (Y4 1 [0,5,3] (Zt 0) (iRng (d2 aF (aa 1) (dC (.int 1)))) tT (Zj YD (Zc (Zj Zy (Zc (aa 1) (Zc (d2 aF (d2 aF (dC (.int 8)) (d2 aA (dC (.int 5)) (aa 2))) (aa 0)) ac))) (Zc (aa 3) ac))))) (ad (aE (tV (d2 fEq (d2 fMod (Zj Zy (Zc (aa 0) (Zc (dC (.int 3)) ac))) (dC (.int 2))) (dC (.int 1)))) (VS 6 [] (aa 1) (d1 fAbs (dIxN 6 (aa 1)))) ZH) (dApp 4 [6] (au (Zc (dL (oCut (aa 6) pNo (pAt (aa 1)))) (Zc (dIxN 6 (aa 1)) ac))))))) Q4
def VF:DS:=
  ad (zan 4 [] (oLst ac)) zbY
def Q5:DS:=
  ad (aE (tV (d2 fGt (aa 3) (dC (.int 3)))) (ad (aj 1 [] (dC (.int 2))) (aj 2 [] (d2 fMod (aa 2) (dC (.int 5))))) ZH) VF
def Q6:DS:=
  ad (aj 3 [] (d2 ag (dLst (Zc (dC (.int 3)) (Zc (dC (.int 3)) (Zc (d2 fSub (d2 fPow (dC (.int 10)) (dC (.int 12))) (dC (.int 1))) ac)))) (d2 fMod (Zj Zy (Zc (aa 0) (Zc (dC (.int 2)) ac))) (dC (.int 3))))) Q5
def Q7:DS:=
  ad (aj 2 [] (d2 fMod (Zj Zy (Zc (aa 0) (Zc (dC (.int 1)) ac))) (dC (.int 7)))) Q6
def zbC:DS:=
  ad (aj 1 [] (d2 aF (dC (.int 2)) (d2 fMod (Zj Zy (Zc (aa 0) (Zc (dC (.int 0)) ac))) (dC (.int 3))))) Q7
def Vl:DF:=ai 8 1 zbC
def Wt:DS:=(ak (za6 (d2 fEq (d2 ag (aa 2) (dC (.int 0))) (dC (.str (PySem.Str.ofString "endless")))) (d2 fGt (d2 ag (Zj Yg (Zc (aa 1) (Zc (d2 ag (aa 2) (dC (.int 2))) ac))) (dC (.int 0))) (dC (.int 0)))))
def Ut:DS:=
  ad (dFor (Zt 4) [] (av (aa 0)) (aE (tV (d2 fGt (d2 ag (Zj Yg (Zc (d2 ag (aa 4) (dC (.int 0))) (Zc (d2 ag (aa 2) (dC (.int 2))) ac))) (dC (.int 0))) (dC (.int 0)))) (ak (dC (.bool false))) ZH)) Wt
def Wu:DS:=
  ad (aE (tV (d2 fEq (d2 ag (aa 2) (dC (.int 0))) (dC (.str (PySem.Str.ofString "best"))))) (ad (aj 3 [] (Zj Xt (Zc (aa 0) (Zc (d2 ag (aa 2) (dC (.int 2))) (Zc (d1 aB (aa 1)) ac))))) (ad (aE (tOr (aC (tV (Zj Yk (Zc (d2 ag (aa 2) (dC (.int 2))) (Zc (d1 aB (aa 0)) ac))))) (tV (d2 fNe (d2 ag (aa 3) (dC (.int 0))) (dL (Y4 1 [] (Zt 0) (av (aa 1)) tT (au (Zc (aa 0) (Zc (dC (.int 1)) ac)))))))) (ak (dC (.bool false))) ZH) (ak (d2 fEq (d2 ag (aa 3) (dC (.int 1))) (Zj Yg (Zc (aa 1) (Zc (d2 ag (aa 2) (dC (.int 1))) ac))))))) ZH) Ut
def Wv:DS:=
  ad (aE (tOr (aC (tV (Zj Ya (Zc (d2 ag (aa 2) (dC (.int 1))) (Zc (d1 aB (aa 1)) ac))))) (aC (tV (Zj Yh (Zc (aa 0) (Zc (d2 ag (aa 2) (dC (.int 1))) ac)))))) (ak (dC (.bool false))) ZH) Wu
def X5:DS:=
  ad (aE (tV (d2 fEq (d2 ag (aa 2) (dC (.int 0))) (dC (.str (PySem.Str.ofString "clash"))))) (ak (Zj YM (Zc (aa 0) (Zc (d2 ag (aa 2) (dC (.int 1))) (Zc (d1 aB (aa 1)) ac))))) ZH) Wv
def Yc:DF:=ah 5 3 X5
def VO:DS:=(ak (za6 (d2 fEq (d2 ag (aa 3) (dC (.int 0))) (dC (.str (PySem.Str.ofString "shares")))) (zjX (Zj Wp (Zc (au (Zc (d2 ag (d2 ag (aa 0) (aa 1)) (dC (.int 1))) (Zc (dC (.int 1)) ac))) (Zc (d2 ag (aa 5) (dC (.int 1))) ac))))))
def VP:DS:=
  ad (aE (tV (d2 fNe (d2 ag (aa 5) (dC (.int 0))) (dL (Y4 1 [] (Zt 0) (av (d2 ag (d2 ag (aa 0) (aa 1)) (dC (.int 0)))) tT (au (Zc (aa 0) (Zc (dC (.int 1)) ac))))))) (ak (dC (.bool false))) ZH) VO
def VQ:DS:=
  ad (aj 5 [] (Zj Xt (Zc (aa 0) (Zc (d2 ag (aa 3) (dC (.int 1))) (Zc (aa 2) ac))))) VP
def VR:DS:=
  ad (aE (tOr (aC (tV (Zj Yk (Zc (d2 ag (aa 3) (dC (.int 1))) (Zc (d1 aB (aa 0)) ac))))) (tV (d2 fNe (d2 ag (d2 ag (aa 3) (dC (.int 1))) (aa 1)) (au (Zc (dC (.int 0)) (Zc (dC (.int 1)) ac)))))) (ak (dC (.bool false))) ZH) VQ
def Wc:DS:=
  ad (aE (tV (d2 fEq (d2 ag (aa 3) (dC (.int 0))) (dC (.str (PySem.Str.ofString "point"))))) (ad (aj 4 [] (d2 aF (dL (oCut (aa 0) pNo (pAt (aa 1)))) (dL (oCut (aa 0) (pAt (d2 aF (aa 1) (dC (.int 1)))) pNo)))) (ad (aE (tOr (aC (tV (Zj Ya (Zc (d2 ag (aa 3) (dC (.int 1))) (Zc (aa 2) ac))))) (aC (tV (Zj Yh (Zc (aa 4) (Zc (d2 ag (aa 3) (dC (.int 1))) ac)))))) (ak (dC (.bool false))) ZH) (ak (zjX (Zj Yh (Zc (dLst (Zc (d2 ag (aa 0) (aa 1)) ac)) (Zc (d2 ag (aa 3) (dC (.int 1))) ac))))))) ZH) VR
def XF:DS:=
  ad (aE (tV (d2 fEq (d2 ag (aa 3) (dC (.int 0))) (dC (.str (PySem.Str.ofString "clash"))))) (ak (za6 (d2 fEq (d2 ag (d2 ag (aa 3) (dC (.int 1))) (aa 1)) (au (Zc (dC (.int 0)) (Zc (dC (.int 1)) ac)))) (Zj YM (Zc (aa 0) (Zc (d2 ag (aa 3) (dC (.int 1))) (Zc (aa 2) ac)))))) ZH) Wc
def ZZ:DF:=ah 6 4 XF
def Ws:DS:=(ak (dC (.bool true)))
def Um:DS:=
  ad (dFor (Zt 3) [] (iRng (d1 aB (aa 2))) (ad (aj 4 [] (Zj VL (Zc (aa 1) (Zc (aa 3) ac)))) (aE (tOr (tV (d2 fNe (d2 ag (aa 4) (dC (.int 0))) (dC (.str (PySem.Str.ofString "point"))))) (aC (tV (Zj ZZ (Zc (aa 2) (Zc (aa 3) (Zc (d2 ag (aa 0) (dC (.int 0))) (Zc (aa 4) ac)))))))) (ak (dC (.bool false))) ZH))) Ws
def Uo:DS:=
  ad (aj 2 [] (dL (Y4 1 [] (Zt 0) (av (d2 ag (aa 1) (dC (.int 1)))) tT (au (Zc (dL (zfi (d2 ag (aa 0) (dC (.int 0))))) (Zc (d2 ag (aa 0) (dC (.int 1))) ac)))))) Um
def Up:DS:=
  ad (aE (tOr (tV (d1 zaM (Zj Qd (Zc (aa 1) (Zc (aa 0) ac))))) (tOr (tV (d1 zaM (Zj Qd (Zc (aa 0) (Zc (aa 1) ac))))) (tV (d2 fGt (d1 aB (d2 ag (aa 1) (dC (.int 1)))) (d1 aB (d2 ag (aa 0) (dC (.int 1)))))))) (ak (dC (.bool false))) ZH) Uo
def Qh:DS:=
  ad (aj 1 [] (Zj zbM (Zc (aa 0) ac))) Up
def Xk:DF:=ai 5 1 Qh
def Q8:DS:=(ak (d2 fEq (aa 2) (dC (.int 2))))
def Q9:DS:=
  ad (dTry (zdY (zi3 zlM (Zc (aa 0) (Zc (aa 1) ac)))) (subs ["NoPoint"]) (aj 2 [] (d2 aF (aa 2) (dC (.int 1))))) Q8
def Ja:DS:=
  ad (dTry (zdY (zi3 Qz (Zc (aa 0) ac))) (subs ["NoPoint"]) (aj 2 [] (d2 aF (aa 2) (dC (.int 1))))) Q9
def zaW:DS:=
  ad (aj 2 [] (dC (.int 0))) Ja
def WY:DF:=ah 3 2 zaW
def ziW:DS:=(ak (za6 (Zj Ya (Zc (aa 7) (Zc (aa 2) ac))) (za6 (Zj Yh (Zc (aa 3) (Zc (aa 7) ac))) (d2 fEq (Zj Qz (Zc (aa 1) ac)) (aa 8)))))
def ziX:DS:=
  ad (aj 8 [] (dL (Y4 1 [3,7] (Zt 0) (iRng (d1 aB (aa 3))) (tV (d2 fEq (Zj Yg (Zc (d2 ag (d2 ag (aa 1) (aa 0)) (dC (.int 0))) (Zc (aa 2) ac))) (au (Zc (d2 ag (d2 ag (aa 1) (aa 0)) (dC (.int 1))) (Zc (dC (.int 1)) ac))))) (aa 0)))) ziW
def ziY:DS:=
  ad (aj 7 [] (Zj Yt (Zc (aa 1) ac))) ziX
def zfK:DS:=
  ad (aE (tV (d2 fGt (d1 aB (aa 3)) (dC (.int 6)))) (ak (dC (.bool true))) ZH) ziY
def zfL:DS:=
  ad (aE (tOr (aC (tV (Zj Ya (Zc (d2 ag (aa 6) (dC (.int 1))) (Zc (aa 2) ac))))) (aC (tV (Zj Yh (Zc (aa 3) (Zc (d2 ag (aa 6) (dC (.int 1))) ac)))))) (ak (dC (.bool false))) ZH) zfK
def zfH:DS:=
  ad (aE (tV (d2 fEq (d2 ag (aa 6) (dC (.int 0))) (dC (.str (PySem.Str.ofString "clash"))))) (ak (za6 (Zj YM (Zc (aa 3) (Zc (d2 ag (aa 6) (dC (.int 1))) (Zc (aa 2) ac)))) (Zj WY (Zc (aa 1) (Zc (aa 4) ac))))) ZH) zfL
def zdg:DS:=
  ad (aj 6 [] (Zj Wl (Zc (aa 1) ac))) zfH
def zfI:DS:=
  ad (aE (tAnd (tV (d2 fLt (d1 aB (aa 3)) (dC (.int 6)))) (aC (tV (Zj Xk (Zc (aa 1) ac))))) (ak (dC (.bool false))) ZH) zdg
def zfJ:DS:=
  ad (aE (tV (d2 fNe (aa 3) (dLst ac))) (ad (aj 5 [] (d2 fMod (aa 5) (d1 aB (aa 3)))) (aE (aC (tV (Zj ZZ (Zc (aa 3) (Zc (aa 5) (Zc (aa 2) (Zc (Zj VL (Zc (aa 1) (Zc (aa 5) ac))) ac))))))) (ak (dC (.bool false))) ZH)) ZH) zfI
def zl2:DS:=
  ad (aj 5 [] (Zj Zy (Zc (aa 0) (Zc (dC (.int 6)) ac)))) zfJ
def zl3:DS:=
  ad (aE (aC (tV (Zj Yc (Zc (aa 3) (Zc (aa 4) (Zc (Zj Uk (Zc (aa 1) (Zc (dL (zfi (aa 4))) ac))) ac)))))) (ak (dC (.bool false))) ZH) zl2
def zl4:DS:=
  ad (aj 4 [] (dL (Y4 1 [0] (Zt 0) (iRng (aa 2)) tT (Zj YD (Zc (Zj Zy (Zc (aa 1) (Zc (d2 aF (dC (.int 50)) (aa 0)) ac))) (Zc (dC (.int 3)) ac)))))) zl3
def zl5:DS:=
  ad (aj 3 [] (dL (Y4 1 [] (Zt 0) (av (d2 ag (aa 1) (dC (.int 1)))) tT (au (Zc (dL (zfi (d2 ag (aa 0) (dC (.int 0))))) (Zc (d2 ag (aa 0) (dC (.int 1))) ac)))))) zl4
def zl6:DS:=
  ad (aj 2 [] (d2 ag (aa 1) (dC (.int 0)))) zl5
def d_law:DS:=
  ad (aj 1 [] (Zj Vl (Zc (aa 0) ac))) zl6
def zlN:DF:=ah 9 1 d_law
end K23
namespace K23
open PySem PySem.Spec PyProof.Rows L2 Fx Lx
open Lw
open Lq (Xl Ys Yd ZN Wb Xe ZK ZL ZC Z0 Zx)
open K11 (XD YC YU YV YW X6 Y0 ZP ZV ZW ZX Yf ZU ZR Z5 Yi ZT ZD ZM Z4 ZI Ye ZO)
variable {P:y6}{w:y0}{K:yh}{mg:Str->Option yb}{base:yd}{k:Nat}{fa:yc}{fd:yM}
set_option maxHeartbeats 0
set_option smartUnfolding false
theorem Zwq{X:Cx}{W:Str->Hp->Prop}{fl:Bool}{e:yj}{da:DE}{pos:Pos}{x:Str}{is:List Nat}{pos':Pos}(i:Nat)(hN:X.N.Nodup)(he:EV X W e da)(hi:X.N[i]? = some x:=by rfl)(hx:Loc X.env.scope x:=by first|exact yC rfl|exact yg rfl)(hs:jz e (some (.Name x pos')) pos.line X.env=pure false:=by rfl)(hf:X.fn x=true\/X.env.scope.names.lookup x=some .local:=by first|exact .inl rfl|exact .inr rfl|assumption):SV X W fl (.Assign [.Name x pos'] e pos) (aj i is da):=Zq hN hi hx he hs hf
theorem af{X:Cx}{W:Str->Hp->Prop}{x:Str}{n j p pos q}(i:Nat)(hN:X.N[i]? = some x:=by rfl)(hv:Vis X.env.scope x:=by first|exact yg rfl|exact yC (yg rfl)|exact yC (yC rfl))(hd:(x == ("__debug__" : Str))=false:=by decide)(hcd:(x == ("__classdict__" : Str))=false:=by decide):EV X W (.Subscript (.Name x pos) (.Constant (.int n) j p) q) (d2 ag (aa i) (dC (.int n))):=Zk (Za i hN hv hd hcd) Zd (λ_ _=>rfl)
theorem nd1(x:Str):[x].Nodup:=by simp
theorem fsk{N Q:List Str}{sc:yJ}(a:sc.kind=.function:=by rfl)(b:sc.isCoroutine=false:=by rfl)(c:sc.isGenerator=false:=by rfl)(d:N.Nodup:=by decide +kernel)(e:N.take Q.length=Q:=by rfl)(f:∀x∈Q,sc.names.lookup x=some .local\/sc.names.lookup x=some .cell:=by decide +kernel)(g:∀y∈sc.names,y.2≠.free:=by decide +kernel):ae N Q sc:=⟨a,b,c,d,e,f,g⟩
structure FBq(K:yh)(mg:Str->Option yb)(x:Str)(st:yk)(fa:yc)(fd:yM)(ps:List Str):Prop where
 F:Fun K x x st fa fd
 m:mg x=some (.ref fa)
 b:ZB K fd ps []
structure Zuq(mg:Str->Option yb):Prop where
 abs:mg "abs"=none
 all:mg "all"=none
 bool:mg "bool"=none
 enumerate:mg "enumerate"=none
 int:mg "int"=none
 isinstance:mg "isinstance"=none
 len:mg "len"=none
 list:mg "list"=none
 max:mg "max"=none
 min:mg "min"=none
 range:mg "range"=none
 tuple:mg "tuple"=none
 zip:mg "zip"=none
theorem Bq1{h:yd}{x:Str}{st:yk}{f:yc}{oc:yb}{od an:Option yc}{osl:Array (Option yb)}{kV doc pm cdv ct:yb}(p0:Str)(X:K.In h)(G:h.Ns yn mg)(a:yo K yn x=some (some (.ref f)))(l:K.lookup f=some ⟨oc,od,.func (yt x x (Zn st) (Zl st) (Ze st) .none kV doc pm an cdv ct),osl⟩)(c:yw K cdv x=true)(k:yq K (.ref f)=true)(h:∀(kV doc pm:yb) (an:Option yc) (cdv ct u0:yb),bindArgs (yt x x (Zn st) (Zl st) (Ze st) .none kV doc pm an cdv ct) ⟨[u0],[]⟩=pure [(p0,u0)]:=by intros;rfl):FBq K mg x st f (yt x x (Zn st) (Zl st) (Ze st) .none kV doc pm an cdv ct) [p0]:=⟨Zs l c k,yr X G a,(Zs l c k).binds λk1 k2 k3 k4 k5 k6 us hl=>match us,hl with|[u0],_=>h k1 k2 k3 k4 k5 k6 u0⟩
theorem Bq2{h:yd}{x:Str}{st:yk}{f:yc}{oc:yb}{od an:Option yc}{osl:Array (Option yb)}{kV doc pm cdv ct:yb}(p0 p1:Str)(X:K.In h)(G:h.Ns yn mg)(a:yo K yn x=some (some (.ref f)))(l:K.lookup f=some ⟨oc,od,.func (yt x x (Zn st) (Zl st) (Ze st) .none kV doc pm an cdv ct),osl⟩)(c:yw K cdv x=true)(k:yq K (.ref f)=true)(h:∀(kV doc pm:yb) (an:Option yc) (cdv ct u0 u1:yb),bindArgs (yt x x (Zn st) (Zl st) (Ze st) .none kV doc pm an cdv ct) ⟨[u0,u1],[]⟩=pure [(p0,u0),(p1,u1)]:=by intros;rfl):FBq K mg x st f (yt x x (Zn st) (Zl st) (Ze st) .none kV doc pm an cdv ct) [p0,p1]:=⟨Zs l c k,yr X G a,(Zs l c k).binds λk1 k2 k3 k4 k5 k6 us hl=>match us,hl with|[u0,u1],_=>h k1 k2 k3 k4 k5 k6 u0 u1⟩
theorem Bq3{h:yd}{x:Str}{st:yk}{f:yc}{oc:yb}{od an:Option yc}{osl:Array (Option yb)}{kV doc pm cdv ct:yb}(p0 p1 p2:Str)(X:K.In h)(G:h.Ns yn mg)(a:yo K yn x=some (some (.ref f)))(l:K.lookup f=some ⟨oc,od,.func (yt x x (Zn st) (Zl st) (Ze st) .none kV doc pm an cdv ct),osl⟩)(c:yw K cdv x=true)(k:yq K (.ref f)=true)(h:∀(kV doc pm:yb) (an:Option yc) (cdv ct u0 u1 u2:yb),bindArgs (yt x x (Zn st) (Zl st) (Ze st) .none kV doc pm an cdv ct) ⟨[u0,u1,u2],[]⟩=pure [(p0,u0),(p1,u1),(p2,u2)]:=by intros;rfl):FBq K mg x st f (yt x x (Zn st) (Zl st) (Ze st) .none kV doc pm an cdv ct) [p0,p1,p2]:=⟨Zs l c k,yr X G a,(Zs l c k).binds λk1 k2 k3 k4 k5 k6 us hl=>match us,hl with|[u0,u1,u2],_=>h k1 k2 k3 k4 k5 k6 u0 u1 u2⟩
theorem Bq4{h:yd}{x:Str}{st:yk}{f:yc}{oc:yb}{od an:Option yc}{osl:Array (Option yb)}{kV doc pm cdv ct:yb}(p0 p1 p2 p3:Str)(X:K.In h)(G:h.Ns yn mg)(a:yo K yn x=some (some (.ref f)))(l:K.lookup f=some ⟨oc,od,.func (yt x x (Zn st) (Zl st) (Ze st) .none kV doc pm an cdv ct),osl⟩)(c:yw K cdv x=true)(k:yq K (.ref f)=true)(h:∀(kV doc pm:yb) (an:Option yc) (cdv ct u0 u1 u2 u3:yb),bindArgs (yt x x (Zn st) (Zl st) (Ze st) .none kV doc pm an cdv ct) ⟨[u0,u1,u2,u3],[]⟩=pure [(p0,u0),(p1,u1),(p2,u2),(p3,u3)]:=by intros;rfl):FBq K mg x st f (yt x x (Zn st) (Zl st) (Ze st) .none kV doc pm an cdv ct) [p0,p1,p2,p3]:=⟨Zs l c k,yr X G a,(Zs l c k).binds λk1 k2 k3 k4 k5 k6 us hl=>match us,hl with|[u0,u1,u2,u3],_=>h k1 k2 k3 k4 k5 k6 u0 u1 u2 u3⟩
theorem _root_.Fx.Cle.up{j k np:Nat}{x:Str}{f:DF}(C:Cle P w K mg base j x np f)(h:j<=k:=by decide):Cle P w K mg base k x np f:=C.mono h
theorem _root_.Fx.Clx.up{cl:Str->yb}{j k np:Nat}{x:Str}{f:DF}(C:Clx P w K mg base cl j x np f)(h:j<=k:=by decide):Clx P w K mg base cl k x np f:=C.mono h
theorem _root_.Fx.Cln.up{j k np:Nat}{x:Str}{f:DF}(C:Cln P w K mg base j x np f)(h:j<=k:=by decide):Cln P w K mg base k x np f:=C.mono h
theorem _root_.Fx.Mko.up{j k:Nat}{x:Str}{ns:List Str}(C:Mko P w K mg base j x ns)(h:j<=k:=by decide):Mko P w K mg base k x ns:=C.mono h
structure Enq where
 P:y6
 w:y0
 K:yh
 mg:Str->Option yb
 base:yd
abbrev Enq.c(e:Enq):=Fx.Cle e.P e.w e.K e.mg e.base
abbrev Enq.x(e:Enq):=Fx.Clx e.P e.w e.K e.mg e.base
abbrev Enq.n(e:Enq):=Fx.Cln e.P e.w e.K e.mg e.base
abbrev Enq.F(e:Enq):=FBq e.K e.mg
theorem FBq.r{cl:Str->yb}{x:Str}{st:yk}{N ps:List Str}{n np:Nat}{d:DS}{e:Enq}{k:Nat}(F:e.F x st fa fd ps)(S:ae N ps (Ze st))(hb:∀{cdv:yb}{A:yD}{outer:List Env}{s:ye}{H:Hp}{E:XK}{W:Str->Hp->Prop},Room k (A.deeper (envOfC x (Ze st) s.heap.objs.size fa cdv)) -> SVs (Cx.xw (cxOf (CX1 e.P e.w) e.P e.w e.K e.mg e.base N x (Ze st) fa cdv A outer s H E) cl W) W false (Zl st) d)(hnp:ps.length=np:=by rfl)(hN:N.length=n:=by rfl):Clx e.P e.w e.K e.mg e.base cl (k+1) x np (ai n np d):=WM F.F F.m F.b S hnp hN λ_ _ _ _ _ _ _=>hb
theorem FBq.q{x:Str}{st:yk}{N ps:List Str}{n np:Nat}{d:DS}{e:Enq}{k:Nat}(F:e.F x st fa fd ps)(S:ae N ps (Ze st))(hb:∀{cdv:yb}{A:yD}{outer:List Env}{s:ye}{H:Hp}{E:XK},Room k (A.deeper (envOfC x (Ze st) s.heap.objs.size fa cdv)) -> SVs (cxOf CX0 e.P e.w e.K e.mg e.base N x (Ze st) fa cdv A outer s H E).nox (λ_ _=>False) false (Zl st) d)(hnp:ps.length=np:=by rfl)(hN:N.length=n:=by rfl):Cle e.P e.w e.K e.mg e.base (k+1) x np (ah n np d):=ZQ F.F F.m F.b S hnp hN λ_ _ _ _ _ _=>hb
variable (e:Enq)(k)
abbrev aTq(K:yh)(x:Str)(f:yc):Prop:=yo K yn x=some (some (.ref f))
abbrev lTq(K:yh)(x:Str)(st:yk)(f:yc)(oc:yb)(od:Option yc)(kV doc pm:yb)(an:Option yc)(cdv ct:yb)(osl:Array (Option yb)):Prop:=K.lookup f=some ⟨oc,od,.func (yt x x (Zn st) (Zl st) (Ze st) .none kV doc pm an cdv ct),osl⟩
abbrev cTq(K:yh)(c:yb)(x:Str):Prop:=yw K c x=true
abbrev kTq(K:yh)(f:yc):Prop:=yq K (.ref f)=true
def top(i:Nat):yk:=PySem.Challenge.pw_limitdesk_k23_whole_told_desks.main.body.getD i (.Pass ⟨0,0,0,0⟩)
def inClass(st:yk)(i:Nat):yk:=match st with|.ClassDef _ _ _ body _ _ _ _ _ _ _=>body.getD i (.Pass ⟨0,0,0,0⟩)|st=>st
abbrev WH:yk:=inClass (top 30) 0
theorem zeY:ae ["self","heads","divisor","rows"] ["self","heads","divisor","rows"] (Ze WH):=fsk
theorem zfh{P:y6}{w:y0}{K:yh}{mg:Str->Option yb}{base:yd}{f C:yc}{fd:yM}(F:Fun K "__init__" "Board.__init__" WH f fd)(cl:Cls K C)(n0:UJ K C "heads")(n1:UJ K C "divisor")(n2:UJ K C "rows"):FnOk P w K mg base CX0 1 f fd ["self","heads","divisor","rows"] (Fx.spI C ["heads","divisor","rows"]):=by
 refine F.ok zeY (λvs H Q E h=>Fx.spI_len h) λcdv A outer s H vs Q E hr h=>⟨_,ze6 (zkW (pv 0) (pv 1) rfl) (ze6 (zkW (pv 0) (pv 2) rfl) (zkT (zkW (pv 0) (pv 3) rfl))),?_⟩
 obtain⟨x,dx,u1,u2,u3,rfl,hp,k⟩:=Fx.spI3 h;refine⟨_,rfl,_,rfl,x,C,dx,[],rfl,hp,cl,n0,(by show 0<1000;decide),_,rfl,_,rfl,x,C,dx,_,rfl,Zw,cl,n1,(by show 1<1000;decide),_,rfl,_,rfl,x,C,dx,_,rfl,Zw,cl,n2,(by show 2<1000;decide),?_⟩
 rw[zkb,zkb,Fx.putF3 (by decide +kernel) (by decide +kernel) (by decide +kernel)]
 exact k
abbrev Ua:yk:=top 9
theorem zhl:ae ["value"] ["value"] (Ze Ua):=fsk
theorem zhC(F:e.F "is_whole" Ua fa fd ["value"])(z:Zuq e.mg):e.c (k+1) "is_whole" 1 Yw:=F.q zhl λhr=>(Zi (Zm (QK (Xw zls (show yP "int"=some (.type "int") by decide +kernel) rfl z.isinstance rfl z.int (Za 0)) (QJ (ziL (Xw ziw (show yP "bool"=some (.type "bool") by decide +kernel) rfl z.isinstance rfl z.bool (Za 0)))))))
abbrev Y7:yk:=top 10
theorem YO:ae ["a","b","rest"] ["a","b"] (Ze Y7):=fsk
theorem zbv(F:e.F "common_divisor" Y7 fa fd ["a","b"])(z:Zuq e.mg):e.c (k+1) "common_divisor" 2 Yl:=F.q YO λhr=>(Zg (Zwq 0 YO.nd (zbO rfl z.abs (Za 0)))
  (Zg (Zwq 1 YO.nd (zbO rfl z.abs (Za 1)))
  (Zg (zas yY.never (ZE (Vw hr.units) (Za 1) Zd (Zr _))
  (Zg (Zwq 2 YO.nd (ZF Vg (Za 0) (Za 1)))
  (Zg (Zwq 0 YO.nd (Za 1))
  (Zi (Zwq 1 YO.nd (Za 2))))))
  (Zi (Zm (Za 0))))))
abbrev XV:yk:=top 11
theorem zdE:ae ["value"] ["value"] (Ze XV):=fsk
theorem zdQ(F:e.F "is_fraction" XV fa fd ["value"])(z:Zuq e.mg)(u1:e.c k "is_whole" 1 Yw)(u0:e.c k "common_divisor" 2 Yl):e.c (k+1) "is_fraction" 1 X3:=F.q zdE λhr=>(Zg (Z8 (Fx.tv_w (VH (YH (Yj (Xw zcP (show yP "tuple"=some (.type "tuple") by decide +kernel) rfl z.isinstance rfl z.tuple (Za 0)) (λ_=>rfl))) (Wd (ZE (Vw hr.units) (Yu rfl z.len (Za 0)) Zd (Zr _)))))
  (Zi (Zm Vn))
  Zv)
  (Zg (Z8 (Fx.tv_w (VH (YH (Yj (Zh u1.cal hr rfl (Zb (af 0) Zf)) (λ_=>rfl))) (Wd (YH (Yj (Zh u1.cal hr rfl (Zb (af 0) Zf)) (λ_=>rfl))))))
  (Zi (Zm Vn))
  Zv)
  (Zi (Zm (QK (Wi zk6 (af 0) Zd (Zr _)) (QJ (Wi (YY hr.units) (Zh u0.cal hr rfl (Zb (af 0) (Zb (af 0) Zf))) Zd (Zr _))))))))
abbrev zeb:yk:=top 12
theorem zhm:ae ["upper","lower","divisor"] ["upper","lower"] (Ze zeb):=fsk
theorem ok_frac(F:e.F "frac" zeb fa fd ["upper","lower"])(u0:e.c k "common_divisor" 2 Yl):e.c (k+1) "frac" 2 Xg:=F.q zhm λhr=>(Zg (Z8 (ZE (YY hr.units) (Za 1) Zd (Zr _))
  (Zi Fx.ss_never)
  Zv)
  (Zg (Zwq 2 zhm.nd (Zh u0.cal hr rfl (Zb (Za 0) (Zb (Za 1) Zf))))
  (Zg (Z8 (ZE WU (Za 1) Zd (Zr _))
  (Zi (Zwq 2 zhm.nd (UE (Za 2))))
  Zv)
  (Zi (Zm (Z2 (Zb (ZF zbs (Za 0) (Za 2)) (Zb (ZF zbs (Za 1) (Za 2)) Zf))))))))
abbrev zd6:yk:=top 13
theorem sc_plus:ae ["a","b"] ["a","b"] (Ze zd6):=fsk
theorem ok_plus(F:e.F "plus" zd6 fa fd ["a","b"])(u0:e.c k "frac" 2 Xg):e.c (k+1) "plus" 2 UD:=F.q sc_plus λhr=>(Zi (Zm (Zh u0.cal hr rfl (Zb (ZF YA (ZF Z9 (af 0) (af 1)) (ZF Z9 (af 1) (af 0))) (Zb (ZF Z9 (af 0) (af 1)) Zf)))))
abbrev zd8:yk:=top 14
theorem sc_less:ae ["a","b"] ["a","b"] (Ze zd8):=fsk
theorem ok_less(F:e.F "less" zd8 fa fd ["a","b"])(u0:e.c k "frac" 2 Xg):e.c (k+1) "less" 2 zgD:=F.q sc_less λhr=>(Zi (Zm (Zh u0.cal hr rfl (Zb (ZF UM (ZF Z9 (af 0) (af 1)) (ZF Z9 (af 1) (af 0))) (Zb (ZF Z9 (af 0) (af 1)) Zf)))))
abbrev zbk:yk:=top 15
theorem sc_times:ae ["a","b"] ["a","b"] (Ze zbk):=fsk
theorem ok_times(F:e.F "times" zbk fa fd ["a","b"])(u0:e.c k "frac" 2 Xg):e.c (k+1) "times" 2 Qy:=F.q sc_times λhr=>(Zi (Zm (Zh u0.cal hr rfl (Zb (ZF Z9 (af 0) (af 1)) (Zb (ZF Z9 (af 0) (af 1)) Zf)))))
abbrev zd7:yk:=top 16
theorem sc_over:ae ["a","b"] ["a","b"] (Ze zd7):=fsk
theorem ok_over(F:e.F "over" zd7 fa fd ["a","b"])(u0:e.c k "frac" 2 Xg):e.c (k+1) "over" 2 zgC:=F.q sc_over λhr=>(Zi (Zm (Zh u0.cal hr rfl (Zb (ZF Z9 (af 0) (af 1)) (Zb (ZF Z9 (af 0) (af 1)) Zf)))))
abbrev zbq:yk:=top 17
theorem sc_below:ae ["a","b"] ["a","b"] (Ze zbq):=fsk
theorem ok_below(F:e.F "below" zbq fa fd ["a","b"]):e.c (k+1) "below" 2 Vm:=F.q sc_below λhr=>(Zi (Zm (Wi WU (ZF Z9 (af 0) (af 1)) (ZF Z9 (af 1) (af 0)) (Zr _))))
abbrev Vd:yk:=top 22
theorem zge:ae ["value"] ["value"] (Ze Vd):=fsk
theorem zgq(F:e.F "is_number" Vd fa fd ["value"])(z:Zuq e.mg)(g_GREATEST_NUMBER:∃t,e.mg "GREATEST_NUMBER"=some (.int 999999999999 t))(u0:e.c k "is_whole" 1 Yw):e.c (k+1) "is_number" 1 Wq:=by
 obtain⟨t_GREATEST_NUMBER,g_GREATEST_NUMBER⟩:=g_GREATEST_NUMBER;exact ZQ F.F F.m F.b zge rfl rfl λ_ _ _ _ _ _ hr=>
  (Zi (Zm (QK (Zh u0.cal hr rfl (Zb (Za 0) Zf)) (QJ (Wi Fx.op_leF (zbO rfl z.abs (Za 0)) (zfA rfl g_GREATEST_NUMBER) (Zr _))))))
abbrev V7:yk:=top 23
theorem zaa:ae ["kinds","limit","weights","bound"] ["kinds","limit"] (Ze V7):=fsk
theorem zhz{cl:Str->yb}{X_NoDesk:yc}(F:e.F "limit_of" V7 fa fd ["kinds","limit"])(z:Zuq e.mg)(c_NoDesk:Fx.XCls e.K e.mg "NoDesk" X_NoDesk)(e_NoDesk:cl "NoDesk" = .ref X_NoDesk)(u0:e.c k "is_number" 1 Wq):e.x cl (k+1) "limit_of" 2 Ud:=F.r zaa λhr=>(Zg (Z8 (Fx.tv_w (VH (YH (Yj (Xw zcP (show yP "tuple"=some (.type "tuple") by decide +kernel) rfl z.isinstance rfl z.tuple (Za 1)) (λ_=>rfl))) (Wd (ZE (Vw hr.units) (Yu rfl z.len (Za 1)) Zd (Zr _)))))
  (Zi (Xo Zp.pin c_NoDesk e_NoDesk (Zb Yo Zf) rfl))
  Zv)
  (Zg (Zwq 2 zaa.nd (af 1))
  (Zg (Zwq 3 zaa.nd (af 1))
  (Zg (Z8 (Fx.tv_w (VH (YH (Yj (Xw zaI (show yP "list"=some (.type "list") by decide +kernel) rfl z.isinstance rfl z.list (Za 2)) (λ_=>rfl))) (Wd (ZE (Vw hr.units) (Yu rfl z.len (Za 2)) (Za 0) (Zr _)))))
  (Zi (Xo Zp.pin c_NoDesk e_NoDesk (Zb Yo Zf) rfl))
  Zv)
  (Zg (Z8 (YH (Yj (zlS rfl z.all (YK (Xp (N:=["number"]) (nv:=1) (cap:=[]) (YL rfl) rfl (ZS (by decide)) (Y1 (Za 2)) (VY Zp) (λ_ _ _ _=>(ZG (i:=0) (nd1 _) rfl (yg rfl))) (λ_ _ _ _ hp1=>YB) (λ_ _ _ _ hp1=>(Zh u0.cal hr rfl (Zb (Za 0) Zf)))))) (λ_=>rfl)))
  (Zi (Xo Zp.pin c_NoDesk e_NoDesk (Zb Yo Zf) rfl))
  Zv)
  (Zg (Z8 (YH (Yj (Zh u0.cal hr rfl (Zb (Za 3) Zf)) (λ_=>rfl)))
  (Zi (Xo Zp.pin c_NoDesk e_NoDesk (Zb Yo Zf) rfl))
  Zv)
  (Zi (Zm (Z2 (Zb (zaN rfl z.tuple (Za 2)) (Zb (Za 3) Zf)))))))))))
abbrev U6:yk:=top 24
theorem zjn:ae ["kinds","limits"] ["kinds","limits"] (Ze U6):=fsk
theorem zjB{cl:Str->yb}{X_NoDesk:yc}(F:e.F "desk_of" U6 fa fd ["kinds","limits"])(z:Zuq e.mg)(g_MOST_KINDS:∃t,e.mg "MOST_KINDS"=some (.int 4 t))(g_MOST_LIMITS:∃t,e.mg "MOST_LIMITS"=some (.int 10 t))(c_NoDesk:Fx.XCls e.K e.mg "NoDesk" X_NoDesk)(e_NoDesk:cl "NoDesk" = .ref X_NoDesk)(u0:e.c k "is_whole" 1 Yw)(u1:e.x cl k "limit_of" 2 Ud):e.x cl (k+1) "desk_of" 2 QU:=by
 obtain⟨t_MOST_KINDS,g_MOST_KINDS⟩:=g_MOST_KINDS;obtain⟨t_MOST_LIMITS,g_MOST_LIMITS⟩:=g_MOST_LIMITS;exact WM F.F F.m F.b zjn rfl rfl λ_ _ _ _ _ _ _ hr=>
  (Zg (Z8 (Fx.tv_w (VH (YH (Yj (Zh u0.cal hr rfl (Zb (Za 0) Zf)) (λ_=>rfl))) (VH (ZE WU (Za 0) Zd (Zr _)) (Wd (ZE Qa (Za 0) (zfA rfl g_MOST_KINDS) (Zr _))))))
  (Zi (Xo Zp.pin c_NoDesk e_NoDesk (Zb Yo Zf) rfl))
  Zv)
  (Zg (Z8 (Fx.tv_w (VH (YH (Yj (Xw zaI (show yP "list"=some (.type "list") by decide +kernel) rfl z.isinstance rfl z.list (Za 1)) (λ_=>rfl))) (Wd (ZE Qa (Yu rfl z.len (Za 1)) (zfA rfl g_MOST_LIMITS) (Zr _)))))
  (Zi (Xo Zp.pin c_NoDesk e_NoDesk (Zb Yo Zf) rfl))
  Zv)
  (Zi (Zm (Z2 (Zb (Za 0) (Zb (zaN rfl z.tuple (YK (Xp (N:=["limit","kinds"]) (nv:=1) (cap:=[0]) (YL rfl) rfl (ZS (by decide)) (Y1 (Za 1)) (VY Zp) (λ_ _ _ _=>(ZG (i:=0) (show yK (["limit","kinds"]:List Str) from by decide +kernel) rfl (yg rfl))) (λ_ _ _ _ hp1=>YB) (λ_ _ _ _ hp1=>(Zh (Fx.Clx.cal hp1 u1) hr rfl (Zb (Za 1) (Zb (Za 0) Zf))))))) Zf)))))))
abbrev XX:yk:=top 25
theorem zdF:ae ["kinds","point"] ["kinds","point"] (Ze XX):=fsk
theorem zdS{cl:Str->yb}{X_BadPoint:yc}(F:e.F "check_point" XX fa fd ["kinds","point"])(z:Zuq e.mg)(c_BadPoint:Fx.XCls e.K e.mg "BadPoint" X_BadPoint)(e_BadPoint:cl "BadPoint" = .ref X_BadPoint)(u0:e.c k "is_fraction" 1 X3):e.x cl (k+1) "check_point" 2 WZ:=F.r zdF λhr=>(Zg (Z8 (Fx.tv_w (VH (YH (Yj (Xw zaI (show yP "list"=some (.type "list") by decide +kernel) rfl z.isinstance rfl z.list (Za 1)) (λ_=>rfl))) (Wd (ZE (Vw hr.units) (Yu rfl z.len (Za 1)) (Za 0) (Zr _)))))
  (Zi (Xo Zp.pin c_BadPoint e_BadPoint (Zb Yo Zf) rfl))
  Zv)
  (Zi (Z8 (YH (Yj (zlS rfl z.all (YK (Xp (N:=["amount"]) (nv:=1) (cap:=[]) (YL rfl) rfl (ZS (by decide)) (Y1 (Za 1)) (VY Zp) (λ_ _ _ _=>(ZG (i:=0) (nd1 _) rfl (yg rfl))) (λ_ _ _ _ hp1=>YB) (λ_ _ _ _ hp1=>(Zh u0.cal hr rfl (Zb (Za 0) Zf)))))) (λ_=>rfl)))
  (Zi (Xo Zp.pin c_BadPoint e_BadPoint (Zb Yo Zf) rfl))
  Zv)))
abbrev XY:yk:=top 26
theorem zdG:ae ["count","place"] ["count","place"] (Ze XY):=fsk
theorem zdT{cl:Str->yb}{X_NoPlace:yc}(F:e.F "check_place" XY fa fd ["count","place"])(c_NoPlace:Fx.XCls e.K e.mg "NoPlace" X_NoPlace)(e_NoPlace:cl "NoPlace" = .ref X_NoPlace)(u0:e.c k "is_whole" 1 Yw):e.x cl (k+1) "check_place" 2 Xu:=F.r zdG λhr=>(Zi (Z8 (Fx.tv_w (VH (YH (Yj (Zh u0.cal hr rfl (Zb (Za 1) Zf)) (λ_=>rfl))) (VH (ZE WU (Za 1) Zd (Zr _)) (Wd (ZE zk6 (Za 1) (Za 0) (Zr _))))))
  (Zi (Xo Zp.pin c_NoPlace e_NoPlace (Zb Yo Zf) rfl))
  Zv))
abbrev Js:yk:=top 27
theorem zau:ae ["weights","point","total","number","amount"] ["weights","point"] (Ze Js):=fsk
theorem zk8(F:e.F "weight" Js fa fd ["weights","point"])(z:Zuq e.mg)(u0:e.c k "frac" 2 Xg)(u1:e.c k "plus" 2 UD):e.c (k+1) "weight" 2 Xa:=F.q zau λhr=>(Zg (Zwq 2 zau.nd (Z2 (Zb Zd (Zb Zd Zf))))
  (Zg (Ww yY.never rfl (zek rfl z.zip (Za 0) (Za 1)) (zae (i:=3) (j:=4) rfl zau.nd rfl (yg rfl) rfl (yg rfl))
  (Zi (Zwq 2 zau.nd (Zh u1.cal hr rfl (Zb (Za 2) (Zb (Zh u0.cal hr rfl (Zb (ZF Z9 (Za 3) (af 4)) (Zb (af 4) Zf))) Zf))))))
  (Zi (Zm (Za 2)))))
abbrev zea:yk:=top 28
theorem sc_just:ae ["desk","point"] ["desk","point"] (Ze zea):=fsk
theorem ok_just{cl:Str->yb}(F:e.F "just" zea fa fd ["desk","point"])(z:Zuq e.mg)(u0:e.x cl k "check_point" 2 WZ)(u1:e.c k "weight" 2 Xa):e.x cl (k+1) "just" 2 zgE:=F.r sc_just λhr=>(Zg (zeP (Zh (Fx.Clx.cal Zp.pin u0) hr rfl (Zb (af 0) (Zb (Za 1) Zf))))
  (Zi (Zm (YK (Xp (N:=["place","limit","point"]) (nv:=2) (cap:=[1]) (YL rfl) rfl (QT (by decide) (by decide)) (Fx.iv_enum rfl z.enumerate (af 0)) (VY Zp) (λ_ _ _ _=>(zae (i:=0) (j:=1) rfl (show yK (["place","limit","point"]:List Str) from by decide +kernel) rfl (yg rfl) rfl (yg rfl))) (λ_ _ _ _ hp1=>(zeC (ZE (YY hr.units) (Zh u1.cal hr rfl (Zb (af 1) (Zb (Za 2) Zf))) (Z2 (Zb (af 1) (Zb Zd Zf))) (Zr _)))) (λ_ _ _ _ hp1=>(Za 0)))))))
abbrev zd5:yk:=top 31
theorem zkA:ae ["length","place","numbers"] ["length","place"] (Ze zd5):=fsk
theorem ok_unit(F:e.F "unit" zd5 fa fd ["length","place"]):e.c (k+1) "unit" 2 zem:=F.q zkA λhr=>(Zg (zcr (i:=2) zkA.nd rfl (yg rfl) (zk5 (zim (Zb Zd Zf)) (Za 0)))
  (Zg (Qq (i:=2) rfl (Za 1) Zd)
  (Zi (Zm (Za 2)))))
abbrev V4:yk:=top 32
theorem zhi:ae ["limit"] ["limit"] (Ze V4):=fsk
theorem zhw(F:e.F "room_row" V4 fa fd ["limit"]):e.c (k+1) "room_row" 1 Uc:=F.q zhi λhr=>(Zi (Zm (ZF YA (YK (Xp (N:=["number"]) (nv:=1) (cap:=[]) (YL rfl) rfl (ZS (by decide)) (Y1 (af 0)) Yq (λ_ _ _ _=>(ZG (i:=0) (nd1 _) rfl (yg rfl))) (λ_ _ _ _ _=>YB) (λ_ _ _ _ _=>(UE (Za 0))))) (zbN (Zb (af 0) Zf)))))
abbrev XW:yk:=top 33
theorem Vq:ae ["desk","goal","kinds","amounts","rooms"] ["desk","goal"] (Ze XW):=fsk
theorem zdR(F:e.F "first_board" XW fa fd ["desk","goal"])(z:Zuq e.mg)(u1:e.c (k+2) "unit" 2 zem)(u0:e.c (k+2) "room_row" 1 Uc)(M_Board:Fx.Mko e.P e.w e.K e.mg e.base (k+1) "Board" ["heads","divisor","rows"]):e.c (k+2+1) "first_board" 2 X4:=F.q Vq λhr=>(Zg (Zwq 2 Vq.nd (af 0))
  (Zg (UL (N:=["kind","kinds"]) (nv:=1) (cap:=[2]) (i:=3) (YL rfl) rfl (ZS (by decide)) (Xs rfl z.range (Za 2)) Yq (λ_ _ _ _=>(ZG (i:=0) (show yK (["kind","kinds"]:List Str) from by decide +kernel) rfl (yg rfl))) (λ_ _ _ _ _=>YB) (λ_ _ _ _ _=>(Zh u1.cal hr rfl (Zb (ZF YA (Za 1) Zd) (Zb (Za 0) Zf)))) Vq.nd rfl (yg rfl))
  (Zg (UL (N:=["limit"]) (nv:=1) (cap:=[]) (i:=4) (YL rfl) rfl (ZS (by decide)) (Y1 (af 0)) Yq (λ_ _ _ _=>(ZG (i:=0) (nd1 _) rfl (yg rfl))) (λ_ _ _ _ _=>YB) (λ_ _ _ _ _=>(Zh u0.cal hr rfl (Zb (Za 0) Zf))) Vq.nd rfl (yg rfl))
  (Zi (Zm (zlQ M_Board hr rfl (Zb (YK (Fx.ov_rng1 rfl z.list rfl z.range (Za 2))) (Zb Zd (Zb (ZF YA (ZF YA (Za 3) (Za 4)) (zbN (Zb (ZF YA (Za 1) (zbN (Zb Zd Zf))) Zf))) Zf)))))))))
abbrev V2:yk:=top 34
theorem zhh:ae ["board"] ["board"] (Ze V2):=fsk
theorem zhu(F:e.F "rooms_of" V2 fa fd ["board"])(z:Zuq e.mg):e.c (k+1) "rooms_of" 1 Y8:=F.q zhh λhr=>(Zi (Zm (YK (Fx.ov_rng2 rfl z.list rfl z.range (Yu rfl z.len (Xc (Za 0))) (ZF UM (Yu rfl z.len (Xc (Za 0))) Zd)))))
abbrev V1:yk:=top 35
theorem zhg:ae ["board"] ["board"] (Ze V1):=fsk
theorem zht(F:e.F "worth_of" V1 fa fd ["board"])(z:Zuq e.mg):e.c (k+1) "worth_of" 1 XC:=F.q zhg λhr=>(Zi (Zm (ZF UM (Yu rfl z.len (Xc (Za 0))) Zd)))
abbrev XN:yk:=top 36
theorem Vo:ae ["row","line","column","divisor","pivot","taken","told"] ["row","line","column","divisor"] (Ze XN):=fsk
theorem zdK(F:e.F "swapped_row" XN fa fd ["row","line","column","divisor"])(z:Zuq e.mg):e.c (k+1) "swapped_row" 4 X0:=F.q Vo λhr=>(Zg (Zwq 4 Vo.nd (zbO rfl z.abs (Zk (Za 1) (Za 2) (λ_ _=>rfl))))
  (Zg (Zwq 5 Vo.nd (ziM (ZE Qa (Zk (Za 1) (Za 2) (λ_ _=>rfl)) Zd (Zr _)) (Zk (Za 0) (Za 2) (λ_ _=>rfl)) (UE (Zk (Za 0) (Za 2) (λ_ _=>rfl)))))
  (Zg (zcd (N:=["number","other","pivot","taken","divisor"]) (nv:=2) (cap:=[4,5,3]) (i:=6) (YL rfl) rfl (QT (by decide) (by decide)) (zek rfl z.zip (Za 0) (Za 1)) Yq (λ_ _ _ _=>(zae (i:=0) (j:=1) rfl (show yK (["number","other","pivot","taken","divisor"]:List Str) from by decide +kernel) rfl (yg rfl) rfl (yg rfl))) (λ_ _ _ _ _=>YB) (λ_ _ _ _ _=>(ZF zbs (ZF UM (ZF Z9 (Za 2) (Za 0)) (ZF Z9 (Za 3) (Za 1))) (Za 4))) Vo.nd rfl (yg rfl))
  (Zg (Qq (i:=6) rfl (Za 2) (Za 5))
  (Zi (Zm (Za 6)))))))
abbrev U0:yk:=top 37
theorem Jr:ae ["board","thing","column","line","heads","rows"] ["board","thing","column"] (Ze U0):=fsk
theorem zjv(F:e.F "swapped" U0 fa fd ["board","thing","column"])(z:Zuq e.mg)(u0:e.c (k+2) "swapped_row" 4 X0)(M_Board:Fx.Mko e.P e.w e.K e.mg e.base (k+1) "Board" ["heads","divisor","rows"]):e.c (k+2+1) "swapped" 3 Xv:=F.q Jr λhr=>(Zg (Zwq 3 Jr.nd (Zk (Xc (Za 0)) (Za 1) (λ_ _=>rfl)))
  (Zg (zcr (i:=4) Jr.nd rfl (yg rfl) (zbr rfl z.list (Xc (Za 0))))
  (Zg (Qq (i:=4) rfl (Za 2) (Za 1))
  (Zg (UL (N:=["row","line","column","board"]) (nv:=1) (cap:=[3,2,0]) (i:=5) (YL rfl) rfl (ZS (by decide)) (Y1 (Xc (Za 0))) Yq (λ_ _ _ _=>(ZG (i:=0) (show yK (["row","line","column","board"]:List Str) from by decide +kernel) rfl (yg rfl))) (λ_ _ _ _ _=>YB) (λ_ _ _ _ _=>(Zh u0.cal hr rfl (Zb (Za 0) (Zb (Za 1) (Zb (Za 2) (Zb (Xc (Za 3)) Zf)))))) Jr.nd rfl (yg rfl))
  (Zi (Zm (zlQ M_Board hr rfl (Zb (Za 4) (Zb (zbO rfl z.abs (Zk (Za 3) (Za 2) (λ_ _=>rfl))) (Zb (Za 5) Zf))))))))))
abbrev Xi:yk:=top 38
theorem QI:ae ["board","column","thing"] ["board","column"] (Ze Xi):=fsk
theorem zb9(F:e.F "first_room_on" Xi fa fd ["board","column"])(u0:e.c k "rooms_of" 1 Y8):e.c (k+1) "first_room_on" 2 YF:=F.q QI λhr=>(Zg (Ww yY.never rfl (Y1 (Zh u0.cal hr rfl (Zb (Za 0) Zf))) (ZG (i:=2) QI.nd rfl (yg rfl))
  (Zi (Z8 (ZE (Vw hr.units) (Zk (Zk (Xc (Za 0)) (Za 2) (λ_ _=>rfl)) (Za 1) (λ_ _=>rfl)) Zd (Zr _))
  (Zi (Zm (Za 2)))
  Zv)))
  (Zi (Zm zcX)))
abbrev zbo:yk:=top 39
theorem zce:ae ["board","column","thing"] ["board"] (Ze zbo):=fsk
theorem ok_freed(F:e.F "freed" zbo fa fd ["board"])(z:Zuq e.mg)(u0:e.c k "first_room_on" 2 YF)(u1:e.c k "swapped" 3 Xv):e.c (k+1) "freed" 1 zcV:=F.q zce λhr=>(Zg (Ww yY.never rfl (Xs rfl z.range (Yu rfl z.len (Xc (Za 0)))) (ZG (i:=1) zce.nd rfl (yg rfl))
  (Zg (Zwq 2 zce.nd (Zh u0.cal hr rfl (Zb (Za 0) (Zb (Za 1) Zf))))
  (Zi (Z8 (JX (Za 2))
  (Zi (Zwq 0 zce.nd (Zh u1.cal hr rfl (Zb (Za 0) (Zb (Za 2) (Zb (Za 1) Zf))))))
  Zv))))
  (Zi (Zm (Za 0))))
abbrev zbn:yk:=top 40
theorem sc_helps:ae ["board","column","number"] ["board","column","number"] (Ze zbn):=fsk
theorem ok_helps(F:e.F "helps" zbn fa fd ["board","column","number"])(z:Zuq e.mg):e.c (k+1) "helps" 3 zbB:=F.q sc_helps λhr=>(Zi (Zm (Fx.ev_or (Wi Qa (Za 2) Zd (Zr _)) (QJ (QK (Wi WU (Za 2) Zd (Zr _)) (QJ (Wi WU (Zk (Xc (Za 0)) (Za 1) (λ_ _=>rfl)) (Yu rfl z.len (Xc (Za 0))) (Zr _))))))))
abbrev Y5:yk:=top 41
theorem W6:ae ["board","thing","row","columns"] ["board","thing"] (Ze Y5):=fsk
theorem zbt{cL TL:yc}(F:Fun e.K "raising_column" "raising_column" Y5 fa fd)(hm:e.mg "raising_column"=some (.ref fa))(b:ZB e.K fd ["board","thing"] [])(z:Zuq e.mg)(u0:e.c (k+2) "helps" 3 zbB)(L_raising_column:Fx.LamHyp e.K e.mg e.base "raising_column" cL TL)(hcode:fd.code=.ref cL):e.c (k+2+1) "raising_column" 2 Zo:=by
 exact Fx.cle_ofC F hcode hm b W6 rfl rfl λA outer s H E hr=>
  (Zg (Zwq 2 W6.nd (Zk (Xc (Za 0)) (Za 1) (λ_ _=>rfl)))
  (Zg (UL (N:=["column","board","row"]) (nv:=1) (cap:=[0,2]) (i:=3) (YL rfl) rfl (ZS (by decide)) (Xs rfl z.range (Yu rfl z.len (Xc (Za 0)))) Yq (λ_ _ _ _=>(ZG (i:=0) (show yK (["column","board","row"]:List Str) from by decide +kernel) rfl (yg rfl))) (λ_ _ _ _ _=>(zeC (Yj (Zh u0.cal hr rfl (Zb (Za 1) (Zb (Za 0) (Zb (Zk (Za 2) (Za 0) (λ_ _=>rfl)) Zf)))) (λ_=>rfl)))) (λ_ _ _ _ _=>(Za 0)) W6.nd rfl (yg rfl))
  (Zi (Zm (Fx.ev_minK (k:=k) (y:="column") (N:=["column","board"]) (cap:=[0]) (Fx.lam_at L_raising_column (ql.mpr rfl)) (Fx.lamok rfl) hr rfl z.min (Za 3) (λ_ _ _ _=>(Zk (Xc (Za 1)) (Za 0) (λ_ _=>rfl))))))))
abbrev WA:yk:=top 42
theorem zaw:ae ["board","thing"] ["board"] (Ze WA):=fsk
theorem zfa(F:e.F "short_room" WA fa fd ["board"])(u0:e.c k "rooms_of" 1 Y8):e.c (k+1) "short_room" 1 Z6:=F.q zaw λhr=>(Zg (Ww yY.never rfl (Y1 (Zh u0.cal hr rfl (Zb (Za 0) Zf))) (ZG (i:=1) zaw.nd rfl (yg rfl))
  (Zi (Z8 (ZE WU (Zk (Zk (Xc (Za 0)) (Za 1) (λ_ _=>rfl)) (UE Zd) (λ_ _=>rfl)) Zd (Zr _))
  (Zi (Zm (Za 1)))
  Zv)))
  (Zi (Zm zcX)))
abbrev U1:yk:=top 43
theorem V0:ae ["desk","goal","board","thing","column"] ["desk","goal"] (Ze U1):=fsk
theorem zjw(F:e.F "settled" U1 fa fd ["desk","goal"])(u1:e.c k "first_board" 2 X4)(u4:e.c k "freed" 1 zcV)(u2:e.c k "short_room" 1 Z6)(u0:e.c k "raising_column" 2 Zo)(u3:e.c k "swapped" 3 Xv):e.c (k+1) "settled" 2 YZ:=F.q V0 λhr=>(Zg (Zwq 2 V0.nd (Zh u4.cal hr rfl (Zb (Zh u1.cal hr rfl (Zb (Za 0) (Zb (Za 1) Zf))) Zf)))
  (Zg (Zwq 3 V0.nd (Zh u2.cal hr rfl (Zb (Za 2) Zf)))
  (Zg (zas yY.never (JX (Za 3))
  (Zg (Zwq 4 V0.nd (Zh u0.cal hr rfl (Zb (Za 2) (Zb (Za 3) Zf))))
  (Zg (Z8 (zh1 (Za 4))
  (Zi (Zm (Z2 (Zb (Za 2) (Zb (Za 3) Zf)))))
  Zv)
  (Zg (Zwq 2 V0.nd (Zh u3.cal hr rfl (Zb (Za 2) (Zb (Za 3) (Zb (Za 4) Zf)))))
  (Zi (Zwq 3 V0.nd (Zh u2.cal hr rfl (Zb (Za 2) Zf))))))))
  (Zi (Zm (Z2 (Zb (Za 2) (Zb zcX Zf))))))))
abbrev V5:yk:=top 44
theorem zhj:ae ["board"] ["board"] (Ze V5):=fsk
theorem zhx(F:e.F "point_of" V5 fa fd ["board"])(z:Zuq e.mg)(u0:e.c k "frac" 2 Xg):e.c (k+1) "point_of" 1 X1:=F.q zhj λhr=>(Zi (Zm (YK (Xp (N:=["kind","board"]) (nv:=1) (cap:=[0]) (YL rfl) rfl (ZS (by decide)) (Xs rfl z.range (Yu rfl z.len (Xc (Za 0)))) Yq (λ_ _ _ _=>(ZG (i:=0) (show yK (["kind","board"]:List Str) from by decide +kernel) rfl (yg rfl))) (λ_ _ _ _ _=>YB) (λ_ _ _ _ _=>(Zh u0.cal hr rfl (Zb (Zk (Zk (Xc (Za 1)) (Za 0) (λ_ _=>rfl)) (UE Zd) (λ_ _=>rfl)) (Zb (Xc (Za 1)) Zf))))))))
abbrev W7:yk:=top 45
theorem Ux:ae ["board","thing","kinds","shares","head","number"] ["board","thing"] (Ze W7):=fsk
theorem zgk(F:e.F "shares_of" W7 fa fd ["board","thing"])(z:Zuq e.mg)(u0:e.c k "rooms_of" 1 Y8)(u1:e.c k "frac" 2 Xg):e.n (k+1) "shares_of" 2 Wo:=by
 exact Fx.cln_of F.F F.m F.b Ux rfl rfl λ_ _ _ _ _ _ hr=>
  (Zg (Zwq 2 Ux.nd (Yu rfl z.len (Xc (Za 0))))
  (Zg (zcr (i:=3) Ux.nd rfl (yg rfl) (zk5 (zim (Zb (Z2 (Zb Zd (Zb Zd Zf))) Zf)) (Yu rfl z.len (Zh u0.cal hr rfl (Zb (Za 0) Zf)))))
  (Zg (Ww yY.never rfl (zek rfl z.zip (Xc (Za 0)) (Zk (Xc (Za 0)) (Za 1) (λ_ _=>rfl))) (zae (i:=4) (j:=5) rfl Ux.nd rfl (yg rfl) rfl (yg rfl))
  (Zi (Z8 (ZE zk6 (Za 4) (Za 2) (Zr _))
  (Zi (Qq (i:=3) rfl (ZF UM (Za 4) (Za 2)) (Zh u1.cal hr rfl (Zb (UE (Za 5)) (Zb (Xc (Za 0)) Zf)))))
  Zv)))
  (Zi (Fx.ss_retO 3)))))
abbrev Ub:yk:=top 46
theorem zcv:ae ["board","thing","shares"] ["board","thing"] (Ze Ub):=fsk
theorem zhD(F:e.F "clash_of" Ub fa fd ["board","thing"])(z:Zuq e.mg)(u0:e.n k "shares_of" 2 Wo):e.c (k+1) "clash_of" 2 WJ:=F.q zcv λhr=>(Zg (zcr (i:=2) zcv.nd rfl (yg rfl) (Fx.ov_call u0.cal hr rfl (Zb (Za 0) (Zb (Za 1) Zf))))
  (Zg (Qq (i:=2) rfl (ZF UM (Za 1) (Yu rfl z.len (Xc (Za 0)))) (Z2 (Zb Zd (Zb Zd Zf))))
  (Zi (Zm (Za 2)))))
abbrev Jw:yk:=top 48
theorem zgd:ae ["desk","told"] ["desk"] (Ze Jw):=fsk
theorem zlc(F:e.F "judged" Jw fa fd ["desk"])(u2:e.c k "settled" 2 YZ)(u0:e.c k "point_of" 1 X1)(u1:e.c k "clash_of" 2 WJ):e.c (k+1) "judged" 1 Wl:=F.q zgd λhr=>(Zg (Zwq 1 zgd.nd (Zh u2.cal hr rfl (Zb (Za 0) (Zb (YK (zk5 (zim (Zb Zd Zf)) (af 0))) Zf))))
  (Zg (Z8 (zh1 (af 1))
  (Zi (Zm (Z2 (Zb Yo (Zb (Zh u0.cal hr rfl (Zb (af 1) Zf)) Zf)))))
  Zv)
  (Zi (Zm (Z2 (Zb Yo (Zb (Zh u1.cal hr rfl (Zb (af 1) (Zb (af 1) Zf))) Zf)))))))
abbrev Wz:yk:=top 49
theorem zav:ae ["desk","told"] ["desk"] (Ze Wz):=fsk
theorem ze9{cl:Str->yb}{X_NoPoint:yc}(F:e.F "some_point" Wz fa fd ["desk"])(c_NoPoint:Fx.XCls e.K e.mg "NoPoint" X_NoPoint)(e_NoPoint:cl "NoPoint" = .ref X_NoPoint)(u0:e.c k "judged" 1 Wl):e.x cl (k+1) "some_point" 1 Vz:=F.r zav λhr=>(Zg (Zwq 1 zav.nd (Zh u0.cal hr rfl (Zb (Za 0) Zf)))
  (Zg (Z8 (ZE (YY hr.units) (af 1) Yo (Zr _))
  (Zi (Xo Zp.pin c_NoPoint e_NoPoint (Zb Yo Zf) rfl))
  Zv)
  (Zi (Zm (af 1)))))
abbrev WG:yk:=top 51
theorem zeX:ae ["kinds","goal"] ["kinds","goal"] (Ze WG):=fsk
theorem zfg{cl:Str->yb}{X_NoGoal:yc}(F:e.F "check_goal" WG fa fd ["kinds","goal"])(z:Zuq e.mg)(c_NoGoal:Fx.XCls e.K e.mg "NoGoal" X_NoGoal)(e_NoGoal:cl "NoGoal" = .ref X_NoGoal)(u0:e.c k "is_whole" 1 Yw):e.x cl (k+1) "check_goal" 2 VC:=F.r zeX λhr=>(Zg (Z8 (Fx.tv_w (VH (YH (Yj (Xw zaI (show yP "list"=some (.type "list") by decide +kernel) rfl z.isinstance rfl z.list (Za 1)) (λ_=>rfl))) (Wd (ZE (Vw hr.units) (Yu rfl z.len (Za 1)) (Za 0) (Zr _)))))
  (Zi (Xo Zp.pin c_NoGoal e_NoGoal (Zb Yo Zf) rfl))
  Zv)
  (Zi (Z8 (YH (Yj (zlS rfl z.all (YK (Xp (N:=["number"]) (nv:=1) (cap:=[]) (YL rfl) rfl (ZS (by decide)) (Y1 (Za 1)) (VY Zp) (λ_ _ _ _=>(ZG (i:=0) (nd1 _) rfl (yg rfl))) (λ_ _ _ _ hp1=>YB) (λ_ _ _ _ hp1=>(Zh u0.cal hr rfl (Zb (Za 0) Zf)))))) (λ_=>rfl)))
  (Zi (Xo Zp.pin c_NoGoal e_NoGoal (Zb Yo Zf) rfl))
  Zv)))
abbrev Ju:yk:=top 52
theorem zkB:ae ["row","other","column"] ["row","other","column"] (Ze Ju):=fsk
theorem zla(F:e.F "sooner" Ju fa fd ["row","other","column"]):e.c (k+1) "sooner" 3 JC:=F.q zkB λhr=>(Zi (Zm (Wi WU (ZF Z9 (Zk (Za 0) (UE Zd) (λ_ _=>rfl)) (UE (Zk (Za 1) (Za 2) (λ_ _=>rfl)))) (ZF Z9 (Zk (Za 1) (UE Zd) (λ_ _=>rfl)) (UE (Zk (Za 0) (Za 2) (λ_ _=>rfl)))) (Zr _))))
abbrev WE:yk:=top 53
theorem WR:ae ["board","column","found","thing","row"] ["board","column"] (Ze WE):=fsk
theorem zfe(F:e.F "first_stop" WE fa fd ["board","column"])(u0:e.c k "rooms_of" 1 Y8)(u1:e.c k "sooner" 3 JC):e.c (k+1) "first_stop" 2 YE:=F.q WR λhr=>(Zg (Zwq 2 WR.nd zcX)
  (Zg (Ww yY.never rfl (Y1 (Zh u0.cal hr rfl (Zb (Za 0) Zf))) (ZG (i:=3) WR.nd rfl (yg rfl))
  (Zg (Zwq 4 WR.nd (Zk (Xc (Za 0)) (Za 3) (λ_ _=>rfl)))
  (Zi (Z8 (Fx.tv_w (zf0 (ZE WU (Zk (Za 4) (Za 1) (λ_ _=>rfl)) Zd (Zr _)) (zeL (Fx.tv_w (VH (zh1 (Za 2)) (Wd (Yj (Zh u1.cal hr rfl (Zb (Za 4) (Zb (Zk (Xc (Za 0)) (Za 2) (λ_ _=>rfl)) (Zb (Za 1) Zf)))) (λ_=>rfl))))))))
  (Zi (Zwq 2 WR.nd (Za 3)))
  Zv))))
  (Zi (Zm (Za 2)))))
abbrev Jt:yk:=top 54
theorem zga:ae ["board","column","sign"] ["board","column"] (Ze Jt):=fsk
theorem zk9(F:e.F "way_of" Jt fa fd ["board","column"])(z:Zuq e.mg)(u0:e.c k "worth_of" 1 XC)(u1:e.c k "frac" 2 Xg):e.c (k+1) "way_of" 2 JB:=F.q zga λhr=>(Zg (Zwq 2 zga.nd (ziM (ZE Qa (Zk (Zk (Xc (Za 0)) (Zh u0.cal hr rfl (Zb (Za 0) Zf)) (λ_ _=>rfl)) (Za 1) (λ_ _=>rfl)) Zd (Zr _)) Zd (UE Zd)))
  (Zi (Zm (YK (Xp (N:=["kind","sign","board","column"]) (nv:=1) (cap:=[2,0,1]) (YL rfl) rfl (ZS (by decide)) (Xs rfl z.range (Yu rfl z.len (Xc (Za 0)))) Yq (λ_ _ _ _=>(ZG (i:=0) (show yK (["kind","sign","board","column"]:List Str) from by decide +kernel) rfl (yg rfl))) (λ_ _ _ _ _=>YB) (λ_ _ _ _ _=>(Zh u1.cal hr rfl (Zb (ZF Z9 (Za 1) (Zk (Zk (Xc (Za 2)) (Za 0) (λ_ _=>rfl)) (Za 3) (λ_ _=>rfl))) (Zb (Xc (Za 2)) Zf)))))))))
abbrev U7:yk:=top 55
theorem UY:ae ["board","column","thing"] ["board"] (Ze U7):=fsk
theorem zjC(F:e.F "climbed" U7 fa fd ["board"])(u3:e.c k "worth_of" 1 XC)(u0:e.c k "raising_column" 2 Zo)(u1:e.c k "first_stop" 2 YE)(u4:e.c k "point_of" 1 X1)(u6:e.c k "way_of" 2 JB)(u5:e.c k "swapped" 3 Xv)(u2:e.n k "shares_of" 2 Wo):e.c (k+1) "climbed" 1 VB:=F.q UY λhr=>(Zg (Zwq 1 UY.nd (Zh u0.cal hr rfl (Zb (Za 0) (Zb (Zh u3.cal hr rfl (Zb (Za 0) Zf)) Zf))))
  (Zg (zas yY.never (JX (Za 1))
  (Zg (Zwq 2 UY.nd (Zh u1.cal hr rfl (Zb (Za 0) (Zb (Za 1) Zf))))
  (Zg (Z8 (zh1 (Za 2))
  (Zi (Zm (Z2 (Zb Yo (Zb (Zh u4.cal hr rfl (Zb (Za 0) Zf)) (Zb (Zh u6.cal hr rfl (Zb (Za 0) (Zb (Za 1) Zf))) Zf))))))
  Zv)
  (Zg (Zwq 0 UY.nd (Zh u5.cal hr rfl (Zb (Za 0) (Zb (Za 2) (Zb (Za 1) Zf)))))
  (Zi (Zwq 1 UY.nd (Zh u0.cal hr rfl (Zb (Za 0) (Zb (Zh u3.cal hr rfl (Zb (Za 0) Zf)) Zf)))))))))
  (Zi (Zm (Z2 (Zb Yo (Zb (Zh u4.cal hr rfl (Zb (Za 0) Zf)) (Zb (Zh (Fx.Cle.cal (Fx.Cln.cle u2)) hr rfl (Zb (Za 0) (Zb (Zh u3.cal hr rfl (Zb (Za 0) Zf)) Zf))) Zf))))))))
abbrev zec:yk:=top 56
theorem zkD:ae ["desk","goal","told"] ["desk","goal"] (Ze zec):=fsk
theorem ok_best{cl:Str->yb}(F:e.F "best" zec fa fd ["desk","goal"])(u0:e.x cl k "check_goal" 2 VC)(u2:e.c k "settled" 2 YZ)(u1:e.c k "clash_of" 2 WJ)(u3:e.c k "climbed" 1 VB):e.x cl (k+1) "best" 2 Uk:=F.r zkD λhr=>(Zg (zeP (Zh (Fx.Clx.cal Zp.pin u0) hr rfl (Zb (af 0) (Zb (Za 1) Zf))))
  (Zg (Zwq 2 zkD.nd (Zh u2.cal hr rfl (Zb (Za 0) (Zb (Za 1) Zf))))
  (Zg (Z8 (JX (af 2))
  (Zi (Zm (Z2 (Zb Yo (Zb (Zh u1.cal hr rfl (Zb (af 2) (Zb (af 2) Zf))) Zf)))))
  Zv)
  (Zi (Zm (Zh u3.cal hr rfl (Zb (af 2) Zf)))))))
abbrev zjo:yk:=top 57
theorem sc_top:ae ["desk","goal","told"] ["desk","goal"] (Ze zjo):=fsk
theorem ok_top{cl:Str->yb}{X_NoPoint:yc}(F:e.F "top" zjo fa fd ["desk","goal"])(c_NoPoint:Fx.XCls e.K e.mg "NoPoint" X_NoPoint)(e_NoPoint:cl "NoPoint" = .ref X_NoPoint)(u1:e.x cl k "best" 2 Uk)(u0:e.c k "weight" 2 Xa):e.x cl (k+1) "top" 2 zlM:=F.r sc_top λhr=>(Zg (Zwq 2 sc_top.nd (Zh (Fx.Clx.cal Zp.pin u1) hr rfl (Zb (Za 0) (Zb (Za 1) Zf))))
  (Zg (Z8 (ZE (YY hr.units) (af 2) Yo (Zr _))
  (Zi (Xo Zp.pin c_NoPoint e_NoPoint (Zb Yo Zf) rfl))
  Zv)
  (Zg (Z8 (ZE (YY hr.units) (af 2) Yo (Zr _))
  (Zi (Zm zcX))
  Zv)
  (Zi (Zm (Zh u0.cal hr rfl (Zb (Za 1) (Zb (af 2) Zf))))))))
abbrev UZ:yk:=top 59
theorem zjk:ae ["desk","place"] ["desk","place"] (Ze UZ):=fsk
theorem zju(F:e.F "without" UZ fa fd ["desk","place"]):e.c (k+1) "without" 2 Ys:=F.q zjk λhr=>(Zi (Zm (Z2 (Zb (af 0) (Zb (ZF zk7 (zfB (af 0) zcA (zcB (Za 1))) (zfB (af 0) (zcB (ZF YA (Za 1) Zd)) zcA)) Zf)))))
abbrev XJ:yk:=top 60
theorem zdB:ae ["shares","place"] ["shares","place"] (Ze XJ):=fsk
theorem zdH(F:e.F "with_nought" XJ fa fd ["shares","place"]):e.c (k+1) "with_nought" 2 ZN:=F.q zdB λhr=>(Zi (Zm (ZF YA (ZF YA (YK (zcD (Za 0) zcA (zcB (Za 1)))) (zbN (Zb (Z2 (Zb Zd (Zb Zd Zf))) Zf))) (YK (zcD (Za 0) (zcB (Za 1)) zcA)))))
abbrev zbm:yk:=top 61
theorem sc_moved:ae ["point","way","often"] ["point","way","often"] (Ze zbm):=fsk
theorem ok_moved(F:e.F "moved" zbm fa fd ["point","way","often"])(z:Zuq e.mg)(u0:e.c k "times" 2 Qy)(u1:e.c k "plus" 2 UD):e.c (k+1) "moved" 3 Xe:=F.q sc_moved λhr=>(Zi (Zm (YK (Xp (N:=["amount","step","often"]) (nv:=2) (cap:=[2]) (YL rfl) rfl (QT (by decide) (by decide)) (zek rfl z.zip (Za 0) (Za 1)) Yq (λ_ _ _ _=>(zae (i:=0) (j:=1) rfl (show yK (["amount","step","often"]:List Str) from by decide +kernel) rfl (yg rfl) rfl (yg rfl))) (λ_ _ _ _ _=>YB) (λ_ _ _ _ _=>(Zh u1.cal hr rfl (Zb (Za 0) (Zb (Zh u0.cal hr rfl (Zb (Za 2) (Zb (Za 1) Zf))) Zf))))))))
abbrev Xz:yk:=top 62
theorem Ug:ae ["limit","point","way","room","often"] ["limit","point","way"] (Ze Xz):=fsk
theorem zcF(F:e.F "point_beyond" Xz fa fd ["limit","point","way"])(u0:e.c k "weight" 2 Xa)(u3:e.c k "less" 2 zgD)(u1:e.c k "below" 2 Vm)(u4:e.c k "over" 2 zgC)(u5:e.c k "plus" 2 UD)(u2:e.c k "moved" 3 Xe):e.c (k+1) "point_beyond" 3 Zx:=F.q Ug λhr=>(Zg (Zwq 3 Ug.nd (Zh u3.cal hr rfl (Zb (Z2 (Zb (af 0) (Zb Zd Zf))) (Zb (Zh u0.cal hr rfl (Zb (af 0) (Zb (Za 1) Zf))) Zf))))
  (Zg (Z8 (Yj (Zh u1.cal hr rfl (Zb (Za 3) (Zb (Z2 (Zb Zd (Zb Zd Zf))) Zf))) (λ_=>rfl))
  (Zi (Zm (Za 1)))
  Zv)
  (Zg (Zwq 4 Ug.nd (Zh u5.cal hr rfl (Zb (Zh u4.cal hr rfl (Zb (Za 3) (Zb (Zh u0.cal hr rfl (Zb (af 0) (Zb (Za 2) Zf))) Zf))) (Zb (Z2 (Zb Zd (Zb Zd Zf))) Zf))))
  (Zi (Zm (Zh u2.cal hr rfl (Zb (Za 1) (Zb (Za 2) (Zb (Za 4) Zf)))))))))
abbrev zbp:yk:=top 63
theorem zeW:ae ["desk","place","limit","told"] ["desk","place"] (Ze zbp):=fsk
theorem ok_cover{cl:Str->yb}(F:e.F "cover" zbp fa fd ["desk","place"])(z:Zuq e.mg)(u1:e.x cl k "check_place" 2 Xu)(u3:e.c k "without" 2 Ys)(u6:e.x cl k "best" 2 Uk)(u2:e.c k "with_nought" 2 ZN)(u0:e.c k "point_beyond" 3 Zx)(u4:e.c k "weight" 2 Xa)(u5:e.c k "below" 2 Vm):e.x cl (k+1) "cover" 2 VL:=F.r zeW λhr=>(Zg (zeP (Zh (Fx.Clx.cal Zp.pin u1) hr rfl (Zb (Yu rfl z.len (af 0)) (Zb (Za 1) Zf))))
  (Zg (Zwq 2 zeW.nd (Zk (af 0) (Za 1) (λ_ _=>rfl)))
  (Zg (Zwq 3 zeW.nd (Zh (Fx.Clx.cal Zp.pin u6) hr rfl (Zb (Zh u3.cal hr rfl (Zb (Za 0) (Zb (Za 1) Zf))) (Zb (YK (zbr rfl z.list (af 2))) Zf))))
  (Zg (Z8 (ZE (YY hr.units) (af 3) Yo (Zr _))
  (Zi (Zm (Z2 (Zb Yo (Zb (Zh u2.cal hr rfl (Zb (af 3) (Zb (Za 1) Zf))) Zf)))))
  Zv)
  (Zg (Z8 (ZE (YY hr.units) (af 3) Yo (Zr _))
  (Zi (Zm (Z2 (Zb Yo (Zb (Zh u0.cal hr rfl (Zb (Za 2) (Zb (af 3) (Zb (af 3) Zf)))) Zf)))))
  Zv)
  (Zg (Z8 (Yj (Zh u5.cal hr rfl (Zb (Z2 (Zb (af 2) (Zb Zd Zf))) (Zb (Zh u4.cal hr rfl (Zb (af 2) (Zb (af 3) Zf))) Zf))) (λ_=>rfl))
  (Zi (Zm (Z2 (Zb Yo (Zb (af 3) Zf)))))
  Zv)
  (Zi (Zm (Z2 (Zb Yo (Zb (Zh u2.cal hr rfl (Zb (af 3) (Zb (Za 1) Zf))) Zf)))))))))))
abbrev V6:yk:=top 64
theorem zhk:ae ["desk","place"] ["desk","place"] (Ze V6):=fsk
theorem zhy{cl:Str->yb}(F:e.F "needless" V6 fa fd ["desk","place"])(u0:e.x cl k "cover" 2 VL):e.x cl (k+1) "needless" 2 WI:=F.r zhk λhr=>(Zi (Zm (Wi (Vw hr.units) (Zk (Zh (Fx.Clx.cal Zp.pin u0) hr rfl (Zb (Za 0) (Zb (Za 1) Zf))) Zd (λ_ _=>rfl)) Yo (Zr _))))
abbrev zd9:yk:=top 65
theorem zeU:ae ["desk","place"] ["desk"] (Ze zd9):=fsk
theorem ok_lean{cl:Str->yb}(F:e.F "lean" zd9 fa fd ["desk"])(z:Zuq e.mg)(u0:e.x cl k "needless" 2 WI)(u1:e.c k "without" 2 Ys):e.x cl (k+1) "lean" 1 zbM:=F.r zeU λhr=>(Zg (Zwq 1 zeU.nd Zd)
  (Zg (zas (U9 Zp) (ZE WU (Za 1) (Yu rfl z.len (af 0)) (Zr _))
  (Zi (Z8 (Yj (Zh (Fx.Clx.cal Zp.pin u0) hr rfl (Zb (Za 0) (Zb (Za 1) Zf))) (λ_=>rfl))
  (Zi (Zwq 0 zeU.nd (Zh u1.cal hr rfl (Zb (Za 0) (Zb (Za 1) Zf)))))
  (Zi (Zwq 1 zeU.nd (ZF YA (Za 1) Zd))))))
  (Zi (Zm (Za 0)))))
abbrev WD:yk:=top 66
theorem zeV:ae ["limit","point"] ["limit","point"] (Ze WD):=fsk
theorem zfd(F:e.F "keeps_just" WD fa fd ["limit","point"])(u0:e.c k "weight" 2 Xa):e.c (k+1) "keeps_just" 2 Xn:=F.q zeV λhr=>(Zi (Zm (Wi (YY hr.units) (Zh u0.cal hr rfl (Zb (af 0) (Zb (Za 1) Zf))) (Z2 (Zb (af 0) (Zb Zd Zf))) (Zr _))))
abbrev V3:yk:=top 67
theorem zcu:ae ["desk","limit","told"] ["desk","limit"] (Ze V3):=fsk
theorem zhv{cl:Str->yb}(F:e.F "roomiest" V3 fa fd ["desk","limit"])(u1:e.x cl k "best" 2 Uk)(u0:e.c k "moved" 3 Xe):e.x cl (k+1) "roomiest" 2 Vj:=F.r zcu λhr=>(Zg (Zwq 2 zcu.nd (Zh (Fx.Clx.cal Zp.pin u1) hr rfl (Zb (Za 0) (Zb (YK (Xp (N:=["number"]) (nv:=1) (cap:=[]) (YL rfl) rfl (ZS (by decide)) (Y1 (af 1)) (VY Zp) (λ_ _ _ _=>(ZG (i:=0) (nd1 _) rfl (yg rfl))) (λ_ _ _ _ hp1=>YB) (λ_ _ _ _ hp1=>(UE (Za 0))))) Zf))))
  (Zg (Z8 (ZE (YY hr.units) (af 2) Yo (Zr _))
  (Zi (Zm (Zh u0.cal hr rfl (Zb (af 2) (Zb (af 2) (Zb (Z2 (Zb Zd (Zb Zd Zf))) Zf))))))
  Zv)
  (Zi (Zm (af 2)))))
abbrev U4:yk:=top 68
theorem zjm:ae ["one","other"] ["one","other"] (Ze U4):=fsk
theorem zjz(F:e.F "halfway" U4 fa fd ["one","other"])(z:Zuq e.mg)(u1:e.c k "plus" 2 UD)(u0:e.c k "times" 2 Qy):e.c (k+1) "halfway" 2 Qf:=F.q zjm λhr=>(Zi (Zm (YK (Xp (N:=["a","b"]) (nv:=2) (cap:=[]) (YL rfl) rfl (QT (by decide) (by decide)) (zek rfl z.zip (Za 0) (Za 1)) Yq (λ_ _ _ _=>(zae (i:=0) (j:=1) rfl (show yK (["a","b"]:List Str) from by decide +kernel) rfl (yg rfl) rfl (yg rfl))) (λ_ _ _ _ _=>YB) (λ_ _ _ _ _=>(Zh u0.cal hr rfl (Zb (Z2 (Zb Zd (Zb Zd Zf))) (Zb (Zh u1.cal hr rfl (Zb (Za 0) (Zb (Za 1) Zf))) Zf))))))))
abbrev XM:yk:=top 69
theorem We:ae ["desk","point","limit","other"] ["desk"] (Ze XM):=fsk
theorem zdJ{cl:Str->yb}(F:e.F "well_within" XM fa fd ["desk"])(u0:e.x cl k "some_point" 1 Vz)(u1:e.c k "keeps_just" 2 Xn)(u2:e.x cl k "roomiest" 2 Vj)(u3:e.c k "halfway" 2 Qf):e.x cl (k+1) "well_within" 1 Yt:=F.r We λhr=>(Zg (Zwq 1 We.nd (Zh (Fx.Clx.cal Zp.pin u0) hr rfl (Zb (Za 0) Zf)))
  (Zg (Ww (U9 Zp) rfl (Y1 (af 0)) (ZG (i:=2) We.nd rfl (yg rfl))
  (Zi (Z8 (Yj (Zh u1.cal hr rfl (Zb (Za 2) (Zb (Za 1) Zf))) (λ_=>rfl))
  (Zg (Zwq 3 We.nd (Zh (Fx.Clx.cal Zp.pin u2) hr rfl (Zb (Za 0) (Zb (Za 2) Zf))))
  (Zi (Z8 (YH (Yj (Zh u1.cal hr rfl (Zb (Za 2) (Zb (Za 3) Zf))) (λ_=>rfl)))
  (Zi (Zwq 1 We.nd (Zh u3.cal hr rfl (Zb (Za 1) (Zb (Za 3) Zf)))))
  Zv)))
  Zv)))
  (Zi (Zm (Za 1)))))
abbrev zbl:yk:=top 70
theorem sc_tight:ae ["desk"] ["desk"] (Ze zbl):=fsk
theorem ok_tight{cl:Str->yb}(F:e.F "tight" zbl fa fd ["desk"])(u0:e.x cl k "well_within" 1 Yt)(u1:e.x cl k "just" 2 zgE):e.x cl (k+1) "tight" 1 Qz:=F.r sc_tight λhr=>(Zi (Zm (Zh (Fx.Clx.cal Zp.pin u1) hr rfl (Zb (Za 0) (Zb (Zh (Fx.Clx.cal Zp.pin u0) hr rfl (Zb (Za 0) Zf)) Zf)))))
abbrev Jv:yk:=top 72
theorem zkC:ae ["weights","kind"] ["weights","kind"] (Ze Jv):=fsk
theorem zlb(F:e.F "others" Jv fa fd ["weights","kind"]):e.c (k+1) "others" 2 YC:=F.q zkC λhr=>(Zi (Zm (Fx.ev_join (ZF YA (YK (zcD (Za 0) zcA (zcB (Za 1)))) (YK (zcD (Za 0) (zcB (ZF YA (Za 1) Zd)) zcA))) (ZF zk7 (zfB (Za 0) zcA (zcB (Za 1))) (zfB (Za 0) (zcB (ZF YA (Za 1) Zd)) zcA)))))
abbrev Jx:yk:=top 73
theorem zaA:ae ["upper","lower","kind","often","as_often","weights"] ["upper","lower","kind"] (Ze Jx):=fsk
theorem zld(F:e.F "joined" Jx fa fd ["upper","lower","kind"])(z:Zuq e.mg)(u0:e.c k "others" 2 YC):e.c (k+1) "joined" 3 Y0:=F.q zaA λhr=>(Zg (Zwq 3 zaA.nd (UE (Zk (af 1) (Za 2) (λ_ _=>rfl))))
  (Zg (Zwq 4 zaA.nd (Zk (af 0) (Za 2) (λ_ _=>rfl)))
  (Zg (UL (N:=["a","b","often","as_often"]) (nv:=2) (cap:=[3,4]) (i:=5) (YL rfl) rfl (QT (by decide) (by decide)) (zek rfl z.zip (af 0) (af 1)) Yq (λ_ _ _ _=>(zae (i:=0) (j:=1) rfl (show yK (["a","b","often","as_often"]:List Str) from by decide +kernel) rfl (yg rfl) rfl (yg rfl))) (λ_ _ _ _ _=>YB) (λ_ _ _ _ _=>(ZF YA (ZF Z9 (Za 2) (Za 0)) (ZF Z9 (Za 3) (Za 1)))) zaA.nd rfl (yg rfl))
  (Zi (Zm (Z2 (Zb (Zh u0.cal hr rfl (Zb (Za 5) (Zb (Za 2) Zf))) (Zb (ZF YA (ZF Z9 (Za 3) (af 0)) (ZF Z9 (Za 4) (af 1))) Zf))))))))
abbrev XQ:yk:=top 74
theorem Wf:ae ["limits","kind","left","uppers","lowers","upper"] ["limits","kind"] (Ze XQ):=fsk
theorem zdL(F:e.F "limits_left" XQ fa fd ["limits","kind"])(u0:e.c k "others" 2 YC)(u1:e.c k "joined" 3 Y0):e.c (k+1) "limits_left" 2 ZU:=F.q Wf λhr=>(Zg (zcd (N:=["limit","kind"]) (nv:=1) (cap:=[1]) (i:=2) (YL rfl) rfl (ZS (by decide)) (Y1 (Za 0)) Yq (λ_ _ _ _=>(ZG (i:=0) (show yK (["limit","kind"]:List Str) from by decide +kernel) rfl (yg rfl))) (λ_ _ _ _ _=>(zeC (ZE (YY hr.units) (Zk (af 0) (Za 1) (λ_ _=>rfl)) Zd (Zr _)))) (λ_ _ _ _ _=>(Z2 (Zb (Zh u0.cal hr rfl (Zb (af 0) (Zb (Za 1) Zf))) (Zb (af 0) Zf)))) Wf.nd rfl (yg rfl))
  (Zg (UL (N:=["limit","kind"]) (nv:=1) (cap:=[1]) (i:=3) (YL rfl) rfl (ZS (by decide)) (Y1 (Za 0)) Yq (λ_ _ _ _=>(ZG (i:=0) (show yK (["limit","kind"]:List Str) from by decide +kernel) rfl (yg rfl))) (λ_ _ _ _ _=>(zeC (ZE Qa (Zk (af 0) (Za 1) (λ_ _=>rfl)) Zd (Zr _)))) (λ_ _ _ _ _=>(Za 0)) Wf.nd rfl (yg rfl))
  (Zg (UL (N:=["limit","kind"]) (nv:=1) (cap:=[1]) (i:=4) (YL rfl) rfl (ZS (by decide)) (Y1 (Za 0)) Yq (λ_ _ _ _=>(ZG (i:=0) (show yK (["limit","kind"]:List Str) from by decide +kernel) rfl (yg rfl))) (λ_ _ _ _ _=>(zeC (ZE WU (Zk (af 0) (Za 1) (λ_ _=>rfl)) Zd (Zr _)))) (λ_ _ _ _ _=>(Za 0)) Wf.nd rfl (yg rfl))
  (Zg (Ww yY.never rfl (Y1 (Za 3)) (ZG (i:=5) Wf.nd rfl (yC rfl))
  (Zi (Fx.ss_ext (i:=2) rfl (Xp (N:=["lower","upper","kind"]) (nv:=1) (cap:=[5,1]) (YL rfl) rfl (ZS (by decide)) (Y1 (Za 4)) Yq (λ_ _ _ _=>(ZG (i:=0) (show yK (["lower","upper","kind"]:List Str) from by decide +kernel) rfl (yg rfl))) (λ_ _ _ _ _=>YB) (λ_ _ _ _ _=>(Zh u1.cal hr rfl (Zb (Za 1) (Zb (Za 0) (Zb (Za 2) Zf)))))))))
  (Zi (Zm (Za 2)))))))
abbrev WF:yk:=top 75
theorem VT:ae ["weights","divisor","number"] ["weights"] (Ze WF):=fsk
theorem zff(F:e.F "divisor_of" WF fa fd ["weights"])(z:Zuq e.mg)(u0:e.c k "common_divisor" 2 Yl):e.c (k+1) "divisor_of" 1 ZT:=F.q VT λhr=>(Zg (Zwq 1 VT.nd Zd)
  (Zg (Ww yY.never rfl (Y1 (Za 0)) (ZG (i:=2) VT.nd rfl (yg rfl))
  (Zi (Zwq 1 VT.nd (Zh u0.cal hr rfl (Zb (Za 1) (Zb (Za 2) Zf))))))
  (Zi (Zm (Fx.ev_max rfl z.max (Za 1) Zd)))))
abbrev XA:yk:=top 76
theorem Xh:ae ["limits","bounds","limit","divisor","weights","bound"] ["limits"] (Ze XA):=fsk
theorem zcG(F:e.F "least_bounds" XA fa fd ["limits"])(z:Zuq e.mg)(u0:e.c k "divisor_of" 1 ZT)(u2:e.c k "frac" 2 Xg)(u1:e.c k "below" 2 Vm):e.c (k+1) "least_bounds" 1 ZI:=F.q Xh λhr=>(Zg (Fx.ss_newD (i:=1) Xh.nd rfl (yg rfl))
  (Zg (Ww yY.never rfl (Y1 (Za 0)) (ZG (i:=2) Xh.nd rfl (yg rfl))
  (Zg (Zwq 3 Xh.nd (Zh u0.cal hr rfl (Zb (af 2) Zf)))
  (Zg (Zwq 4 Xh.nd (zaN rfl z.tuple (YK (Xp (N:=["number","divisor"]) (nv:=1) (cap:=[3]) (YL rfl) rfl (ZS (by decide)) (Y1 (af 2)) Yq (λ_ _ _ _=>(ZG (i:=0) (show yK (["number","divisor"]:List Str) from by decide +kernel) rfl (yg rfl))) (λ_ _ _ _ _=>YB) (λ_ _ _ _ _=>(ZF zbs (Za 0) (Za 1)))))))
  (Zg (Zwq 5 Xh.nd (Zh u2.cal hr rfl (Zb (af 2) (Zb (Za 3) Zf))))
  (Zi (Fx.ss_ifG (Fx.tv_w (VH (zkc (i:=1) (Fx.u1 hr.units) (Za 4) rfl) (Wd (Yj (Zh u1.cal hr rfl (Zb (Za 5) (Zb (Fx.ev_getN (i:=1) (Fx.u1 hr.units) rfl (Za 4) (λ_ _=>rfl)) Zf))) (λ_=>rfl)))))
  (Zi (Fx.ss_putN (i:=1) (Fx.u1 hr.units) rfl (Za 4) (Za 5)))
  Zv))))))
  (Zi (Fx.ss_retD (i:=1) rfl))))
abbrev XL:yk:=top 77
theorem zdC:ae ["weights","bound"] ["weights","bound"] (Ze XL):=fsk
theorem zdI(F:e.F "whole_limit" XL fa fd ["weights","bound"])(z:Zuq e.mg):e.c (k+1) "whole_limit" 2 ZO:=F.q zdC λhr=>(Zi (Zm (Z2 (Zb (zaN rfl z.tuple (YK (Xp (N:=["number","bound"]) (nv:=1) (cap:=[1]) (YL rfl) rfl (ZS (by decide)) (Y1 (Za 0)) Yq (λ_ _ _ _=>(ZG (i:=0) (show yK (["number","bound"]:List Str) from by decide +kernel) rfl (yg rfl))) (λ_ _ _ _ _=>YB) (λ_ _ _ _ _=>(ZF Z9 (Za 0) (af 1)))))) (Zb (af 1) Zf)))))
abbrev U5:yk:=top 78
theorem zd4:ae ["desk","kind","bounds"] ["desk","kind"] (Ze U5):=fsk
theorem zjA{cl:Str->yb}{X_NoPlace:yc}(F:e.F "dropped" U5 fa fd ["desk","kind"])(z:Zuq e.mg)(c_NoPlace:Fx.XCls e.K e.mg "NoPlace" X_NoPlace)(e_NoPlace:cl "NoPlace" = .ref X_NoPlace)(u1:e.x cl k "check_place" 2 Xu)(u4:e.x cl k "lean" 1 zbM)(u2:e.c k "limits_left" 2 ZU)(u0:e.c k "least_bounds" 1 ZI)(u3:e.c k "whole_limit" 2 ZO):e.x cl (k+1) "dropped" 2 VA:=F.r zd4 λhr=>(Zg (zeP (Zh (Fx.Clx.cal Zp.pin u1) hr rfl (Zb (af 0) (Zb (Za 1) Zf))))
  (Zg (Z8 (ZE (YY hr.units) (af 0) Zd (Zr _))
  (Zi (Xo Zp.pin c_NoPlace e_NoPlace (Zb Yo Zf) rfl))
  Zv)
  (Zg (Zwq 2 zd4.nd (Zh u0.cal hr rfl (Zb (Zh u2.cal hr rfl (Zb (Zk (Zh (Fx.Clx.cal Zp.pin u4) hr rfl (Zb (Za 0) Zf)) Zd (λ_ _=>rfl)) (Zb (Za 1) Zf))) Zf)))
  (Zi (Zm (Zh (Fx.Clx.cal Zp.pin u4) hr rfl (Zb (Z2 (Zb (ZF UM (af 0) Zd) (Zb (zaN rfl z.tuple (YK (Xp (N:=["weights","bounds"]) (nv:=1) (cap:=[2]) (YL rfl) rfl (ZS (by decide)) (Fx.iv_keys (Za 2)) (VY Zp) (λ_ _ _ _=>(ZG (i:=0) (show yK (["weights","bounds"]:List Str) from by decide +kernel) rfl (yg rfl))) (λ_ _ _ _ hp1=>YB) (λ_ _ _ _ hp1=>(Zh u3.cal hr rfl (Zb (Za 0) (Zb (Fx.ev_getD (Fx.u1 hr.units) (Za 1) (Za 0) (λ_ _=>rfl)) Zf))))))) Zf))) Zf)))))))
abbrev WB:yk:=top 80
theorem zax:ae ["desk","limit","told"] ["desk","limit"] (Ze WB):=fsk
theorem zfb{cl:Str->yb}(F:e.F "point_past" WB fa fd ["desk","limit"])(z:Zuq e.mg)(u3:e.x cl k "best" 2 Uk)(u0:e.c k "point_beyond" 3 Zx)(u1:e.c k "weight" 2 Xa)(u2:e.c k "below" 2 Vm):e.x cl (k+1) "point_past" 2 XG:=F.r zax λhr=>(Zg (Zwq 2 zax.nd (Zh (Fx.Clx.cal Zp.pin u3) hr rfl (Zb (Za 0) (Zb (YK (zbr rfl z.list (af 1))) Zf))))
  (Zg (Z8 (ZE (YY hr.units) (af 2) Yo (Zr _))
  (Zi (Zm (Zh u0.cal hr rfl (Zb (Za 1) (Zb (af 2) (Zb (af 2) Zf))))))
  Zv)
  (Zg (Z8 (Fx.tv_w (zf0 (ZE (YY hr.units) (af 2) Yo (Zr _)) (zeL (Yj (Zh u2.cal hr rfl (Zb (Z2 (Zb (af 1) (Zb Zd Zf))) (Zb (Zh u1.cal hr rfl (Zb (af 1) (Zb (af 2) Zf))) Zf))) (λ_=>rfl)))))
  (Zi (Zm (af 2)))
  Zv)
  (Zi (Zm zcX)))))
abbrev U2:yk:=top 81
theorem zbj:ae ["one","other","limit","point"] ["one","other"] (Ze U2):=fsk
theorem zjx{cl:Str->yb}{X_Unlike:yc}(F:e.F "outside" U2 fa fd ["one","other"])(c_Unlike:Fx.XCls e.K e.mg "Unlike" X_Unlike)(e_Unlike:cl "Unlike" = .ref X_Unlike)(u0:e.x cl k "point_past" 2 XG):e.x cl (k+1) "outside" 2 Qd:=F.r zbj λhr=>(Zg (Z8 (ZE (Vw hr.units) (af 0) (af 1) (Zr _))
  (Zi (Xo Zp.pin c_Unlike e_Unlike (Zb Yo Zf) rfl))
  Zv)
  (Zg (Ww (U9 Zp) rfl (Y1 (af 1)) (ZG (i:=2) zbj.nd rfl (yg rfl))
  (Zg (Zwq 3 zbj.nd (Zh (Fx.Clx.cal Zp.pin u0) hr rfl (Zb (Za 0) (Zb (Za 2) Zf))))
  (Zi (Z8 (JX (Za 3))
  (Zi (Zm (Za 3)))
  Zv))))
  (Zi (Zm zcX))))
abbrev XU:yk:=top 83
theorem zdD:ae ["_law_script","_law_k"] ["_law_script","_law_k"] (Ze XU):=fsk
theorem zdP(F:e.F "_law_cell_at" XU fa fd ["_law_script","_law_k"])(z:Zuq e.mg):e.c (k+1) "_law_cell_at" 2 Zy:=F.q zdD λhr=>(Zg (Z8 (ZE WU (Za 1) (Yu rfl z.len (Za 0)) (Zr _))
  (Zi (Zm (Zk (Za 0) (Za 1) (λ_ _=>rfl))))
  Zv)
  (Zg (Z8 (ZE (YY hr.units) (Za 0) (zbN Zf) (Zr _))
  (Zi (Zm Zd))
  Zv)
  (Zi (Zm (ZF YA (ZF Z9 (Zk (Za 0) (ZF Vg (Za 1) (Yu rfl z.len (Za 0))) (λ_ _=>rfl)) Zd) (Za 1))))))
abbrev WC:yk:=top 84
theorem zay:ae ["_law_cell","_law_wide","_law_number_here"] ["_law_cell","_law_wide"] (Ze WC):=fsk
theorem zfc(F:e.F "_law_number" WC fa fd ["_law_cell","_law_wide"]):e.c (k+1) "_law_number" 2 YD:=F.q zay λhr=>(Zg (Zwq 2 zay.nd (ZF Vg (Za 0) (ZF YA (ZF Z9 Zd (Za 1)) Zd)))
  (Zg (Z8 (ZE Qa (Za 2) (Za 1) (Zr _))
  (Zi (Zm (ZF UM (ZF UM (Za 2) (ZF Z9 Zd (Za 1))) Zd)))
  Zv)
  (Zi (Zm (Za 2)))))
abbrev W8:yk:=top 85
theorem zgb:ae ["_law_found"] ["_law_found"] (Ze W8):=fsk
theorem zgl(F:e.F "_law_whole" W8 fa fd ["_law_found"])(z:Zuq e.mg):e.c (k+1) "_law_whole" 1 Vk:=F.q zgb λhr=>(Zi (Zm (QK (Xw zls (show yP "int"=some (.type "int") by decide +kernel) rfl z.isinstance rfl z.int (Za 0)) (QJ (ziL (Xw ziw (show yP "bool"=some (.type "bool") by decide +kernel) rfl z.isinstance rfl z.bool (Za 0)))))))
abbrev XS:yk:=top 86
theorem Xy:ae ["_law_a","_law_b","_law_left"] ["_law_a","_law_b"] (Ze XS):=fsk
theorem zdN(F:e.F "_law_divisor" XS fa fd ["_law_a","_law_b"])(z:Zuq e.mg):e.c (k+1) "_law_divisor" 2 X2:=F.q Xy λhr=>(Zg (Zwq 0 Xy.nd (zbO rfl z.abs (Za 0)))
  (Zg (Zwq 1 Xy.nd (zbO rfl z.abs (Za 1)))
  (Zg (zas yY.never (ZE (Vw hr.units) (Za 1) Zd (Zr _))
  (Zg (Zwq 2 Xy.nd (ZF Vg (Za 0) (Za 1)))
  (Zg (Zwq 0 Xy.nd (Za 1))
  (Zi (Zwq 1 Xy.nd (Za 2))))))
  (Zi (Zm (Za 0))))))
abbrev YR:yk:=top 87
theorem zaz:ae ["_law_found"] ["_law_found"] (Ze YR):=fsk
theorem zaE(F:e.F "_law_is_fraction" YR fa fd ["_law_found"])(z:Zuq e.mg)(u1:e.c k "_law_whole" 1 Vk)(u0:e.c k "_law_divisor" 2 X2):e.c (k+1) "_law_is_fraction" 1 YT:=F.q zaz λhr=>(Zg (Z8 (Fx.tv_w (VH (YH (Yj (Xw zcP (show yP "tuple"=some (.type "tuple") by decide +kernel) rfl z.isinstance rfl z.tuple (Za 0)) (λ_=>rfl))) (Wd (ZE (Vw hr.units) (Yu rfl z.len (Za 0)) Zd (Zr _)))))
  (Zi (Zm Vn))
  Zv)
  (Zg (Z8 (Fx.tv_w (VH (YH (Yj (Zh u1.cal hr rfl (Zb (af 0) Zf)) (λ_=>rfl))) (VH (YH (Yj (Zh u1.cal hr rfl (Zb (af 0) Zf)) (λ_=>rfl))) (Wd (ZE WU (af 0) Zd (Zr _))))))
  (Zi (Zm Vn))
  Zv)
  (Zi (Zm (Wi (YY hr.units) (Zh u0.cal hr rfl (Zb (af 0) (Zb (af 0) Zf))) Zd (Zr _))))))
abbrev XB:yk:=top 88
theorem QR:ae ["_law_found","_law_kinds","_law_amount"] ["_law_found","_law_kinds"] (Ze XB):=fsk
theorem zcH(F:e.F "_law_is_point" XB fa fd ["_law_found","_law_kinds"])(z:Zuq e.mg)(u0:e.c k "_law_is_fraction" 1 YT):e.c (k+1) "_law_is_point" 2 Ya:=F.q QR λhr=>(Zg (Z8 (Fx.tv_w (VH (YH (Yj (Xw zaI (show yP "list"=some (.type "list") by decide +kernel) rfl z.isinstance rfl z.list (Za 0)) (λ_=>rfl))) (Wd (ZE (Vw hr.units) (Yu rfl z.len (Za 0)) (Za 1) (Zr _)))))
  (Zi (Zm Vn))
  Zv)
  (Zg (Ww yY.never rfl (Y1 (Za 0)) (ZG (i:=2) QR.nd rfl (yg rfl))
  (Zi (Z8 (YH (Yj (Zh u0.cal hr rfl (Zb (Za 2) Zf)) (λ_=>rfl)))
  (Zi (Zm Vn))
  Zv)))
  (Zi (Zm Vn))))
abbrev V9:yk:=top 89
theorem zab:ae ["_law_upper","_law_lower","_law_same"] ["_law_upper","_law_lower"] (Ze V9):=fsk
theorem zhB(F:e.F "_law_frac" V9 fa fd ["_law_upper","_law_lower"])(u0:e.c k "_law_divisor" 2 X2):e.c (k+1) "_law_frac" 2 Qe:=F.q zab λhr=>(Zg (Zwq 2 zab.nd (Zh u0.cal hr rfl (Zb (Za 0) (Zb (Za 1) Zf))))
  (Zg (Z8 (ZE WU (Za 1) Zd (Zr _))
  (Zi (Zwq 2 zab.nd (UE (Za 2))))
  Zv)
  (Zi (Zm (Z2 (Zb (ZF zbs (Za 0) (Za 2)) (Zb (ZF zbs (Za 1) (Za 2)) Zf)))))))
abbrev U3:yk:=top 90
theorem zjl:ae ["_law_a","_law_b","_law_many"] ["_law_a","_law_b","_law_many"] (Ze U3):=fsk
theorem zjy(F:e.F "_law_add" U3 fa fd ["_law_a","_law_b","_law_many"])(u0:e.c k "_law_frac" 2 Qe):e.c (k+1) "_law_add" 3 Xb:=F.q zjl λhr=>(Zi (Zm (Zh u0.cal hr rfl (Zb (ZF YA (ZF Z9 (ZF Z9 (af 0) (af 1)) (af 2)) (ZF Z9 (ZF Z9 (af 2) (af 1)) (af 0))) (Zb (ZF Z9 (ZF Z9 (af 0) (af 1)) (af 2)) Zf)))))
abbrev W9:yk:=top 91
theorem Uy:ae ["_law_weights","_law_point","_law_made","_law_k"] ["_law_weights","_law_point"] (Ze W9):=fsk
theorem zgm(F:e.F "_law_weigh" W9 fa fd ["_law_weights","_law_point"])(z:Zuq e.mg)(u0:e.c k "_law_add" 3 Xb):e.c (k+1) "_law_weigh" 2 Yg:=F.q Uy λhr=>(Zg (Zwq 2 Uy.nd (Z2 (Zb Zd (Zb Zd Zf))))
  (Zg (Ww yY.never rfl (Xs rfl z.range (Yu rfl z.len (Za 1))) (ZG (i:=3) Uy.nd rfl (yg rfl))
  (Zi (Zwq 2 Uy.nd (Zh u0.cal hr rfl (Zb (Za 2) (Zb (Zk (Za 1) (Za 3) (λ_ _=>rfl)) (Zb (Z2 (Zb (Zk (Za 0) (Za 3) (λ_ _=>rfl)) (Zb Zd Zf))) Zf)))))))
  (Zi (Zm (Za 2)))))
abbrev Vc:yk:=top 92
theorem zgc:ae ["_law_a","_law_b"] ["_law_a","_law_b"] (Ze Vc):=fsk
theorem zgp(F:e.F "_law_below" Vc fa fd ["_law_a","_law_b"]):e.c (k+1) "_law_below" 2 Wp:=F.q zgc λhr=>(Zi (Zm (Wi WU (ZF Z9 (af 0) (af 1)) (ZF Z9 (af 1) (af 0)) (Zr _))))
abbrev Vb:yk:=top 93
theorem zbJ:ae ["_law_limits","_law_point","_law_limit"] ["_law_limits","_law_point"] (Ze Vb):=fsk
theorem zgo(F:e.F "_law_keeps" Vb fa fd ["_law_limits","_law_point"])(u0:e.c k "_law_weigh" 2 Yg)(u1:e.c k "_law_below" 2 Wp):e.c (k+1) "_law_keeps" 2 Yh:=F.q zbJ λhr=>(Zg (Ww yY.never rfl (Y1 (Za 0)) (ZG (i:=2) zbJ.nd rfl (yg rfl))
  (Zi (Z8 (Yj (Zh u1.cal hr rfl (Zb (Z2 (Zb (af 2) (Zb Zd Zf))) (Zb (Zh u0.cal hr rfl (Zb (af 2) (Zb (Za 1) Zf))) Zf))) (λ_=>rfl))
  (Zi (Zm Vn))
  Zv)))
  (Zi (Zm Vn)))
abbrev Y6:yk:=top 94
theorem UX:ae ["_law_found","_law_many","_law_share"] ["_law_found","_law_many"] (Ze Y6):=fsk
theorem zbu(F:e.F "_law_are_shares" Y6 fa fd ["_law_found","_law_many"])(u0:e.c k "_law_is_point" 2 Ya):e.c (k+1) "_law_are_shares" 2 Yk:=F.q UX λhr=>(Zg (Z8 (YH (Yj (Zh u0.cal hr rfl (Zb (Za 0) (Zb (Za 1) Zf))) (λ_=>rfl)))
  (Zi (Zm Vn))
  Zv)
  (Zg (Ww yY.never rfl (Y1 (Za 0)) (ZG (i:=2) UX.nd rfl (yg rfl))
  (Zi (Z8 (ZE WU (af 2) Zd (Zr _))
  (Zi (Zm Vn))
  Zv)))
  (Zi (Zm Vn))))
abbrev Va:yk:=top 95
theorem Wx:ae ["_law_limits","_law_shares","_law_kinds","_law_weights","_law_bound","_law_j","_law_k"] ["_law_limits","_law_shares","_law_kinds"] (Ze Va):=fsk
theorem zgn(F:e.F "_law_taken" Va fa fd ["_law_limits","_law_shares","_law_kinds"])(z:Zuq e.mg)(u0:e.c k "_law_add" 3 Xb):e.c (k+1) "_law_taken" 3 Xt:=F.q Wx λhr=>(Zg (zcd (N:=["_law_k"]) (nv:=1) (cap:=[]) (i:=3) (YL rfl) rfl (ZS (by decide)) (Xs rfl z.range (Za 2)) Yq (λ_ _ _ _=>(ZG (i:=0) (nd1 _) rfl (yg rfl))) (λ_ _ _ _ _=>YB) (λ_ _ _ _ _=>(Z2 (Zb Zd (Zb Zd Zf)))) Wx.nd rfl (yg rfl))
  (Zg (Zwq 4 Wx.nd (Z2 (Zb Zd (Zb Zd Zf))))
  (Zg (Ww yY.never rfl (Xs rfl z.range (Yu rfl z.len (Za 0))) (ZG (i:=5) Wx.nd rfl (yg rfl))
  (Zg (Ww yY.never rfl (Xs rfl z.range (Za 2)) (ZG (i:=6) Wx.nd rfl (yg rfl))
  (Zi (Qq (i:=3) rfl (Za 6) (Zh u0.cal hr rfl (Zb (zlR (i:=3) rfl (Za 6) (λ_ _=>rfl)) (Zb (Zk (Za 1) (Za 5) (λ_ _=>rfl)) (Zb (Z2 (Zb (Zk (Zk (Zk (Za 0) (Za 5) (λ_ _=>rfl)) Zd (λ_ _=>rfl)) (Za 6) (λ_ _=>rfl)) (Zb Zd Zf))) Zf)))))))
  (Zi (Zwq 4 Wx.nd (Zh u0.cal hr rfl (Zb (Za 4) (Zb (Zk (Za 1) (Za 5) (λ_ _=>rfl)) (Zb (Z2 (Zb (Zk (Zk (Za 0) (Za 5) (λ_ _=>rfl)) Zd (λ_ _=>rfl)) (Zb Zd Zf))) Zf))))))))
  (Zi (Zm (Z2 (Zb (Za 3) (Zb (Za 4) Zf))))))))
abbrev XT:yk:=top 96
theorem JJ:ae ["_law_limits","_law_shares","_law_kinds","_law_both"] ["_law_limits","_law_shares","_law_kinds"] (Ze XT):=fsk
theorem zdO(F:e.F "_law_clashes" XT fa fd ["_law_limits","_law_shares","_law_kinds"])(z:Zuq e.mg)(u0:e.c k "_law_are_shares" 2 Yk)(u1:e.c k "_law_taken" 3 Xt):e.c (k+1) "_law_clashes" 3 YM:=F.q JJ λhr=>(Zg (Z8 (YH (Yj (Zh u0.cal hr rfl (Zb (Za 1) (Zb (Yu rfl z.len (Za 0)) Zf))) (λ_=>rfl)))
  (Zi (Zm Vn))
  Zv)
  (Zg (Zwq 3 JJ.nd (Zh u1.cal hr rfl (Zb (Za 0) (Zb (Za 1) (Zb (Za 2) Zf)))))
  (Zi (Zm (QK (Wi (YY hr.units) (af 3) (YK (Xp (N:=["_law_k"]) (nv:=1) (cap:=[]) (YL rfl) rfl (ZS (by decide)) (Xs rfl z.range (Za 2)) Yq (λ_ _ _ _=>(ZG (i:=0) (nd1 _) rfl (yg rfl))) (λ_ _ _ _ _=>YB) (λ_ _ _ _ _=>(Z2 (Zb Zd (Zb Zd Zf)))))) (Zr _)) (QJ (Wi WU (Zk (af 3) Zd (λ_ _=>rfl)) Zd (Zr _))))))))
abbrev V8:yk:=top 97
theorem YX:ae ["_law_script","_law_kinds","_law_many","_law_wide","_law_limits","_law_k","_law_row","_law_desk"] ["_law_script"] (Ze V8):=fsk
theorem zhA{cl:Str->yb}(F:e.F "_law_told" V8 fa fd ["_law_script"])(z:Zuq e.mg)(u0:e.c k "_law_cell_at" 2 Zy)(u1:e.c k "_law_number" 2 YD)(u2:e.x cl k "desk_of" 2 QU)(u3:e.x cl k "dropped" 2 VA):e.x cl (k+1) "_law_told" 1 Vl:=F.r YX λhr=>(Zg (Zwq 1 YX.nd (ZF YA Zd (ZF Vg (Zh u0.cal hr rfl (Zb (Za 0) (Zb Zd Zf))) Zd)))
  (Zg (Zwq 2 YX.nd (ZF Vg (Zh u0.cal hr rfl (Zb (Za 0) (Zb Zd Zf))) Zd))
  (Zg (Zwq 3 YX.nd (Zk (zbN (Zb Zd (Zb Zd (Zb (ZF UM (ZF Fx.op_powF Zd Zd) Zd) Zf)))) (ZF Vg (Zh u0.cal hr rfl (Zb (Za 0) (Zb Zd Zf))) Zd) (λ_ _=>rfl)))
  (Zg (Z8 (ZE Qa (Za 3) Zd (Zr _))
  (Zg (Zwq 1 YX.nd Zd)
  (Zi (Zwq 2 YX.nd (ZF Vg (Za 2) Zd))))
  Zv)
  (Zg (zcr (i:=4) YX.nd rfl (yg rfl) (zim Zf))
  (Zg (Ww (U9 Zp) rfl (Xs rfl z.range (Za 2)) (ZG (i:=5) YX.nd rfl (yC rfl))
  (Zg (zcd (N:=["_law_j","_law_script","_law_k","_law_wide"]) (nv:=1) (cap:=[0,5,3]) (i:=6) (YL rfl) rfl (ZS (by decide)) (Xs rfl z.range (ZF YA (Za 1) Zd)) (VY Zp) (λ_ _ _ _=>(ZG (i:=0) (show yK (["_law_j","_law_script","_law_k","_law_wide"]:List Str) from by decide +kernel) rfl (yg rfl))) (λ_ _ _ _ hp1=>YB) (λ_ _ _ _ hp1=>(Zh u1.cal hr rfl (Zb (Zh u0.cal hr rfl (Zb (Za 1) (Zb (ZF YA (ZF YA Zd (ZF Z9 Zd (Za 2))) (Za 0)) Zf))) (Zb (Za 3) Zf)))) YX.nd rfl (yg rfl))
  (Zg (Z8 (ZE (YY hr.units) (ZF Vg (Zh u0.cal hr rfl (Zb (Za 0) (Zb Zd Zf))) Zd) Zd (Zr _))
  (Zi (Qq (i:=6) rfl (Za 1) (zbO rfl z.abs (zlR (i:=6) rfl (Za 1) (λ_ _=>rfl)))))
  Zv)
  (Zi (Fx.ss_app (i:=4) rfl (Z2 (Zb (YK (zcD (Za 6) zcA (zcB (Za 1)))) (Zb (zlR (i:=6) rfl (Za 1) (λ_ _=>rfl)) Zf))))))))
  (Zg (Zwq 7 YX.nd (Zh (Fx.Clx.cal Zp.pin u3) hr rfl (Zb (Zh (Fx.Clx.cal Zp.pin u2) hr rfl (Zb (Za 1) (Zb (Za 4) Zf))) (Zb (ZF Vg (Zh u0.cal hr rfl (Zb (Za 0) (Zb Zd Zf))) (Za 1)) Zf))))
  (Zg (Z8 (Fx.tv_w (zf0 (ZE Qa (af 7) Zd (Zr _)) (zf0 (ZE (YY hr.units) (ZF Vg (Zh u0.cal hr rfl (Zb (Za 0) (Zb Zd Zf))) Zd) Zd (Zr _)) (zeL (ZE WU (Yu rfl z.len (af 7)) Zd (Zr _))))))
  (Zi (Zwq 7 YX.nd (Zh (Fx.Clx.cal Zp.pin u3) hr rfl (Zb (Za 7) (Zb (ZF Vg (Zh u0.cal hr rfl (Zb (Za 0) (Zb Zd Zf))) (af 7)) Zf)))))
  Zv)
  (Zi (Zm (Za 7)))))))))))
abbrev YS:yk:=top 98
theorem WQ:ae ["_law_limits","_law_goal","_law_answer","_law_both","_law_limit"] ["_law_limits","_law_goal","_law_answer"] (Ze YS):=fsk
theorem zaF(F:e.F "_law_best_walked" YS fa fd ["_law_limits","_law_goal","_law_answer"])(z:Zuq e.mg)(u2:e.c k "_law_clashes" 3 YM)(u1:e.c k "_law_is_point" 2 Ya)(u3:e.c k "_law_keeps" 2 Yh)(u4:e.c k "_law_taken" 3 Xt)(u0:e.c k "_law_are_shares" 2 Yk)(u5:e.c k "_law_weigh" 2 Yg):e.c (k+1) "_law_best_walked" 3 Yc:=F.q WQ λhr=>(Zg (Z8 (ZE (YY hr.units) (af 2) Yo (Zr _))
  (Zi (Zm (Zh u2.cal hr rfl (Zb (Za 0) (Zb (af 2) (Zb (Yu rfl z.len (Za 1)) Zf))))))
  Zv)
  (Zg (Z8 (Fx.tv_w (VH (YH (Yj (Zh u1.cal hr rfl (Zb (af 2) (Zb (Yu rfl z.len (Za 1)) Zf))) (λ_=>rfl))) (Wd (YH (Yj (Zh u3.cal hr rfl (Zb (Za 0) (Zb (af 2) Zf))) (λ_=>rfl))))))
  (Zi (Zm Vn))
  Zv)
  (Zg (Z8 (ZE (YY hr.units) (af 2) Yo (Zr _))
  (Zg (Zwq 3 WQ.nd (Zh u4.cal hr rfl (Zb (Za 0) (Zb (af 2) (Zb (Yu rfl z.len (Za 1)) Zf)))))
  (Zg (Z8 (Fx.tv_w (VH (YH (Yj (Zh u0.cal hr rfl (Zb (af 2) (Zb (Yu rfl z.len (Za 0)) Zf))) (λ_=>rfl))) (Wd (ZE (Vw hr.units) (af 3) (YK (Xp (N:=["_law_number_here"]) (nv:=1) (cap:=[]) (YL rfl) rfl (ZS (by decide)) (Y1 (Za 1)) Yq (λ_ _ _ _=>(ZG (i:=0) (nd1 _) rfl (yg rfl))) (λ_ _ _ _ _=>YB) (λ_ _ _ _ _=>(Z2 (Zb (Za 0) (Zb Zd Zf)))))) (Zr _)))))
  (Zi (Zm Vn))
  Zv)
  (Zi (Zm (Wi (YY hr.units) (af 3) (Zh u5.cal hr rfl (Zb (Za 1) (Zb (af 2) Zf))) (Zr _))))))
  Zv)
  (Zg (Ww yY.never rfl (Y1 (Za 0)) (ZG (i:=4) WQ.nd rfl (yg rfl))
  (Zi (Z8 (ZE Qa (Zk (Zh u5.cal hr rfl (Zb (af 4) (Zb (af 2) Zf))) Zd (λ_ _=>rfl)) Zd (Zr _))
  (Zi (Zm Vn))
  Zv)))
  (Zi (Zm (QK (Wi (YY hr.units) (af 2) Yo (Zr _)) (QJ (Wi Qa (Zk (Zh u5.cal hr rfl (Zb (Za 1) (Zb (af 2) Zf))) Zd (λ_ _=>rfl)) Zd (Zr _))))))))))
abbrev YI:yk:=top 99
theorem Wn:ae ["_law_limits","_law_place","_law_kinds","_law_answer","_law_others","_law_both"] ["_law_limits","_law_place","_law_kinds","_law_answer"] (Ze YI):=fsk
theorem zad(F:e.F "_law_cover_walked" YI fa fd ["_law_limits","_law_place","_law_kinds","_law_answer"])(z:Zuq e.mg)(u2:e.c k "_law_clashes" 3 YM)(u1:e.c k "_law_is_point" 2 Ya)(u3:e.c k "_law_keeps" 2 Yh)(u0:e.c k "_law_are_shares" 2 Yk)(u4:e.c k "_law_taken" 3 Xt)(u5:e.c k "_law_below" 2 Wp):e.c (k+1) "_law_cover_walked" 4 ZZ:=F.q Wn λhr=>(Zg (Z8 (ZE (YY hr.units) (af 3) Yo (Zr _))
  (Zi (Zm (QK (Wi (YY hr.units) (Zk (af 3) (Za 1) (λ_ _=>rfl)) (Z2 (Zb Zd (Zb Zd Zf))) (Zr _)) (QJ (Zh u2.cal hr rfl (Zb (Za 0) (Zb (af 3) (Zb (Za 2) Zf))))))))
  Zv)
  (Zg (Z8 (ZE (YY hr.units) (af 3) Yo (Zr _))
  (Zg (Zwq 4 Wn.nd (ZF YA (YK (zcD (Za 0) zcA (zcB (Za 1)))) (YK (zcD (Za 0) (zcB (ZF YA (Za 1) Zd)) zcA))))
  (Zg (Z8 (Fx.tv_w (VH (YH (Yj (Zh u1.cal hr rfl (Zb (af 3) (Zb (Za 2) Zf))) (λ_=>rfl))) (Wd (YH (Yj (Zh u3.cal hr rfl (Zb (Za 4) (Zb (af 3) Zf))) (λ_=>rfl))))))
  (Zi (Zm Vn))
  Zv)
  (Zi (Zm (ziL (Zh u3.cal hr rfl (Zb (zbN (Zb (Zk (Za 0) (Za 1) (λ_ _=>rfl)) Zf)) (Zb (af 3) Zf))))))))
  Zv)
  (Zg (Z8 (Fx.tv_w (VH (YH (Yj (Zh u0.cal hr rfl (Zb (af 3) (Zb (Yu rfl z.len (Za 0)) Zf))) (λ_=>rfl))) (Wd (ZE (Vw hr.units) (Zk (af 3) (Za 1) (λ_ _=>rfl)) (Z2 (Zb Zd (Zb Zd Zf))) (Zr _)))))
  (Zi (Zm Vn))
  Zv)
  (Zg (Zwq 5 Wn.nd (Zh u4.cal hr rfl (Zb (Za 0) (Zb (af 3) (Zb (Za 2) Zf)))))
  (Zg (Z8 (ZE (Vw hr.units) (af 5) (YK (Xp (N:=["_law_number_here"]) (nv:=1) (cap:=[]) (YL rfl) rfl (ZS (by decide)) (Y1 (Zk (Zk (Za 0) (Za 1) (λ_ _=>rfl)) Zd (λ_ _=>rfl))) Yq (λ_ _ _ _=>(ZG (i:=0) (nd1 _) rfl (yg rfl))) (λ_ _ _ _ _=>YB) (λ_ _ _ _ _=>(Z2 (Zb (Za 0) (Zb Zd Zf)))))) (Zr _))
  (Zi (Zm Vn))
  Zv)
  (Zi (Zm (QK (Wi (YY hr.units) (af 3) Yo (Zr _)) (QJ (ziL (Zh u5.cal hr rfl (Zb (Z2 (Zb (Zk (Zk (Za 0) (Za 1) (λ_ _=>rfl)) Zd (λ_ _=>rfl)) (Zb Zd Zf))) (Zb (af 5) Zf)))))))))))))
abbrev YQ:yk:=top 100
theorem Y9:ae ["_law_desk","_law_small","_law_rows","_law_k","_law_answer"] ["_law_desk"] (Ze YQ):=fsk
theorem zaD{cl:Str->yb}(F:e.F "_law_lean_walked" YQ fa fd ["_law_desk"])(z:Zuq e.mg)(u3:e.x cl k "lean" 1 zbM)(u1:e.x cl k "outside" 2 Qd)(u2:e.x cl k "cover" 2 VL)(u0:e.c k "_law_cover_walked" 4 ZZ):e.x cl (k+1) "_law_lean_walked" 1 Xk:=F.r Y9 λhr=>(Zg (Zwq 1 Y9.nd (Zh (Fx.Clx.cal Zp.pin u3) hr rfl (Zb (Za 0) Zf)))
  (Zg (Z8 (Fx.tv_w (VH (JX (Zh (Fx.Clx.cal Zp.pin u1) hr rfl (Zb (Za 1) (Zb (Za 0) Zf)))) (VH (JX (Zh (Fx.Clx.cal Zp.pin u1) hr rfl (Zb (Za 0) (Zb (Za 1) Zf)))) (Wd (ZE Qa (Yu rfl z.len (af 1)) (Yu rfl z.len (af 0)) (Zr _))))))
  (Zi (Zm Vn))
  Zv)
  (Zg (UL (N:=["_law_limit"]) (nv:=1) (cap:=[]) (i:=2) (YL rfl) rfl (ZS (by decide)) (Y1 (af 1)) (VY Zp) (λ_ _ _ _=>(ZG (i:=0) (nd1 _) rfl (yg rfl))) (λ_ _ _ _ hp1=>YB) (λ_ _ _ _ hp1=>(Z2 (Zb (YK (zbr rfl z.list (af 0))) (Zb (af 0) Zf)))) Y9.nd rfl (yg rfl))
  (Zg (Ww (U9 Zp) rfl (Xs rfl z.range (Yu rfl z.len (Za 2))) (ZG (i:=3) Y9.nd rfl (yg rfl))
  (Zg (Zwq 4 Y9.nd (Zh (Fx.Clx.cal Zp.pin u2) hr rfl (Zb (Za 1) (Zb (Za 3) Zf))))
  (Zi (Z8 (Fx.tv_w (VH (ZE (Vw hr.units) (af 4) Yo (Zr _)) (Wd (YH (Yj (Zh u0.cal hr rfl (Zb (Za 2) (Zb (Za 3) (Zb (af 0) (Zb (Za 4) Zf))))) (λ_=>rfl))))))
  (Zi (Zm Vn))
  Zv))))
  (Zi (Zm Vn))))))
abbrev XR:yk:=top 101
theorem Vp:ae ["_law_desk","_law_goal","_law_refused_here"] ["_law_desk","_law_goal"] (Ze XR):=fsk
theorem zdM{cl:Str->yb}{X_NoPoint:yc}(F:e.F "_law_refused" XR fa fd ["_law_desk","_law_goal"])(c_NoPoint:Fx.XCls e.K e.mg "NoPoint" X_NoPoint)(e_NoPoint:cl "NoPoint" = .ref X_NoPoint)(u_NoPoint_NoPoint:yaq e.K (.ref X_NoPoint) (.ref X_NoPoint)=some true)(u0:e.x cl k "tight" 1 Qz)(u1:e.x cl k "top" 2 zlM):e.c (k+1) "_law_refused" 2 WY:=F.q Vp λhr=>(Zg (Zwq 2 Vp.nd Zd)
  (Zg (Fx.ss_try (Fx.InFrame.wish Zp) u0 hr rfl (Zb (Za 0) Zf) c_NoPoint rfl (zdw e_NoPoint u_NoPoint_NoPoint zeF) (λ_=>
  (Zi (Zwq 2 Vp.nd (ZF YA (Za 2) Zd)))))
  (Zg (Fx.ss_try (Fx.InFrame.wish Zp) u1 hr rfl (Zb (Za 0) (Zb (Za 1) Zf)) c_NoPoint rfl (zdw e_NoPoint u_NoPoint_NoPoint zeF) (λ_=>
  (Zi (Zwq 2 Vp.nd (ZF YA (Za 2) Zd)))))
  (Zi (Zm (Wi (YY hr.units) (Za 2) Zd (Zr _)))))))
abbrev zeZ:yk:=top 102
theorem JK:ae ["_law_script","_law_desk","_law_kinds","_law_limits","_law_goal","_law_place","_law_answer","_law_point","_law_due"] ["_law_script"] (Ze zeZ):=fsk
theorem law_fn{cl:Str->yb}(F:Fun e.K "law" "law" zeZ fa fd)(z:Zuq e.mg)(u11:e.x cl k "_law_told" 1 Vl)(u4:e.c k "_law_cell_at" 2 Zy)(u8:e.c k "_law_number" 2 YD)(u15:e.x cl k "best" 2 Uk)(u1:e.c k "_law_best_walked" 3 Yc)(u13:e.x cl k "cover" 2 VL)(u0:e.c k "_law_cover_walked" 4 ZZ)(u2:e.x cl k "_law_lean_walked" 1 Xk)(u12:e.c k "judged" 1 Wl)(u5:e.c k "_law_clashes" 3 YM)(u6:e.c k "_law_refused" 2 WY)(u3:e.c k "_law_is_point" 2 Ya)(u9:e.c k "_law_keeps" 2 Yh)(u7:e.x cl k "well_within" 1 Yt)(u10:e.c k "_law_weigh" 2 Yg)(u14:e.x cl k "tight" 1 Qz):
  FnOk e.P e.w e.K e.mg e.base CX0 (k+1) fa fd ["_law_script"] (Fx.spF e.K none 1 zlN):=by
 exact Fx.fn_ok F JK rfl λcdv A outer s H E hr=>
  (Zg (Zwq 1 JK.nd (Zh (Fx.Clx.calN u11) hr rfl (Zb (Za 0) Zf)))
  (Zg (Zwq 2 JK.nd (af 1))
  (Zg (Zwq 3 JK.nd (YK (Xp (N:=["_law_limit"]) (nv:=1) (cap:=[]) (YL rfl) rfl (ZS (by decide)) (Y1 (af 1)) Yq (λ_ _ _ _=>(ZG (i:=0) (nd1 _) rfl (yg rfl))) (λ_ _ _ _ _=>YB) (λ_ _ _ _ _=>(Z2 (Zb (YK (zbr rfl z.list (af 0))) (Zb (af 0) Zf)))))))
  (Zg (UL (N:=["_law_k","_law_script"]) (nv:=1) (cap:=[0]) (i:=4) (YL rfl) rfl (ZS (by decide)) (Xs rfl z.range (Za 2)) Yq (λ_ _ _ _=>(ZG (i:=0) (show yK (["_law_k","_law_script"]:List Str) from by decide +kernel) rfl (yg rfl))) (λ_ _ _ _ _=>YB) (λ_ _ _ _ _=>(Zh u8.cal hr rfl (Zb (Zh u4.cal hr rfl (Zb (Za 1) (Zb (ZF YA Zd (Za 0)) Zf))) (Zb Zd Zf)))) JK.nd rfl (yg rfl))
  (Zg (Z8 (YH (Yj (Zh u1.cal hr rfl (Zb (Za 3) (Zb (Za 4) (Zb (Zh (Fx.Clx.calN u15) hr rfl (Zb (Za 1) (Zb (YK (zbr rfl z.list (Za 4))) Zf))) Zf)))) (λ_=>rfl)))
  (Zi (Zm Vn))
  Zv)
  (Zg (Zwq 5 JK.nd (Zh u4.cal hr rfl (Zb (Za 0) (Zb Zd Zf))))
  (Zg (Z8 (ZE (Vw hr.units) (Za 3) (zbN Zf) (Zr _))
  (Zg (Zwq 5 JK.nd (ZF Vg (Za 5) (Yu rfl z.len (Za 3))))
  (Zi (Z8 (YH (Yj (Zh u0.cal hr rfl (Zb (Za 3) (Zb (Za 5) (Zb (Za 2) (Zb (Zh (Fx.Clx.calN u13) hr rfl (Zb (Za 1) (Zb (Za 5) Zf))) Zf))))) (λ_=>rfl)))
  (Zi (Zm Vn))
  Zv)))
  Zv)
  (Zg (Z8 (Fx.tv_w (zf0 (ZE WU (Yu rfl z.len (Za 3)) Zd (Zr _)) (zeL (YH (Yj (Zh (Fx.Clx.calN u2) hr rfl (Zb (Za 1) Zf)) (λ_=>rfl))))))
  (Zi (Zm Vn))
  Zv)
  (Zg (Zwq 6 JK.nd (Zh u12.cal hr rfl (Zb (Za 1) Zf)))
  (Zg (Z8 (ZE (YY hr.units) (af 6) Yo (Zr _))
  (Zi (Zm (QK (Zh u5.cal hr rfl (Zb (Za 3) (Zb (af 6) (Zb (Za 2) Zf)))) (QJ (Zh u6.cal hr rfl (Zb (Za 1) (Zb (Za 4) Zf)))))))
  Zv)
  (Zg (Z8 (Fx.tv_w (VH (YH (Yj (Zh u3.cal hr rfl (Zb (af 6) (Zb (Za 2) Zf))) (λ_=>rfl))) (Wd (YH (Yj (Zh u9.cal hr rfl (Zb (Za 3) (Zb (af 6) Zf))) (λ_=>rfl))))))
  (Zi (Zm Vn))
  Zv)
  (Zg (Z8 (ZE Qa (Yu rfl z.len (Za 3)) Zd (Zr _))
  (Zi (Zm Vn))
  Zv)
  (Zg (Zwq 7 JK.nd (Zh (Fx.Clx.calN u7) hr rfl (Zb (Za 1) Zf)))
  (Zg (UL (N:=["_law_k","_law_limits","_law_point"]) (nv:=1) (cap:=[3,7]) (i:=8) (YL rfl) rfl (ZS (by decide)) (Xs rfl z.range (Yu rfl z.len (Za 3))) Yq (λ_ _ _ _=>(ZG (i:=0) (show yK (["_law_k","_law_limits","_law_point"]:List Str) from by decide +kernel) rfl (yg rfl))) (λ_ _ _ _ _=>(zeC (ZE (YY hr.units) (Zh u10.cal hr rfl (Zb (Zk (Zk (Za 1) (Za 0) (λ_ _=>rfl)) Zd (λ_ _=>rfl)) (Zb (Za 2) Zf))) (Z2 (Zb (Zk (Zk (Za 1) (Za 0) (λ_ _=>rfl)) Zd (λ_ _=>rfl)) (Zb Zd Zf))) (Zr _)))) (λ_ _ _ _ _=>(Za 0)) JK.nd rfl (yg rfl))
  (Zi (Zm (QK (Zh u3.cal hr rfl (Zb (Za 7) (Zb (Za 2) Zf))) (QK (Zh u9.cal hr rfl (Zb (Za 3) (Zb (Za 7) Zf))) (QJ (Wi (YY hr.units) (Zh (Fx.Clx.calN u14) hr rfl (Zb (Za 1) Zf)) (Za 8) (Zr _)))))))))))))))))))))
theorem all_mk{l:ydr}{w:y0}{K:yh}{h:yd}{mg:Str->Option yb}{fa:yc}(X:K.In h)(G:h.Ns yn mg)(hfa:mg "law"=some (.ref fa))
  
  {f26:yc}{p26 n26:Option yc}{h26:Array (Option yb)}{o26 v26 t26 s26 x26:yb}
  {tg_GREATEST_NUMBER:Tok}
  {tg_MOST_KINDS:Tok}
  {tg_MOST_LIMITS:Tok}
  {X_NoDesk:yc}
  {X_BadPoint:yc}
  {X_NoPlace:yc}
  {X_NoPoint:yc}
  {X_NoGoal:yc}
  {X_Unlike:yc}
  {C_Board fI_Board:yc}{odI_Board anI_Board:Option yc}{slI_Board:Array (Option yb)}{ocI_Board kVI_Board dcI_Board pmI_Board cdI_Board ctI_Board:yb}
  {cL_raising_column TL_raising_column:yc}{occ_raising_column:yb}{odc_raising_column:Option yc}{vsc_raising_column:Array yb}{slc_raising_column:Array (Option yb)}
  (a0:aTq K "is_whole" f0) (l0:lTq K "is_whole" Ua f0 o0 p0 v0 t0 s0 n0 m0 x0 h0) (c0:cTq K m0 "is_whole")(k0:kTq K f0)
  (a1:aTq K "common_divisor" f1) (l1:lTq K "common_divisor" Y7 f1 o1 p1 v1 t1 s1 n1 m1 x1 h1) (c1:cTq K m1 "common_divisor")(k1:kTq K f1)
  (a2:aTq K "is_fraction" f2) (l2:lTq K "is_fraction" XV f2 o2 p2 v2 t2 s2 n2 m2 x2 h2) (c2:cTq K m2 "is_fraction")(k2:kTq K f2)
  (a3:aTq K "frac" f3) (l3:lTq K "frac" zeb f3 o3 p3 v3 t3 s3 n3 m3 x3 h3) (c3:cTq K m3 "frac")(k3:kTq K f3)
  (a4:aTq K "plus" f4) (l4:lTq K "plus" zd6 f4 o4 p4 v4 t4 s4 n4 m4 x4 h4) (c4:cTq K m4 "plus")(k4:kTq K f4)
  (a5:aTq K "less" f5) (l5:lTq K "less" zd8 f5 o5 p5 v5 t5 s5 n5 m5 x5 h5) (c5:cTq K m5 "less")(k5:kTq K f5)
  (a6:aTq K "times" f6) (l6:lTq K "times" zbk f6 o6 p6 v6 t6 s6 n6 m6 x6 h6) (c6:cTq K m6 "times")(k6:kTq K f6)
  (a7:aTq K "over" f7) (l7:lTq K "over" zd7 f7 o7 p7 v7 t7 s7 n7 m7 x7 h7) (c7:cTq K m7 "over")(k7:kTq K f7)
  (a8:aTq K "below" f8) (l8:lTq K "below" zbq f8 o8 p8 v8 t8 s8 n8 m8 x8 h8) (c8:cTq K m8 "below")(k8:kTq K f8)
  (a9:aTq K "is_number" f9) (l9:lTq K "is_number" Vd f9 o9 p9 v9 t9 s9 n9 m9 x9 h9) (c9:cTq K m9 "is_number")(k9:kTq K f9)
  (a10:aTq K "limit_of" f10) (l10:lTq K "limit_of" V7 f10 o10 p10 v10 t10 s10 n10 m10 x10 h10) (c10:cTq K m10 "limit_of")(k10:kTq K f10)
  (a11:aTq K "desk_of" f11) (l11:lTq K "desk_of" U6 f11 o11 p11 v11 t11 s11 n11 m11 x11 h11) (c11:cTq K m11 "desk_of")(k11:kTq K f11)
  (a12:aTq K "check_point" f12) (l12:lTq K "check_point" XX f12 o12 p12 v12 t12 s12 n12 m12 x12 h12) (c12:cTq K m12 "check_point")(k12:kTq K f12)
  (a13:aTq K "check_place" f13) (l13:lTq K "check_place" XY f13 o13 p13 v13 t13 s13 n13 m13 x13 h13) (c13:cTq K m13 "check_place")(k13:kTq K f13)
  (a14:aTq K "weight" f14) (l14:lTq K "weight" Js f14 o14 p14 v14 t14 s14 n14 m14 x14 h14) (c14:cTq K m14 "weight")(k14:kTq K f14)
  (a15:aTq K "just" f15) (l15:lTq K "just" zea f15 o15 p15 v15 t15 s15 n15 m15 x15 h15) (c15:cTq K m15 "just")(k15:kTq K f15)
  (a16:aTq K "unit" f16) (l16:lTq K "unit" zd5 f16 o16 p16 v16 t16 s16 n16 m16 x16 h16) (c16:cTq K m16 "unit")(k16:kTq K f16)
  (a17:aTq K "room_row" f17) (l17:lTq K "room_row" V4 f17 o17 p17 v17 t17 s17 n17 m17 x17 h17) (c17:cTq K m17 "room_row")(k17:kTq K f17)
  (a18:aTq K "first_board" f18) (l18:lTq K "first_board" XW f18 o18 p18 v18 t18 s18 n18 m18 x18 h18) (c18:cTq K m18 "first_board")(k18:kTq K f18)
  (a19:aTq K "rooms_of" f19) (l19:lTq K "rooms_of" V2 f19 o19 p19 v19 t19 s19 n19 m19 x19 h19) (c19:cTq K m19 "rooms_of")(k19:kTq K f19)
  (a20:aTq K "worth_of" f20) (l20:lTq K "worth_of" V1 f20 o20 p20 v20 t20 s20 n20 m20 x20 h20) (c20:cTq K m20 "worth_of")(k20:kTq K f20)
  (a21:aTq K "swapped_row" f21) (l21:lTq K "swapped_row" XN f21 o21 p21 v21 t21 s21 n21 m21 x21 h21) (c21:cTq K m21 "swapped_row")(k21:kTq K f21)
  (a22:aTq K "swapped" f22) (l22:lTq K "swapped" U0 f22 o22 p22 v22 t22 s22 n22 m22 x22 h22) (c22:cTq K m22 "swapped")(k22:kTq K f22)
  (a23:aTq K "first_room_on" f23) (l23:lTq K "first_room_on" Xi f23 o23 p23 v23 t23 s23 n23 m23 x23 h23) (c23:cTq K m23 "first_room_on")(k23:kTq K f23)
  (a24:aTq K "freed" f24) (l24:lTq K "freed" zbo f24 o24 p24 v24 t24 s24 n24 m24 x24 h24) (c24:cTq K m24 "freed")(k24:kTq K f24)
  (a25:aTq K "helps" f25) (l25:lTq K "helps" zbn f25 o25 p25 v25 t25 s25 n25 m25 x25 h25) (c25:cTq K m25 "helps")(k25:kTq K f25)
  (a26:aTq K "raising_column" f26) (l26:K.lookup f26=some ⟨o26,p26,.func (yt "raising_column" "raising_column" (Zn Y5) (Zl Y5) (Ze Y5) .none v26 t26 s26 n26 (.ref cL_raising_column) x26),h26⟩) (c26:yw K (.ref cL_raising_column) "raising_column"=true) (k26:yq K (.ref f26)=true)
  (a27:aTq K "short_room" f27) (l27:lTq K "short_room" WA f27 o27 p27 v27 t27 s27 n27 m27 x27 h27) (c27:cTq K m27 "short_room")(k27:kTq K f27)
  (a28:aTq K "settled" f28) (l28:lTq K "settled" U1 f28 o28 p28 v28 t28 s28 n28 m28 x28 h28) (c28:cTq K m28 "settled")(k28:kTq K f28)
  (a29:aTq K "point_of" f29) (l29:lTq K "point_of" V5 f29 o29 p29 v29 t29 s29 n29 m29 x29 h29) (c29:cTq K m29 "point_of")(k29:kTq K f29)
  (a30:aTq K "shares_of" f30) (l30:lTq K "shares_of" W7 f30 o30 p30 v30 t30 s30 n30 m30 x30 h30) (c30:cTq K m30 "shares_of")(k30:kTq K f30)
  (a31:aTq K "clash_of" f31) (l31:lTq K "clash_of" Ub f31 o31 p31 v31 t31 s31 n31 m31 x31 h31) (c31:cTq K m31 "clash_of")(k31:kTq K f31)
  (a32:aTq K "judged" f32) (l32:lTq K "judged" Jw f32 o32 p32 v32 t32 s32 n32 m32 x32 h32) (c32:cTq K m32 "judged")(k32:kTq K f32)
  (a33:aTq K "some_point" f33) (l33:lTq K "some_point" Wz f33 o33 p33 v33 t33 s33 n33 m33 x33 h33) (c33:cTq K m33 "some_point")(k33:kTq K f33)
  (a34:aTq K "check_goal" f34) (l34:lTq K "check_goal" WG f34 o34 p34 v34 t34 s34 n34 m34 x34 h34) (c34:cTq K m34 "check_goal")(k34:kTq K f34)
  (a35:aTq K "sooner" f35) (l35:lTq K "sooner" Ju f35 o35 p35 v35 t35 s35 n35 m35 x35 h35) (c35:cTq K m35 "sooner")(k35:kTq K f35)
  (a36:aTq K "first_stop" f36) (l36:lTq K "first_stop" WE f36 o36 p36 v36 t36 s36 n36 m36 x36 h36) (c36:cTq K m36 "first_stop")(k36:kTq K f36)
  (a37:aTq K "way_of" f37) (l37:lTq K "way_of" Jt f37 o37 p37 v37 t37 s37 n37 m37 x37 h37) (c37:cTq K m37 "way_of")(k37:kTq K f37)
  (a38:aTq K "climbed" f38) (l38:lTq K "climbed" U7 f38 o38 p38 v38 t38 s38 n38 m38 x38 h38) (c38:cTq K m38 "climbed")(k38:kTq K f38)
  (a39:aTq K "best" f39) (l39:lTq K "best" zec f39 o39 p39 v39 t39 s39 n39 m39 x39 h39) (c39:cTq K m39 "best")(k39:kTq K f39)
  (a40:aTq K "top" f40) (l40:lTq K "top" zjo f40 o40 p40 v40 t40 s40 n40 m40 x40 h40) (c40:cTq K m40 "top")(k40:kTq K f40)
  (a41:aTq K "without" f41) (l41:lTq K "without" UZ f41 o41 p41 v41 t41 s41 n41 m41 x41 h41) (c41:cTq K m41 "without")(k41:kTq K f41)
  (a42:aTq K "with_nought" f42) (l42:lTq K "with_nought" XJ f42 o42 p42 v42 t42 s42 n42 m42 x42 h42) (c42:cTq K m42 "with_nought")(k42:kTq K f42)
  (a43:aTq K "moved" f43) (l43:lTq K "moved" zbm f43 o43 p43 v43 t43 s43 n43 m43 x43 h43) (c43:cTq K m43 "moved")(k43:kTq K f43)
  (a44:aTq K "point_beyond" f44) (l44:lTq K "point_beyond" Xz f44 o44 p44 v44 t44 s44 n44 m44 x44 h44) (c44:cTq K m44 "point_beyond")(k44:kTq K f44)
  (a45:aTq K "cover" f45) (l45:lTq K "cover" zbp f45 o45 p45 v45 t45 s45 n45 m45 x45 h45) (c45:cTq K m45 "cover")(k45:kTq K f45)
  (a46:aTq K "needless" f46) (l46:lTq K "needless" V6 f46 o46 p46 v46 t46 s46 n46 m46 x46 h46) (c46:cTq K m46 "needless")(k46:kTq K f46)
  (a47:aTq K "lean" f47) (l47:lTq K "lean" zd9 f47 o47 p47 v47 t47 s47 n47 m47 x47 h47) (c47:cTq K m47 "lean")(k47:kTq K f47)
  (a48:aTq K "keeps_just" f48) (l48:lTq K "keeps_just" WD f48 o48 p48 v48 t48 s48 n48 m48 x48 h48) (c48:cTq K m48 "keeps_just")(k48:kTq K f48)
  (a49:aTq K "roomiest" f49) (l49:lTq K "roomiest" V3 f49 o49 p49 v49 t49 s49 n49 m49 x49 h49) (c49:cTq K m49 "roomiest")(k49:kTq K f49)
  (a50:aTq K "halfway" f50) (l50:lTq K "halfway" U4 f50 o50 p50 v50 t50 s50 n50 m50 x50 h50) (c50:cTq K m50 "halfway")(k50:kTq K f50)
  (a51:aTq K "well_within" f51) (l51:lTq K "well_within" XM f51 o51 p51 v51 t51 s51 n51 m51 x51 h51) (c51:cTq K m51 "well_within")(k51:kTq K f51)
  (a52:aTq K "tight" f52) (l52:lTq K "tight" zbl f52 o52 p52 v52 t52 s52 n52 m52 x52 h52) (c52:cTq K m52 "tight")(k52:kTq K f52)
  (a53:aTq K "others" f53) (l53:lTq K "others" Jv f53 o53 p53 v53 t53 s53 n53 m53 x53 h53) (c53:cTq K m53 "others")(k53:kTq K f53)
  (a54:aTq K "joined" f54) (l54:lTq K "joined" Jx f54 o54 p54 v54 t54 s54 n54 m54 x54 h54) (c54:cTq K m54 "joined")(k54:kTq K f54)
  (a55:aTq K "limits_left" f55) (l55:lTq K "limits_left" XQ f55 o55 p55 v55 t55 s55 n55 m55 x55 h55) (c55:cTq K m55 "limits_left")(k55:kTq K f55)
  (a56:aTq K "divisor_of" f56) (l56:lTq K "divisor_of" WF f56 o56 p56 v56 t56 s56 n56 m56 x56 h56) (c56:cTq K m56 "divisor_of")(k56:kTq K f56)
  (a57:aTq K "least_bounds" f57) (l57:lTq K "least_bounds" XA f57 o57 p57 v57 t57 s57 n57 m57 x57 h57) (c57:cTq K m57 "least_bounds")(k57:kTq K f57)
  (a58:aTq K "whole_limit" f58) (l58:lTq K "whole_limit" XL f58 o58 p58 v58 t58 s58 n58 m58 x58 h58) (c58:cTq K m58 "whole_limit")(k58:kTq K f58)
  (a59:aTq K "dropped" f59) (l59:lTq K "dropped" U5 f59 o59 p59 v59 t59 s59 n59 m59 x59 h59) (c59:cTq K m59 "dropped")(k59:kTq K f59)
  (a60:aTq K "point_past" f60) (l60:lTq K "point_past" WB f60 o60 p60 v60 t60 s60 n60 m60 x60 h60) (c60:cTq K m60 "point_past")(k60:kTq K f60)
  (a61:aTq K "outside" f61) (l61:lTq K "outside" U2 f61 o61 p61 v61 t61 s61 n61 m61 x61 h61) (c61:cTq K m61 "outside")(k61:kTq K f61)
  (a62:aTq K "_law_cell_at" f62) (l62:lTq K "_law_cell_at" XU f62 o62 p62 v62 t62 s62 n62 m62 x62 h62) (c62:cTq K m62 "_law_cell_at")(k62:kTq K f62)
  (a63:aTq K "_law_number" f63) (l63:lTq K "_law_number" WC f63 o63 p63 v63 t63 s63 n63 m63 x63 h63) (c63:cTq K m63 "_law_number")(k63:kTq K f63)
  (a64:aTq K "_law_whole" f64) (l64:lTq K "_law_whole" W8 f64 o64 p64 v64 t64 s64 n64 m64 x64 h64) (c64:cTq K m64 "_law_whole")(k64:kTq K f64)
  (a65:aTq K "_law_divisor" f65) (l65:lTq K "_law_divisor" XS f65 o65 p65 v65 t65 s65 n65 m65 x65 h65) (c65:cTq K m65 "_law_divisor")(k65:kTq K f65)
  (a66:aTq K "_law_is_fraction" f66) (l66:lTq K "_law_is_fraction" YR f66 o66 p66 v66 t66 s66 n66 m66 x66 h66) (c66:cTq K m66 "_law_is_fraction")(k66:kTq K f66)
  (a67:aTq K "_law_is_point" f67) (l67:lTq K "_law_is_point" XB f67 o67 p67 v67 t67 s67 n67 m67 x67 h67) (c67:cTq K m67 "_law_is_point")(k67:kTq K f67)
  (a68:aTq K "_law_frac" f68) (l68:lTq K "_law_frac" V9 f68 o68 p68 v68 t68 s68 n68 m68 x68 h68) (c68:cTq K m68 "_law_frac")(k68:kTq K f68)
  (a69:aTq K "_law_add" f69) (l69:lTq K "_law_add" U3 f69 o69 p69 v69 t69 s69 n69 m69 x69 h69) (c69:cTq K m69 "_law_add")(k69:kTq K f69)
  (a70:aTq K "_law_weigh" f70) (l70:lTq K "_law_weigh" W9 f70 o70 p70 v70 t70 s70 n70 m70 x70 h70) (c70:cTq K m70 "_law_weigh")(k70:kTq K f70)
  (a71:aTq K "_law_below" f71) (l71:lTq K "_law_below" Vc f71 o71 p71 v71 t71 s71 n71 m71 x71 h71) (c71:cTq K m71 "_law_below")(k71:kTq K f71)
  (a72:aTq K "_law_keeps" f72) (l72:lTq K "_law_keeps" Vb f72 o72 p72 v72 t72 s72 n72 m72 x72 h72) (c72:cTq K m72 "_law_keeps")(k72:kTq K f72)
  (a73:aTq K "_law_are_shares" f73) (l73:lTq K "_law_are_shares" Y6 f73 o73 p73 v73 t73 s73 n73 m73 x73 h73) (c73:cTq K m73 "_law_are_shares")(k73:kTq K f73)
  (a74:aTq K "_law_taken" f74) (l74:lTq K "_law_taken" Va f74 o74 p74 v74 t74 s74 n74 m74 x74 h74) (c74:cTq K m74 "_law_taken")(k74:kTq K f74)
  (a75:aTq K "_law_clashes" f75) (l75:lTq K "_law_clashes" XT f75 o75 p75 v75 t75 s75 n75 m75 x75 h75) (c75:cTq K m75 "_law_clashes")(k75:kTq K f75)
  (a76:aTq K "_law_told" f76) (l76:lTq K "_law_told" V8 f76 o76 p76 v76 t76 s76 n76 m76 x76 h76) (c76:cTq K m76 "_law_told")(k76:kTq K f76)
  (a77:aTq K "_law_best_walked" f77) (l77:lTq K "_law_best_walked" YS f77 o77 p77 v77 t77 s77 n77 m77 x77 h77) (c77:cTq K m77 "_law_best_walked")(k77:kTq K f77)
  (a78:aTq K "_law_cover_walked" f78) (l78:lTq K "_law_cover_walked" YI f78 o78 p78 v78 t78 s78 n78 m78 x78 h78) (c78:cTq K m78 "_law_cover_walked")(k78:kTq K f78)
  (a79:aTq K "_law_lean_walked" f79) (l79:lTq K "_law_lean_walked" YQ f79 o79 p79 v79 t79 s79 n79 m79 x79 h79) (c79:cTq K m79 "_law_lean_walked")(k79:kTq K f79)
  (a80:aTq K "_law_refused" f80) (l80:lTq K "_law_refused" XR f80 o80 p80 v80 t80 s80 n80 m80 x80 h80) (c80:cTq K m80 "_law_refused")(k80:kTq K f80)
  (a81:aTq K "law" f81) (l81:lTq K "law" zeZ f81 o81 p81 v81 t81 s81 n81 m81 x81 h81) (c81:cTq K m81 "law")(k81:kTq K f81)
  (z_isinstance:yo K yn "isinstance"=some none)
  (z_int:yo K yn "int"=some none)
  (z_bool:yo K yn "bool"=some none)
  (z_abs:yo K yn "abs"=some none)
  (z_tuple:yo K yn "tuple"=some none)
  (z_len:yo K yn "len"=some none)
  (z_list:yo K yn "list"=some none)
  (z_all:yo K yn "all"=some none)
  (z_zip:yo K yn "zip"=some none)
  (z_enumerate:yo K yn "enumerate"=some none)
  (z_range:yo K yn "range"=some none)
  (z_min:yo K yn "min"=some none)
  (z_max:yo K yn "max"=some none)
  (g_GREATEST_NUMBER:yo K yn "GREATEST_NUMBER"=some (some (.int 999999999999 tg_GREATEST_NUMBER)))
  (g_MOST_KINDS:yo K yn "MOST_KINDS"=some (some (.int 4 tg_MOST_KINDS)))
  (g_MOST_LIMITS:yo K yn "MOST_LIMITS"=some (some (.int 10 tg_MOST_LIMITS)))
  (x_NoDesk:yo K yn "NoDesk"=some (some (.ref X_NoDesk))) (q_NoDesk:qy K X_NoDesk [.type "ValueError",.type "Exception",.type "BaseException",.type "object"] "ValueError.__new__"=true)
  (x_BadPoint:yo K yn "BadPoint"=some (some (.ref X_BadPoint))) (q_BadPoint:qy K X_BadPoint [.type "ValueError",.type "Exception",.type "BaseException",.type "object"] "ValueError.__new__"=true)
  (x_NoPlace:yo K yn "NoPlace"=some (some (.ref X_NoPlace))) (q_NoPlace:qy K X_NoPlace [.type "ValueError",.type "Exception",.type "BaseException",.type "object"] "ValueError.__new__"=true)
  (x_NoPoint:yo K yn "NoPoint"=some (some (.ref X_NoPoint))) (q_NoPoint:qy K X_NoPoint [.type "ValueError",.type "Exception",.type "BaseException",.type "object"] "ValueError.__new__"=true)
  (x_NoGoal:yo K yn "NoGoal"=some (some (.ref X_NoGoal))) (q_NoGoal:qy K X_NoGoal [.type "ValueError",.type "Exception",.type "BaseException",.type "object"] "ValueError.__new__"=true)
  (x_Unlike:yo K yn "Unlike"=some (some (.ref X_Unlike))) (q_Unlike:qy K X_Unlike [.type "ValueError",.type "Exception",.type "BaseException",.type "object"] "ValueError.__new__"=true)
  (u_NoPoint_NoPoint:yaq K (.ref X_NoPoint) (.ref X_NoPoint)=some true)
  (aC_Board:yo K yn "Board"=some (some (.ref C_Board))) (iI_Board:jG K (.ref C_Board) "__init__"=some (some (.ref fI_Board))) (jI_Board:PySem.W.isFn K (.ref fI_Board)=true) (lI_Board:K.lookup fI_Board=some ⟨ocI_Board,odI_Board,.func (yt "__init__" "Board.__init__" (Zn WH) (Zl WH) (Ze WH) .none kVI_Board dcI_Board pmI_Board anI_Board cdI_Board ctI_Board),slI_Board⟩) (cI_Board:yw K cdI_Board "Board.__init__"=true) (kI_Board:yq K (.ref fI_Board)=true)
  (pg_Board:yb4 K C_Board Str.empty=true) (hd_Board:yb0 K C_Board=true) (po_Board:ydg K C_Board=true) (sa_Board:jG K (.ref C_Board) "__setattr__"=some (some (.builtin "object.__setattr__"))) (mk_Board:ydp K C_Board=true) (kc_Board:yq K (.ref C_Board)=true)
  (nA0_Board:jG K (.ref C_Board) "heads"=some none)
  (nA1_Board:jG K (.ref C_Board) "divisor"=some none)
  (nA2_Board:jG K (.ref C_Board) "rows"=some none)
  (lc_raising_column:K.lookup cL_raising_column=some ⟨occ_raising_column,odc_raising_column,.fields vsc_raising_column,slc_raising_column⟩) (v11_raising_column:vsc_raising_column[11]? = some (.ref TL_raising_column)) (hno:yba K=true):
  ∃(fd:yM) (c T:yc),jA K "raising_column"=some (c,T)/\yba K=true/\(∀(s:ye) (v:yb),BindsTo s fd ⟨[v],[]⟩ [("_law_script",v)])/\∀base:yd,K.In base->base.Ns yn mg->zfW mg base->jX base c T->FnOk l.prog w K mg base CX0 12 fa fd ["_law_script"] (Fx.spF K none 1 zlN):=by
 have e:=hfa.symm.trans (yr X G a81);cases e;have F26:=Zs (st:=Y5) l26 c26 k26;have b26:=F26.binds (ps:=["board","thing"]) λ_ _ _ _ _ _ us hl=>match us,hl with|[_,_],_=>rfl
 have F81:=Zs (st:=zeZ) l81 c81 k81;have b81:=F81.binds (ps:=["_law_script"]) λ_ _ _ _ _ _ us hl=>match us,hl with|[_],_=>rfl
 have FI_Board:=Zs (st:=WH) lI_Board cI_Board kI_Board;have bI_Board:=FI_Board.binds (ps:=["self","heads","divisor","rows"]) λ_ _ _ _ _ _ us hl=>match us,hl with|[_,_,_,_],_=>rfl
 have tL_raising_column:jA K "raising_column"=some (cL_raising_column,TL_raising_column):=Fx.tab_mk a26 l26 rfl lc_raising_column v11_raising_column;have zu:Zuq mg:=⟨j4 X G z_abs,j4 X G z_all,j4 X G z_bool,j4 X G z_enumerate,j4 X G z_int,j4 X G z_isinstance,j4 X G z_len,j4 X G z_list,j4 X G z_max,j4 X G z_min,j4 X G z_range,j4 X G z_tuple,j4 X G z_zip⟩;have n_GREATEST_NUMBER:=yr X G g_GREATEST_NUMBER;have n_MOST_KINDS:=yr X G g_MOST_KINDS;have n_MOST_LIMITS:=yr X G g_MOST_LIMITS
 obtain⟨cl,hcl⟩:∃cl:Str->yb,cl "NoDesk" = .ref X_NoDesk/\cl "BadPoint" = .ref X_BadPoint/\cl "NoPlace" = .ref X_NoPlace/\cl "NoPoint" = .ref X_NoPoint/\cl "NoGoal" = .ref X_NoGoal/\cl "Unlike" = .ref X_Unlike/\True:=⟨λc=>if c = "NoDesk" then .ref X_NoDesk else if c = "BadPoint" then .ref X_BadPoint else if c = "NoPlace" then .ref X_NoPlace else if c = "NoPoint" then .ref X_NoPoint else if c = "NoGoal" then .ref X_NoGoal else if c = "Unlike" then .ref X_Unlike else .none,(if_pos rfl),((if_neg (by decide)).trans (if_pos rfl)),((if_neg (by decide)).trans ((if_neg (by decide)).trans (if_pos rfl))),((if_neg (by decide)).trans ((if_neg (by decide)).trans ((if_neg (by decide)).trans (if_pos rfl)))),((if_neg (by decide)).trans ((if_neg (by decide)).trans ((if_neg (by decide)).trans ((if_neg (by decide)).trans (if_pos rfl))))),((if_neg (by decide)).trans ((if_neg (by decide)).trans ((if_neg (by decide)).trans ((if_neg (by decide)).trans ((if_neg (by decide)).trans (if_pos rfl)))))),trivial⟩
 obtain⟨e_NoDesk,hcl⟩:=hcl;obtain⟨e_BadPoint,hcl⟩:=hcl;obtain⟨e_NoPlace,hcl⟩:=hcl;obtain⟨e_NoPoint,hcl⟩:=hcl;obtain⟨e_NoGoal,hcl⟩:=hcl;obtain⟨e_Unlike,hcl⟩:=hcl;have c_NoDesk:Fx.XCls K mg "NoDesk" X_NoDesk:=⟨yr X G x_NoDesk,q_NoDesk⟩;have c_BadPoint:Fx.XCls K mg "BadPoint" X_BadPoint:=⟨yr X G x_BadPoint,q_BadPoint⟩;have c_NoPlace:Fx.XCls K mg "NoPlace" X_NoPlace:=⟨yr X G x_NoPlace,q_NoPlace⟩;have c_NoPoint:Fx.XCls K mg "NoPoint" X_NoPoint:=⟨yr X G x_NoPoint,q_NoPoint⟩;have c_NoGoal:Fx.XCls K mg "NoGoal" X_NoGoal:=⟨yr X G x_NoGoal,q_NoGoal⟩;have c_Unlike:Fx.XCls K mg "Unlike" X_Unlike:=⟨yr X G x_Unlike,q_Unlike⟩;refine⟨yt "law" "law" (Zn zeZ) (Zl zeZ) (Ze zeZ) .none v81 t81 s81 n81 m81 x81,cL_raising_column,TL_raising_column,tL_raising_column,hno,λs v=>.of_eq rfl,λbase hKb _ hB hC=>?_⟩
 have L_raising_column:Fx.LamHyp K mg base "raising_column" cL_raising_column TL_raising_column:=⟨tL_raising_column,zeD tL_raising_column hKb hC,hB⟩;have hcode_raising_column:=PySem.W.law_code X G tL_raising_column (yr X G a26) (X _ _ l26) rfl;have M_Board:Fx.Mko l.prog w K mg base 1 "Board" ["heads","divisor","rows"]:=⟨C_Board,fI_Board,_,_,⟨mk_Board,iI_Board,jI_Board,kc_Board⟩,zfh FI_Board ⟨pg_Board,hd_Board,po_Board,sa_Board⟩ nA0_Board nA1_Board nA2_Board,yr X G aC_Board,bI_Board,⟨pg_Board,hd_Board,po_Board,sa_Board⟩,λn hn=>by
  rcases yG.mp hn with rfl|hn
  ·exact nA0_Board
  ·rcases yG.mp hn with rfl|hn
   ·exact nA1_Board
   ·rw[ql.mp hn];exact nA2_Board⟩
 let E:Enq:=⟨l.prog,w,K,mg,base⟩;have r0:=zhC 0 E (Bq1 "value" X G a0 l0 c0 k0) zu;have r1:=zbv 0 E (Bq2 "a" "b" X G a1 l1 c1 k1) zu;have r2:=zdQ 1 E (Bq1 "value" X G a2 l2 c2 k2) zu r0.up r1.up
 have r3:=ok_frac 1 E (Bq2 "upper" "lower" X G a3 l3 c3 k3) r1.up
 have r4:=ok_plus 2 E (Bq2 "a" "b" X G a4 l4 c4 k4) r3.up
 have r5:=ok_less 2 E (Bq2 "a" "b" X G a5 l5 c5 k5) r3.up
 have r6:=ok_times 2 E (Bq2 "a" "b" X G a6 l6 c6 k6) r3.up
 have r7:=ok_over 2 E (Bq2 "a" "b" X G a7 l7 c7 k7) r3.up
 have r8:=ok_below 0 E (Bq2 "a" "b" X G a8 l8 c8 k8) ;have r9:=zgq 1 E (Bq1 "value" X G a9 l9 c9 k9) zu ⟨_,n_GREATEST_NUMBER⟩ r0.up
 have r10:=zhz 2 E (cl:=cl) (Bq2 "kinds" "limit" X G a10 l10 c10 k10) zu c_NoDesk e_NoDesk r9.up
 have r11:=zjB 3 E (cl:=cl) (Bq2 "kinds" "limits" X G a11 l11 c11 k11) zu ⟨_,n_MOST_KINDS⟩ ⟨_,n_MOST_LIMITS⟩ c_NoDesk e_NoDesk r0.up r10.up
 have r12:=zdS 2 E (cl:=cl) (Bq2 "kinds" "point" X G a12 l12 c12 k12) zu c_BadPoint e_BadPoint r2.up
 have r13:=zdT 1 E (cl:=cl) (Bq2 "count" "place" X G a13 l13 c13 k13) c_NoPlace e_NoPlace r0.up
 have r14:=zk8 3 E (Bq2 "weights" "point" X G a14 l14 c14 k14) zu r3.up r4.up
 have r15:=ok_just 4 E (cl:=cl) (Bq2 "desk" "point" X G a15 l15 c15 k15) zu r12.up r14.up
 have r16:=ok_unit 0 E (Bq2 "length" "place" X G a16 l16 c16 k16) ;have r17:=zhw 0 E (Bq1 "limit" X G a17 l17 c17 k17) ;have r18:=zdR 0 E (Bq2 "desk" "goal" X G a18 l18 c18 k18) zu r16.up r17.up M_Board.up
 have r19:=zhu 0 E (Bq1 "board" X G a19 l19 c19 k19) zu;have r20:=zht 0 E (Bq1 "board" X G a20 l20 c20 k20) zu;have r21:=zdK 0 E (Bq4 "row" "line" "column" "divisor" X G a21 l21 c21 k21) zu;have r22:=zjv 0 E (Bq3 "board" "thing" "column" X G a22 l22 c22 k22) zu r21.up M_Board.up
 have r23:=zb9 1 E (Bq2 "board" "column" X G a23 l23 c23 k23) r19.up
 have r24:=ok_freed 3 E (Bq1 "board" X G a24 l24 c24 k24) zu r23.up r22.up
 have r25:=ok_helps 0 E (Bq3 "board" "column" "number" X G a25 l25 c25 k25) zu;have r26:=zbt 0 E F26 (yr X G a26) b26 zu r25.up L_raising_column hcode_raising_column
 have r27:=zfa 1 E (Bq1 "board" X G a27 l27 c27 k27) r19.up
 have r28:=zjw 4 E (Bq2 "desk" "goal" X G a28 l28 c28 k28) r18.up r24.up r27.up r26.up r22.up
 have r29:=zhx 2 E (Bq1 "board" X G a29 l29 c29 k29) zu r3.up
 have r30:=zgk 2 E (Bq2 "board" "thing" X G a30 l30 c30 k30) zu r19.up r3.up
 have r31:=zhD 3 E (Bq2 "board" "thing" X G a31 l31 c31 k31) zu r30.up
 have r32:=zlc 5 E (Bq1 "desk" X G a32 l32 c32 k32) r28.up r29.up r31.up
 have r33:=ze9 6 E (cl:=cl) (Bq1 "desk" X G a33 l33 c33 k33) c_NoPoint e_NoPoint r32.up
 have r34:=zfg 1 E (cl:=cl) (Bq2 "kinds" "goal" X G a34 l34 c34 k34) zu c_NoGoal e_NoGoal r0.up
 have r35:=zla 0 E (Bq3 "row" "other" "column" X G a35 l35 c35 k35) ;have r36:=zfe 1 E (Bq2 "board" "column" X G a36 l36 c36 k36) r19.up r35.up
 have r37:=zk9 2 E (Bq2 "board" "column" X G a37 l37 c37 k37) zu r20.up r3.up
 have r38:=zjC 3 E (Bq1 "board" X G a38 l38 c38 k38) r20.up r26.up r36.up r29.up r37.up r22.up r30.up
 have r39:=ok_best 5 E (cl:=cl) (Bq2 "desk" "goal" X G a39 l39 c39 k39) r34.up r28.up r31.up r38.up
 have r40:=ok_top 6 E (cl:=cl) (Bq2 "desk" "goal" X G a40 l40 c40 k40) c_NoPoint e_NoPoint r39.up r14.up
 have r41:=zju 0 E (Bq2 "desk" "place" X G a41 l41 c41 k41) ;have r42:=zdH 0 E (Bq2 "shares" "place" X G a42 l42 c42 k42) ;have r43:=ok_moved 3 E (Bq3 "point" "way" "often" X G a43 l43 c43 k43) zu r6.up r4.up
 have r44:=zcF 4 E (Bq3 "limit" "point" "way" X G a44 l44 c44 k44) r14.up r5.up r8.up r7.up r4.up r43.up
 have r45:=ok_cover 6 E (cl:=cl) (Bq2 "desk" "place" X G a45 l45 c45 k45) zu r13.up r41.up r39.up r42.up r44.up r14.up r8.up
 have r46:=zhy 7 E (cl:=cl) (Bq2 "desk" "place" X G a46 l46 c46 k46) r45.up
 have r47:=ok_lean 8 E (cl:=cl) (Bq1 "desk" X G a47 l47 c47 k47) zu r46.up r41.up
 have r48:=zfd 4 E (Bq2 "limit" "point" X G a48 l48 c48 k48) r14.up
 have r49:=zhv 6 E (cl:=cl) (Bq2 "desk" "limit" X G a49 l49 c49 k49) r39.up r43.up
 have r50:=zjz 3 E (Bq2 "one" "other" X G a50 l50 c50 k50) zu r4.up r6.up
 have r51:=zdJ 7 E (cl:=cl) (Bq1 "desk" X G a51 l51 c51 k51) r33.up r48.up r49.up r50.up
 have r52:=ok_tight 8 E (cl:=cl) (Bq1 "desk" X G a52 l52 c52 k52) r51.up r15.up
 have r53:=zlb 0 E (Bq2 "weights" "kind" X G a53 l53 c53 k53) ;have r54:=zld 1 E (Bq3 "upper" "lower" "kind" X G a54 l54 c54 k54) zu r53.up
 have r55:=zdL 2 E (Bq2 "limits" "kind" X G a55 l55 c55 k55) r53.up r54.up
 have r56:=zff 1 E (Bq1 "weights" X G a56 l56 c56 k56) zu r1.up
 have r57:=zcG 2 E (Bq1 "limits" X G a57 l57 c57 k57) zu r56.up r3.up r8.up
 have r58:=zdI 0 E (Bq2 "weights" "bound" X G a58 l58 c58 k58) zu;have r59:=zjA 9 E (cl:=cl) (Bq2 "desk" "kind" X G a59 l59 c59 k59) zu c_NoPlace e_NoPlace r13.up r47.up r55.up r57.up r58.up
 have r60:=zfb 6 E (cl:=cl) (Bq2 "desk" "limit" X G a60 l60 c60 k60) zu r39.up r44.up r14.up r8.up
 have r61:=zjx 7 E (cl:=cl) (Bq2 "one" "other" X G a61 l61 c61 k61) c_Unlike e_Unlike r60.up
 have r62:=zdP 0 E (Bq2 "_law_script" "_law_k" X G a62 l62 c62 k62) zu;have r63:=zfc 0 E (Bq2 "_law_cell" "_law_wide" X G a63 l63 c63 k63) ;have r64:=zgl 0 E (Bq1 "_law_found" X G a64 l64 c64 k64) zu;have r65:=zdN 0 E (Bq2 "_law_a" "_law_b" X G a65 l65 c65 k65) zu;have r66:=zaE 1 E (Bq1 "_law_found" X G a66 l66 c66 k66) zu r64.up r65.up
 have r67:=zcH 2 E (Bq2 "_law_found" "_law_kinds" X G a67 l67 c67 k67) zu r66.up
 have r68:=zhB 1 E (Bq2 "_law_upper" "_law_lower" X G a68 l68 c68 k68) r65.up
 have r69:=zjy 2 E (Bq3 "_law_a" "_law_b" "_law_many" X G a69 l69 c69 k69) r68.up
 have r70:=zgm 3 E (Bq2 "_law_weights" "_law_point" X G a70 l70 c70 k70) zu r69.up
 have r71:=zgp 0 E (Bq2 "_law_a" "_law_b" X G a71 l71 c71 k71) ;have r72:=zgo 4 E (Bq2 "_law_limits" "_law_point" X G a72 l72 c72 k72) r70.up r71.up
 have r73:=zbu 3 E (Bq2 "_law_found" "_law_many" X G a73 l73 c73 k73) r67.up
 have r74:=zgn 3 E (Bq3 "_law_limits" "_law_shares" "_law_kinds" X G a74 l74 c74 k74) zu r69.up
 have r75:=zdO 4 E (Bq3 "_law_limits" "_law_shares" "_law_kinds" X G a75 l75 c75 k75) zu r73.up r74.up
 have r76:=zhA 10 E (cl:=cl) (Bq1 "_law_script" X G a76 l76 c76 k76) zu r62.up r63.up r11.up r59.up
 have r77:=zaF 5 E (Bq3 "_law_limits" "_law_goal" "_law_answer" X G a77 l77 c77 k77) zu r75.up r67.up r72.up r74.up r73.up r70.up
 have r78:=zad 5 E (Bq4 "_law_limits" "_law_place" "_law_kinds" "_law_answer" X G a78 l78 c78 k78) zu r75.up r67.up r72.up r73.up r74.up r71.up
 have r79:=zaD 9 E (cl:=cl) (Bq1 "_law_desk" X G a79 l79 c79 k79) zu r47.up r61.up r45.up r78.up
 have r80:=zdM 9 E (cl:=cl) (Bq2 "_law_desk" "_law_goal" X G a80 l80 c80 k80) c_NoPoint e_NoPoint u_NoPoint_NoPoint r52.up r40.up
 exact law_fn _ E F81 zu r76.up r62.up r63.up r39.up r77.up r45.up r78.up r79.up r32.up r75.up r80.up r67.up r72.up r51.up r70.up r52.up
end K23
namespace K11
open PySem Fx Lw Lq
abbrev nH(mb n0 K:Nat):Nat:=2 * wSz mb n0 K+2 * n0+(mb+4)
structure Dh(K B n0 mb:Nat)(ls:List Lim):Prop where
 k1:1<=K
 k4:K<=4
 len:ls.length<=200
 w:∀l∈ls,l.1.length=K
 b1:1<=B
 m0:0<mb
 bm:B<2 ^ mb
 sz:∀l∈ls,(∀x∈l.1,x.natAbs<=B)/\l.2.natAbs<=B
 z:Sx.fact (K+1) * B ^ (K+1)<2 ^ n0
 n1:1<=n0
 n:n0<=1000
 cov:wSz mb (2 * wSz mb n0 K+2 * n0+(mb+4)) K+mb+(2 * wSz mb n0 K+2 * n0+(mb+4))<8000
section
variable {K B n0 mb p:Nat}{ls ls':List Lim}
theorem Dh.dk(d:Dh K B n0 mb ls):DK K ls.length B n0 ls:=by
 have h1:=d.k4;have h2:=d.len;have h3:=d.n;refine⟨by omega,by omega,rfl,d.w,d.b1,d.sz,d.z,by omega,?_⟩
 exact jk (yE (Nat.pow_le_pow_left (show K+ls.length+1<=205 by omega) K) (Nat.pow_le_pow_right (by decide) h1)) (by decide)
theorem Dh.sub(d:Dh K B n0 mb ls)(h:∀l∈ls',l∈ls)(hl:ls'.length<=ls.length):Dh K B n0 mb ls':=
 ⟨d.k1,d.k4,yE hl d.len,λl hm=>d.w l (h l hm),d.b1,d.m0,d.bm,λl hm=>d.sz l (h l hm),d.z,d.n1,d.n,d.cov⟩
theorem Dh.oth(d:Dh K B n0 mb ls)(hp:p<ls.length):Dh K B n0 mb (oth ls p):=d.sub (λl hm=>Uh hm) (by rw[VI hp];omega)
theorem Dh.w40(d:Dh K B n0 mb ls){l:Lim}(h:l∈ls):(∀x∈l.1,x.natAbs<2 ^ mb)/\l.2.natAbs<2 ^ mb:=
 ⟨λx hx=>jk ((d.sz l h).1 x hx) d.bm,jk (d.sz l h).2 d.bm⟩
end
section
variable {K B n0 mb p:Nat}{ls:List Lim}
theorem Wj{l:Lim}{ps ws:List Rat}{os:List Lim}(w40:(∀x∈l.1,x.natAbs<2 ^ mb)/\l.2.natAbs<2 ^ mb)(hl:l.1.length=K)(hK:K<=4)(q:Pt K n0 os ps)(y:Wy K n0 os l.1 ws)
  (hn:n0<=1000) (m0:0<mb) (hc:wSz mb (2 * wSz mb n0 K+2 * n0+(mb+4)) K+mb+(2 * wSz mb n0 K+2 * n0+(mb+4))<8000):
  ∃qs,Pt K (2 * wSz mb n0 K+2 * n0+(mb+4)) os qs/\(l.2:Rat)<dot l.1 qs/\Zx [aq l,.list (ps.map fr),.list (ws.map fr)]=.ok (.list (qs.map fr)):=by
 have lp:=q.len;have lw:=y.len;have wp:WP mb n0 l.1 ps:=⟨w40.1,q.sz,m0,by omega⟩
 have ww:WP mb n0 l.1 ws:=⟨w40.1,y.sz,m0,by omega⟩
 have s1:=wp.sz K (by omega)
 have s2:=ww.sz K (by omega)
 have t1:dot (l.1.take K) (ps.take K)=dot l.1 ps:=by rw[<- hl,jd,hl,<- lp,jd]
 have t2:dot (l.1.take K) (ws.take K)=dot l.1 ws:=by rw[<- hl,jd,hl,<- lw,jd]
 rw[t1]at s1;rw[t2]at s2;have X:wSz mb n0 K+mb+n0<8000:=by omega
 have e1:=UW (t:=.tuple (l.1.map .int)) (.inr rfl) wp (by rw[lp];exact X)
 have e2:=UW (t:=.tuple (l.1.map .int)) (.inr rfl) ww (by rw[lw];exact X)
 have sb:=Sz.ofInt w40.2 m0;have e3:=less_ok sb s1 (by omega)
 have sr:=sb.sub s1;have e4:=za9 sr Sz.zero (by omega)
 by_cases hr:(l.2:Rat) - dot l.1 ps<0
 ·refine⟨ps,⟨lp,λx hx=>(q.sz x hx).mono (by omega),q.kp⟩,by grind,?_⟩
  rw[decide_eq_true hr]at e4;simp[Zx,Z0,ZC,ah,ai,aq,at0,at1,e1,Vy,VJ,e3,e4]
 ·rw[decide_eq_false hr]at e4;have hg:=y.g;have hg0:dot l.1 ws≠0:=by grind
  have e5:=over_ok sr s2 (by omega) hg0
  have so:=Sz.divS sr s2 hg0;have s11:Sz 1 ((1:Int):Rat):=Sz.ofInt (by decide) (by decide)
  have e6:=ze7 so s11 (by omega)
  have st:=so.add s11;have e7:=Wk q.sz y.sz st (by omega) (by omega)
  have dm:=λw:List Int=>zlU (t:=((l.2:Rat) - dot l.1 ps) / dot l.1 ws+((1:Int):Rat)) w ps ws (by omega)
  have hnn:=div_nn' (a:=(l.2:Rat) - dot l.1 ps) (by grind) hg
  have one:(((1:Int):Rat))=1:=rfl;refine⟨mv ps ws (((l.2:Rat) - dot l.1 ps) / dot l.1 ws+((1:Int):Rat)),⟨by simp[mv];omega,λx hx=>?_,λo ho=>?_⟩,?_,?_⟩
  ·obtain⟨z,hz,rfl⟩:=yR.mp hx;exact((q.sz _ (j1 hz).1).add (st.mul (y.sz _ (j1 hz).2))).mono (by omega)
  ·rw[dm];have h1:=q.kp o ho;have h2:=y.l o ho;have h3:=ybi h2 (show 0<=((l.2:Rat) - dot l.1 ps) / dot l.1 ws+((1:Int):Rat) by rw[one];grind)
   rw[ybc]at h3
   grind
  ·rw[dm];have h1:=zbP (a:=(l.2:Rat) - dot l.1 ps) hg0;rw[Rat.add_mul,h1,one,ybf]
   grind
  ·simp only[Zx,Z0,ZC,ZL,ZK,ah,ai,aq];simp[at0,at1,e1,e2,Vy,VJ,e3,e4,e5];simp only[show((1:Int):Rat)=1 from rfl]at e6 e7 ⊢;simp[e6,e7]
end
section
variable {K B n0 mb:Nat}{ls:List Lim}
theorem zar(q:Rat):∃n,Sz n q:=by
 refine⟨q.num.natAbs+q.den,?_,?_⟩
 ·exact jk (ya7 _ _) Nat.lt_two_pow_self
 ·exact jk (Nat.le_add_left _ _) Nat.lt_two_pow_self
theorem UK:∀ps:List Rat,∃n,∀q∈ps,Sz n q
 |[]=>⟨0,by simp⟩
 |p::ps=>by
  obtain⟨n,h⟩:=UK ps;obtain⟨k,hk⟩:=zar p;refine⟨max n k,λq hq=>?_⟩
  rcases yG.mp hq with rfl|hq
  ·exact hk.mono (Nat.le_max_right _ _)
  ·exact(h q hq).mono (Nat.le_max_left _ _)
def Kp(ls:List Lim)(ps:List Rat):Prop:=∀l∈ls,dot l.1 ps<=(l.2:Rat)
end
theorem Wr(i j:Int):fEq (.int i) (.int j)=.ok (.bool (decide (i=j))):=by simp[fEq]
theorem zcm{α:Type}{st:ya->List Sl->Res (List Sl)}{c:DT}{e:DE}{C:List Sl}(inj f:α->ya)(p:α->Bool):∀(xs:List α),(∀x∈xs,∃G1,st (inj x) C=.ok G1/\c G1=.ok (p x)/\(p x=true->e G1=.ok (f x)))->Xf st c e C (xs.map inj)=.ok ((xs.filter p).map f)
 |[],_=>rfl
 |x::xs,h=>by
  obtain⟨G1,e1,e2,e3⟩:=h x yX;have ih:=zcm inj f p xs λx hx=>h x (yS _ hx)
  rw[yH];unfold Xf;cases hp:p x with
  |true=>
   rw[hp]at e2;simp[e1,e2,e3 hp,ih,hp]
  |false=>
   rw[hp]at e2;simp[e1,e2,ih,hp]
theorem others_t{w:List Int}{k:Nat}(hk:k<w.length)(hl:w.length<=1000):YC [.tuple (w.map .int),.int k]=.ok (.tuple ((oth w k).map .int)):=by
 have c1:=zeB (xs:=w.map .int) (p:=k) (by simp;omega)
 have c2:=zgU (xs:=w.map .int) (p:=k+1) (by simp;omega)
 rw[show((k+1:Nat):Int)=(k:Int)+1 by omega]at c2
 have n1:¬(sIxT w.length 0 none=0/\sIxT w.length w.length (some (k:Int))=w.length):=by
  have:¬((k:Int)<0):=by omega
  simp only[sIxT,if_neg this];omega
 have n2:¬(sIxT w.length 0 (some ((k:Int)+1))=0/\sIxT w.length w.length none=w.length):=by
  have:¬((k:Int)+1<0):=by omega
  simp only[sIxT,if_neg this];omega
 have h3:min k w.length+(w.length - (k+1))<=16777216:=by omega
 simp only[YC,XD,ah,ai,ak,dJ,d2,dL,oCut,zgT,aa,dC,pNo,pAt,ag,aF,az,yau,ju,yds,y3,jF];simp[n1,n2,c1,c2,h3,oth,-not_and]
theorem others_l{w:List Int}{k:Nat}(hk:k<w.length)(hl:w.length<=1000):YC [.list (w.map .int),.int k]=.ok (.list ((oth w k).map .int)):=by
 have c1:=zeB (xs:=w.map .int) (p:=k) (by simp;omega)
 have c2:=zgU (xs:=w.map .int) (p:=k+1) (by simp;omega)
 rw[show((k+1:Nat):Int)=(k:Int)+1 by omega]at c2
 have h3:min k w.length+(w.length - (k+1))<=16777216:=by omega
 simp[YC,XD,ah,ai,c1,c2,h3,oth]
def cK(k:Nat)(l:Lim):Int:=l.1.getD k 0
def jn(k:Nat)(u l:Lim):Lim:=(oth (qA (λa b=>(-cK k l) * a+cK k u * b) u.1 l.1) k,(-cK k l) * u.2+cK k u * l.2)
theorem at_k{l:Lim}{k:Nat}(h:k<l.1.length):atP (l.1.map .int) (k:Int)=some (.int (cK k l)):=by rw[XI h,zaK (d:=0) h];rfl
theorem zfX(xs ys:List Int):zipT (xs.map .int) (ys.map .int)=(xs.zip ys).map λp=>ya.tuple [.int p.1,.int p.2]:=by
 induction xs generalizing ys with
 |nil=>rfl
 |cons x xs ih=>cases ys with
  |nil=>rfl
  |cons y ys=>simp only[yH,zipT,List.zip_cons_cons,ih]
theorem zly{u l:Lim}{k K:Nat}(hk:k<K)(hK:K<=4)(hu:u.1.length=K)(hl:l.1.length=K)(su:(cK k u).natAbs<18446744073709551616)(sl:(cK k l).natAbs<18446744073709551616):Y0 [aq u,aq l,.int k]=.ok (ao (jn k u l)):=by
 have i1:=at_k (l:=u) (k:=k) (by omega)
 have i2:=at_k (l:=l) (k:=k) (by omega)
 have o1:∀x:Int,Xj (-cK k l) x=true:=λx=>zbx (by omega)
 have o2:∀x:Int,Xj (cK k u) x=true:=λx=>zbx su
 have e:=Yv (st:=Uv 0 1) (e:=(d2 aF (d2 aA (aa 2) (aa 0)) (d2 aA (aa 3) (aa 1)))) (C:=[.emp,.emp,.val (.int (-cK k l)),.val (.int (cK k u))]) (λp:Int×Int=>ya.tuple [.int p.1,.int p.2]) (λp=>.int ((-cK k l) * p.1+cK k u * p.2)) (u.1.zip l.1) λp hm=>⟨[.val (.int p.1),.val (.int p.2),.val (.int (-cK k l)),.val (.int (cK k u))],rfl,by simp[o1,o2]⟩
 rw[<- zfX]at e;have e2:((u.1.zip l.1).map λp=>ya.int ((-cK k l) * p.1+cK k u * p.2))=(qA (λa b=>(-cK k l) * a+cK k u * b) u.1 l.1).map .int:=by
  rw[List.zip_eq_zipWith,List.map_zipWith,List.map_zipWith]
 rw[e2]at e;have hz:(zipT (u.1.map .int) (l.1.map .int)).length<=16777216:=by rw[zfX];simp;omega
 have hw:(qA (λa b=>(-cK k l) * a+cK k u * b) u.1 l.1).length=K:=by simp[hu,hl]
 have e3:=others_l (w:=qA (λa b=>(-cK k l) * a+cK k u * b) u.1 l.1) (k:=k) (by omega) (by omega)
 have lj:ao (jn k u l)=.tuple [.list ((oth (qA (λa b=>(-cK k l) * a+cK k u * b) u.1 l.1) k).map .int),.int ((-cK k l) * u.2+cK k u * l.2)]:=rfl
 rw[lj];generalize (qA (λa b=>(-cK k l) * a+cK k u * b) u.1 l.1)=W at *
 simp only[aq];simp[Y0,X6,YW,YV,YU,ah,ai,at0,at1,i1,i2,hz,e,e3,o1,o2]
def z0(k:Nat)(l:Lim):Bool:=decide (cK k l=0)
def zU(k:Nat)(l:Lim):Bool:=decide (0<cK k l)
def zL(k:Nat)(l:Lim):Bool:=decide (cK k l<0)
def lim0(k:Nat)(l:Lim):Lim:=(oth l.1 k,l.2)
def limX(x:Bool×Lim):ya:=if x.1 then aq x.2 else ao x.2
def Ui(k:Nat)(ls:List Lim):List (Bool×Lim):=((ls.filter (z0 k)).map λl=>(true,lim0 k l))++(ls.filter (zU k)).flatMap λu=>(ls.filter (zL k)).map λl=>(false,jn k u l)
def bL:DS:=(dExt 2 (Y4 1 [5,1] (Zt 0) (av (aa 4)) tT (Zj Y0 (Zc (aa 1) (Zc (aa 0) (Zc (aa 2) ac))))))
theorem zgw{ls:List Lim}{k K:Nat}(hk:k<K)(hK:K<=4)(hl:ls.length<=40)(hw:∀l∈ls,l.1.length=K)(hs:∀l∈ls,(cK k l).natAbs<18446744073709551616)(t0 t3:ya):∀(us:List Lim) (xs:List (Bool×Lim)) (s5:Sl),(∀u∈us,u∈ls)->xs.length+40 * us.length<=10000 ->
  ∃s5',forL (Zt 5) bL (us.map aq) [.val t0,.val (.int k),.own (xs.map limX),.val t3,.val (.list ((ls.filter (zL k)).map aq)),s5]=.ok (.nx [.val t0,.val (.int k),.own ((xs++us.flatMap λu=>(ls.filter (zL k)).map λl=>(false,jn k u l)).map limX),.val t3,.val (.list ((ls.filter (zL k)).map aq)),s5'])
 |[],xs,s5,_,_=>⟨s5,by simp[forL]⟩
 |u::us,xs,s5,hu,hx=>by
  have hm:=hu u yX;have e:=Yv (st:=Zt 0) (e:=(Zj Y0 (Zc (aa 1) (Zc (aa 0) (Zc (aa 2) ac))))) (C:=[.emp,.val (aq u),.val (.int k)]) aq (λl=>limX (false,jn k u l)) (ls.filter (zL k)) λl hl'=>by
   have hl2:=(j8.mp hl').1;have j:=zly hk hK (hw u hm) (hw l hl2) (hs u hm) (hs l hl2);exact⟨[.val (aq l),.val (aq u),.val (.int k)],rfl,by simp[j,limX]⟩
  have hf:(ls.filter (zL k)).length<=40:=yE (qa _ _) hl;have hf2:((ls.filter (zL k)).map aq).length<=16777216:=by simp;omega
  rw[ju]at hx;obtain⟨s5',ih⟩:=zgw hk hK hl hw hs t0 t3 us (xs++(ls.filter (zL k)).map λl=>(false,jn k u l)) (.val (aq u)) (λu h=>hu u (yS _ h)) (by simp;omega)
  refine⟨s5',?_⟩;have em:((ls.filter (zL k)).map λl=>limX (false,jn k u l))=((ls.filter (zL k)).map λl=>(false,jn k u l)).map limX:=by rw[jf];rfl
  rw[em]at e;have hz:(xs.map limX).length+(((ls.filter (zL k)).map λl=>(false,jn k u l)).map limX).length<=16777216:=by simp;omega
  have ef:((u::us).flatMap λu=>(ls.filter (zL k)).map λl=>(false,jn k u l))=((ls.filter (zL k)).map λl=>(false,jn k u l))++us.flatMap λu=>(ls.filter (zL k)).map λl=>(false,jn k u l):=by simp
  rw[ef,<- yb2,yH];generalize hF:(ls.filter (zL k)).map aq=F at *
  generalize ((ls.filter (zL k)).map λl=>(false,jn k u l))=J at *
  have eb:bL [.val t0,.val (.int k),.own (xs.map limX),.val t3,.val (.list F),.val (aq u)]=.ok (.nx [.val t0,.val (.int k),.own ((xs++J).map limX),.val t3,.val (.list F),.val (aq u)]):=by
   rw[yb9];generalize xs.map limX=A at *
   generalize J.map limX=Bx at *
   simp[bL,hf2,e,hz]
  unfold forL;simp only[Zt,yav,Res.bind_ok,eb,ih]
theorem Qu{ls:List Lim}{k K:Nat}(hk:k<K)(hK:K<=4)(hl:ls.length<=40)(hw:∀l∈ls,l.1.length=K)(hs:∀l∈ls,(cK k l).natAbs<18446744073709551616):ZU [.tuple (ls.map aq),.int k]=.ok (.list ((Ui k ls).map limX)):=by
 have ix:∀l∈ls,atP (l.1.map .int) (k:Int)=some (.int (cK k l)):=λl hm=>at_k (by rw[hw l hm];exact hk)
 have hl2:ls.length<=16777216:=by omega
 have e0:=zcm (st:=Zt 0) (c:=(tV (d2 fEq (d2 ag (d2 ag (aa 0) (dC (.int 0))) (aa 1)) (dC (.int 0))))) (e:=(au (Zc (Zj YC (Zc (d2 ag (aa 0) (dC (.int 0))) (Zc (aa 1) ac))) (Zc (d2 ag (aa 0) (dC (.int 1))) ac)))) (C:=[.emp,.val (.int k)]) aq (λl=>limX (true,lim0 k l)) (z0 k) ls λl hm=>by
  have o:=others_t (w:=l.1) (k:=k) (by rw[hw l hm];exact hk) (by rw[hw l hm];omega)
  exact⟨[.val (aq l),.val (.int k)],rfl,by simp[aq,at0,ix l hm,Wr,z0],λ_=>by simp[aq,at0,at1,o,limX,lim0]⟩
 have e1:=zcm (st:=Zt 0) (c:=(tV (d2 fGt (d2 ag (d2 ag (aa 0) (dC (.int 0))) (aa 1)) (dC (.int 0))))) (e:=(aa 0)) (C:=[.emp,.val (.int k)]) aq aq (zU k) ls λl hm=>⟨[.val (aq l),.val (.int k)],rfl,by simp[aq,at0,ix l hm,zU],λ_=>by simp⟩
 have e2:=zcm (st:=Zt 0) (c:=(tV (d2 fLt (d2 ag (d2 ag (aa 0) (dC (.int 0))) (aa 1)) (dC (.int 0))))) (e:=(aa 0)) (C:=[.emp,.val (.int k)]) aq aq (zL k) ls λl hm=>⟨[.val (aq l),.val (.int k)],rfl,by simp[aq,at0,ix l hm,zL],λ_=>by simp⟩
 have em:((ls.filter (z0 k)).map λl=>limX (true,lim0 k l))=((ls.filter (z0 k)).map λl=>(true,lim0 k l)).map limX:=by rw[jf];rfl
 rw[em]at e0;have f0:(ls.filter (z0 k)).length<=40:=yE (qa _ _) hl;have f1:(ls.filter (zU k)).length<=40:=yE (qa _ _) hl;obtain⟨s5,e3⟩:=zgw hk hK hl hw hs (.tuple (ls.map aq)) (.list ((ls.filter (zU k)).map aq)) (ls.filter (zU k)) ((ls.filter (z0 k)).map λl=>(true,lim0 k l)) .emp (λu h=>(j8.mp h).1) (by simp;omega)
 have hd:ZV=ad (dFor (Zt 5) [] (av (aa 3)) bL) ZP:=rfl;have lx:Ui k ls=((ls.filter (z0 k)).map λl=>(true,lim0 k l))++(ls.filter (zU k)).flatMap λu=>(ls.filter (zL k)).map λl=>(false,jn k u l):=rfl
 rw[<- lx]at e3;have hls:(ls.map aq).length<=16777216:=by simpa using hl2
 generalize (Ui k ls).map limX=R at *
 generalize ((ls.filter (z0 k)).map λl=>(true,lim0 k l)).map limX=R0 at *
 generalize (ls.filter (zU k)).map aq=RU at *
 generalize (ls.filter (zL k)).map aq=RL at *
 generalize ls.map aq=LL at *
 simp[ZU,Yf,ZX,ZW,hd,ZP,ah,ai,hls,e0,e1,e2,e3]
def gl(g:Nat)(w:List Int):Nat:=w.foldl (λg x=>yN g x) g
def dv(w:List Int):Nat:=max (gl 0 w) 1
theorem gl_dvd:∀(w:List Int) (g:Nat),((gl g w:Nat):Int) ∣ (g:Int)/\∀x∈w,((gl g w:Nat):Int) ∣ x
 |[],g=>⟨Int.dvd_refl _,by simp⟩
 |x::w,g=>by
  obtain⟨h1,h2⟩:=gl_dvd w (yN g x);have e:gl g (x::w)=gl (yN g x) w:=rfl;rw[e];refine⟨Int.dvd_trans h1 (Int.gcd_dvd_left ..),λy hy=>?_⟩
  rcases yG.mp hy with rfl|hy
  ·exact Int.dvd_trans h1 (ydk ..)
  ·exact h2 y hy
theorem Qg(w:List Int):1<=dv w:=Nat.le_max_right _ _
theorem QV{w:List Int}{x:Int}(h:x∈w):(dv w:Int) ∣ x:=by
 have:=(gl_dvd w 0).2 x h;unfold dv;by_cases z:1<=gl 0 w
 ·rw[Nat.max_eq_left z];exact this
 ·rw[Nat.max_eq_right (by omega)];exact⟨x,by simp⟩
theorem zdX{w:List Int}{B:Nat}(h1:1<=B)(h:∀x∈w,x.natAbs<=B):dv w<=B:=by
 by_cases z:∃x∈w,x≠0
 ·obtain⟨x,hx,h0⟩:=z;have d:=QV hx;have:=Int.natAbs_dvd_natAbs.mpr d;rw[jE]at this;exact yE (Nat.le_of_dvd (by omega) this) (h x hx)
 ·have a0:∀x∈w,x=0:=λx hx=>js λq=>z ⟨x,hx,q⟩
  have:gl 0 w=0:=by
   clear h z
   induction w with
   |nil=>rfl
   |cons x w ih=>
    have e:gl 0 (x::w)=gl (yN 0 x) w:=rfl;rw[e,a0 x yX];exact ih λy hy=>a0 y (yS _ hy)
  unfold dv;rw[this];omega
def bD:DS:=(aj 1 [] (Zj Yl (Zc (aa 1) (Zc (aa 2) ac))))
theorem zlT(t:ya):∀(w:List Int) (g:Nat) (s:Sl),∃s',forL (Zt 2) bD (w.map .int) [.val t,.val (.int g),s]=.ok (.nx [.val t,.val (.int (gl g w)),s'])
 |[],g,s=>⟨s,rfl⟩
 |x::w,g,s=>by
  obtain⟨s',ih⟩:=zlT t w (yN g x) (.val (.int x));refine⟨s',?_⟩;have eb:bD [.val t,.val (.int g),.val (.int x)]=.ok (.nx [.val t,.val (.int (yN g x)),.val (.int x)]):=by simp[bD,zmi]
  have e:gl g (x::w)=gl (yN g x) w:=rfl;rw[yH,e];unfold forL;simp only[Zt,yav,Res.bind_ok,eb,ih]
theorem dv_ok{t:ya}{w:List Int}(ht:zjL t (w.map .int)):ZT [t]=.ok (.int (dv w)):=by
 obtain⟨s',e⟩:=zlT t w 0 .emp;have hd:Z5=ad (dFor (Zt 2) [] (av (aa 0)) bD) ZR:=rfl;have hm:(if(1:Int)<(gl 0 w:Int) then(gl 0 w:Int) else 1)=(dv w:Int):=by
  unfold dv;split<;>omega
 have hm2:max (gl 0 w:Int) 1=(dv w:Int):=by unfold dv;omega
 simp only[Int.cast_ofNat_Int]at e;rcases ht with rfl|rfl
 ·simp[ZT,Yi,hd,ZR,ah,ai,e];unfold dv;omega
 ·simp[ZT,Yi,hd,ZR,ah,ai,e];unfold dv;omega
abbrev Ent:=List Int×Rat
def enc(e:Ent):ya×ya:=(.tuple (e.1.map .int),fr e.2)
def look(ns:List Int):List Ent->Option Rat
 |[]=>none
 |(k,q)::r=>if k=ns then some q else look ns r
def putE(ns:List Int)(q:Rat)(E:List Ent):List Ent:=if(look ns E).isSome then E.map (λe=>if e.1=ns then(e.1,q) else e) else E++[(ns,q)]
theorem WX(ns:List Int):∀E:List Ent,zag ns (E.map enc)=(look ns E).map fr
 |[]=>rfl
 |(k,q)::r=>by
  rw[yH];show zag ns ((.tuple (k.map .int),fr q)::r.map enc)=_;unfold zag look;rw[Qb];by_cases h:k=ns
  ·simp[h]
  ·simp[h,WX ns r]
theorem putD_enc(ns:List Int)(q:Rat)(E:List Ent):zkR ns (fr q) (E.map enc)=(putE ns q E).map enc:=by
 unfold zkR putE;rw[WX,ydj];cases(look ns E).isSome with
 |true=>
  simp only[if_true,jf];refine jD λe _=>?_
  show(if Qc (.tuple (e.1.map .int))=some ns then _ else _)=enc (if e.1=ns then(e.1,q) else e)
  rw[Qb];by_cases h:e.1=ns
  ·simp[h,enc]
  ·simp[h,enc]
 |false=>simp[enc]
theorem zfq{ns:List Int}{q:Rat}:∀{E:List Ent},look ns E=some q->(ns,q)∈E
 |[],h=>by cases h
 |(k,p)::r,h=>by
  unfold look at h;by_cases z:k=ns
  ·rw[if_pos z]at h;cases h;rw[z];exact yX
  ·rw[if_neg z]at h;exact yS _ (zfq h)
theorem zgt{ns:List Int}:∀{E:List Ent},look ns E=none->∀e∈E,e.1≠ns
 |[],_,e,he=>by cases he
 |(k,p)::r,h,e,he=>by
  unfold look at h;by_cases z:k=ns
  ·rw[if_pos z]at h;cases h
  ·rw[if_neg z]at h;rcases yG.mp he with rfl|he
   ·exact z
   ·exact zgt h e he
theorem UN{k:List Int}{q:Rat}:∀{E:List Ent},(E.map (·.1)).Nodup->(k,q)∈E->look k E=some q
 |[],_,h=>by cases h
 |(k',p)::r,nd,h=>by
  rw[yH,ya8]at nd;unfold look;rcases yG.mp h with z|h
  ·cases z;rw[if_pos rfl]
  ·rw[if_neg (λz=>nd.1 (by rw[z];exact yR.mpr ⟨(k,q),h,rfl⟩))]
   exact UN nd.2 h
theorem zgj(ns:List Int)(q:Rat)(E:List Ent)(nd:(E.map (·.1)).Nodup):((putE ns q E).map (·.1)).Nodup:=by
 unfold putE;cases h:(look ns E).isSome with
 |true=>
  rw[if_pos rfl,jf];have:((λe:Ent=>e.1) ∘ λe:Ent=>if e.1=ns then(e.1,q) else e)=λe=>e.1:=by
   funext e
   by_cases z:e.1=ns<;>simp[z]
  rw[this];exact nd
 |false=>
  rw[if_neg (by decide),yb9]
  have hn:look ns E=none:=by simpa using h
  rw[List.nodup_append];refine⟨nd,by simp,λa ha b hb=>?_⟩
  simp at hb;subst hb;obtain⟨e,he,rfl⟩:=yR.mp ha;exact zgt hn e he
theorem zih{ns:List Int}{q:Rat}{E:List Ent}{e:Ent}(h:e∈putE ns q E):e∈E\/e=(ns,q):=by
 unfold putE at h;split at h
 ·obtain⟨e',he,rfl⟩:=yR.mp h;by_cases z:e'.1=ns
  ·right;simp[z]
  ·left;simp[z,he]
 ·rcases jN.mp h with h|h
  ·exact .inl h
  ·exact .inr (by simpa using h)
theorem zii(ns:List Int)(q:Rat)(E:List Ent):(putE ns q E).length<=E.length+1:=by
 unfold putE;split<;>simp
def ky(w:List Int):List Int:=w.map λx=>x / (dv w:Int)
def qv(l:Lim):Rat:=y8 l.2 (dv l.1)
def QO(E:List Ent)(l:Lim):List Ent:=match look (ky l.1) E with
 |none=>putE (ky l.1) (qv l) E
 |some q=>if qv l<q then putE (ky l.1) (qv l) E else E
def PE(E:List Ent)(ps:List Rat):Prop:=∀e∈E,dot e.1 ps<=e.2
theorem zgJ(c:Int):∀(w:List Int) (ps:List Rat),dot (w.map (c * ·)) ps=(c:Rat) * dot w ps
 |[],ps=>by
  have h:∀q,dot [] q=0:=λq=>by cases q<;>rfl
  show dot [] ps=_;rw[h];grind
 |_::_,[]=>by
  show(0:Rat)=(c:Rat) * 0
  grind
 |x::w,p::ps=>by
  have ih:=zgJ c w ps;show((c * x:Int):Rat) * p+dot (w.map (c * ·)) ps=(c:Rat) * ((x:Rat) * p+dot w ps)
  rw[ih,ydv];grind
theorem ky_mul(w:List Int):(ky w).map ((dv w:Int) * ·)=w:=by
 unfold ky;rw[jf]
 conv=>rhs;rw[<- List.map_id w]
 refine jD λx hx=>?_
 exact Int.mul_ediv_cancel' (QV hx)
theorem keeps_ky{l:Lim}{ps:List Rat}:dot (ky l.1) ps<=qv l↔dot l.1 ps<=(l.2:Rat):=by
 have d0:(0:Rat)<((dv l.1:Int):Rat):=by have:=Qg l.1;exact_mod_cast (show(0:Int)<(dv l.1:Int) by omega)
 have e1:dot l.1 ps=((dv l.1:Int):Rat) * dot (ky l.1) ps:=by rw[<- zgJ,ky_mul]
 have e2:(l.2:Rat)=((dv l.1:Int):Rat) * qv l:=by
  unfold qv;rw[ya4,Rat.mul_comm,ycj,Rat.mul_assoc,Rat.inv_mul_cancel _ (by grind),Rat.mul_one]
 rw[e1,e2];exact⟨λh=>ybi h (by grind),λh=>Rat.le_of_mul_le_mul_left h d0⟩
theorem step_sem{E:List Ent}{l:Lim}{ps:List Rat}(nd:(E.map (·.1)).Nodup):PE (QO E l) ps↔PE E ps/\dot l.1 ps<=(l.2:Rat):=by
 rw[<- keeps_ky];unfold QO;cases h:look (ky l.1) E with
 |none=>
  simp only;have e:putE (ky l.1) (qv l) E=E++[(ky l.1,qv l)]:=by unfold putE;rw[h];rfl
  rw[e];constructor
  ·exact λk=>⟨λe he=>k e (yad _ he),k _ (yZ _ yX)⟩
  ·rintro⟨k1,k2⟩ e he
   rcases jN.mp he with he|he
   ·exact k1 e he
   ·simp at he;subst he;exact k2
 |some q=>
  simp only;have hm:=zfq h;split
  ·rename_i hq;have e:putE (ky l.1) (qv l) E=E.map (λe=>if e.1=ky l.1 then(e.1,qv l) else e):=by unfold putE;rw[h];rfl
   rw[e];constructor
   ·intro k;have k2:dot (ky l.1) ps<=qv l:=by
     have:=k (ky l.1,qv l) (yR.mpr ⟨(ky l.1,q),hm,by simp⟩)
     exact this
    refine⟨λe he=>?_,k2⟩
    by_cases z:e.1=ky l.1
    ·have e2:e.2=q:=by
      have:=UN (k:=e.1) (q:=e.2) nd he;rw[z,h]at this;exact(jr.inj this).symm
     rw[z,e2];exact Rat.le_trans k2 (Rat.le_of_lt hq)
    ·have:=k e (yR.mpr ⟨e,he,by simp[z]⟩)
     exact this
   ·rintro⟨k1,k2⟩ e he
    obtain⟨e',he',rfl⟩:=yR.mp he;by_cases z:e'.1=ky l.1
    ·simp[z];exact k2
    ·simp[z];exact k1 e' he'
  ·rename_i hq;refine⟨λk=>⟨k,?_⟩,λk=>k.1⟩
   have:=k _ hm;exact Rat.le_trans this (qD.mp hq)
theorem zf4{E:List Ent}{l:Lim}(nd:(E.map (·.1)).Nodup):((QO E l).map (·.1)).Nodup:=by
 unfold QO;split
 ·exact zgj _ _ _ nd
 ·split
  ·exact zgj _ _ _ nd
  ·exact nd
theorem zh6{E:List Ent}{l:Lim}{e:Ent}(h:e∈QO E l):e∈E\/e=(ky l.1,qv l):=by
 unfold QO at h;split at h
 ·exact zih h
 ·split at h
  ·exact zih h
  ·exact .inl h
theorem zh7(E:List Ent)(l:Lim):(QO E l).length<=E.length+1:=by
 unfold QO;split
 ·exact zii _ _ _
 ·split
  ·exact zii _ _ _
  ·omega
def bB:DS:=(ad (aj 3 [] (Zj ZT (Zc (d2 ag (aa 2) (dC (.int 0))) ac))) (ad (aj 4 [] (d1 zaL (dL (Y4 1 [3] (Zt 0) (av (d2 ag (aa 2) (dC (.int 0)))) tT (d2 fDiv (aa 0) (aa 1)))))) (ad (aj 5 [] (Zj Xg (Zc (d2 ag (aa 2) (dC (.int 1))) (Zc (aa 3) ac)))) (dIfG (tOr (tV (zdr 1 (aa 4))) (tV (Zj Vm (Zc (aa 5) (Zc (zme 1 (aa 4)) ac))))) (zmd 1 (aa 4) (aa 5)) ZH))))
theorem limX_seq(x:Bool×Lim):∃t,limX x=.tuple [t,.int x.2.2]/\zjL t (x.2.1.map .int):=by
 obtain⟨b,l⟩:=x;cases b
 ·exact⟨_,rfl,.inl rfl⟩
 ·exact⟨_,rfl,.inr rfl⟩
theorem bB_ok{n:Nat}(hn:n<4000){t0:ya}{x:Bool×Lim}{E:List Ent}(hE:∀e∈E,Sz n e.2)(hlen:E.length<10000)(hw:x.2.1.length<=1000)(hb:x.2.2.natAbs<2 ^ n)(hd:dv x.2.1<2 ^ n)(s3 s4 s5:Sl):
  ∃s3' s4' s5',bB [.val t0,.dct (E.map enc),.val (limX x),s3,s4,s5]=.ok (.nx [.val t0,.dct ((QO E x.2).map enc),.val (limX x),s3',s4',s5']):=by
 obtain⟨t,et,ht⟩:=limX_seq x;have e1:=dv_ok ht;have d0:(dv x.2.1:Int)≠0:=by have:=Qg x.2.1;omega
 have dk:zcZ (dv x.2.1:Int)=true:=zci (m:=n) d0 (by rw[jE];exact hd) (by omega)
 have e2:=Yv (st:=Zt 0) (e:=(d2 fDiv (aa 0) (aa 1))) (C:=[.emp,.val (.int (dv x.2.1))]) ya.int (λy=>.int (y / (dv x.2.1:Int))) x.2.1 λy hy=>⟨[.val (.int y),.val (.int (dv x.2.1))],rfl,by simp[dk,zfy]⟩
 have ek:(x.2.1.map λy=>ya.int (y / (dv x.2.1:Int)))=(ky x.2.1).map .int:=by unfold ky;rw[jf];rfl
 rw[ek]at e2;have e3:=UO (u:=x.2.2) (l:=(dv x.2.1:Int)) (n:=n) d0 (by rw[jE];exact hd) (by omega)
 have sq:Sz n (qv x.2):=XH d0 hb (by rw[jE];exact hd)
 have hw2:(x.2.1.map ya.int).length<=16777216:=by simp;omega
 have g:=WX (ky x.2.1) E;have pu:=putD_enc (ky x.2.1) (qv x.2) E;have hl2:E.length<16777215:=by omega
 refine⟨.val (.int (dv x.2.1)),.val (.tuple ((ky x.2.1).map .int)),.val (fr (qv x.2)),?_⟩;have top:∀o,(dIfG (tOr (tV (zdr 1 (aa 4))) (tV (Zj Vm (Zc (aa 5) (Zc (zme 1 (aa 4)) ac))))) (zmd 1 (aa 4) (aa 5)) ZH) [.val t0,.dct (E.map enc),.val (limX x),.val (.int (dv x.2.1)),.val (.tuple ((ky x.2.1).map .int)),.val (fr (qv x.2))]=.ok o ->
   bB [.val t0,.dct (E.map enc),.val (limX x),s3,s4,s5]=.ok o:=λo ho=>by
  have q:fr (qv x.2)=fr (y8 x.2.2 (dv x.2.1)):=rfl;rw[q]at ho;rw[et]at ho ⊢;generalize (ky x.2.1).map ya.int=KK at *
  generalize fr (y8 x.2.2 (dv x.2.1))=FF at *
  generalize x.2.1.map ya.int=WW at *
  unfold bB;rcases ht with rfl|rfl
  ·simp only[ad,zi2,d2,d1,dC,aa,Res.bind_ok,dL,Y4,av,aD,yH,qW,Zj,Zc,ac,ag];simp only[yay,ycu,at0,at1,ofO,Res.bind_ok,e1,yav,hw2,if_true,y3,jF,ydn,yal,e2,zaL,e3];exact ho
  ·simp only[ad,zi2,d2,d1,dC,aa,Res.bind_ok,dL,Y4,av,aD,yH,qW,Zj,Zc,ac,ag];simp only[yay,ycu,at0,at1,ofO,Res.bind_ok,e1,yav,hw2,if_true,y3,jF,ydn,yal,e2,zaL,e3];exact ho
 refine top _ ?_;have km:=Qb (ky x.2.1);unfold QO;cases hL:look (ky x.2.1) E with
 |none=>
  rw[hL]at g;simp only[Option.map_none]at g;generalize (ky x.2.1).map ya.int=KK at *
  simp[km,g,isDct,pu,hl2]
 |some q=>
  have sz:=hE _ (zfq hL);have e4:=za9 sq sz (by omega)
  rw[hL]at g;simp only[yb6]at g;generalize (ky x.2.1).map ya.int=KK at *
  simp only;by_cases hq:qv x.2<q
  ·rw[decide_eq_true hq]at e4;rw[if_pos hq];simp[km,g,isDct,pu,hl2,e4]
  ·rw[decide_eq_false hq]at e4;rw[if_neg hq];simp[km,g,e4]
def UP(E:List Ent)(ls:List Lim):List Ent:=ls.foldl QO E
theorem Wh:∀(ls:List Lim) (E:List Ent),(E.map (·.1)).Nodup->((UP E ls).map (·.1)).Nodup
 |[],E,h=>h
 |l::ls,E,h=>Wh ls (QO E l) (zf4 h)
theorem Vs{ps:List Rat}:∀(ls:List Lim) (E:List Ent),(E.map (·.1)).Nodup->(PE (UP E ls) ps↔PE E ps/\Kp ls ps)
 |[],E,h=>⟨λk=>⟨k,λl hl=>by cases hl⟩,λk=>k.1⟩
 |l::ls,E,h=>by
  have ih:=Vs (ps:=ps) ls (QO E l) (zf4 h);have e:UP E (l::ls)=UP (QO E l) ls:=rfl;rw[e,ih,step_sem h];constructor
  ·rintro⟨⟨k1,k2⟩,k3⟩
   refine⟨k1,λx hx=>?_⟩
   rcases yG.mp hx with rfl|hx
   ·exact k2
   ·exact k3 x hx
  ·rintro⟨k1,k2⟩
   exact⟨⟨k1,k2 l yX⟩,λx hx=>k2 x (yS _ hx)⟩
theorem Vt:∀(ls:List Lim) (E:List Ent) (e:Ent),e∈UP E ls->e∈E\/∃l∈ls,e=(ky l.1,qv l)
 |[],E,e,h=>.inl h
 |l::ls,E,e,h=>by
  rcases Vt ls (QO E l) e h with h|⟨l',hl,he⟩
  ·rcases zh6 h with h|h
   ·exact .inl h
   ·exact .inr ⟨l,yX,h⟩
  ·exact .inr ⟨l',yS _ hl,he⟩
theorem Vu:∀(ls:List Lim) (E:List Ent),(UP E ls).length<=E.length+ls.length
 |[],E=>by simp[UP]
 |l::ls,E=>by
  have h1:=Vu ls (QO E l);have h2:=zh7 E l;have e:UP E (l::ls)=UP (QO E l) ls:=rfl;rw[e];simp only[ju];omega
theorem zej{n:Nat}(hn:n<4000)(t0:ya):∀(xs:List (Bool×Lim)) (E:List Ent) (s2 s3 s4 s5:Sl),(∀e∈E,Sz n e.2)->E.length+xs.length<10000->(∀x∈xs,x.2.1.length<=1000/\x.2.2.natAbs<2 ^ n/\dv x.2.1<2 ^ n) ->
  ∃s2' s3' s4' s5',forL (Zt 2) bB (xs.map limX) [.val t0,.dct (E.map enc),s2,s3,s4,s5]=.ok (.nx [.val t0,.dct ((UP E (xs.map (·.2))).map enc),s2',s3',s4',s5'])
 |[],E,s2,s3,s4,s5,_,_,_=>⟨s2,s3,s4,s5,rfl⟩
 |x::xs,E,s2,s3,s4,s5,hE,hl,hx=>by
  obtain⟨h1,h2,h3⟩:=hx x yX;rw[ju]at hl;obtain⟨u3,u4,u5,e⟩:=bB_ok hn (t0:=t0) hE (by omega) h1 h2 h3 s3 s4 s5
  have hs:=zh7 E x.2;obtain⟨v2,v3,v4,v5,ih⟩:=zej hn t0 xs (QO E x.2) (.val (limX x)) u3 u4 u5 (λe he=>by
   rcases zh6 he with he|rfl
   ·exact hE e he
   ·show Sz n (y8 x.2.2 (dv x.2.1));have d0:(dv x.2.1:Int)≠0:=by have:=Qg x.2.1;omega
    exact XH d0 h2 (by rw[jE];exact h3)) (by omega) λy hy=>hx y (yS _ hy)
  refine⟨v2,v3,v4,v5,?_⟩;rw[yH];unfold forL;simp only[Zt,yav,Res.bind_ok,e];exact ih
theorem VW{n:Nat}(hn:n<4000){xs:List (Bool×Lim)}(hl:xs.length<10000)(hx:∀x∈xs,x.2.1.length<=1000/\x.2.2.natAbs<2 ^ n/\dv x.2.1<2 ^ n):ZI [.list (xs.map limX)]=.ok (.dict ((.none,.none)::(UP [] (xs.map (·.2))).map enc)):=by
 obtain⟨s2,s3,s4,s5,e⟩:=zej hn (.list (xs.map limX)) xs [] .emp .emp .emp .emp (by simp) (by simpa using hl) hx
 have hd:ZM=ad (dFor (Zt 2) [] (av (aa 0)) bB) ZD:=rfl;rw[qW]at e;generalize (UP [] (xs.map (·.2))).map enc=R at *
 simp[ZI,Z4,hd,ZD,ah,ai,e]
def wl(e:Ent):Lim:=(e.1.map λx=>x * (e.2.den:Int),e.2.num)
theorem WO{n:Nat}(hn:n<4000){e:Ent}(hk:e.1.length<=1000)(h1:∀x∈e.1,x.natAbs<2 ^ n)(h2:Sz n e.2):ZO [.tuple (e.1.map .int),fr e.2]=.ok (aq (wl e)):=by
 have c:=Yv (st:=Zt 0) (e:=(d2 aA (aa 0) (d2 ag (aa 1) (dC (.int 1))))) (C:=[.emp,.val (fr e.2)]) ya.int (λx=>.int (x * (e.2.den:Int))) e.1 λx hx=>by
  have m:Xj x (e.2.den:Int)=true:=Yp (h1 x hx) h2.denI (by omega)
  exact⟨[.val (.int x),.val (fr e.2)],rfl,by simp[fr,at1,m]⟩
 have hl:(e.1.map ya.int).length<=16777216:=by simp;omega
 have ek:(e.1.map λx=>ya.int (x * (e.2.den:Int)))=(e.1.map λx=>x * (e.2.den:Int)).map .int:=by rw[jf];rfl
 rw[ek]at c;show _=Res.ok (ya.tuple [ya.tuple ((e.1.map λx=>x * (e.2.den:Int)).map .int),.int e.2.num])
 generalize (e.1.map λx=>x * (e.2.den:Int)).map ya.int=R at *
 generalize e.1.map ya.int=W at *
 simp only[fr]at c ⊢;simp[ZO,Ye,ah,ai,hl,c,at0,at1]
theorem zeH{l:Lim}{B:Nat}(h:(∀x∈l.1,x.natAbs<=B)/\l.2.natAbs<=B):(∀x∈(wl (ky l.1,qv l)).1,x.natAbs<=B)/\(wl (ky l.1,qv l)).2.natAbs<=B:=by
 have d1:=Qg l.1;have hden:(qv l).den<=dv l.1:=by
  unfold qv;rw[ycb,if_neg (by omega)]
  exact yE (yb7 _ _) (by rw[jE];exact yu _)
 refine⟨λx hx=>?_,?_⟩
 ·obtain⟨y,hy,rfl⟩:=yR.mp hx;obtain⟨z,hz,rfl⟩:=yR.mp hy;obtain⟨c,hc⟩:=QV hz;have h1:=h.1 z hz;show(z / (dv l.1:Int) * ((qv l).den:Int)).natAbs<=B;have e:z / (dv l.1:Int)=c:=by rw[hc];exact yax c (by omega)
  rw[e,j9,jE];rw[hc,j9,jE]at h1;exact yE (ybv _ hden) (by rw[Nat.mul_comm];exact h1)
 ·show(qv l).num.natAbs<=B;refine yE ?_ h.2;unfold qv;rw[yca,Int.natAbs_ediv_of_dvd,j9]
  ·have hs:(Int.sign (dv l.1:Int)).natAbs=1:=by rw[Int.sign_eq_one_of_pos (by omega)];rfl
   rw[hs,ybd];exact yb7 _ _
  ·exact Int.dvd_mul_of_dvd_right (ydk ..)
structure Nm(K B n0 mb:Nat):Prop where
 k1:1<=K
 k4:K<=4
 b1:1<=B
 m0:0<mb
 bm:B<2 ^ mb
 z:Sx.fact (K+1) * B ^ (K+1)<2 ^ n0
 n1:1<=n0
 n:n0<=1000
 cov:wSz mb (2 * wSz mb n0 K+2 * n0+(mb+4)) K+mb+(2 * wSz mb n0 K+2 * n0+(mb+4))<8000
theorem Nm.dh{K B n0 mb:Nat}{ls:List Lim}(h:Nm K B n0 mb)(hl:ls.length<=200)(hw:∀l∈ls,l.1.length=K)(hs:∀l∈ls,(∀x∈l.1,x.natAbs<=B)/\l.2.natAbs<=B):Dh K B n0 mb ls:=⟨h.k1,h.k4,hl,hw,h.b1,h.m0,h.bm,hs,h.z,h.n1,h.n,h.cov⟩
theorem Nm.mb4{K B n0 mb:Nat}(h:Nm K B n0 mb):mb<4000:=by have:=h.cov;omega
section
variable {K B n0 mb k:Nat}{ls:List Lim}
theorem zdZ{l:Lim}(hk:k<l.1.length)(h:∀x∈l.1,x.natAbs<=B):(cK k l).natAbs<=B:=by
 unfold cK;rw[<- zaK (d:=0) hk];exact h _ (yT hk)
theorem zli{a b c d:Int}{B:Nat}(ha:a.natAbs<=B)(hb:b.natAbs<=B)(hc:c.natAbs<=B)(hd:d.natAbs<=B):(a * b+c * d).natAbs<=2 * B * B:=by
 have h1:=qu ha hb;have h2:=qu hc hd;have h3:=Int.natAbs_add_le (a * b) (c * d);rw[j9,j9]at h3;have h4:2 * B * B=B * B+B * B:=by rw[yd0,Nat.two_mul]
 omega
theorem Qt(hk:k<K)(hb1:1<=B)(hw:∀l∈ls,l.1.length=K)(hs:∀l∈ls,(∀x∈l.1,x.natAbs<=B)/\l.2.natAbs<=B):∀x∈Ui k ls,x.2.1.length=K - 1/\(∀y∈x.2.1,y.natAbs<=2 * B * B)/\x.2.2.natAbs<=2 * B * B:=λx hx=>by
 have hB:B<=2 * B * B:=by
  have:=ybv B hb1;rw[Nat.mul_one]at this;have h4:2 * B * B=B * B+B * B:=by rw[yd0,Nat.two_mul]
  omega
 rcases jN.mp hx with hx|hx
 ·obtain⟨l,hl,rfl⟩:=yR.mp hx;have hm:=(j8.mp hl).1;refine⟨?_,λy hy=>yE ((hs l hm).1 y (Uh hy)) hB,yE (hs l hm).2 hB⟩
  show(oth l.1 k).length=_;rw[VI (by rw[hw l hm];exact hk),hw l hm]
 ·obtain⟨u,hu,hx⟩:=List.mem_flatMap.mp hx;obtain⟨l,hl,rfl⟩:=yR.mp hx;have hmu:=(j8.mp hu).1;have hml:=(j8.mp hl).1;have cu:=zdZ (k:=k) (by rw[hw u hmu];exact hk) (hs u hmu).1
  have cl:=zdZ (k:=k) (by rw[hw l hml];exact hk) (hs l hml).1
  have cl':(-cK k l).natAbs<=B:=by rw[qS];exact cl
  refine⟨?_,λy hy=>?_,zli cl' (hs u hmu).2 cu (hs l hml).2⟩
  ·show(oth (qA _ u.1 l.1) k).length=_;have:(qA (λa b=>(-cK k l) * a+cK k u * b) u.1 l.1).length=K:=by simp[hw u hmu,hw l hml]
   rw[VI (by omega),this]
  ·have hy':=Uh hy;obtain⟨i,hi,rfl⟩:=qK hy';simp only[List.getElem_zipWith];have hi':i<K:=by simpa[hw u hmu,hw l hml] using hi
   exact zli cl' ((hs u hmu).1 _ (yT (by rw[hw u hmu];exact hi'))) cu ((hs l hml).1 _ (yT (by rw[hw l hml];exact hi')))
theorem VV(hl:ls.length<=10):(Ui k ls).length<=110:=by
 unfold Ui;rw[qe,yQ];have h0:(ls.filter (z0 k)).length<=10:=yE (qa _ _) hl;have h1:(ls.filter (zU k)).length<=10:=yE (qa _ _) hl;have h2:(ls.filter (zL k)).length<=10:=yE (qa _ _) hl;have h3:((ls.filter (zU k)).flatMap λu=>(ls.filter (zL k)).map λl=>(false,jn k u l)).length=(ls.filter (zU k)).length * (ls.filter (zL k)).length:=by
  rw[List.length_flatMap];simp only[yQ];rw[List.map_const',yeg]
 rw[h3];have:=qu h1 h2;omega
end
end K11
namespace Lx
open PySem Fx
open Lw
open Lq (Xe Wb Wk)
def sW(n0 i:Nat):Nat:=n0+i * (2 * n0+6)
theorem sW_le{n0 i j:Nat}(h:i<=j):sW n0 i<=sW n0 j:=by
 unfold sW;have:=Nat.mul_le_mul_right (2 * n0+6) h;omega
theorem zkE(n0 i:Nat):sW n0 (i+1)=sW n0 i+(2 * n0+6):=by unfold sW;rw[ycf];omega
def neg(x:List Int):List Int:=x.map λy=>-y
theorem zhL:∀(x:List Int) (ps:List Rat),dot (neg x) ps=-dot x ps
 |[],ps=>by
  have h:∀q,dot [] q=0:=λq=>by cases q<;>rfl
  show dot [] ps=_;rw[h];grind
 |_::_,[]=>by show(0:Rat)=-0;grind
 |a::x,p::ps=>by
  show((-a:Int):Rat) * p+dot (neg x) ps=-((a:Rat) * p+dot x ps);rw[zhL x ps,Rat.intCast_neg];grind
section
variable {K B n0:Nat}{ls:List Lim}{l:Lim}{ps:List Rat}{n:Nat}
theorem wSz_mono{m n n' i:Nat}(h:n<=n'):wSz m n i<=wSz m n' i:=by
 unfold wSz;have:=ybv i (show m+n+1<=m+n'+1 by omega)
 omega
def Tgt(K n0:Nat)(ls:List Lim)(l:Lim):Prop:=∃ps ss:List Rat,Uk [Zz K ls,eI (neg l.1)]=.ok (.tuple [.str "best",.list (ps.map fr),.list (ss.map fr)])/\Pr K n0 ls (neg l.1) ps ss/\dot (neg l.1) ps=-(l.2:Rat)
end
end Lx
namespace Lx
open PySem Fx
open Lw
open Lq (Xe Wb Wk)
def hf:Rat:=y8 1 2
theorem hf_num:hf.num=1:=by decide +kernel
theorem hf_den:hf.den=2:=by decide +kernel
theorem hf_fr:fr hf=.tuple [.int 1,.int 2]:=by
 show ya.tuple [.int hf.num,.int (hf.den:Int)]=_;rw[hf_num,hf_den];rfl
theorem hf_sz:Sz 2 hf:=⟨by decide +kernel,by decide +kernel⟩
theorem hf_two:hf+hf=1:=by decide +kernel
theorem hf_pos:0<hf:=by decide +kernel
def hv(ps qs:List Rat):List Rat:=(ps.zip qs).map λp=>hf * (p.1+p.2)
theorem dot_hv:∀(w:List Int) (ps qs:List Rat),ps.length=qs.length->dot w (hv ps qs)=hf * (dot w ps+dot w qs)
 |[],ps,qs,_=>by
  have h:∀q,dot [] q=0:=λq=>by cases q<;>rfl
  rw[h,h,h];grind
 |_::_,[],[],_=>by
  show(0:Rat)=hf * (0+0)
  grind
 |_::_,[],_::_,h=>by simp at h
 |_::_,_::_,[],h=>by simp at h
 |x::w,p::ps,q::qs,h=>by
  have ih:=dot_hv w ps qs (by simpa using h)
  show(x:Rat) * (hf * (p+q))+dot w (hv ps qs)=hf * (((x:Rat) * p+dot w ps)+((x:Rat) * q+dot w qs));rw[ih];grind
theorem hv_le{a b c:Rat}(h1:a<=c)(h2:b<=c):hf * (a+b)<=c:=by
 have h3:=hf_two;have h4:=hf_pos;have h5:=ybi (show a+b<=c+c by grind) (Rat.le_of_lt h4)
 have h6:hf * (c+c)=c:=by
  have:hf * (c+c)=(hf+hf) * c:=by grind
  rw[this,h3,ybf]
 grind
theorem hv_lt{a b c:Rat}(h:a+b<c+c):hf * (a+b)<c:=by
 have h3:=hf_two;have h4:=hf_pos;have h5:=Rat.mul_lt_mul_of_pos_left h h4;have h6:hf * (c+c)=c:=by
  have:hf * (c+c)=(hf+hf) * c:=by grind
  rw[this,h3,ybf]
 grind
theorem zjQ{ps qs:List Rat}{a c:Nat}(hp:∀q∈ps,Sz a q)(hq:∀q∈qs,Sz c q)(hs:a+c+3<8999)(hl:ps.length<=1000):Qf [.list (ps.map fr),.list (qs.map fr)]=.ok (.list ((hv ps qs).map fr)):=by
 have e:=Yv (st:=Uv 0 1) (e:=(Zj Qy (Zc (au (Zc (dC (.int 1)) (Zc (dC (.int 2)) ac))) (Zc (Zj UD (Zc (aa 0) (Zc (aa 1) ac))) ac)))) (C:=[.emp,.emp]) (λp:Rat×Rat=>ya.tuple [fr p.1,fr p.2]) (λp=>fr (hf * (p.1+p.2))) (ps.zip qs) λp hm=>by
  have h1:=hp _ (j1 hm).1;have h2:=hq _ (j1 hm).2;have e1:=ze7 h1 h2 (by omega)
  have e2:=zh2 hf_sz (h1.add h2) (by omega)
  rw[hf_fr]at e2;exact⟨[.val (fr p.1),.val (fr p.2)],rfl,by simp[e1,e2]⟩
 have hz:(zipT (ps.map fr) (qs.map fr)).length<=16777216:=by rw[WN];simp;omega
 rw[<- WN]at e;have e3:((ps.zip qs).map λp=>fr (hf * (p.1+p.2)))=(hv ps qs).map fr:=by simp[hv]
 rw[e3]at e;simp[Qf,zgN,ah,ai,hz,e]
def zmq:DS:=(aE (tV (Zj Xn (Zc (aa 2) (Zc (aa 1) ac)))) (ad (aj 3 [] (Zj Vj (Zc (aa 0) (Zc (aa 2) ac)))) (aE (aC (tV (Zj Xn (Zc (aa 2) (Zc (aa 3) ac))))) (aj 1 [] (Zj Qf (Zc (aa 1) (Zc (aa 3) ac)))) ZH)) ZH)
theorem q_pc:fEq (.str "point") (.str "clash")=.ok (.bool false):=by rw[UF (by decide +kernel) (by decide +kernel)];rfl
section
variable {K B n0:Nat}{ls:List Lim}
theorem check_ok{k:Nat}{ps:List Rat}(h:ps.length=k)(hk:k<=1000):WZ [.int k,.list (ps.map fr)]=.ok .none:=by
 have e:=Yv (st:=Zt 0) (e:=(Zj X3 (Zc (aa 0) ac))) (C:=[.emp]) fr (λ_=>ya.bool true) ps λx hx=>⟨[.val (fr x)],rfl,by simp[zlC]⟩
 have hl:ps.length<=16777216:=by omega
 have a:=zba ps;subst h;simp[WZ,ai,za4,Jk,fNe,hl,e,a]
theorem well_no{ss:List Rat}(hj:Wl [Zz K ls]=.ok (.tuple [.str "clash",.list (ss.map fr)])):Yt [Zz K ls]=.exc "NoPoint" /\ Qz [Zz K ls]=.exc "NoPoint":=by
 have e:Yt [Zz K ls]=.exc "NoPoint":=by
  simp only[Zz]at hj ⊢;simp[Yt,QA,Vz,Q2,UQ,ai,hj,at0,at20,q_cc]
 refine⟨e,?_⟩;simp only[Zz]at e ⊢;simp[Qz,zhR,ai,e]
end
end Lx
namespace K23
open PySem Fx Lx
open Lw
open Lq (Xl Ys Yd ZN Wb Xe ZK ZL ZC Z0 Zx Xx Yr Wk)
open K11 (XD YC YU YV YW X6 Y0 ZP ZV ZW ZX Yf ZU ZR Z5 Yi ZT ZD ZM Z4 ZI Ye ZO Dh Nm nH Kp Wj zar UK Qu Qt VV VW WO zeH cK Ui limX wl ky qv Vs Vt Wh Vu UP enc Ent PE dv zdX Qg)
section
variable {K B n0 mb p:Nat}{ls:List Lim}
theorem zfP(d:Dh K B n0 mb ls)(h1:1<=n0)(hp:p<ls.length):∃r,Cov K n0 (nH mb n0 K) ls p ls[p] r/\VL [Zz K ls,.int p]=.ok r:=by
 have hm:=yT hp;have hl:=d.len;have k4:=d.k4;have hn:=d.n;have e1:=JT (n:=ls.length) hp;have e2:=Xx (K:=K) hp (by omega)
 have i1:atP (ls.map aq) (p:Int)=some (aq ls[p]):=XI hp;have hw:=d.w _ hm;have d':=(d.oth hp).dk;obtain⟨r,hr,e3⟩:=zdx d' hw (d.sz _ hm).1;have lo:=VI hp;have top:∀t:ya,Qk [.val (Zz K ls),.val (.int p),.val (aq ls[p]),.val r]=.ok (.rt t)->VL [Zz K ls,.int p]=.ok t:=λt ht=>by
  have lt:aq ls[p]=.tuple [.tuple (ls[p].1.map .int),.int ls[p].2]:=rfl;rw[lt]at ht i1;simp only[eI,Zz]at e2 e3 ht ⊢;simp[VL,zma,zgS,zgR,ah,ai,at0,at1,e1,i1,e2,e3,ht]
 have w40:=d.w40 hm;have X:wSz mb n0 K+mb+n0<8000:=by have:=d.cov;omega
 have m0:=d.m0;cases hr with
 |@clash ss c=>
  obtain⟨c1,c2⟩:=cl_ins hp h1 c;have hl2:=c.len;have e4:=Yr (ss:=ss) (p:=p) (by omega) (by omega)
  exact⟨_,.clash c1 c2,top _ (by simp[Qk,at0,at1,q_cc,e4])⟩
 |@best ps ss q r=>
  have hl2:=r.len;have lp:=q.len;have e4:=Yr (ss:=ss) (p:=p) (by omega) (by omega)
  have wp:WP mb n0 ls[p].1 ps:=⟨w40.1,q.sz,m0,by omega⟩
  have e5:=UW (t:=.tuple (ls[p].1.map .int)) (.inr rfl) wp (by rw[lp];exact X)
  have s1:=wp.sz K (by omega)
  have t1:dot (ls[p].1.take K) (ps.take K)=dot ls[p].1 ps:=by rw[<- hw,jd,hw,<- lp,jd]
  rw[t1]at s1;have e6:=za9 (Sz.ofInt w40.2 m0) s1 (by omega)
  by_cases hb:(ls[p].2:Rat)<dot ls[p].1 ps
  ·rw[decide_eq_true hb]at e6;exact⟨_,.point ⟨lp,λx hx=>(q.sz x hx).mono (by unfold nH;omega),q.kp⟩ hb,top _ (by simp[Qk,za0,zdo,at3a,at3b,at3c,at0,at1,q_bc,q_be,aq,e5,Vy,e6])⟩
  ·rw[decide_eq_false hb]at e6;exact⟨_,pr_ins hp h1 r (qD.mp hb) _,top _ (by simp[Qk,za0,zdo,zgQ,at3a,at3b,at3c,at0,at1,q_bc,q_be,aq,e5,Vy,e6,e4])⟩
 |@endless ps ws q y=>
  obtain⟨qs,q1,q2,q3⟩:=Wj w40 hw k4 q y hn d.m0 d.cov;exact⟨_,.point q1 q2,top _ (by simp[Qk,za0,at3a,at3b,at3c,q_ec,q_ee,q3])⟩
theorem zhE{r:ya}{l:Lim}{N:Nat}(hr:Cov K n0 N ls p l r)(e:VL [Zz K ls,.int p]=.ok r):WI [Zz K ls,.int p]=.ok (.bool (!isPt r)):=by
 simp only[Zz]at e ⊢;cases hr with
 |clash c z=>simp[WI,JF,ah,ai,e,at20,n_cp];rfl
 |shares _ _ _ _ _ _=>simp[WI,JF,ah,ai,e,at20,n_sp];rfl
 |point q v=>simp[WI,JF,ah,ai,e,at20,n_pp];rfl
end
section
variable {K B n0 mb:Nat}{ls:List Lim}
def cLn:DT:=(tV (d2 fLt (aa 1) (d1 aB (d2 ag (aa 0) (dC (.int 1))))))
def bLn:DS:=(aE (tV (Zj WI (Zc (aa 0) (Zc (aa 1) ac)))) (aj 0 [] (Zj Ys (Zc (aa 0) (Zc (aa 1) ac)))) (aj 1 [] (d2 aF (aa 1) (dC (.int 1)))))
theorem nd_of{r:ya}{N p:Nat}(hp:p<ls.length)(hw:∀l∈ls,l.1.length=K)(hr:Cov K n0 N ls p ls[p] r)(hb:isPt r=false):∀ps:List Rat,ps.length=K->Kp (oth ls p) ps->Kp ls ps:=λps hl hk l hm=>by
 by_cases hin:l∈oth ls p
 ·exact hk l hin
 ·have hl':l=ls[p]:=by
   obtain⟨j,hj⟩:=List.mem_iff_getElem?.mp hm;by_cases hjp:j=p
   ·subst hjp;rw[jx hp]at hj;exact(jr.inj hj).symm
   ·exact absurd ((zfp hp).mpr ⟨j,hjp,hj⟩) hin
  subst hl';rw[<- qD];intro v;obtain⟨M,hM⟩:=UK ps;have z:=zgV hp hw hr (⟨hl,hM,hk⟩:Pt K M (oth ls p) ps) v;rw[z]at hb;cases hb
theorem zcM:∀(n:Nat) (ls:List Lim) (p:Nat),Dh K B n0 mb ls->p<=ls.length->ls.length - p=n->(∀i,i<p->Need K ls i)->∀fuel,n<fuel->∃ls':List Lim,(∀l∈ls',l∈ls)/\ls'.length<=ls.length/\(∀i,i<ls'.length->Need K ls' i)/\(∀ps:List Rat,ps.length=K->Kp ls' ps->Kp ls ps)/\∃p',YN cLn bLn fuel [.val (Zz K ls),.val (.int p)]=.ok (.nx [.val (Zz K ls'),.val p'])
 |0,ls,p,d,hp,hn,inv,fuel,hf=>by
  obtain⟨f,rfl⟩:∃f,fuel=f+1:=⟨fuel - 1,by omega⟩
  refine⟨ls,λl h=>h,yu _,λi hi=>inv i (by omega),λps _ h=>h,.int p,?_⟩
  have h1:¬((p:Int)<(ls.length:Int)):=by omega
  unfold YN;simp[cLn,at1,h1]
 |n+1,ls,p,d,hp,hn,inv,fuel,hf=>by
  obtain⟨f,rfl⟩:∃f,fuel=f+1:=⟨fuel - 1,by omega⟩
  have hlt:p<ls.length:=by omega
  have h1:(p:Int)<(ls.length:Int):=by omega
  have hl:=d.len;obtain⟨r,hr,e0⟩:=zfP d d.n1 hlt;have eb:=zhE hr e0;have ew:=Xx (K:=K) hlt (by omega)
  have lo:=VI hlt;cases hq:isPt r with
  |false=>
   rw[hq]at eb;obtain⟨ls',s1,s2,s4,s3,p',e⟩:=zcM n (oth ls p) p (d.oth hlt) (by omega) (by omega) (λi hi=>need_oth hlt hi (inv i hi)) f (by omega)
   refine⟨ls',λl h=>Uh (s1 l h),by omega,s4,λps h k=>nd_of hlt d.w hr hq ps h (s3 ps h k),p',?_⟩
   unfold YN;simp only[Zz]at eb ew e ⊢;simp[cLn,bLn,at1,h1,eb,ew];exact e
  |true=>
   rw[hq]at eb;have hnd:Need K ls p:=by
    cases hr with
    |@point ps q v=>exact⟨ls[p],_,ps,by rw[jx hlt],q,v⟩
    |clash c z=>exact absurd hq (by show ¬(decide (("clash" : Str)=("point" : Str))=true);decide +kernel)
    |shares _ _ _ _ _ _=>exact absurd hq (by show ¬(decide (("shares" : Str)=("point" : Str))=true);decide +kernel)
   obtain⟨ls',s1,s2,s4,s3,p',e⟩:=zcM n ls (p+1) d (by omega) (by omega) (λi hi=>by
    rcases(show i<p\/i=p by omega) with z|rfl
    ·exact inv i z
    ·exact hnd) f (by omega)
   refine⟨ls',s1,s2,s4,s3,p',?_⟩;rw[show((p+1:Nat):Int)=(p:Int)+1 by omega]at e
   unfold YN;simp only[Zz]at eb e ⊢;simp[cLn,bLn,at1,h1,eb];exact e
theorem zhJ(d:Dh K B n0 mb ls):∃ls':List Lim,(∀l∈ls',l∈ls)/\ls'.length<=ls.length/\(∀i,i<ls'.length->Need K ls' i)/\(∀ps:List Rat,ps.length=K->(Kp ls' ps↔Kp ls ps))/\zbM [Zz K ls]=.ok (Zz K ls'):=by
 have hl:=d.len;obtain⟨ls',s1,s2,s4,s3,p',e⟩:=zcM ls.length ls 0 d (qi _) (Nat.sub_zero _) (λi hi=>absurd hi (by omega)) 1000 (by omega)
 refine⟨ls',s1,s2,s4,λps h=>⟨s3 ps h,λk l hl=>k l (s1 l hl)⟩,?_⟩
 have hd:ziV=ad (JS zeK cLn bLn) zfF:=rfl;simp only[Zz,Int.ofNat_zero,Int.cast_ofNat_Int]at e ⊢;simp[zbM,d_lean,hd,zfF,ah,ai,zeK,e]
end
end K23
namespace K23
open PySem Fx Lx
open Lw
open Lq (Xl Ys Yd ZN Wb Xe ZK ZL ZC Z0 Zx Xx Yr Wk)
open K11 (XD YC YU YV YW X6 Y0 ZP ZV ZW ZX Yf ZU ZR Z5 Yi ZT ZD ZM Z4 ZI Ye ZO Dh Nm nH Kp Wj zar UK Qu Qt VV VW WO zeH cK Ui limX wl ky qv Vs Vt Wh Vu UP enc Ent PE dv zdX Qg zdZ UN WX QV Wr)
section
variable {K B n0 mb k:Nat}{ls:List Lim}
theorem left_n{n:Nat}(hl:ls.length<=n):(Ui k ls).length<=n+n * n:=by
 unfold Ui;rw[qe,yQ];have h0:(ls.filter (K11.z0 k)).length<=n:=yE (qa _ _) hl;have h1:(ls.filter (K11.zU k)).length<=n:=yE (qa _ _) hl;have h2:(ls.filter (K11.zL k)).length<=n:=yE (qa _ _) hl;have h3:((ls.filter (K11.zU k)).flatMap λu=>(ls.filter (K11.zL k)).map λl=>(false,K11.jn k u l)).length=(ls.filter (K11.zU k)).length * (ls.filter (K11.zL k)).length:=by
  rw[List.length_flatMap];simp only[yQ];rw[List.map_const',yeg]
 rw[h3];have:=qu h1 h2;omega
theorem zen{B' n' mb':Nat}(d:Dh K B n0 mb ls)(h2:2<=K)(hk:k<K)(hlen:ls.length<=10)(hB:B<=999999999999)(nm:Nm (K - 1) B' n' mb')(hb:2 * B * B<=B'):
  ∃os:List Lim,Dh (K - 1) B' n' mb' os/\os.length<=ls.length+ls.length * ls.length/\VA [Zz K ls,.int k]=.ok (Zz (K - 1) os):=by
 obtain⟨ls',s1,s2,_,s3,e1⟩:=zhJ d;have k4:=d.k4;have hmb:=nm.mb4;have hl10:ls'.length<=10:=by omega
 have hw':∀l∈ls',l.1.length=K:=λl h=>d.w l (s1 l h)
 have hs':∀l∈ls',(∀x∈l.1,x.natAbs<=B)/\l.2.natAbs<=B:=λl h=>d.sz l (s1 l h)
 have hc:∀l∈ls',(cK k l).natAbs<18446744073709551616:=λl h=>by
  have:=zdZ (k:=k) (by rw[hw' l h];exact hk) (hs' l h).1
  omega
 have e2:=Qu hk k4 (by omega) hw' hc
 have lsz:=Qt hk d.b1 hw' hs';have llen:=VV (k:=k) hl10;have e3:=VW (n:=mb') hmb (xs:=Ui k ls') (by omega) λx hx=>by
  obtain⟨a1,a2,a3⟩:=lsz x hx;refine⟨by omega,jk (yE a3 hb) nm.bm,jk (zdX nm.b1 λy hy=>yE (a2 y hy) hb) nm.bm⟩
 have nd:=Wh ((Ui k ls').map (·.2)) [] (by simp)
 have fl:=Vu ((Ui k ls').map (·.2)) []
 have fm:=Vt ((Ui k ls').map (·.2)) []
 have fs:=λps=>Vs (ps:=ps) ((Ui k ls').map (·.2)) [] (by simp)
 generalize hE:UP [] ((Ui k ls').map (·.2))=E at *
 have ent:∀e∈E,∃l:Lim,l.1.length=K - 1/\((∀y∈l.1,y.natAbs<=B')/\l.2.natAbs<=B')/\e=(ky l.1,qv l):=λe he=>by
  rcases fm e he with h|⟨l,hl,rfl⟩
  ·cases h
  ·obtain⟨x,hx,rfl⟩:=yR.mp hl;obtain⟨a1,a2,a3⟩:=lsz x hx;exact⟨x.2,a1,⟨λy hy=>yE (a2 y hy) hb,yE a3 hb⟩,rfl⟩
 have dw:Dh (K - 1) B' n' mb' (E.map wl):=by
  refine nm.dh (by simp at fl ⊢;omega) (λl hl=>?_) λl hl=>?_
  ·obtain⟨e,he,rfl⟩:=yR.mp hl;obtain⟨l,a1,a2,rfl⟩:=ent e he;show((ky l.1).map _).length=_;rw[yQ];unfold ky;rw[yQ,a1]
  ·obtain⟨e,he,rfl⟩:=yR.mp hl;obtain⟨l,a1,a2,rfl⟩:=ent e he;exact zeH a2
 obtain⟨os,t1,t2,_,t3,e5⟩:=zhJ dw;refine⟨os,dw.sub t1 t2,?_,?_⟩
 ·have ll:=left_n (k:=k) s2;simp at fl t2;omega
 ·have e4:=Yv (st:=Zt 0) (e:=(Zj ZO (Zc (aa 0) (Zc (d2 fGetD (aa 1) (aa 0)) ac)))) (C:=[.emp,.val (.dict ((.none,.none)::E.map enc))]) (λe:Ent=>ya.tuple (e.1.map .int)) (λe=>aq (wl e)) E λe he=>by
   obtain⟨l,a1,a2,el⟩:=ent e he;have lk:=UN (k:=e.1) (q:=e.2) nd he;have g:=WX e.1 E;rw[lk]at g;have km:=Qb e.1;have d1:=Qg l.1;have wo:=WO (n:=mb') hmb (e:=e) (by rw[el];unfold ky;rw[yQ,a1];omega) (λx hx=>by
    rw[el]at hx;obtain⟨z,hz,rfl⟩:=yR.mp hx;refine jk ?_ nm.bm;refine yE ?_ (a2.1 z hz);rw[Int.natAbs_ediv_of_dvd (QV hz)];exact yb7 _ _) (by
    rw[el];show Sz mb' (y8 l.2 (dv l.1));have d0:(dv l.1:Int)≠0:=by omega
    exact XH d0 (jk a2.2 nm.bm) (by rw[jE];exact jk (zdX nm.b1 a2.1) nm.bm))
   refine⟨[.val (.tuple (e.1.map .int)),.val (.dict ((.none,.none)::E.map enc))],rfl,?_⟩;generalize e.1.map ya.int=KK at *
   generalize E.map enc=ES at *
   simp[km,g,wo]
  have em:(E.map λe=>aq (wl e))=(E.map wl).map aq:=by rw[jf];rfl
  have ek:(E.map λe:Ent=>ya.tuple (e.1.map .int))=(E.map enc).map (·.1):=by rw[jf];rfl
  rw[em,ek]at e4;have hl1:((E.map enc).map (·.1)).length<=16777216:=by simp at fl ⊢;omega
  have ec:=JT (n:=K) hk;have n1:¬((K:Int)=1):=by omega
  have kk:((K - 1:Nat):Int)=(K:Int) - 1:=by omega
  simp only[Zz,kk]at e1 e5 ⊢;generalize (E.map wl).map aq=WL at *
  generalize E.map enc=ES at *
  generalize (Ui k ls').map limX=LX at *
  simp[VA,zgO,zdl,zdk,zdj,ah,ai,at0,at1,ec,Wr,n1,e1,e2,e3];have hl3:ES.length<=16777216:=by simpa using hl1
  simp[hl3,e4,e5]
end
end K23
namespace K23
open PySem Fx Lx
open Lw
open Lq (Xl Ys Yd ZN Wb Xe ZK ZL ZC Z0 Zx Xx Yr Wk)
open K11 (XD YC YU YV YW X6 Y0 ZP ZV ZW ZX Yf ZU ZR Z5 Yi ZT ZD ZM Z4 ZI Ye ZO Dh Nm nH Kp Wj zar UK Qu Qt VV VW WO zeH cK Ui limX wl ky qv Vs Vt Wh Vu UP enc Ent PE dv zdX Qg zdZ UN WX QV Wr)
section
variable {K B n0 mb:Nat}{ls os:List Lim}
theorem q_ce:fEq (.str "clash") (.str "endless")=.ok (.bool false):=by rw[UF (by decide +kernel) (by decide +kernel)];rfl
theorem q_cb:fEq (.str "clash") (.str "best")=.ok (.bool false):=by rw[UF (by decide +kernel) (by decide +kernel)];rfl
theorem q_bb:fEq (.str "best") (.str "best")=.ok (.bool true):=by rw[UF (by decide +kernel) (by decide +kernel)];rfl
theorem past_ok(d:Dh K B n0 mb ls){l:Lim}(hw:l.1.length=K)(hs:(∀x∈l.1,x.natAbs<=B)/\l.2.natAbs<=B)(hk:∀ps:List Rat,ps.length=K->Kp ls ps->dot l.1 ps<=(l.2:Rat)):
  XG [Zz K ls,aq l]=.ok .none:=by
 have hl:=d.len;have k4:=d.k4;have hn:=d.n;obtain⟨r,hr,e3⟩:=zdx d.dk hw hs.1;have w40:(∀x∈l.1,x.natAbs<2 ^ mb)/\l.2.natAbs<2 ^ mb:=⟨λx hx=>jk (hs.1 x hx) d.bm,jk hs.2 d.bm⟩
 have X:wSz mb n0 K+mb+n0<8000:=by have:=d.cov;omega
 have m0:=d.m0;have lt:aq l=.tuple [.tuple (l.1.map .int),.int l.2]:=rfl;have top:∀t:ya,Vv [.val (Zz K ls),.val (aq l),.val r]=.ok (.rt t)->XG [Zz K ls,aq l]=.ok t:=λt ht=>by
  rw[lt]at ht ⊢;simp only[eI,Zz]at e3 ht ⊢;simp[XG,zbR,ah,ai,at0,e3,ht]
 cases hr with
 |@clash ss c=>exact top _ (by simp[Vv,US,UR,at20,q_ce,q_cb])
 |@best ps ss q r=>
  have lp:=q.len;have wp:WP mb n0 l.1 ps:=⟨w40.1,q.sz,m0,by omega⟩
  have e5:=UW (t:=.tuple (l.1.map .int)) (.inr rfl) wp (by rw[lp];exact X)
  have s1:=wp.sz K (by omega)
  have t1:dot (l.1.take K) (ps.take K)=dot l.1 ps:=by rw[<- hw,jd,hw,<- lp,jd]
  rw[t1]at s1;have e6:=za9 (Sz.ofInt w40.2 m0) s1 (by omega)
  have hb:¬(l.2:Rat)<dot l.1 ps:=qD.mpr (hk ps lp q.kp);rw[decide_eq_false hb]at e6;exact top _ (by simp[Vv,US,UR,at3a,at3b,at0,at1,q_be,q_bb,aq,e5,Vy,e6])
 |@endless ps ws q y=>
  obtain⟨qs,q1,q2,q3⟩:=Wj w40 hw k4 q y hn d.m0 d.cov;exact absurd q2 (qD.mpr (hk qs q1.len q1.kp))
def bOut:DS:=(ad (aj 3 [] (Zj XG (Zc (aa 0) (Zc (aa 2) ac)))) (aE (tV (d1 zaM (aa 3))) (ak (aa 3)) ZH))
theorem zin(d:Dh K B n0 mb ls)(t1:ya):∀(os:List Lim) (s2 s3:Sl),(∀l∈os,l.1.length=K/\(∀x∈l.1,x.natAbs<=B)/\l.2.natAbs<=B)->(∀ps:List Rat,ps.length=K->Kp ls ps->Kp os ps) ->
  ∃s2' s3',forL (Zt 2) bOut (os.map aq) [.val (Zz K ls),.val t1,s2,s3]=.ok (.nx [.val (Zz K ls),.val t1,s2',s3'])
 |[],s2,s3,_,_=>⟨s2,s3,rfl⟩
 |l::os,s2,s3,h,hk=>by
  rw[yH];have hl:=h l yX;have e:=past_ok d hl.1 ⟨hl.2.1,hl.2.2⟩ λps h1 h2=>hk ps h1 h2 l yX
  have eb:bOut [.val (Zz K ls),.val t1,.val (aq l),s3]=.ok (.nx [.val (Zz K ls),.val t1,.val (aq l),.val .none]):=by
   simp only[Zz]at e ⊢;simp[bOut,e]
  obtain⟨s2',s3',e2⟩:=zin d t1 os (.val (aq l)) (.val .none) (λl hl=>h l (yS _ hl)) λps h1 h2 m hm=>hk ps h1 h2 m (yS _ hm)
  refine⟨s2',s3',?_⟩;unfold forL;simp only[Zt,yav,Res.bind_ok,eb,e2]
theorem zeg(d:Dh K B n0 mb ls)(h:∀l∈os,l.1.length=K/\(∀x∈l.1,x.natAbs<=B)/\l.2.natAbs<=B)(hk:∀ps:List Rat,ps.length=K->Kp ls ps->Kp os ps):Qd [Zz K ls,Zz K os]=.ok .none:=by
 have n1:fNe (.int (K:Int)) (.int (K:Int))=.ok (.bool false):=zfz (zbh _) (by decide)
 have hd:zc9=ad (dFor (Zt 2) [] (av (d2 ag (aa 1) (dC (.int 1)))) bOut) zal:=rfl;obtain⟨s2,s3,e⟩:=zin d (Zz K os) os .emp .emp h hk;simp only[Zz]at e ⊢;simp[Qd,zgL,hd,zal,ah,ai,at0,at1,n1,e]
end
end K23
namespace K23
open PySem Fx
open Lx
open Lw
open Lq (Xl Ys Yd ZN Wb Xe ZK ZL ZC Z0 Zx Xx Yr Wk)
open K11 (XD YC YU YV YW X6 Y0 ZP ZV ZW ZX Yf ZU ZR Z5 Yi ZT ZD ZM Z4 ZI Ye ZO Dh Nm nH Kp Wj zar UK Qu Qt VV VW WO zeH cK Ui limX wl ky qv Vs Vt Wh Vu UP enc Ent PE dv zdX Qg zdZ UN WX QV Wr)
structure Dv(K B n0 mb:Nat)(ls:List Lim):Prop where
 d:Dh K B n0 mb ls
 l7:ls.length<=7
 n1:1<=n0
 wz:wSz mb (sW n0 7) K+mb+sW n0 7<8000
section
variable {K B n0 mb:Nat}{ls:List Lim}{l:Lim}{ps:List Rat}{n:Nat}
theorem Dv.wp(d:Dv K B n0 mb ls)(hl:l∈ls)(hp:ps.length=K)(hs:∀q∈ps,Sz n q):WP mb n l.1 ps:=⟨(d.d.w40 hl).1,hs,d.d.m0,by rw[d.d.w l hl,hp]⟩
theorem Dv.zz(d:Dv K B n0 mb ls)(hn:n<=sW n0 7):wSz mb n K+mb+n<8000:=by
 have:=wSz_mono (m:=mb) (i:=K) hn;have:=d.wz;omega
theorem Xr(d:Dv K B n0 mb ls)(hl:l∈ls)(hp:ps.length=K)(hs:∀q∈ps,Sz n q)(hn:n<=sW n0 7):Xn [aq l,.list (ps.map fr)]=.ok (.bool (decide (dot l.1 ps=(l.2:Rat)))):=by
 have e:=UW (t:=.tuple (l.1.map .int)) (.inr rfl) (d.wp hl hp hs) (by rw[hp];exact d.zz hn)
 have q:=zgF (dot l.1 ps) (l.2:Rat);simp[Xn,zb1,ah,ai,aq,at0,at1,e,Vy,q]
theorem Ve(d:Dv K B n0 mb ls)(hl:l∈ls){p0:List Rat}(h0:Pt K n ls p0):∃qs:List Rat,Pt K (2 * n0+2) ls qs/\Vj [Zz K ls,aq l]=.ok (.list (qs.map fr))/\(dot l.1 qs=(l.2:Rat)->Tgt K n0 ls l):=by
 have hlen:=d.d.len;have hw:=d.d.w l hl;have k4:=d.d.k4;have hn:=d.d.n;have hg:(neg l.1).length=K:=by simp[neg,hw]
 obtain⟨r,hr,e⟩:=zdx (goal:=neg l.1) d.d.dk hg (λx hx=>by
  obtain⟨y,hy,rfl⟩:=yR.mp hx;rw[qS];exact(d.d.sz l hl).1 y hy)
 have ec:=Yv (st:=Zt 0) (e:=(d1 fNeg (aa 0))) (C:=[.emp]) ya.int (λx:Int=>ya.int (-x)) l.1 λx hx=>⟨[.val (.int x)],rfl,by simp⟩
 have en:(l.1.map λx:Int=>ya.int (-x))=(neg l.1).map .int:=by simp[neg]
 rw[en]at ec;have hl2:l.1.length<=16777216:=by omega
 have top:∀t:ya,UG [.val (Zz K ls),.val (aq l),.val r]=.ok (.rt t)->Vj [Zz K ls,aq l]=.ok t:=λt ht=>by
  have lt:aq l=.tuple [.tuple (l.1.map .int),.int l.2]:=rfl;rw[lt]at ht ⊢;simp only[eI,Zz]at e ht ⊢;generalize (neg l.1).map ya.int=N at *
  simp[Vj,zet,ai,at0,hl2,ec,e,ht]
 cases hr with
 |clash c=>exact(zfj d.d.w c h0).elim
 |@best ps ss q r=>
  refine⟨ps,⟨q.len,λx hx=>(q.sz x hx).mono (by omega),q.kp⟩,top _ (by simp[UG,zbQ,at3a,at3b,q_be]),λz=>⟨ps,ss,e,r,by rw[zhL,z]⟩⟩
 |@endless ps ws q y=>
  have s11:Sz 1 ((1:Int):Rat):=Sz.ofInt (by decide) (by decide)
  have em:=Wk (t:=((1:Int):Rat)) q.sz y.sz s11 (by omega) (by rw[q.len];omega)
  have dm:=λw:List Int=>zlU (t:=((1:Int):Rat)) w ps ws (by rw[q.len,y.len])
  have one:(((1:Int):Rat))=1:=rfl;refine⟨mv ps ws ((1:Int):Rat),⟨by simp[mv,q.len,y.len],λx hx=>?_,λo ho=>?_⟩,top _ ?_,λz=>?_⟩
  ·obtain⟨z,hz,rfl⟩:=yR.mp hx;exact((q.sz _ (j1 hz).1).add (s11.mul (y.sz _ (j1 hz).2))).mono (by omega)
  ·rw[dm,one,ybf];have:=q.kp o ho;have:=y.l o ho
   grind
  ·simp only[show((1:Int):Rat)=1 from rfl]at em ⊢;simp[UG,at3a,at3b,at3c,q_ee,Vy,em]
  ·exfalso
   rw[dm,one,ybf]at z;have h1:=q.kp l hl;have h2:=y.g;rw[zhL]at h2
   grind
end
section
variable {K B n0 mb:Nat}{ls:List Lim}
theorem zbb(d:Dv K B n0 mb ls){p0:List Rat}(hj:Wl [Zz K ls]=.ok (.tuple [.str "point",.list (p0.map fr)]))(h0:Pt K n0 ls p0):∃ps,Pt K (sW n0 7) ls ps/\Yt [Zz K ls]=.ok (.list (ps.map fr))/\∀l∈ls,dot l.1 ps=(l.2:Rat)->Tgt K n0 ls l:=by
 have k4:=d.d.k4;have hn:=d.d.n;obtain⟨G',e,hG⟩:=Vr (st:=Zt 2) (b:=zmq) (λi G=>∃(ps:List Rat) (s2 s3:Sl),Pt K (sW n0 i) ls ps/\G=[.val (Zz K ls),.val (.list (ps.map fr)),s2,s3]/\∀j l,j<i->ls[j]? = some l->dot l.1 ps=(l.2:Rat)->Tgt K n0 ls l) (ls.map aq) 0 [.val (Zz K ls),.val (.list (p0.map fr)),.emp,.emp]
  ⟨p0,.emp,.emp,⟨h0.len,λx hx=>(h0.sz x hx).mono (by simp[sW]),h0.kp⟩,rfl,λj l hj=>by omega⟩ λi t G ht ⟨ps,s2,s3,q,hG,inv⟩=>by
   rw[q9] at *
   subst hG;rw[jb]at ht;cases hz:ls[i]? with
   |none=>rw[hz]at ht;cases ht
   |some l=>
    rw[hz]at ht;cases ht;have hi:i<ls.length:=(yV.mp hz).1;have hm:=qb hz;have l7:=d.l7;have hs7:=sW_le (n0:=n0) (show i+1<=7 by omega)
    have hss:=zkE n0 i;have e1:=Xr d hm q.len q.sz (by omega)
    have up:Pt K (sW n0 (i+1)) ls ps:=⟨q.len,λx hx=>(q.sz x hx).mono (by omega),q.kp⟩
    by_cases c1:dot l.1 ps=(l.2:Rat)
    ·rw[decide_eq_true c1]at e1;obtain⟨qs,r1,r2,r3⟩:=Ve d hm q;have e2:=Xr d hm r1.len r1.sz (by have z1:=sW_le (n0:=n0) (show 1<=7 by omega);have z2:=zkE n0 0;have z3:sW n0 0=n0:=(by simp[sW]);omega)
     by_cases c2:dot l.1 qs=(l.2:Rat)
     ·rw[decide_eq_true c2]at e2;refine⟨_,rfl,[.val (Zz K ls),.val (.list (ps.map fr)),.val (aq l),.val (.list (qs.map fr))],.inl ?_,ps,_,_,up,rfl,λj l' hj el z=>?_⟩
      ·simp only[Zz]at r2 ⊢;simp[zmq,e1,r2,e2]
      ·rcases(show j<i\/j=i by omega) with hj|rfl
       ·exact inv j l' hj el z
       ·rw[hz]at el;cases el;exact r3 c2
     ·rw[decide_eq_false c2]at e2;have e3:=zjQ q.sz r1.sz (by have:=d.wz;omega) (by rw[q.len];omega)
      have dv:=λw:List Int=>dot_hv w ps qs (by rw[q.len,r1.len])
      refine⟨_,rfl,[.val (Zz K ls),.val (.list ((hv ps qs).map fr)),.val (aq l),.val (.list (qs.map fr))],.inl ?_,hv ps qs,_,_,⟨by simp[hv,q.len,r1.len],λx hx=>?_,λo ho=>?_⟩,rfl,λj l' hj el z=>?_⟩
      ·simp only[Zz]at r2 ⊢;simp[zmq,e1,r2,e2,e3]
      ·obtain⟨y,hy,rfl⟩:=yR.mp hx;exact(hf_sz.mul ((q.sz _ (j1 hy).1).add (r1.sz _ (j1 hy).2))).mono (by omega)
      ·rw[dv];exact hv_le (q.kp o ho) (r1.kp o ho)
      ·rw[dv]at z;have m':=qb el;have k1:=q.kp l' m';have k2:=r1.kp l' m';rcases(show j<i\/j=i by omega) with hj|rfl
       ·refine inv j l' hj el ?_;apply js;intro hne;have:=hv_lt (a:=dot l'.1 ps) (b:=dot l'.1 qs) (c:=(l'.2:Rat)) (by grind)
        grind
       ·rw[hz]at el;cases el
        exfalso
        have:=hv_lt (a:=dot l.1 ps) (b:=dot l.1 qs) (c:=(l.2:Rat)) (by grind)
        grind
    ·rw[decide_eq_false c1]at e1;refine⟨_,rfl,[.val (Zz K ls),.val (.list (ps.map fr)),.val (aq l),s3],.inl ?_,ps,_,_,up,rfl,λj l' hj el z=>?_⟩
     ·simp[zmq,e1]
     ·rcases(show j<i\/j=i by omega) with hj|rfl
      ·exact inv j l' hj el z
      ·rw[hz]at el;cases el;exact absurd z c1
 rw[q9,yQ]at hG;obtain⟨ps,s2,s3,q,rfl,inv⟩:=hG;refine⟨ps,⟨q.len,λx hx=>(q.sz x hx).mono (sW_le d.l7),q.kp⟩,?_,λl hl z=>?_⟩
 ·have hd:QX=ad (dFor (Zt 2) [] (av (d2 ag (aa 0) (dC (.int 1)))) zmq) Ul:=rfl;simp only[Zz]at e hj ⊢;simp[Yt,QA,hd,Ul,Vz,Q2,UQ,JN,ai,hj,at0,at1,q_pc,e]
 ·obtain⟨j,hj,rfl⟩:=qK hl;exact inv j _ hj (jx hj) z
theorem zbz(d:Dv K B n0 mb ls){ps:List Rat}(q:Pt K (sW n0 7) ls ps):zgE [Zz K ls,.list (ps.map fr)]=.ok (.list (zbL ls ps)):=by
 have k4:=d.d.k4;have hl:=d.d.len;have c:=check_ok q.len (by omega)
 have e:=JG (st:=Uv 0 1) (c:=(tV (d2 fEq (Zj Xa (Zc (d2 ag (aa 1) (dC (.int 0))) (Zc (aa 2) ac))) (au (Zc (d2 ag (aa 1) (dC (.int 1))) (Zc (dC (.int 1)) ac)))))) (e:=(aa 0)) (C:=[.emp,.emp,.val (.list (ps.map fr))])
  (λ(p:Lim×Nat)=>ya.tuple [.int (p.2:Int),aq p.1]) (λp=>.int (p.2:Int)) (λp=>decide (dot p.1.1 ps=(p.1.2:Rat))) (ls.zipIdx) λp hm=>by
   have w1:=UW (t:=.tuple (p.1.1.map .int)) (.inr rfl) (d.wp (mem_zipIdx hm) q.len q.sz) (by rw[q.len];exact d.wz)
   exact⟨[.val (.int (p.2:Int)),.val (aq p.1),.val (.list (ps.map fr))],rfl,by simp[aq,at0,at1,w1,Vy,zgF],λ_=>rfl⟩
 have hl':ls.length<=16777216:=by omega
 simp only[Zz];simp[zgE,ai,d_just,ziZ,at0,at1,c,zgG,hl',e,zbL]
theorem Jo(d:Dv K B n0 mb ls){ps:List Rat}(q:Pt K (sW n0 7) ls ps)(e:Yt [Zz K ls]=.ok (.list (ps.map fr))):Qz [Zz K ls]=.ok (.list (zbL ls ps)):=by
 have e2:=zbz d q;simp only[Zz]at e e2 ⊢;simp[Qz,zhR,ai,e,e2]
end
end K23
namespace K23
open PySem Fx
open Lx
open Lw
open Lq (Xl Ys Yd ZN Wb Xe ZK ZL ZC Z0 Zx Xx Yr Wk)
open K11 (XD YC YU YV YW X6 Y0 ZP ZV ZW ZX Yf ZU ZR Z5 Yi ZT ZD ZM Z4 ZI Ye ZO Dh Nm nH Kp Wj zar UK Qu Qt VV VW WO zeH cK Ui limX wl ky qv Vs Vt Wh Vu UP enc Ent PE dv zdX Qg zdZ UN WX QV Wr)
theorem q_pp:fEq (.str "point") (.str "point")=.ok (.bool true):=by rw[UF (by decide +kernel) (by decide +kernel)];rfl
theorem q_sp:fEq (.str "shares") (.str "point")=.ok (.bool false):=by rw[UF (by decide +kernel) (by decide +kernel)];rfl
theorem q_sc:fEq (.str "shares") (.str "clash")=.ok (.bool false):=by rw[UF (by decide +kernel) (by decide +kernel)];rfl
theorem q_ss:fEq (.str "shares") (.str "shares")=.ok (.bool true):=by rw[UF (by decide +kernel) (by decide +kernel)];rfl
theorem q_eb:fEq (.str "endless") (.str "best")=.ok (.bool false):=by rw[UF (by decide +kernel) (by decide +kernel)];rfl
structure Td(K B n0 mb:Nat)(ls:List Lim):Prop where
 d:Dh K B n0 mb ls
 tz:wSz mb n0 ls.length+mb+n0<8000
 b3:3<=B
 vz:wSz mb (sW n0 7) K+mb+sW n0 7<8000
section
variable {K B n0 mb p:Nat}{ls:List Lim}
theorem Td.sub{ls':List Lim}(d:Td K B n0 mb ls)(h:∀l∈ls',l∈ls)(hl:ls'.length<=ls.length):Td K B n0 mb ls':=
 ⟨d.d.sub h hl,by have:=d.tz;have:=zap (m:=mb) (n:=n0) hl;omega,d.b3,d.vz⟩
theorem zkh(d:Td K B n0 mb ls){ss:List Rat}(s1:ss.length=ls.length)(s2:∀q∈ss,Sz n0 q):TK mb n0 K ls ss:=by
 have hl:=d.d.len;have k4:=d.d.k4;exact⟨by omega,d.d.w,λl hl=>(d.d.w40 hl).1,λl hl=>(d.d.w40 hl).2,s2,d.d.m0,by rw[s1];exact d.tz,by omega,by omega⟩
theorem zlw{l:Lim}{ps:List Rat}{n:Nat}(h:WP mb n l.1 ps)(m0:0<mb)(hs:l.2.natAbs<2 ^ mb)(hb:wSz mb n ps.length+mb+n<8000)(hl:ps.length<1000)(v:(l.2:Rat)<dot l.1 ps):Yh [.list [ao l],.list (ps.map fr)]=.ok (.bool false):=by
 have w:=Jn (t:=.list (l.1.map .int)) (.inl rfl) h hb hl;have s1:=h.sz ps.length (yu _);have e1:dot (l.1.take ps.length) (ps.take ps.length)=dot l.1 ps:=by rw[jd,<- h.len,jd]
 rw[e1]at s1;have b:=zcO (Sz.ofInt hs m0) s1 (by omega)
 rw[decide_eq_true v]at b;simp[Yh,zam,QD,ah,ai,forL,ao,at0,at1,w,Vy,b]
theorem zjq(d:Dh K B n0 mb ls){n:Nat}{os:List Lim}{ps:List Rat}(q:Pt K n os ps){l:Lim}(h:l∈ls):WP mb n l.1 ps:=⟨(d.w40 h).1,q.sz,d.m0,by rw[d.w l h,q.len]⟩
theorem zhs(d:Dh K B n0 mb ls){ps:List Rat}(q:Pt K (nH mb n0 K) (oth ls p) ps):Yh [.list ((oth ls p).map ao),.list (ps.map fr)]=.ok (.bool true):=by
 have k4:=d.k4;refine zcg (m:=mb) (n:=nH mb n0 K) (k:=K) (λl hl=>zjq d q (Uh hl)) (λl hl=>(d.w40 (Uh hl)).2) ?_ (by rw[q.len];omega) q.kp
 rw[q.len];exact d.cov
theorem zjt(d:Dh K B n0 mb ls)(hp:p<ls.length){ps:List Rat}(q:Pt K (nH mb n0 K) (oth ls p) ps)(v:(ls[p].2:Rat)<dot ls[p].1 ps):Yh [.list [ao ls[p]],.list (ps.map fr)]=.ok (.bool false):=by
 have k4:=d.k4;refine zlw (zjq d q (yT hp)) d.m0 (d.w40 (yT hp)).2 ?_ (by rw[q.len];omega) v
 rw[q.len];exact d.cov
theorem Jl(d:Td K B n0 mb ls)(hp:p<ls.length){r:ya}(hr:Cov K n0 (nH mb n0 K) ls p ls[p] r):ZZ [.list (ls.map ao),.int p,.int K,r]=.ok (.bool true):=by
 have c1:=zeB (xs:=ls.map ao) (p:=p) (by simp;omega)
 have c2:=zgU (xs:=ls.map ao) (p:=p+1) (by simp;omega)
 rw[show((p+1:Nat):Int)=(p:Int)+1 by omega]at c2
 have hl:=d.d.len;have k4:=d.d.k4;have hn:=d.d.n;have h3:min p ls.length+(ls.length - (p+1))<=16777216:=by omega
 have i1:atP (ls.map ao) (p:Int)=some (ao ls[p]):=XI hp;have eo:(ls.map ao).take p++(ls.map ao).drop (p+1)=(oth ls p).map ao:=by simp[oth]
 have lt:ao ls[p]=.tuple [.list (ls[p].1.map .int),.int ls[p].2]:=rfl;cases hr with
 |@point ps q v=>
  have e1:=Vi q.len;have e2:=zhs d.d q;have e3:=zjt d.d hp q v;rw[<- eo]at e2;simp[ZZ,XF,Wc,ah,ai,at20,at1,q_pc,q_pp,c1,c2,h3,e1,e2,i1,e3,zlo]
 |@clash ss c z=>
  have e2:=zbF (zkh d c.len c.sz) c.nn c.z c.b;have hs:p<ss.length:=(yV.mp z).1;have i2:atP (ss.map fr) (p:Int)=some (fr 0):=by rw[XI hs,(yV.mp z).2]
  have n1:=zgF 0 0;simp[ZZ,XF,ah,ai,at20,at1,q_cc,e2,i2,VJ,n1]
 |@shares ss len sz nn z w b=>
  have tk:=zkh d len sz;have e1:=QH len nn;have e2:=zeM tk;have hs:p<ss.length:=(yV.mp z).1;have i2:atP (ss.map fr) (p:Int)=some (fr 0):=by rw[XI hs,(yV.mp z).2]
  have n1:=fNe_fr 0 0;have hg:=d.d.w _ (yT hp);have e4:taken ls ss K=ls[p].1.map λ(x:Int)=>(x:Rat):=by
   unfold taken;rw[<- zed ls[p].1,hg];exact jD λj hj=>w j (by have:=jq.mp hj;omega)
  have e5:=Yv (st:=Zt 0) (e:=(au (Zc (aa 0) (Zc (dC (.int 1)) ac)))) (C:=[.emp]) ya.int (λx=>fr ((x:Int):Rat)) ls[p].1 λx hx=>⟨[.val (.int x)],rfl,by simp[Vy]⟩
  have e6:(ls[p].1.map λx=>fr ((x:Int):Rat))=(ls[p].1.map λ(x:Int)=>(x:Rat)).map fr:=by rw[jf];rfl
  rw[e4]at e2;rw[e6]at e5;have q1:fNe (.list ((ls[p].1.map λ(x:Int)=>(x:Rat)).map fr)) (.list ((ls[p].1.map λ(x:Int)=>(x:Rat)).map fr))=.ok (.bool false):=zfz (Jp λq _=>zbI q) (by decide)
  have hl2:ls[p].1.length<=16777216:=by omega
  have s1:=tk.wpb.sz ss.length (yu _);have t1:dot ((ls.map (·.2)).take ss.length) (ss.take ss.length)=Xm ls ss:=by
   unfold Xm;rw[jd,len,<- yQ (as:=ls) (·.2),jd]
  rw[t1]at s1;have bz:=zcO (Sz.ofInt (d.d.w40 (yT hp)).2 d.d.m0) s1 (by have:=tk.sz;omega)
  rw[decide_eq_false (qD.mpr b)]at bz;generalize (ls[p].1.map λ(x:Int)=>(x:Rat)).map fr=gl at *
  simp[ZZ,XF,Wc,VR,VQ,VP,VO,ah,ai,at20,at0,at1,q_sp,q_sc,q_ss,e1,e2,i2,VJ,n1,i1,lt,e5,hl2,q1,Vy,bz]
def bEnd:DS:=(aE (tV (d2 fGt (d2 ag (Zj Yg (Zc (d2 ag (aa 4) (dC (.int 0))) (Zc (d2 ag (aa 2) (dC (.int 2))) ac))) (dC (.int 0))) (dC (.int 0)))) (ak (dC (.bool false))) ZH)
theorem zd0(d:Td K B n0 mb ls){goal:List Int}(hg:goal.length=K)(hgs:∀x∈goal,x.natAbs<=B){r:ya}(hr:Best K n0 ls goal r):Yc [.list (ls.map ao),eI goal,r]=.ok (.bool true):=by
 have hl:=d.d.len;have k4:=d.d.k4;have hn:=d.d.n;have X:wSz mb n0 K+mb+n0<8000:=by have:=d.d.cov;omega
 have g40:∀x∈goal,x.natAbs<2 ^ mb:=λx hx=>jk (hgs x hx) d.d.bm
 have hgl:aB (eI goal)=.ok (.int (K:Int)):=by simp[eI,hg]
 cases hr with
 |@clash ss c=>
  have e2:=zbF (zkh d c.len c.sz) c.nn c.z c.b;generalize eI goal=eg at *
  simp[Yc,X5,ah,ai,at20,at1,q_cc,hgl,e2,-aB]
 |@best ps ss q r=>
  have e0:=Vi q.len;have ek:=zcg (m:=mb) (n:=n0) (k:=K) (λl hl=>zjq d.d q hl) (λl hl=>(d.d.w40 hl).2) (by rw[q.len];exact X) (by rw[q.len];omega) q.kp
  have h:=zkh d r.len r.sz;have e1:=QH (k:=ls.length) r.len r.nn;have e2:=zeM h;have hw:WP mb n0 goal ps:=⟨g40,q.sz,d.d.m0,by rw[hg,q.len]⟩
  have e3:=Jn (t:=eI goal) (.inl rfl) hw (by rw[q.len];exact X) (by rw[q.len];omega)
  have e4:taken ls ss K=goal.map λ(x:Int)=>(x:Rat):=by
   unfold taken;rw[<- hg,<- zed goal];exact jD λj hj=>r.w j (by have:=jq.mp hj;omega)
  have e5:=Yv (st:=Zt 0) (e:=(au (Zc (aa 0) (Zc (dC (.int 1)) ac)))) (C:=[.emp]) ya.int (λx=>fr ((x:Int):Rat)) goal λx hx=>⟨[.val (.int x)],rfl,by simp[Vy]⟩
  have e6:(goal.map λx=>fr ((x:Int):Rat))=(goal.map λ(x:Int)=>(x:Rat)).map fr:=by rw[jf];rfl
  rw[e4]at e2;rw[e6]at e5;have q1:fNe (.list ((goal.map λ(x:Int)=>(x:Rat)).map fr)) (.list ((goal.map λ(x:Int)=>(x:Rat)).map fr))=.ok (.bool false):=zfz (Jp λq _=>zbI q) (by decide)
  have hl3:K<=16777216:=by omega
  have q2:=zgF (Xm ls ss) (dot goal ps);rw[decide_eq_true r.b]at q2;generalize (goal.map λ(x:Int)=>(x:Rat)).map fr=gl at *
  have e3':Yg [.list (goal.map .int),.list (ps.map fr)]=.ok (fr (dot goal ps)):=e3;show Yc [.list (ls.map ao),.list (goal.map .int),_]=_;simp[Yc,X5,Wv,Wu,ah,ai,at3a,at3b,at3c,at0,at1,q_bc,q_bb,hg,e0,ek,e1,e2,e5,hl3,q1,e3',q2]
 |@endless ps ws q y=>
  have e0:=Vi q.len;have ek:=zcg (m:=mb) (n:=n0) (k:=K) (λl hl=>zjq d.d q hl) (λl hl=>(d.d.w40 hl).2) (by rw[q.len];exact X) (by rw[q.len];omega) q.kp
  have hw:WP mb n0 goal ws:=⟨g40,y.sz,d.d.m0,by rw[hg,y.len]⟩
  have e3:=Jn (t:=eI goal) (.inl rfl) hw (by rw[y.len];exact X) (by rw[y.len];omega)
  obtain⟨G',e,hG⟩:=Vr (st:=Zt 4) (b:=bEnd)
   (λ_ G=>∃s,G=[.val (.list (ls.map ao)),.val (eI goal),.val (.tuple [.str "endless",.list (ps.map fr),.list (ws.map fr)]),.emp,s]) (ls.map ao) 0 [.val (.list (ls.map ao)),.val (eI goal),.val (.tuple [.str "endless",.list (ps.map fr),.list (ws.map fr)]),.emp,.emp] ⟨.emp,rfl⟩ λi x G hx ⟨s,hG⟩=>by
    subst hG;rw[jb]at hx;cases hzz:ls[i]? with
    |none=>rw[hzz]at hx;cases hx
    |some l=>
     rw[hzz]at hx;cases hx;have hm:=qb hzz;have wl:WP mb n0 l.1 ws:=⟨(d.d.w40 hm).1,y.sz,d.d.m0,by rw[d.d.w l hm,y.len]⟩
     have w1:=Jn (t:=.list (l.1.map .int)) (.inl rfl) wl (by rw[y.len];exact X) (by rw[y.len];omega)
     have z:=zlf (y.l l hm);exact⟨_,rfl,[.val (.list (ls.map ao)),.val (eI goal),.val (.tuple [.str "endless",.list (ps.map fr),.list (ws.map fr)]),.emp,.val (ao l)],.inl (by simp[bEnd,ao,at0,at3c,w1,fr,z]),⟨_,rfl⟩⟩
  obtain⟨s,rfl⟩:=hG;have hd:Ut=ad (dFor (Zt 4) [] (av (aa 0)) bEnd) Wt:=rfl;have hpos:0<(dot goal ws).num:=zjE y.g;have e3':Yg [.list (goal.map .int),.list (ws.map fr)]=.ok (.tuple [.int (dot goal ws).num,.int ((dot goal ws).den:Int)]):=e3;have e':forL (Zt 4) bEnd (ls.map ao) [.val (.list (ls.map ao)),.val (.list (goal.map .int)),.val (.tuple [.str "endless",.list (ps.map fr),.list (ws.map fr)]),.emp,.emp]=.ok (.nx [.val (.list (ls.map ao)),.val (.list (goal.map .int)),.val (.tuple [.str "endless",.list (ps.map fr),.list (ws.map fr)]),.emp,s]):=e;show Yc [.list (ls.map ao),.list (goal.map .int),_]=_;generalize bEnd=be at *
  generalize hLL:ls.map ao=LL at *
  have hll:LL.length=ls.length:=by rw[<- hLL,yQ]
  cases s<;>simp[Yc,X5,Wv,Wu,hd,Wt,ah,ai,at3a,at3b,at3c,at0,q_ec,q_eb,q_ee,hg,e0,ek,e',e3',hpos]
end
end K23
namespace K23
open PySem Fx
open Lx
open Lw
open Lq (Xl Ys Yd ZN Wb Xe ZK ZL ZC Z0 Zx Xx Yr Wk)
open K11 (XD YC YU YV YW X6 Y0 ZP ZV ZW ZX Yf ZU ZR Z5 Yi ZT ZD ZM Z4 ZI Ye ZO Dh Nm nH Kp Wj zar UK Qu Qt VV VW WO zeH cK Ui limX wl ky qv Vs Vt Wh Vu UP enc Ent PE dv zdX Qg zdZ UN WX QV Wr)
section
variable {K B n0 mb p:Nat}{ls:List Lim}
theorem zgf(ls:List Lim)(hw:∀l∈ls,l.1.length<=1000):Xf (Zt 0) tT (au (Zc (dL (zfi (d2 ag (aa 0) (dC (.int 0))))) (Zc (d2 ag (aa 0) (dC (.int 1))) ac))) [.emp] (ls.map aq)=.ok (ls.map ao):=
 Yv _ _ _ λl hl=>⟨[.val (aq l)],rfl,by simp[aq,ao,at0,at1]⟩
def bLw:DS:=(ad (aj 4 [] (Zj VL (Zc (aa 1) (Zc (aa 3) ac)))) (aE (tOr (tV (d2 fNe (d2 ag (aa 4) (dC (.int 0))) (dC (.str (PySem.Str.ofString "point"))))) (aC (tV (Zj ZZ (Zc (aa 2) (Zc (aa 3) (Zc (d2 ag (aa 0) (dC (.int 0))) (Zc (aa 4) ac)))))))) (ak (dC (.bool false))) ZH))
theorem lw_step(d:Td K B n0 mb ls)(t:List ya)(hp:p<ls.length)(hn:Need K ls p)(s4:Sl):∃s4',bLw [.val (.tuple [.int (K:Int),.tuple t]),.val (Zz K ls),.val (.list (ls.map ao)),.val (.int (p:Int)),s4]=.ok (.nx [.val (.tuple [.int (K:Int),.tuple t]),.val (Zz K ls),.val (.list (ls.map ao)),.val (.int (p:Int)),s4']):=by
 obtain⟨r,hr,e⟩:=zfP d.d d.d.n1 hp;have ew:=Jl d hp hr;obtain⟨l,M,ps,el,q,v⟩:=hn;rw[jx hp]at el;have el':=jr.inj el;subst el';have hq:=zgV hp d.d.w hr q v;cases hr with
 |@point qs q' v'=>
  refine⟨.val (.tuple [.str "point",.list (qs.map fr)]),?_⟩;simp only[Zz]at e ⊢;generalize ls.map ao=LL at *
  generalize ls.map aq=LT at *
  simp[bLw,e,at0,at20,n_pp,ew]
 |clash c z=>exact absurd hq (by show ¬(decide (("clash" : Str)=("point" : Str))=true);decide +kernel)
 |shares _ _ _ _ _ _=>exact absurd hq (by show ¬(decide (("shares" : Str)=("point" : Str))=true);decide +kernel)
theorem zdU(d:Td K B n0 mb ls):Xk [Zz K ls]=.ok (.bool true):=by
 obtain⟨ls',s1,s2,s4,s3,e⟩:=zhJ d.d;have d':=d.sub s1 s2;have hl:=d.d.len;have hl':=d'.d.len;have k4:=d.d.k4;have o1:=zeg (os:=ls) d'.d (λl hm=>⟨d.d.w l hm,(d.d.sz l hm).1,(d.d.sz l hm).2⟩) λps h k=>(s3 ps h).mp k
 have o2:=zeg (os:=ls') d.d (λl hm=>⟨d'.d.w l hm,(d'.d.sz l hm).1,(d'.d.sz l hm).2⟩) λps h k=>(s3 ps h).mpr k
 have rc:=zgf ls' λl hm=>by rw[d'.d.w l hm];omega
 obtain⟨G',e5,s3',s4',rfl⟩:=zbA (st:=Zt 3) (b:=bLw) (n:=ls'.length) (G:=[.val (Zz K ls),.val (Zz K ls'),.val (.list (ls'.map ao)),.emp,.emp])
  (λi G=>∃s3 s4,G=[.val (Zz K ls),.val (Zz K ls'),.val (.list (ls'.map ao)),s3,s4]) ⟨.emp,.emp,rfl⟩ λi G hi ⟨s3,s5,hG⟩=>by
   subst hG;obtain⟨s4',e6⟩:=lw_step d' (ls.map aq) hi (s4 i hi) s5;exact⟨_,rfl,_,.inl e6,_,_,rfl⟩
 have hd:Um=ad (dFor (Zt 3) [] (iRng (d1 aB (aa 2))) bLw) Ws:=rfl;have hlt:¬((ls.length:Int)<(ls'.length:Int)):=by omega
 have r:=Yn (n:=ls'.length) (by omega)
 have hl2:ls'.length<=16777216:=by omega
 simp only[Zz]at e o1 o2 e5 ⊢;generalize bLw=bl at *
 have z1:(ls'.map ao).length=ls'.length:=yQ _;have z2:(ls'.map aq).length=ls'.length:=yQ _;have z3:(ls.map aq).length=ls.length:=yQ _;generalize ls'.map ao=LL' at *
 generalize ls'.map aq=LT' at *
 generalize ls.map aq=LT at *
 cases s3'<;>cases s4'<;>simp[Xk,Qh,Up,Uo,hd,Ws,ai,e,o1,o2,at1,z1,z2,z3,hlt,hl2,rc,r,e5]
end
end K23
namespace K23
open PySem Fx
open Lx
open Lw
open Lq (Xl Ys Yd ZN Wb Xe ZK ZL ZC Z0 Zx Xx Yr Wk)
open K11 (XD YC YU YV YW X6 Y0 ZP ZV ZW ZX Yf ZU ZR Z5 Yi ZT ZD ZM Z4 ZI Ye ZO Dh Nm nH Kp Wj zar UK Qu Qt VV VW WO zeH cK Ui limX wl ky qv Vs Vt Wh Vu UP enc Ent PE dv zdX Qg zdZ UN WX QV Wr)
theorem zbx{i j:Int}(h:i.natAbs<18446744073709551616):Xj i j=true:=by simp[Xj,h]
theorem zgW(ns:List Int)(j w:Nat)(hw:w<=999999999999):∀(ks:List Nat),∃rs:List Int,Xf (Zt 0) tT (Zj YD (Zc (Zj Zy (Zc (aa 1) (Zc (d2 aF (d2 aF (dC (.int 8)) (d2 aA (dC (.int 5)) (aa 2))) (aa 0)) ac))) (Zc (aa 3) ac)))
  [.emp,.val (.list (ns.map .int)),.val (.int j),.val (.int w)] (ks.map λ(k:Nat)=>ya.int (k:Int))=.ok (rs.map .int)/\rs.length=ks.length/\∀x∈rs,x.natAbs<=w
 |[]=>⟨[],rfl,rfl,by simp⟩
 |k::ks=>by
  obtain⟨rs,e,hl,hb⟩:=zgW ns j w hw ks;obtain⟨c,e1⟩:=QF ns (8+5 * (j:Int)+(k:Int)) (by omega)
  obtain⟨r,e2,h1,h2⟩:=zgr c w (by omega) (by omega)
  have mo:Xj 5 (j:Int)=true:=zbx (by decide)
  refine⟨r::rs,?_,by simp[hl],?_⟩
  ·rw[yH];unfold Xf;simp[mo,e1,e2,e]
  ·intro x hx;rcases yG.mp hx with rfl|hx
   ·omega
   ·exact hb x hx
def bTd1:DS:=(zan 6 [] (Y4 1 [0,5,3] (Zt 0) (iRng (d2 aF (aa 1) (dC (.int 1)))) tT (Zj YD (Zc (Zj Zy (Zc (aa 1) (Zc (d2 aF (d2 aF (dC (.int 8)) (d2 aA (dC (.int 5)) (aa 2))) (aa 0)) ac))) (Zc (aa 3) ac)))))
def bTd2:DS:=(aE (tV (d2 fEq (d2 fMod (Zj Zy (Zc (aa 0) (Zc (dC (.int 3)) ac))) (dC (.int 2))) (dC (.int 1)))) (VS 6 [] (aa 1) (d1 fAbs (dIxN 6 (aa 1)))) ZH)
def bTd3:DS:=(dApp 4 [6] (au (Zc (dL (oCut (aa 6) pNo (pAt (aa 1)))) (Zc (dIxN 6 (aa 1)) ac))))
def bTd:DS:=ad bTd1 (ad bTd2 bTd3)
section
variable {K many w i:Nat}
theorem td1_ok(ns:List Int)(hK:K<=4)(hw:w<=999999999999)(xs:List ya)(s6:Sl):∃rs:List Int,rs.length=K+1/\(∀x∈rs,x.natAbs<=w)/\bTd1 [.val (.list (ns.map .int)),.val (.int K),.val (.int many),.val (.int w),.own xs,.val (.int i),s6,.emp]=.ok (.nx [.val (.list (ns.map .int)),.val (.int K),.val (.int many),.val (.int w),.own xs,.val (.int i),.own (rs.map .int),.emp]):=by
 obtain⟨rs,e,hl,hb⟩:=zgW ns i w hw (y4 (K+1));rw[<- Uz]at e;have hk2:=Yn (n:=K+1) (by omega)
 rw[show((K+1:Nat):Int)=(K:Int)+1 by omega]at hk2
 have ht:((K:Int)+1).toNat=K+1:=by omega
 have hr:(aw 0 (K+1)).length<=16777216:=by rw[XZ];omega
 refine⟨rs,by simpa using hl,hb,?_⟩
 unfold bTd1;simp only[zan,d2,dC,aa,Res.bind_ok,dL,Y4,iRng,aD,yH,qW,frz,yck];simp[hk2,ht,hr,e]
theorem td2_ok(ns:List Int)(xs:List ya){rs:List Int}(hl:rs.length=K+1)(hb:∀x∈rs,x.natAbs<=w):∃rs':List Int,rs'.length=K+1/\(∀x∈rs',x.natAbs<=w)/\bTd2 [.val (.list (ns.map .int)),.val (.int K),.val (.int many),.val (.int w),.own xs,.val (.int i),.own (rs.map .int),.emp]=.ok (.nx [.val (.list (ns.map .int)),.val (.int K),.val (.int many),.val (.int w),.own xs,.val (.int i),.own (rs'.map .int),.emp]):=by
 obtain⟨c,e1⟩:=QF ns 3 (by omega)
 obtain⟨r,m,hr⟩:∃r:Nat,jS c 2=(r:Int)/\r<2:=zaH (n:=2) (by decide)
 rcases(show r=0\/r=1 by omega) with rfl|rfl
 ·exact⟨rs,hl,hb,by simp[bTd2,e1,m,Wr]⟩
 ·have i1:atP (rs.map .int) (K:Int)=some (.int rs[K]):=XI (by omega)
  have i2:ixP (rs.map ya.int).length (K:Int)=some K:=by simp[ixP,hl];omega
  have es:(rs.map ya.int).set K (.int (if rs[K]<0 then -rs[K] else rs[K]))=(rs.set K (if rs[K]<0 then -rs[K] else rs[K])).map .int:=by rw[yci]
  refine⟨rs.set K (if rs[K]<0 then -rs[K] else rs[K]),by simp[hl],λx hx=>?_,?_⟩
  ·rcases List.mem_or_eq_of_mem_set hx with hx|rfl
   ·exact hb x hx
   ·have:=hb rs[K] (yT _);split<;>omega
  ·rw[<- es];generalize rs.map ya.int=R at *
   simp[bTd2,e1,m,Wr,i1,i2]
theorem td3_ok(ns:List Int)(xs:List ya)(hx:xs.length<1000){rs:List Int}(hl:rs.length=K+1)(hb:∀x∈rs,x.natAbs<=w):∃l:Lim,LimOk K w l/\bTd3 [.val (.list (ns.map .int)),.val (.int K),.val (.int many),.val (.int w),.own xs,.val (.int i),.own (rs.map .int),.emp]=.ok (.nx [.val (.list (ns.map .int)),.val (.int K),.val (.int many),.val (.int w),.own (xs++[ao l]),.val (.int i),.val (.list (rs.map .int)),.emp]):=by
 have c1:=zeB (xs:=rs.map .int) (p:=K) (by simp;omega)
 have i1:atP (rs.map .int) (K:Int)=some (.int rs[K]):=XI (by omega)
 have c2:(rs.map ya.int).take K=(rs.take K).map .int:=by simp
 have hxl:xs.length<16777216:=by omega
 rw[c2]at c1;refine⟨(rs.take K,rs[K]),⟨by simp;omega,λx hx=>hb x (yc7 hx),hb _ (yT _)⟩,?_⟩
 generalize rs.take K=rt at *
 generalize rs[K]=rk at *
 generalize rs.map ya.int=R at *
 simp[bTd3,c1,i1,hxl,ao]
theorem zkg(ns:List Int)(hK:K<=4)(hw:w<=999999999999)(hm:many<=10):∃(ls:List Lim) (s5 s6:Sl),ls.length=many/\(∀l∈ls,LimOk K w l)/\forL (Zt 5) bTd (aw 0 many) [.val (.list (ns.map .int)),.val (.int K),.val (.int many),.val (.int w),.own [],.emp,.emp,.emp]=.ok (.nx [.val (.list (ns.map .int)),.val (.int K),.val (.int many),.val (.int w),.own (ls.map ao),s5,s6,.emp]):=by
 obtain⟨G',e,ls,s5,s6,hl,hb,rfl⟩:=zbA (st:=Zt 5) (b:=bTd) (n:=many) (G:=[.val (.list (ns.map .int)),.val (.int K),.val (.int many),.val (.int w),.own [],.emp,.emp,.emp])
  (λi G=>∃(ls:List Lim) (s5 s6:Sl),ls.length=i/\(∀l∈ls,LimOk K w l)/\G=[.val (.list (ns.map .int)),.val (.int K),.val (.int many),.val (.int w),.own (ls.map ao),s5,s6,.emp])
  ⟨[],.emp,.emp,rfl,by simp,rfl⟩ λi G hi ⟨ls,s5,s6,hl,hb,hG⟩=>by
   subst hG;obtain⟨rs,a1,a2,a3⟩:=td1_ok (many:=many) (i:=i) ns hK hw (ls.map ao) s6;obtain⟨rs',b1,b2,b3⟩:=td2_ok (many:=many) (i:=i) ns (ls.map ao) a1 a2;obtain⟨l,g1,g2⟩:=td3_ok (many:=many) (i:=i) ns (ls.map ao) (by rw[yQ];omega) b1 b2
   have eb:bTd [.val (.list (ns.map .int)),.val (.int K),.val (.int many),.val (.int w),.own (ls.map ao),.val (.int i),s6,.emp]=.ok (.nx [.val (.list (ns.map .int)),.val (.int K),.val (.int many),.val (.int w),.own (ls.map ao++[ao l]),.val (.int i),.val (.list (rs'.map .int)),.emp]):=by
    unfold bTd;simp only[ad,a3,b3,Res.bind_ok,g2]
   refine⟨_,rfl,_,.inl eb,ls++[l],.val (.int i),.val (.list (rs'.map .int)),by simp[hl],?_,by simp⟩
   intro l' hl';rcases jN.mp hl' with h|h
   ·exact hb l' h
   ·simp at h;subst h;exact g1
 exact⟨ls,s5,s6,hl,hb,e⟩
end
theorem na4:Nm 4 3 15 2:=⟨by decide,by decide,by decide,by decide,by decide,by decide,by decide,by decide,by decide⟩
theorem na3:Nm 3 3 15 2:=⟨by decide,by decide,by decide,by decide,by decide,by decide,by decide,by decide,by decide⟩
theorem na2:Nm 2 3 15 2:=⟨by decide,by decide,by decide,by decide,by decide,by decide,by decide,by decide,by decide⟩
theorem nb3:Nm 3 18 22 5:=⟨by decide,by decide,by decide,by decide,by decide,by decide,by decide,by decide,by decide⟩
theorem nb2:Nm 2 18 22 5:=⟨by decide,by decide,by decide,by decide,by decide,by decide,by decide,by decide,by decide⟩
theorem nb1:Nm 1 18 22 5:=⟨by decide,by decide,by decide,by decide,by decide,by decide,by decide,by decide,by decide⟩
theorem nc2:Nm 2 648 31 10:=⟨by decide,by decide,by decide,by decide,by decide,by decide,by decide,by decide,by decide⟩
theorem nc1:Nm 1 648 31 10:=⟨by decide,by decide,by decide,by decide,by decide,by decide,by decide,by decide,by decide⟩
theorem ne2:Nm 2 999999999999 125 40:=⟨by decide,by decide,by decide,by decide,by decide,by decide,by decide,by decide,by decide⟩
theorem ne1:Nm 1 1999999999996000000000002 163 81:=⟨by decide,by decide,by decide,by decide,by decide,by decide,by decide,by decide,by decide⟩
structure S1(K B n0 mb B' n' mb' m:Nat):Prop where
 k2:2<=K
 k4:K<=4
 a:Nm K B n0 mb
 b:Nm (K - 1) B' n' mb'
 bb:2 * B * B<=B'
 B12:B<=999999999999
 m6:m<=6
 tz:wSz mb' n' (m+m * m)+mb'+n' < 8000
 b3:3<=B'
 vz:wSz mb' (sW n' 7) (K - 1)+mb'+sW n' 7<8000
theorem s1_sm{K m:Nat}(h2:2<=K)(h4:K<=4)(hm:m<=6):S1 K 3 15 2 18 22 5 m:=by
 have t:wSz 5 22 (m+m * m)+5+22<8000:=by
  have q:m * m<=6 * 6:=qu hm hm;have:=zap (m:=5) (n:=22) (show m+m * m<=42 by omega)
  have z:wSz 5 22 42=1177:=by decide
  omega
 rcases(show K=2\/K=3\/K=4 by omega) with rfl|rfl|rfl
 ·exact⟨by decide,by decide,na2,nb1,by decide,by decide,hm,t,by decide,by decide⟩
 ·exact⟨by decide,by decide,na3,nb2,by decide,by decide,hm,t,by decide,by decide⟩
 ·exact⟨by decide,by decide,na4,nb3,by decide,by decide,hm,t,by decide,by decide⟩
theorem s1_bg{m:Nat}(hm:m<=4):S1 2 999999999999 125 40 1999999999996000000000002 163 81 m:=by
 have t:wSz 81 163 (m+m * m)+81+163<8000:=by
  have q:m * m<=4 * 4:=qu hm hm;have:=zap (m:=81) (n:=163) (show m+m * m<=20 by omega)
  have z:wSz 81 163 20=4901:=by decide
  omega
 exact⟨by decide,by decide,ne2,ne1,by decide,by decide,by omega,t,by decide,by decide⟩
theorem S1.td{K B n0 mb B' n' mb' m k:Nat}{ls:List Lim}(s:S1 K B n0 mb B' n' mb' m)(hl:ls.length=m)(h:∀l∈ls,LimOk K B l)(hk:k<K):∃os,Td (K - 1) B' n' mb' os/\VA [Zz K ls,.int k]=.ok (Zz (K - 1) os):=by
 have m6:=s.m6;have dh:Dh K B n0 mb ls:=s.a.dh (by omega) (λl hl=>(h l hl).len) λl hl=>⟨(h l hl).ws,(h l hl).bd⟩
 obtain⟨os,d,ol,e⟩:=zen dh s.k2 hk (by omega) s.B12 s.b s.bb
 refine⟨os,⟨d,?_,s.b3,s.vz⟩,e⟩;rw[hl]at ol;have:=zap (m:=mb') (n:=n') ol;have:=s.tz;omega
theorem td_two{K k:Nat}{ls:List Lim}(d:Td K 18 22 5 ls)(h2:2<=K)(h3:K<=3)(hl:ls.length<7)(hk:k<K):∃os,Td (K - 1) 648 31 10 os/\VA [Zz K ls,.int k]=.ok (Zz (K - 1) os):=by
 have nm:Nm (K - 1) 648 31 10:=by
  rcases(show K=2\/K=3 by omega) with rfl|rfl
  ·exact nc1
  ·exact nc2
 obtain⟨os,d',ol,e⟩:=zen d.d h2 hk (by omega) (by decide) nm (by decide)
 refine⟨os,⟨d',?_,by decide,?_⟩,e⟩
 ·have q:ls.length * ls.length<=6 * 6:=qu (by omega) (by omega)
  have:=zap (m:=10) (n:=31) (show os.length<=42 by omega)
  have z:wSz 10 31 42=1765:=by decide
  omega
 ·rcases(show K=2\/K=3 by omega) with rfl|rfl<;>decide
theorem told_ok(ns:List Int):∃K B n0 mb ls,Td K B n0 mb ls/\Vl [.list (ns.map .int)]=.ok (Zz K ls):=by
 obtain⟨c0,e0⟩:=QF ns 0 (by omega)
 obtain⟨c1,e1⟩:=QF ns 1 (by omega)
 obtain⟨c2,e2⟩:=QF ns 2 (by omega)
 obtain⟨c4,e4⟩:=QF ns 4 (by omega)
 obtain⟨c5,e5⟩:=QF ns 5 (by omega)
 obtain⟨a,m0,ha⟩:∃r:Nat,jS c0 3=(r:Int)/\r<3:=zaH (n:=3) (by decide)
 obtain⟨b,m1,hb⟩:∃r:Nat,jS c1 7=(r:Int)/\r<7:=zaH (n:=7) (by decide)
 obtain⟨c,m2,hc⟩:∃r:Nat,jS c2 3=(r:Int)/\r<3:=zaH (n:=3) (by decide)
 obtain⟨f,m5,hf⟩:∃r:Nat,jS c5 2=(r:Int)/\r<2:=zaH (n:=2) (by decide)
 have p12:(10:Int) ^ 12=1000000000000:=by decide
 have hd:zbY=ad (dFor (Zt 5) [] (iRng (aa 2)) bTd) Q4:=rfl;have main:∀{K w many n0 mb B' n' mb':Nat},S1 K w n0 mb B' n' mb' many->(B'=18/\n'=22/\mb'=5\/K=2)->∃K1 B1 n1 mb1 ls,Td K1 B1 n1 mb1 ls/\VF [.val (.list (ns.map .int)),.val (.int K),.val (.int many),.val (.int w),.emp,.emp,.emp,.emp]=.ok (.rt (Zz K1 ls)):=λ{K w many n0 mb B' n' mb'} s hs=>by
  have k2:=s.k2;have k4:=s.k4;have m6:=s.m6;have B12:=s.B12;obtain⟨ls,s5,s6,hl,hls,el⟩:=zkg (K:=K) (w:=w) (many:=many) ns k4 B12 (by omega)
  have ed:=zjW (k:=K) (w:=w) hls B12 ⟨by omega,k4⟩ (by omega)
  obtain⟨k,mk,hk⟩:=zaH (c:=c4) (n:=K) (by omega)
  obtain⟨os,d,eo⟩:=s.td hl hls hk;have zK:¬K=0:=by omega
  have r:=Yn (n:=many) (by omega)
  have kk:((K - 1:Nat):Int)=(K:Int) - 1:=by omega
  have top:∀t,(∀s4 s5 s6:Sl,WK [.val (.list (ns.map .int)),.val (.int K),.val (.int many),.val (.int w),s4,s5,s6,.val (Zz (K - 1) os)]=.ok (.rt t))->VF [.val (.list (ns.map .int)),.val (.int K),.val (.int many),.val (.int w),.emp,.emp,.emp,.emp]=.ok (.rt t):=λt ht=>by
   have h1:=ht (.own (ls.map ao)) s5 s6;have h2:=ht (.val (.list (ls.map ao))) s5 s6;simp only[Zz]at eo h1 h2;generalize bTd=bt at *
   simp[VF,hd,Q4,r,el,ed,e4,mk,zK,eo];split
   ·simpa using h1
   ·simpa using h2
  have kd:K - 1+1=K:=by omega
  by_cases q:(2<=K - 1/\f=1)/\os.length<7
  ·obtain⟨⟨q1,rfl⟩,q3⟩:=q;rcases hs with ⟨rfl,rfl,rfl⟩|rfl
   ·obtain⟨k',mk',hk'⟩:=zaH (c:=c4) (n:=K - 1) (by omega)
    obtain⟨os',d',eo'⟩:=td_two d q1 (by omega) q3 hk'
    refine⟨_,_,_,_,os',d',top _ λs4 s5 s6=>?_⟩
    have g1:(1:Int)<(K:Int) - 1:=by omega
    have g2:(os.length:Int)<7:=by omega
    have g3:¬((K:Int) - 1=0):=by omega
    have kk':((K - 1 - 1:Nat):Int)=(K:Int) - 1 - 1:=by omega
    rw[kk]at mk';simp only[Zz,kk,kk']at eo' ⊢;simp[WK,VE,at0,at1,g1,g2,e5,m5,Wr,e4,mk',g3,eo']
   ·omega
  ·refine⟨_,_,_,_,os,d,top _ λs4 s5 s6=>?_⟩
   simp only[Zz,kk];by_cases g1:(1:Int)<(K:Int) - 1
   ·rcases(show f=0\/f=1 by omega) with rfl|rfl
    ·simp[WK,VE,at0,at1,g1,e5,m5,Wr]
    ·have g2:¬((os.length:Int)<7):=λz=>q ⟨⟨by omega,rfl⟩,by omega⟩
     simp[WK,VE,at0,at1,g1,g2,e5,m5,Wr]
   ·simp[WK,VE,at0,at1,g1]
 have fin:∀{K w many:Nat}{t:ya},(∃w0:Int,atP [.int 3,.int 3,.int 999999999999] (c:Int)=some (.int w0)/\((¬(3<w0)/\w0=w/\K=2+a/\many=b)\/(3<w0/\w0=w/\K=2/\(many:Int)=jS b 5)))->VF [.val (.list (ns.map .int)),.val (.int K),.val (.int many),.val (.int w),.emp,.emp,.emp,.emp]=.ok (.rt t)->Vl [.list (ns.map .int)]=.ok t:=λ{K w many t} ⟨w0,ew,h⟩ ht=>by
  rcases h with ⟨h1,rfl,rfl,rfl⟩|⟨h1,rfl,rfl,h4⟩
  ·rw[show((2+a:Nat):Int)=2+(a:Int) by omega]at ht
   simp[Vl,zbC,Q7,Q6,Q5,ai,e0,m0,e1,m1,e2,m2,p12,ew,h1,ht]
  ·rw[h4]at ht;simp at ht;simp[Vl,zbC,Q7,Q6,Q5,ai,e0,m0,e1,m1,e2,m2,p12,ew,h1,ht]
 rcases(show c=0\/c=1\/c=2 by omega) with rfl|rfl|rfl
 ·obtain⟨K,B,n0,mb,ls,d,e⟩:=main (s1_sm (K:=2+a) (m:=b) (by omega) (by omega) (by omega)) (.inl ⟨rfl,rfl,rfl⟩)
  exact⟨K,B,n0,mb,ls,d,fin ⟨3,rfl,.inl ⟨by decide,rfl,rfl,rfl⟩⟩ e⟩
 ·obtain⟨K,B,n0,mb,ls,d,e⟩:=main (s1_sm (K:=2+a) (m:=b) (by omega) (by omega) (by omega)) (.inl ⟨rfl,rfl,rfl⟩)
  exact⟨K,B,n0,mb,ls,d,fin ⟨3,rfl,.inl ⟨by decide,rfl,rfl,rfl⟩⟩ e⟩
 ·obtain⟨m',mm,hm⟩:∃r:Nat,jS (b:Int) 5=(r:Int)/\r<5:=zaH (n:=5) (by decide)
  obtain⟨K,B,n0,mb,ls,d,e⟩:=main (s1_bg (m:=m') (by omega)) (.inr rfl)
  exact⟨K,B,n0,mb,ls,d,fin ⟨999999999999,rfl,.inr ⟨by decide,rfl,rfl,mm.symm⟩⟩ e⟩
end K23
namespace K23
open PySem Fx
open Lx
open Lw
open Lq (Xl Ys Yd ZN Wb Xe ZK ZL ZC Z0 Zx Xx Yr Wk)
open K11 (XD YC YU YV YW X6 Y0 ZP ZV ZW ZX Yf ZU ZR Z5 Yi ZT ZD ZM Z4 ZI Ye ZO Dh Nm nH Kp Wj zar UK Qu Qt VV VW WO zeH cK Ui limX wl ky qv Vs Vt Wh Vu UP enc Ent PE dv zdX Qg zdZ UN WX QV Wr)
theorem zdt(ns:List Int):∀(ks:List Nat),∃rs:List Int,Xf (Zt 0) tT (Zj YD (Zc (Zj Zy (Zc (aa 1) (Zc (d2 aF (dC (.int 50)) (aa 0)) ac))) (Zc (dC (.int 3)) ac)))
  [.emp,.val (.list (ns.map .int))] (ks.map λ(k:Nat)=>ya.int (k:Int))=.ok (rs.map .int)/\rs.length=ks.length/\∀x∈rs,x.natAbs<=3
 |[]=>⟨[],rfl,rfl,by simp⟩
 |k::ks=>by
  obtain⟨rs,e,hl,hb⟩:=zdt ns ks;obtain⟨c,e1⟩:=QF ns (50+(k:Int)) (by omega)
  obtain⟨r,e2,h1,h2⟩:=zgr c 3 (by omega) (by decide)
  refine⟨r::rs,?_,by simp[hl],?_⟩
  ·rw[yH];unfold Xf;simp[e1,e2,e]
  ·intro x hx;rcases yG.mp hx with rfl|hx
   ·omega
   ·exact hb x hx
theorem shp_lim(l:Lim):Shp 2 (ao l):=zia (Jp λi _=>zbh i) ((zbh _).mono (by decide))
theorem nil_ok(ls:List Lim):fNe (.list (ls.map ao)) (.list [])=.ok (.bool (!ls.isEmpty)):=by
 have s1:=(Jp (f:=ao) (xs:=ls) λl _=>shp_lim l).ok (by decide)
 have s2:=zbi;unfold fNe;simp only[s1,s2];cases ls with
 |nil=>simp[ya.eqv,ya.eqvAll]
 |cons l ls=>simp[ya.eqv,ya.eqvAll]
theorem rng_zip(ls:List Lim):aw 0 ls.length=ls.zipIdx.map λp=>ya.int (p.2:Int):=by
 rw[Uz,List.range_eq_range',<- List.zipIdx_map_snd 0 ls,jf]
 rfl
section
variable {K B n0 mb:Nat}{ls:List Lim}{n:Nat}{ps:List Rat}
theorem due_comp(d:Dh K B n0 mb ls)(q:Pt K n ls ps)(hz:wSz mb n K+mb+n<8000):Xf (Zt 0) (tV (d2 fEq (Zj Yg (Zc (d2 ag (d2 ag (aa 1) (aa 0)) (dC (.int 0))) (Zc (aa 2) ac))) (au (Zc (d2 ag (d2 ag (aa 1) (aa 0)) (dC (.int 1))) (Zc (dC (.int 1)) ac))))) (aa 0) [.emp,.val (.list (ls.map ao)),.val (.list (ps.map fr))] (aw 0 ls.length)=.ok (zbL ls ps):=by
 have k4:=d.k4;rw[rng_zip];exact JG (λp:Lim×Nat=>ya.int (p.2:Int)) (λp=>.int (p.2:Int)) (λp=>decide (dot p.1.1 ps=(p.1.2:Rat))) ls.zipIdx λp hm=>by
  obtain⟨h1,h2⟩:=List.mem_zipIdx' hm;have i2:atP (ls.map ao) (p.2:Int)=some (ao ls[p.2]):=XI h1;rw[<- h2]at i2;have w1:=Jn (t:=.list (p.1.1.map .int)) (.inl rfl) (zjq d q (mem_zipIdx hm)) (by rw[q.len];exact hz) (by rw[q.len];omega)
  refine⟨[.val (.int (p.2:Int)),.val (.list (ls.map ao)),.val (.list (ps.map fr))],rfl,?_,λ_=>rfl⟩
  have qq:=zgF (dot p.1.1 ps) (p.1.2:Rat);generalize ls.map ao=LL at *
  simp[i2,ao,at0,at1,w1,Vy,qq]
theorem zaB(d:Dh K B n0 mb ls)(q:Pt K n ls ps)(hz:wSz mb n K+mb+n<8000):Yh [.list (ls.map ao),.list (ps.map fr)]=.ok (.bool true):=by
 have k4:=d.k4;exact zcg (m:=mb) (n:=n) (k:=K) (λl hl=>zjq d q hl) (λl hl=>(d.w40 hl).2) (by rw[q.len];exact hz) (by rw[q.len];omega) q.kp
theorem zjp{ss:List Rat}{goal:List Int}(d:Td K B n0 mb ls)(hg:goal.length=K)(hgs:∀x∈goal,x.natAbs<=B)(hj:Wl [Zz K ls]=.ok (.tuple [.str "clash",.list (ss.map fr)]))(no:∀ps,¬Pt K n0 ls ps):WY [Zz K ls,eI goal]=.ok (.bool true):=by
 have e1:=(well_no hj).2;obtain⟨r,hr,e2⟩:=zdx d.d.dk hg hgs;have e3:zlM [Zz K ls,eI goal]=.exc "NoPoint":=by
  cases hr with
  |clash c=>
   simp only[Zz,eI]at e2 ⊢;simp[zlM,d_top,zlZ,ai,e2,at20,q_cc]
  |best q _=>exact absurd q (no _)
  |endless q _=>exact absurd q (no _)
 simp only[Zz,eI]at e1 e3 ⊢;simp[WY,zaW,Ja,Q9,Q8,ah,ai,e1,e3,Wr]
end
theorem seq_nx{a b:DS}{G G':List Sl}(h:a G=.ok (.nx G')):ad a b G=b G':=by simp[h]
theorem zd3{a b d:DS}{G G':List Sl}{r:Res Out}(hd:d=ad a b)(h:a G=.ok (.nx G'))(t:b G'=r):d G=r:=by rw[hd,seq_nx h];exact t
theorem law_ok(ns:List Int)(_hl:ns.length<=63):zlN [.list (ns.map .int)]=.ok (.bool true):=by
 obtain⟨K,B,n0,mb,ls,d,e1⟩:=told_ok ns;have k4:=d.d.k4;have hn:=d.d.n;have len:=d.d.len;have b3:=d.b3;have rc:=zgf ls λl hm=>by rw[d.d.w l hm];omega
 obtain⟨goal,ec,hg,hgs⟩:=zdt ns (y4 K);rw[<- Uz]at ec;have hg:goal.length=K:=by simpa using hg
 have hgs:∀x∈goal,x.natAbs<=B:=λx hx=>yE (hgs x hx) b3
 obtain⟨r,hr,eb⟩:=zdx d.d.dk hg hgs;have ew:=zd0 d hg hgs hr;obtain⟨c6,e6⟩:=QF ns 6 (by omega)
 have r1:Uw (K:Int)=true:=Yn (by omega)
 have r2:(aw 0 K).length<=16777216:=by rw[XZ];omega
 have hLT:(ls.map aq).length<=16777216:=by rw[yQ];omega
 have z0:wSz mb n0 K+mb+n0<8000:=by have:=d.d.cov;omega
 -- from the judgement on
 have t8:∀s5:Sl,zdg [.val (.list (ns.map .int)),.val (Zz K ls),.val (.int K),.val (.list (ls.map ao)),.val (eI goal),s5,.emp,.emp,.emp]=.ok (.rt (.bool true)):=λs5=>by
  rcases zlx d.d.dk with ⟨ps,p1,p2,p3,ej⟩|⟨ss,q1,q2,q3,q4,q5,ej⟩
  ·have pt:Pt K n0 ls ps:=⟨p1,p2,p3⟩;have ip:=Vi p1;have kp:=zaB d.d pt z0;by_cases g:6<ls.length
   ·have g':(6:Int)<(ls.length:Int):=by omega
    simp only[Zz]at ej ⊢;have zl:(ls.map ao).length=ls.length:=yQ _;generalize ls.map ao=LL at *
    simp[zdg,zfH,zfL,zfK,ej,at20,at1,q_pc,ip,kp,zl,g']
   ·have g':¬((6:Int)<(ls.length:Int)):=by omega
    have dv:Dv K B n0 mb ls:=⟨d.d,by omega,d.d.n1,d.vz⟩
    obtain⟨qs,pq,ewl,_⟩:=zbb dv ej pt;have et:=Jo dv pq ewl;have iq:=Vi pq.len;have kq:=zaB d.d pq d.vz;have du:=due_comp d.d pq d.vz;have rr:Uw (ls.length:Int)=true:=Yn (by omega)
    have rl:(aw 0 ls.length).length<=16777216:=by rw[XZ];omega
    have le:fEq (.list (zbL ls qs)) (.list (zbL ls qs))=.ok (.bool true):=by
     unfold zbL;exact ziK (Jp λp _=>zbh _) (by decide)
    have zl:(ls.map ao).length=ls.length:=yQ _;simp only[Zz]at ej ewl et ⊢;generalize ls.map ao=LL at *
    generalize zbL ls qs=LV at *
    simp[zdg,zfH,zfL,zfK,ziY,ziX,ziW,ej,at20,at1,q_pc,ip,kp,zl,g',ewl,rr,rl,du,iq,kq,et,le]
  ·have cl:Cl K n0 ls ss:=⟨q1,q2,q3,q4,q5⟩;have ek:=zbF (zkh d q1 q2) q3 q4 q5;have er:=zjp d hg hgs ej λps h=>zfj d.d.w cl h
   simp only[Zz]at ej er ⊢;generalize ls.map ao=LL at *
   simp[zdg,zfH,ej,at20,at1,q_cc,ek,er]
 have t7:∀s5:Sl,zfI [.val (.list (ns.map .int)),.val (Zz K ls),.val (.int K),.val (.list (ls.map ao)),.val (eI goal),s5,.emp,.emp,.emp]=.ok (.rt (.bool true)):=λs5=>by
  have ht:=t8 (frzS s5);have el:=zdU d;have zl:(ls.map ao).length=ls.length:=yQ _;have ht':=t8 s5;simp only[Zz,eI]at ht' el ⊢;generalize ls.map ao=LL at *
  by_cases g:(ls.length:Int)<6
  ·simp[zfI,zl,g,el,ht']
  ·simp[zfI,zl,g,ht']
 have t6:zfJ [.val (.list (ns.map .int)),.val (Zz K ls),.val (.int K),.val (.list (ls.map ao)),.val (eI goal),.val (.int c6),.emp,.emp,.emp]=.ok (.rt (.bool true)):=by
  by_cases g:ls=[]
  ·subst g;have ht:=t7 (.val (.int c6));have n0:fNe (.list []) (.list [])=.ok (.bool false):=nil_ok [];simp only[Zz,eI,qW]at ht ⊢;simp[zfJ,n0,ht]
  ·have lp:0<ls.length:=List.length_pos_iff.mpr g;obtain⟨p,mp,hp⟩:=zaH (c:=c6) (n:=ls.length) lp;obtain⟨v,hv,ev⟩:=zfP d.d d.d.n1 hp;have ecw:=Jl d hp hv;have ht:=t7 (.val (.int p));have n0:fNe (.list (ls.map ao)) (.list [])=.ok (.bool true):=by
    rw[nil_ok];cases ls with
    |nil=>exact absurd rfl g
    |cons _ _=>rfl
   have zl:(ls.map ao).length=ls.length:=yQ _;have z3:¬ls.length=0:=by omega
   simp only[Zz,eI]at ht ev ⊢;generalize ls.map ao=LL at *
   simp[zfJ,n0,zl,mp,z3,ev,ecw,ht]
 simp only[Zz,eI]at e1 eb ew t6;generalize ls.map ao=LL at *
 generalize ns.map ya.int=NS at *
 generalize ls.map aq=LT at *
 generalize goal.map ya.int=GO at *
 have t5:zl2 [.val (.list NS),.val (.tuple [.int K,.tuple LT]),.val (.int K),.val (.list LL),.val (.list GO),.emp,.emp,.emp,.emp]=.ok (.rt (.bool true)):=
  zd3 rfl (by simp[e6]) t6
 have t4:zl3 [.val (.list NS),.val (.tuple [.int K,.tuple LT]),.val (.int K),.val (.list LL),.val (.list GO),.emp,.emp,.emp,.emp]=.ok (.rt (.bool true)):=
  zd3 rfl (by simp[eb,ew]) t5
 have t3:zl4 [.val (.list NS),.val (.tuple [.int K,.tuple LT]),.val (.int K),.val (.list LL),.emp,.emp,.emp,.emp,.emp]=.ok (.rt (.bool true)):=
  zd3 rfl (by simp[r1,r2,ec]) t4
 have t2:zl5 [.val (.list NS),.val (.tuple [.int K,.tuple LT]),.val (.int K),.emp,.emp,.emp,.emp,.emp,.emp]=.ok (.rt (.bool true)):=
  zd3 rfl (by simp[at1,hLT,rc]) t3
 have t1:zl6 [.val (.list NS),.val (.tuple [.int K,.tuple LT]),.emp,.emp,.emp,.emp,.emp,.emp,.emp]=.ok (.rt (.bool true)):=
  zd3 rfl (by simp[at0]) t2
 have t0:d_law [.val (.list NS),.emp,.emp,.emp,.emp,.emp,.emp,.emp,.emp]=.ok (.rt (.bool true)):=
  zd3 rfl (by simp[e1]) t1
 unfold zlN;generalize d_law=D at *
 simp[ah,ai,t0]
end K23
namespace K23
open PySem PySem.Spec PyProof.Rows L2 Fx Lx
open Lw
open Lq (Xl Ys Yd ZN Wb Xe ZK ZL ZC Z0 Zx)
open K11 (XD YC YU YV YW X6 Y0 ZP ZV ZW ZX Yf ZU ZR Z5 Yi ZT ZD ZM Z4 ZI Ye ZO)
theorem walk{l:ydr}{q:y6}{loose:List Str}{XP:(Str->Option yb)->yd->Prop}{YP:y0->yd->Prop}{d:DefRec}{K:Params->yh}(hn:l.most=some 63)(hdf:d.params.defaults=[])
  (hrec:∃d0,(recsOf q).find? (λe=>e.name == ("raising_column" : Str))=some d0) (hY:∀(w:y0) (h:yd),YP w h->(K w.params).In h)
  (F:∀(w:y0) (mg:Str->Option yb) (fa:yc) (h:yd),(K w.params).In h->h.Ns yn mg->mg d.name=some (.ref fa) ->
   ∃(fd:yM) (c T:yc),jA (K w.params) "raising_column"=some (c,T)/\yba (K w.params)=true/\(∀(s:ye) (u:yb),BindsTo s fd ⟨[u],[]⟩ [("_law_script",u)])/\∀base:yd,(K w.params).In base->base.Ns yn mg->zfW mg base->jX base c T->FnOk l.prog w (K w.params) mg base CX0 12 fa fd ["_law_script"] (Fx.spF (K w.params) none 1 zlN)):
  PySem.W.WalkO q loose XP YP l.row.toRowW d [] (λf vs=>PySem.call f vs):=
 let⟨d0,h0⟩:=hrec
 Fx.walk_T (n:=63) (k:=12) (x:="_law_script") (x0:="raising_column") hn (by decide) hdf ⟨rfl,by decide,by decide⟩ (ql.mpr rfl) h0 hY F (λns hl=>law_ok ns hl)
end K23
open PySem PySem.W PyProof.Rows
namespace PySem.W.Fast
def tw13615414618128773609:=0
def tw13277622810420215580:=0
def tw5792976540504782094:=0
def tw4943174482948208928:=0
def tw1831421325983622741:=0
def tw15022323460623795297:=0
def tw9994253558824848328:=0
def tw1361876744582764778:=0
def tw8158990538939767347:=0
def tw17907919156603241661:=0
def tw11808154612316361062:=0
def tw10467723566520558060:=0
def tw17591172729265008555:=0
def tw12472533650036250704:=0
def tw6658148441323111971:=0
def tw6407753681235062478:=0
def tw5417893647207566079:=0
def tw3677293756473319968:=0
def tw15458157441584780669:=0
def tw18128908997908066966:=0
def tw3524627386697028361:=0
def tw15322288896192010296:=0
def tw988834051419868475:=0
def tw16990768174728989136:=0
def tw11025086061419479521:=0
def tw14142567099057423265:=0
def tw1409531874332216546:=0
def tw656537905041815346:=0
def tw14830266380476291042:=0
def tw3957734117291994661:=0
def tw6841776024593146192:=0
def tw12927167148407075121:=0
def tw6803568172205712487:=0
def tw1828934098701683183:=0
def tw14143718477647750775:=0
def tw8570739341169405765:=0
def tw14143657149538466999:=0
def tw13978116734695002956:=0
def tw10140957012721059652:=0
def tw2359619302360808643:=0
def tw15777518767501382633:=0
def tw15087641139188653957:=0
def tw16949931438521459419:=0
def tw11019902049038313778:=0
def tw13972586217912362171:=0
def tw17320833656374058571:=0
def tw8746714716117995902:=0
def tw4250449849341527787:=0
def tw15908862040950866942:=0
def tw12087850611327498434:=0
def tw9773243001650611912:=0
def tw1719252250229377618:=0
def tw10728427868905316124:=0
def tw12396583495189699515:=0
def tw13003397491540490884:=0
def tw2383924323279350520:=0
def tw18017477512715064215:=0
def tw15397472129852481699:=0
def tw2504068838950163779:=0
def tw13941374119508804223:=0
def tw2881205004675671060:=0
def tw15984187801755256056:=0
def tw3049317740397946126:=0
def tw2174545182559318947:=0
def tw4046732932848420056:=0
def tw1817166948473696883:=0
def tw14151328572337311159:=0
def tw3875063933151666141:=0
def tw12967729710737010510:=0
def tw15039346139033649345:=0
def tw4532952133213370430:=0
def tw17859358867378270663:=0
def tw1651154330385192854:=0
def tw7019219782141096176:=0
def tw15528392170852444721:=0
def tw4749259334063199065:=0
def tw4318988545151651404:=0
def tw5079797476332282339:=0
def tw8476660065297659322:=0
def tw7215413715456192523:=0
def tw17784747120649907038:=0
def tw18109170335405402348:=0
def tw15517069881310292968:=0
def tw4612830428723193856:=0
def tw1574245050576657492:=0
def tw10555019461513673918:=0
def tw3095651910054785042:=0
def tw8329708343042924953:=0
def tw5178349644044131612:=0
def tw12919241257920542991:=0
def tw4078470252995584601:=0
def tw8861971583053766845:=0
def tw17486010707947586521:=0
def tw9365247084058988334:=0
def tw9167038781976826683:=0
def tw7953206795658509698:=0
def tw12385301212559140308:=0
def tw12425572403914275652:=0
def tw2851294090871282677:=0
def tw15618596634304993003:=0
def tw14716075492312205468:=0
def tw16133921029342599175:=0
def tw17158370807068261763:=0
def tw17026681316616561954:=0
def tw966117029678373527:=0
def tw15661246158705606156:=0
def tw8297401798721328711:=0
def tw6945580517002626834:=0
def tw3732892844646135288:=0
def tw8551463486928447901:=0
def tw17127624626683445668:=0
def tw4085253425524793576:=0
def tw11019570509292124154:=0
def tw8563086227779880842:=0
def tw9071160664864307337:=0
def tw5907590404568928945:=0
def tw12036742269311676570:=0
def tw2340536703970669207:=0
def tw2821566359477036618:=0
def tw10262848214466787173:=0
def tw9094121350446452364:=0
def tw7555138785526075927:=0
def tw15781471140609083476:=0
def tw15292957402081848476:=0
def tw6752377414657306172:=0
def tw209203655714086272:=0
def tw5581896105841428157:=0
def tw2572854741308287090:=0
def tw8474924113857568365:=0
def tw1909310811662081260:=0
def tw10754196189660293450:=0
def tw4440528635857980567:=0
def tw8172727080390543972:=0
def tw3477618698542276366:=0
def tw11540826331498001240:=0
def tw6818056686214590133:=0
def tw16426413533063668537:=0
def tw12058158240769839428:=0
def tw11146110064642736693:=0
def tw5059175604707246643:=0
def tw3490463030286219777:=0
def tw14480421127254583545:=0
def tw16974947340167337624:=0
def tw385309947195507545:=0
def tw14480867577393069758:=0
def tw10314011251654383081:=0
def tw2500773470427983647:=0
def tw8480036331922412088:=0
def tw640123970073500527:=0
def tw5092374146698011568:=0
def tw5629130019983894317:=0
def tw2158323125293618590:=0
def tw6221568376241040896:=0
def tw5175967351731281087:=0
def tw14569010671968316817:=0
def tw16510999925480948183:=0
def tw7114223695149415978:=0
def tw2852002488361175212:=0
def tw16554063064762132988:=0
def tw5247548354892504495:=0
def tw513435786294281378:=0
def tw14715179603494931328:=0
def tw904734195301792836:=0
def tw7771485093698425126:=0
def tw11637150068265087115:=0
def tw84241657408048980:=0
def tw7551156421805452625:=0
def tw10430410387824334765:=0
def tw13362201777814666517:=0
def tw1089096359899986678:=0
def tw14813248859528489955:=0
def tw2304079954322818833:=0
def tw13242359708813986748:=0
def tw7218653027375157372:=0
def tw14551702355843753779:=0
def tw17178445009024198241:=0
def tw17368602062215631936:=0
def tw2967148632020904546:=0
def tw16668944667690931004:=0
def tw2144384744905025759:=0
def tw5163846317455290120:=0
def tw17328057515574978479:=0
def tw8237350235155330688:=0
def tw11157401036144834566:=0
def tw4729239753288835851:=0
def tw7129427419114382742:=0
def tw7478781132824123035:=0
def tw13502617324998328527:=0
def tw2316744563471064849:=0
def tw5380847065746645281:=0
def tw422358833489968066:=0
def tw16582154586138022860:=0
def tw11364136397504539864:=0
def tw5208424328331073558:=0
def tw14224921238750950831:=0
def tw18159446128251088119:=0
def tw300090207648312236:=0
def tw11304156360418894973:=0
def tw14506874616883785112:=0
def tw3052629904166525654:=0
def tw5515031195322442077:=0
def tw11686861844449295809:=0
def tw1275661947201164233:=0
def tw6105217822803581768:=0
def tw6824313072916578356:=0
def tw7310494732755328690:=0
def tw976502658689728888:=0
def tw11515243563774426636:=0
def tw10811278114247044314:=0
def tw15119651331618236707:=0
def tw14254618828047197886:=0
def tw12801234296596630030:=0
def tw6851691031920584555:=0
def tw514237027572694652:=0
def tw10907885816623202054:=0
def tw15616147707038834892:=0
def tw1272018137600495959:=0
def tw2403692954186455776:=0
def tw9580079772367293344:=0
def tw17873453668489954071:=0
def tw1316711536871347537:=0
def tw13817380720099777067:=0
def tw214816315199169031:=0
def tw7846380499660963863:=0
def tw3416115029689334994:=0
def tw6485982555785758517:=0
def tw16784421967392961861:=0
def tw7558375874627183840:=0
def tw10225553156378735105:=0
def tw5605818813112044561:=0
def tw17689435018924078161:=0
def tw11139524809339899847:=0
def tw14337939430010306733:=0
def tw17531732077142597729:=0
def tw3854007438492839148:=0
def tw4967503201885074857:=0
def tw1027583467252709626:=0
def tw8293081655786563933:=0
def tw2540447542312049965:=0
def tw16680580482938574543:=0
def tw9192189138714685507:=0
def tw8062171276331919807:=0
def tw6617029749392815170:=0
def tw13832984414833179736:=0
def tw16692225196799563940:=0
def tw6157652334065817643:=0
def tw17768468384342216261:=0
def tw4207233826945480908:=0
def tw17073758660292731425:=0
def tw15920917753945975965:=0
def tw10206140114469135273:=0
def tw12700965009433066685:=0
def tw18262879605417291713:=0
def tw12988753002267842902:=0
def tw11688353903562588947:=0
def tw2230568806403518831:=0
def tw14636255675150417661:=0
def tw10464415321403141864:=0
def tw4163880012180348463:=0
def tw11083628760480750092:=0
def tw15921574288164883052:=0
def tw7900317183454956911:=0
def tw14973500558829083068:=0
def tw5882173945708935086:=0
def tw10072647475080097667:=0
def tw4464573031527384438:=0
def tw2711828338047034353:=0
def tw2990613964389169193:=0
def tw3304712674216714648:=0
def tw3122427980182005856:=0
def tw11076433523533892762:=0
def tw11662382954219943383:=0
def tw10427847973349067584:=0
def tw2471609552271807609:=0
def tw16833344863790209414:=0
def tw14993811583344810460:=0
def tw1546008643822644276:=0
def tw4345103490866359891:=0
def tw4198880541383695738:=0
def tw12176384738140533506:=0
def tw17534636571073484356:=0
def tw939426717721285457:=0
def tw17176345484948354870:=0
def tw6191420732903392181:=0
def tw14399350535048578794:=0
def tw11954022987614516720:=0
def tw8375590689838427171:=0
def tw4839693656602475927:=0
def tw10597441584199041202:=0
def tw9798983748393641777:=0
def tw12057389611992310846:=0
def tw11124208855888336607:=0
def tw15025585033981052316:=0
def tw14359825168551603604:=0
def tw15895645089077792092:=0
def tw2664497213630285575:=0
def tw15267838607253765490:=0
def tw14413491975307475673:=0
def tw1940090809865570597:=0
def tw8839752520297491113:=0
def tw6773258877520781767:=0
def tw6636471289149292776:=0
def tw14402345156578127563:=0
def tw3253996863533026221:=0
def tw14437721659916814969:=0
def tw4016963857713888800:=0
def tw15159069402484727905:=0
def tw756441796222134495:=0
def tw12681701843668606031:=0
def tw2589564399589737851:=0
def tw14063576620197009128:=0
def tw1524146587528697193:=0
def tw16474393794273532860:=0
def tw12180416310135801063:=0
def tw14794264898263560108:=0
def tw3230950391347137020:=0
def tw1421396035153348878:=0
def tw7260972809197006112:=0
def tw11583796722711470433:=0
def tw9888708576538438777:=0
def tw18410045043228987549:=0
def tw4198981784384865498:=0
def tw1770847759923027144:=0
def tw1763719968507238999:=0
def tw10486885792571902586:=0
def tw10068427091263762625:=0
def tw5540786401682639715:=0
def tw17274898359117825891:=0
def tw4529323438049284435:=0
def tw1926768586352886073:=0
def tw8384517141197552986:=0
def tw2917806424139605681:=0
def tw16393414581096674720:=0
def tw11618372554853456490:=0
def tw15245757164280721772:=0
def tw14332327983364981557:=0
def tw2854416182468818084:=0
def tw13487368539219467043:=0
def tw16767745767908905300:=0
def tw12341601048183295744:=0
def tw6527988233468767198:=0
def tw16053029802213089470:=0
def tw9688089053334207052:=0
def tw276751923758922107:=0
def tw12535146470580652502:=0
def tw17867810469199815470:=0
def tw13632099943898572663:=0
def tw11973998716428853917:=0
def tw3374918067021987441:=0
def tw16200582779317984441:=0
def tw10025525120363248869:=0
def tw549404010296012707:=0
def tw13364631630862590313:=0
def tw5798711864110465973:=0
def tw5240260581362149529:=0
def tw960765329580497228:=0
def tw14342962766588944595:=0
def tw6993795907396671045:=0
def tw18171866968178614494:=0
def tw6999256649122958051:=0
def tw7471066270320476825:=0
def tw12349896247971648415:=0
def tw966447123950241676:=0
end PySem.W.Fast
set_option maxRecDepth 100000 in
set_option maxHeartbeats 0 in
theorem PySem.Challenge.cw_limitdesk_k23_whole_told_desks_holds : PySem.Challenge.rw_limitdesk_k23_whole_told_desks.Holds := by
 w_on; o_law; k_head; (case hw => w_witness2)
 k_fill
 refine K23.walk (l := PySem.Challenge.rw_limitdesk_k23_whole_told_desks) rfl rfl ⟨_, rfl⟩ (fun w h Y => PySem.W.km_in_of Y) ?F
 case F =>
  intro w mg fa h KX G hmg
  refine' K23.all_mk KX G hmg ?a0 ?l0 ?c0 ?k0 ?a1 ?l1 ?c1 ?k1 ?a2 ?l2 ?c2 ?k2 ?a3 ?l3 ?c3 ?k3 ?a4 ?l4 ?c4 ?k4 ?a5 ?l5 ?c5 ?k5 ?a6 ?l6 ?c6 ?k6 ?a7 ?l7 ?c7 ?k7 ?a8 ?l8 ?c8 ?k8 ?a9 ?l9 ?c9 ?k9 ?a10 ?l10 ?c10 ?k10 ?a11 ?l11 ?c11 ?k11 ?a12 ?l12 ?c12 ?k12 ?a13 ?l13 ?c13 ?k13 ?a14 ?l14 ?c14 ?k14 ?a15 ?l15 ?c15 ?k15 ?a16 ?l16 ?c16 ?k16 ?a17 ?l17 ?c17 ?k17 ?a18 ?l18 ?c18 ?k18 ?a19 ?l19 ?c19 ?k19 ?a20 ?l20 ?c20 ?k20 ?a21 ?l21 ?c21 ?k21 ?a22 ?l22 ?c22 ?k22 ?a23 ?l23 ?c23 ?k23 ?a24 ?l24 ?c24 ?k24 ?a25 ?l25 ?c25 ?k25 ?a26 ?l26 ?c26 ?k26 ?a27 ?l27 ?c27 ?k27 ?a28 ?l28 ?c28 ?k28 ?a29 ?l29 ?c29 ?k29 ?a30 ?l30 ?c30 ?k30 ?a31 ?l31 ?c31 ?k31 ?a32 ?l32 ?c32 ?k32 ?a33 ?l33 ?c33 ?k33 ?a34 ?l34 ?c34 ?k34 ?a35 ?l35 ?c35 ?k35 ?a36 ?l36 ?c36 ?k36 ?a37 ?l37 ?c37 ?k37 ?a38 ?l38 ?c38 ?k38 ?a39 ?l39 ?c39 ?k39 ?a40 ?l40 ?c40 ?k40 ?a41 ?l41 ?c41 ?k41 ?a42 ?l42 ?c42 ?k42 ?a43 ?l43 ?c43 ?k43 ?a44 ?l44 ?c44 ?k44 ?a45 ?l45 ?c45 ?k45 ?a46 ?l46 ?c46 ?k46 ?a47 ?l47 ?c47 ?k47 ?a48 ?l48 ?c48 ?k48 ?a49 ?l49 ?c49 ?k49 ?a50 ?l50 ?c50 ?k50 ?a51 ?l51 ?c51 ?k51 ?a52 ?l52 ?c52 ?k52 ?a53 ?l53 ?c53 ?k53 ?a54 ?l54 ?c54 ?k54 ?a55 ?l55 ?c55 ?k55 ?a56 ?l56 ?c56 ?k56 ?a57 ?l57 ?c57 ?k57 ?a58 ?l58 ?c58 ?k58 ?a59 ?l59 ?c59 ?k59 ?a60 ?l60 ?c60 ?k60 ?a61 ?l61 ?c61 ?k61 ?a62 ?l62 ?c62 ?k62 ?a63 ?l63 ?c63 ?k63 ?a64 ?l64 ?c64 ?k64 ?a65 ?l65 ?c65 ?k65 ?a66 ?l66 ?c66 ?k66 ?a67 ?l67 ?c67 ?k67 ?a68 ?l68 ?c68 ?k68 ?a69 ?l69 ?c69 ?k69 ?a70 ?l70 ?c70 ?k70 ?a71 ?l71 ?c71 ?k71 ?a72 ?l72 ?c72 ?k72 ?a73 ?l73 ?c73 ?k73 ?a74 ?l74 ?c74 ?k74 ?a75 ?l75 ?c75 ?k75 ?a76 ?l76 ?c76 ?k76 ?a77 ?l77 ?c77 ?k77 ?a78 ?l78 ?c78 ?k78 ?a79 ?l79 ?c79 ?k79 ?a80 ?l80 ?c80 ?k80 ?a81 ?l81 ?c81 ?k81 ?z_isinstance ?z_int ?z_bool ?z_abs ?z_tuple ?z_len ?z_list ?z_all ?z_zip ?z_enumerate ?z_range ?z_min ?z_max ?g_GREATEST_NUMBER ?g_MOST_KINDS ?g_MOST_LIMITS ?x_NoDesk ?q_NoDesk ?x_BadPoint ?q_BadPoint ?x_NoPlace ?q_NoPlace ?x_NoPoint ?q_NoPoint ?x_NoGoal ?q_NoGoal ?x_Unlike ?q_Unlike ?u_NoPoint_NoPoint ?aC_Board ?iI_Board ?jI_Board ?lI_Board ?cI_Board ?kI_Board ?pg_Board ?hd_Board ?po_Board ?sa_Board ?mk_Board ?kc_Board ?nA0_Board ?nA1_Board ?nA2_Board ?lc_raising_column ?v11_raising_column ?hno
  case a0|l0|c0|k0|a1|l1|c1|k1|a2|l2|c2|k2|a3|l3|c3|k3|a4|l4|c4|k4|a5|l5|c5|k5|a6|l6|c6|k6|a7|l7|c7|k7|a8|l8|c8|k8|a9|l9|c9|k9|a10|l10|c10|k10|a11|l11|c11|k11|a12|l12|c12|k12|a13|l13|c13|k13|a14|l14|c14|k14|a15|l15|c15|k15|a16|l16|c16|k16|a17|l17|c17|k17|a18|l18|c18|k18|a19|l19|c19|k19|a20|l20|c20|k20|a21|l21|c21|k21|a22|l22|c22|k22|a23|l23|c23|k23|a24|l24|c24|k24|a25|l25|c25|k25|a26|l26|c26|k26|a27|l27|c27|k27|a28|l28|c28|k28|a29|l29|c29|k29|a30|l30|c30|k30|a31|l31|c31|k31|a32|l32|c32|k32|a33|l33|c33|k33|a34|l34|c34|k34|a35|l35|c35|k35|a36|l36|c36|k36|a37|l37|c37|k37|a38|l38|c38|k38|a39|l39|c39|k39|a40|l40|c40|k40|a41|l41|c41|k41|a42|l42|c42|k42|a43|l43|c43|k43|a44|l44|c44|k44|a45|l45|c45|k45|a46|l46|c46|k46|a47|l47|c47|k47|a48|l48|c48|k48|a49|l49|c49|k49|a50|l50|c50|k50|a51|l51|c51|k51|a52|l52|c52|k52|a53|l53|c53|k53|a54|l54|c54|k54|a55|l55|c55|k55|a56|l56|c56|k56|a57|l57|c57|k57|a58|l58|c58|k58|a59|l59|c59|k59|a60|l60|c60|k60|a61|l61|c61|k61|a62|l62|c62|k62|a63|l63|c63|k63|a64|l64|c64|k64|a65|l65|c65|k65|a66|l66|c66|k66|a67|l67|c67|k67|a68|l68|c68|k68|a69|l69|c69|k69|a70|l70|c70|k70|a71|l71|c71|k71|a72|l72|c72|k72|a73|l73|c73|k73|a74|l74|c74|k74|a75|l75|c75|k75|a76|l76|c76|k76|a77|l77|c77|k77|a78|l78|c78|k78|a79|l79|c79|k79|a80|l80|c80|k80|a81|l81|c81|k81|z_isinstance|z_int|z_bool|z_abs|z_tuple|z_len|z_list|z_all|z_zip|z_enumerate|z_range|z_min|z_max|g_GREATEST_NUMBER|g_MOST_KINDS|g_MOST_LIMITS|x_NoDesk=>(show _=_;k_is)
  case q_NoDesk=>k_exc
  case x_BadPoint=>(show _=_;k_is)
  case q_BadPoint=>k_exc
  case x_NoPlace=>(show _=_;k_is)
  case q_NoPlace=>k_exc
  case x_NoPoint=>(show _=_;k_is)
  case q_NoPoint=>k_exc
  case x_NoGoal=>(show _=_;k_is)
  case q_NoGoal=>k_exc
  case x_Unlike=>(show _=_;k_is)
  case q_Unlike=>k_exc
  case u_NoPoint_NoPoint|aC_Board|iI_Board|jI_Board|lI_Board|cI_Board|kI_Board|pg_Board|hd_Board|po_Board|sa_Board|mk_Board|kc_Board|nA0_Board|nA1_Board|nA2_Board|lc_raising_column=>(show _=_;k_is)
  case v11_raising_column=>rfl
  case hno=>kernel_rfl
