import PyProof.Rows.All
import Wide.All
import OpenK.AllK
import Wide.FinOn
import Lean
import PyProof.EqAt
import PyProof.EqKinds
import PyProof.TupleCall
import PyProof.NeKinds
import PyProof.WalksEnum
import PyProof.StrWalks
import PyProof.ExcAttrAll.ValueError
import PyProof.ZipIter
import KE.KRevIter
import PyProof.ListNew
import PyProof.WalksMore
import PyProof.ReprLoop
import PyProof.FactsAll.list
import PyProof.CollectIter
import PyProof.TupleOfGen
import PyProof.Draws
import PyProof.EnumMake
import PyProof.SeqI3
import KE.KMinBuiltin
import PyProof.SetRoads
import PyProof.CollectWalk
import KE.KDictSum
import PyProof.AttrMiss
import PyProof.IsiH_tuple
import KE.KDictOf
import PyProof.FitsBits
import PyProof.SliceList
import PyProof.InstFacts
import PyProof.Rows.StrNews2
import PyProof.StrBlockH
import PyProof.CallStr
import KE.KIntText
import PyProof.Rows.RuleB_pow
import KE.KSortTup
import PyProof.ReprRoads
import KE.KLam
import PyProof.MaxThree
import PyProof.DictRoadsH
import PySem.Challenge.RW_worthkinds_k83_whole_sieve_twins
open PySem renaming wpAny_bind->a7,wpAny_pure->ao,wpAny_truthy_bool->bc,wpAny_field->bg,wpAny_newObj_type->bq,mem_of_lookup->bv,wpAny_callSpecial?_slot->bw,wpAny_Call_Name_kw->bx,wpAny_setField_rec->bz,wpAny_mono->bI,wpAny_call_entry->bN,sizeLine_eq->bT,wpAny_seqItems->bV,wpAny_passesOwn->bW,codeAny_builtin->bX,codeAny_mono->b_,wpAny_pyIter_list->c8,wpAny_of_eq->ck,wpAny_holding->cB,wpAny_attempt->cC,call_meets->cJ,wpAny_call->d7,wpAny_rule->dF,Within->eR,seqSlot_of->i6,call->iE
open PySem.W renaming Frag->a8,kitOne->aO,findIn->bf,kia_one->bA,fnOf->bB,keepIn->bJ,nsIn->bL,mg_of->bP,instObj->cA,emptyDict->cG,codeHdIn->cQ,codeIn->db,tabObj->dj,methodCall_KW->dk,plainGet->dm,plainGet_of->dC,lookIn->dG,callWith_K->dI,hasDictIn->dU,isFn->eT,cellsFrom_some->eU,takerIn->f7,mroIn->fG,excIn->fJ,plainOver->fQ,specialIn->fS,kitx_list->fT,kitx_dict->fU,handedIn->hW,makesIn->ir,takesIn->iu
open PySem.Heap renaming get?_push_of_some->a9,get?_push_size->af,lt_size->aq,size_push->bK,SameBut->bZ,FlyingW->df,ExtBut->fu
open List renaming length_map->aa,mem_cons_of_mem->ac,length_cons->ag,getElem?_eq_getElem->ah,replicate->aj,mem_cons->ak,mem_cons_self->am,getElem?_eq_some_iff->ar,getElem?_append_right->au,length_append->av,getElem?_set_ne->aw,getElem?_append_left->ax,getElem?_map->ay,size_toArray->az,length_set->aE,length_singleton->aF,getElem?_replicate->aG,map_cons->aI,lookup_cons->aJ,getElem?_set_self->aL,not_mem_nil->aM,mem_map->aN,append_nil->aP,mem_singleton->aQ,length_reverse->aR,length_replicate->aS,all_eq_true->aT,reverse_cons->aV,append_assoc->aX,mem_append_right->aY,getElem?_eq_none->a_,range->ba,map_replicate->bh,mem_range->bn,getElem?_cons_succ->bp,map_append->br,length_range->bE,map_map->bG,nil_append->bM,prefix_refl->bO,flatMap_cons->bQ,length_nil->bR,replicate_succ->bS,mem_append_left->bY,eq_of_mem_replicate->ce,range_succ_eq_map->cq,pairwise_cons->cz,map_nil->cN,mem_flatMap->cP,filterMap_cons->cS,getElem?_range->cT,map_congr_left->cU,all_cons->cY,mem_filter->c_,mem_append->d4,nodup_cons->d5,mem_filterMap->d6,lookup->d8,cons_append->dq,sum_cons->dr,reverse_reverse->dy,of_mem_zip->dz,foldl->dL,drop_zero->dN,drop_eq_getElem_cons->dS,flatten_cons->dW,ext_getElem?->dX,length_take->eG,length_drop->eH,length_eq_zero_iff->eJ,take_of_length_le->eZ,set_set->f6,getElem?_reverse->fj,contains_iff_mem->fk,mem_of_getElem?->fo,getElem_toArray->fw,drop_succ_cons->fE,set_comm->fF,any_cons->fH,length_zipIdx->fO,any_eq_false->fP,all_map->fY,getElem_inj->hV,drop_length->i7,any_eq_true->ii,map_reverse->ij,mem_reverse->ik,filter_cons->il,range'->im,forIn_cons->iz,range_succ->iB
open Bool renaming and_eq_true->ae,false_ne_true->aA,false_eq_true->aW,not_true->eA,eq_iff_iff->f9,or_eq_false_iff->fA,true_and->fI,not_eq_true'->hJ
open Nat renaming le_refl->ai,ne_of_lt->aC,le_trans->aD,lt_of_lt_of_le->aH,le_add_right->aK,zero_le->bu,lt_irrefl->bF,lt_of_le_of_lt->bU,one_mul->c9,le_mul_of_pos_right->ci,mul_le_mul->cj,mul_assoc->cD,lt_succ_of_lt->cH,pow_le_pow_right->cK,lt_succ_self->cL,mul_comm->cM,sub_self->cO,ne_of_gt->da,le_succ->du,add_le_add_left->dD,mul_pos->dY,add_sub_cancel_left->eQ,le_of_lt->eS,succ_mul->eW,zero_add->e_,not_lt_zero->f8,le_of_eq->fR,pow_succ->g_,lt_succ_of_le->h9,succ_ne_self->i9,succ_ne_zero->ie,add_mul->iq,min_eq_left->iC
open Option.some renaming inj->aB
open PyProof.Rows renaming callWith_type1->aU,slot_tuple_getitem->bi
open Ne renaming symm->aZ
open PySem.Str renaming ofString->bj
open False renaming elim->bo
open Int renaming toNat_natCast->bC,eq_ofNat_of_zero_le->cg,emod_lt_of_pos->fN,zero_add->g7,natCast_mul->iy,emod_nonneg->iA
open PySem.F renaming plainAttrs_list->bH,called_set->cy,slot_zip_next->cF,args_tuple_add_2->cW,entry_tuple_add->d9,slot_tuple_add->de,slot_tuple_iterator_next->dh,slot_int_rmul->dA,excBase_ValueError->dQ,slot_list_append->dZ,type_list_append->d_,slot_tuple_mul->eI,attr_ValueError->eL,args_zip_next_1->eM,slot_list_count->eN,slot_list_index->eO,entry_zip_next->eY,called_tuple->fx,args_object_init_2->fy,args_int_rmul_2->fX,slot_tuple_rmul->fZ,plain_tuple_new->f_,slot_int_index->h_,entry_int_rmul->i5,fills_int_mul->iw
open PyProof.Rows.KeyOrd renaming klt_of_klt_of_kle->cb,kle_of_klt->di
open PySem.AutoSeq1 renaming wpAny_loadPart'->cf
open Array renaming getElem?_eq_none->cu,length_toList->dB,perm_iff_toList_perm->dO,append_assoc->dP,getElem?_toList->fg,getD->iG
open PySem.SeqAt renaming EqAt->cI,RcNeAt->dg,RcAt->eX
open PySem.Builtin.Slice renaming slicePlaces->cR,sliceAdjust->dR
open Option renaming isSome_iff_exists->cV,some_ne_none->fD,getD_none->hZ,map->iH
open PySem.Builtin.List renaming listTooLong->cX,listSameRef->eB
open PySem.Around renaming frames_deeper->dv
open PySem.Calls renaming Name_function_global->dE,spliced_cons->dH,callWith_builtin->eV,evalArgs_plain->fq,spliced_nil->fW
open PySem.Builtin.Tuple renaming tupleItemsOf->dJ,tupleTooMany->dM,tupleExact->eC
open PySem.Builtin.Range renaming rangeSize->eF
open PyProof.Rows.F renaming entry_set_update_loop->eK
open PySem.Heap.SameBut renaming update->fB
open PySem.SeqAt.EqAt renaming of_refs->fK,same->ix
open PySem.Code renaming quiet_builtin->fL,isFrame->fV
open PySem.Obj renaming data_mapFields->fM
open PySem.PassesOwn renaming leaving->hU,never->iD
open PySem.WalksT renaming enumerate->i8
open Classical renaming skolem->ig
open PySem.Shared renaming heap->ip
open PySem.Walks renaming list->iF
noncomputable section
set_option maxHeartbeats 4000000
set_option Elab.async false
set_option linter.all false
set_option compiler.extract_closed false
set_option maxRecDepth 100000
namespace L2
open PySem PySem.Spec PyProof.Rows
noncomputable abbrev Key:=Sum Int Str
def XU:Key->Value->Bool
 | .inl k,v=>Value.isInt k v
 | .inr x,v=>Value.isStrOf x v
def keyH (w:World):Key->Int
 | .inl k=>hashInt k
 | .inr x=>hashStr w x
theorem zZ:∀{k:Key} {v:Value},XU k v=true->(∃i t,k=Sum.inl i/\v=Value.int i t)\/(∃x t,k=Sum.inr x/\v=Value.str x t)
 | .inl i,v,h=>by
  obtain⟨t,e⟩:=Value.isInt_shape h;exact .inl ⟨i,t,rfl,e⟩
 | .inr x,v,h=>by
  obtain⟨t,e⟩:=Value.isStrOf_shape h;exact .inr ⟨x,t,rfl,e⟩
theorem XV (a b:Int):decide ((Sum.inl a:Key)=Sum.inl b)=(a == b):=by
 by_cases e:a=b
 ·subst e;simp
 ·have h:¬ (Sum.inl a:Key)=Sum.inl b:=λq=>e (Sum.inl.inj q);rw[decide_eq_false h];exact(beq_eq_false_iff_ne.mpr e).symm
theorem XW (a b:Str):decide ((Sum.inr a:Key)=Sum.inr b)=decide (a=b):=by
 by_cases e:a=b
 ·simp
 ·have h:¬ (Sum.inr a:Key)=Sum.inr b:=λq=>e (Sum.inr.inj q);rw[decide_eq_false h,decide_eq_false e]
theorem XX (a:Int)(b:Str):decide ((Sum.inl a:Key)=Sum.inr b)=false:=decide_eq_false (λq=>nomatch q)
theorem XY (a:Str)(b:Int):decide ((Sum.inr a:Key)=Sum.inl b)=false:=decide_eq_false (λq=>nomatch q)
def yu (prog:Program)(w:World):PySem.KeyKind prog w Key where
 is:=XU
 hash:=keyH w
 inj:=λv a b ha hb=>by
  rcases zZ ha with ⟨i,t,rfl,rfl⟩ | ⟨x,t,rfl,rfl⟩
  ·rcases zZ hb with ⟨j,u,rfl,e⟩ | ⟨y,u,rfl,e⟩
   ·injection e with e1 _;rw[e1]
   ·exact nomatch e
  ·rcases zZ hb with ⟨j,u,rfl,e⟩ | ⟨y,u,rfl,e⟩
   ·exact nomatch e
   ·injection e with e1 _;rw[e1]
 byValue:=λk v h=>by
  rcases zZ h with ⟨i,t,rfl,rfl⟩ | ⟨x,t,rfl,rfl⟩ <;> rfl
 pyHash:=λhv h=>by
  rcases zZ hv with ⟨i,t,rfl,rfl⟩ | ⟨x,t,rfl,rfl⟩
  ·exact wpAny_pyHash_int h
  ·exact wpAny_pyHash_str h
 eqBool:=λhu hv h=>by
  rcases zZ hu with ⟨i,t,rfl,rfl⟩ | ⟨x,t,rfl,rfl⟩
  ·rcases zZ hv with ⟨j,u,rfl,rfl⟩ | ⟨y,u,rfl,rfl⟩
   ·rw[XV]at h;exact wpAny_eqBool_int h
   ·rw[XX]at h;exact cI.int_str i t y u _ _ _ _ h
  ·rcases zZ hv with ⟨j,u,rfl,rfl⟩ | ⟨y,u,rfl,rfl⟩
   ·rw[XY]at h;exact cI.str_int x t j u _ _ _ _ h
   ·rw[XW]at h;exact wpAny_eqBool_str h
 «strs»:=λk x t v h=>by
  rcases zZ h with ⟨i,u,rfl,e⟩ | ⟨y,u,rfl,e⟩
  ·exact nomatch e
  ·injection e with e1 _;subst e1;cases v <;> rfl
end L2
namespace L2
open PySem PySem.Spec PyProof.Rows
inductive V where
 | non | bl (b:Bool) | int (i:Int) | str (x:Str) | byt (b:Array UInt8) | flt (b:UInt64) | ref (a:Addr) | ty (n:String)
 deriving DecidableEq
noncomputable def Zb:V->Value->Prop
 | .non,u=>u=Value.none
 | .bl b,u=>u=Value.bool b
 | .int i,u=>∃t,u=Value.int i t
 | .str x,u=>∃t,u=Value.str x t
 | .byt b,u=>∃t,u=Value.bytes b t
 | .flt b,u=>∃t,u=Value.float b t
 | .ref a,u=>u=Value.ref a
 | .ty n,u=>u=Value.type n
abbrev zT:List V->List Value->Prop:=Paired Zb
theorem zT.length (r:zT xs us):xs.length=us.length:=Paired.length r
theorem zT.get:∀{xs:List V} {us:List Value} {i:Nat} {x:V},zT xs us->xs[i]? =some x->∃u,us[i]? =some u/\Zb x u
 | _,_,_,_,.nil,e=>by simp at e
 | _,_,0,_,.cons r _,e=>by simp at e;subst e;exact⟨_,rfl,r⟩
 | _,_,i+1,x,.cons _ t,e=>by
  obtain⟨u,h1,h2⟩:=zT.get t (by simpa using e)
  exact⟨u,by simpa using h1,h2⟩
theorem zT.append:∀{xs ys:List V} {us ws:List Value},zT xs us->zT ys ws->zT (xs++ys) (us++ws)
 | _,_,_,_,.nil,s=>s
 | _,_,_,_,.cons r t,s=> .cons r (zT.append t s)
theorem zT.take:∀{xs:List V} {us:List Value} (n:Nat),zT xs us->zT (xs.take n) (us.take n)
 | _,_,0,_=> .nil
 | _,_,_+1,.nil=> .nil
 | _,_,n+1,.cons r t=> .cons r (zT.take n t)
theorem zT.drop:∀{xs:List V} {us:List Value} (n:Nat),zT xs us->zT (xs.drop n) (us.drop n)
 | _,_,0,r=>r
 | _,_,_+1,.nil=> .nil
 | _,_,n+1,.cons _ t=>zT.drop n t
def Qk:Option V->Option Value->Prop
 | some v,some u=>Zb v u
 | none,none=>True
 | _,_=>False
def KV {κ:Type}:List (κ×V)->List (κ×Value)->Prop:=Paired λ(p:κ×V) (q:κ×Value)=>p.1=q.1/\Zb p.2 q.2
def kV:Key->V
 | .inl i=> .int i
 | .inr x=> .str x
inductive HO where
 | lst (xs:List V)
 | tup (xs:List V)
 | dK (kvs:List (Key×V)) | dT (kvs:List (List Key×V))
 | set (S:Int->Bool) (n:Nat)
 | ins (C dx:Addr) (fs:List (Str×V))
 | own (x:Addr)
 | xd (fs:List (Str×V))
 | met (f x:Addr)
 | rng (lo hi:Int)
 | frz (o:Obj) (u:HO)
 | tbl (ps:Array Value) (q:Str)
 | ext (φ:Heap->Prop)
noncomputable abbrev Hp:=Addr->Option HO
def upd (H:Hp)(a:Addr)(o:HO):Hp:=λb=>if b=a then some o else H b
theorem zx:upd H a o a=some o:=by unfold upd;rw[if_pos rfl]
theorem zt (h:b ≠ a):upd H a o b=H b:=by unfold upd;rw[if_neg h]
theorem zL {H:Hp}{a b:Addr}{o:HO}(h:H a=some o)(h' :H b=none):a ≠ b:=by
 intro e;subst e;rw[h]at h';cases h'
noncomputable def ITN (h:Heap)(a:Addr)(its:Array Value):Prop:=IsTup h a its/\((∃i t,its[0]? =some (Value.int i t))\/∃o,h.get? a=some o/\o.dict=none)
theorem ITN.new (h:Heap)(its:Array Value):ITN (h.push { cls:= .type "tuple",data:= .seq its }) h.objs.size its:=⟨IsTup.new h its,.inr ⟨_,af _ rfl,rfl⟩⟩
section
variable (P:Program)(w:World)
def Z9 (H:Hp)(h:Heap)(a:Addr):HO->Prop
 | .lst xs=>xs.length<=sizeLine/\∃(its:List Value) (n:Nat),zT xs its/\h.get? a=some { cls:= .type "list",data:= .seq its.toArray n }
 | .tup xs=>xs.length<=sizeLine/\∃its:List Value,zT xs its/\ITN h a its.toArray
 | .dK kvs=>kvs.length<=sizeLine/\(a == sysModules)=false/\∃vs,KV kvs vs/\h.DictOf (yu P w) a vs
 | .dT kvs=>kvs.length<=sizeLine/\(a == sysModules)=false/\∃xs:List (List Key×Addr×Value),
   Paired (λ(p:List Key×V) (q:List Key×Addr×Value)=>p.1=q.1/\H q.2.1=some (.tup (p.1.map kV))/\Zb p.2 q.2.2) kvs xs/\
   ∃o es ep,h.get? a=some o/\o.ExactDict/\o.data= .dict es ep/\es.toList=xs.map (entryOfKey (tupleKind (yu P w)))/\(xs.map (·.1)).Nodup
 | .set S n=>h.SetOf (intKind P w) a S n
 | .ins C dx fs=>H dx=some (.own a)/\fs.length<=1000/\dx ≠ a/\h.get? a=some (cA C dx)/\
   ∃mA,h.Ns1 dx mA/\(∀f,Qk (fs.lookup f) (mA f))/\eR mA (fs.map (·.1))
 | .own _=>∃o,h.get? a=some o
 | .xd fs=>∃mA,h.Ns1 a mA/\∀f,Qk (fs.lookup f) (mA f)
 | .rng lo hi=>∃t u v,h.get? a=some { cls:= .type "range",data:= .fields #[.int lo t,.int hi u,.int 1 v] }
 | .frz o u=>h.get? a=some o/\Z9 H h a u
 | .tbl ps q=>∃more:Array Value,h.get? a=some { cls:= .none,data:= .fields (ps++more) }/\TriplesOk (ps++more).toList/\∀p cv,codeAmong p (ps++more).toList=some cv->∃c oc vs t,cv= .ref c/\H c=some (.frz oc (.own c))/\oc.data= .fields vs/\vs[1]? =some (.str q t)
 | .met f x=>h.get? a=some (PySem.W.methodObj (.ref f) (.ref x))
 | .ext φ=>φ h/\(∃o,h.get? a=some o)/\∀h1 h2:Heap,φ h1->(∀o,h1.get? a=some o->h2.get? a=some o)->φ h2
def HOk (H:Hp)(h:Heap):Prop:=∀a o,H a=some o->Z9 P w H h a o
end
section
variable {P:Program}{w:World}{H H' :Hp}{h h' :Heap}{a:Addr}{o:HO}
theorem Z9.lt (x:Z9 P w H h a o):a < h.objs.size:=by
 cases o with
 | lst xs=>obtain⟨_,_,_,_,e⟩:=x;exact aq e
 | tup xs=>obtain⟨_,_,_,p,_⟩:=x;exact p.lt
 | dK kvs=>obtain⟨_,_,_,_,o,_,_,e,_⟩:=x;exact aq e
 | dT kvs=>obtain⟨_,_,_,_,o,_,_,e,_⟩:=x;exact aq e
 | set S n=>obtain⟨o,_,_,_,e,_⟩:=x;exact aq e
 | ins C dx fs=>obtain⟨_,_,_,e,_⟩:=x;exact aq e
 | own y=>obtain⟨_,e⟩:=x;exact aq e
 | xd fs=>obtain⟨_,⟨_,_,_,e,_⟩,_⟩:=x;exact aq e
 | rng lo hi=>obtain⟨_,_,_,e⟩:=x;exact aq e
 | frz ob u=>obtain⟨e,_⟩:=x;exact aq e
 | tbl ps q=>obtain⟨_,e,_⟩:=x;exact aq e
 | met f y=>exact aq (x)
 | ext φ=>obtain⟨_,⟨_,e⟩,_⟩:=x;exact aq e
theorem Paired.mapP {α β:Type}{F G:α->β->Prop}:∀{l₁:List α} {l₂:List β},Paired F l₁ l₂->(∀a b,F a b->G a b)->Paired G l₁ l₂
 | _,_,.nil,_=> .nil
 | _,_,.cons r t,f=> .cons (f _ _ r) (Paired.mapP t f)
theorem Z9.stay (x:Z9 P w H h a o)(k:∀b u,(b=a\/H b=some (.own a))->h.get? b=some u->h'.get? b=some u)
  (ho:∀b,H b=some (.own a)->H' b=some (.own a)) (ht:∀b xs,H b=some (.tup xs)->H' b=some (.tup xs)) (hf:∀b o u,H b=some (.frz o u)->H' b=some (.frz o u):=by exact λ_ _ _ q=>q):Z9 P w H' h' a o:=by
 induction o with
 | lst xs=>obtain⟨z,its,n,r,e⟩:=x;exact⟨z,its,n,r,k _ _ (.inl rfl) e⟩
 | tup xs=>obtain⟨z,its,r,⟨ob,e,c⟩,q⟩:=x;exact⟨z,its,r,⟨ob,k _ _ (.inl rfl) e,c⟩,q.imp id λ⟨o2,e2,d2⟩=>⟨o2,k _ _ (.inl rfl) e2,d2⟩⟩
 | dK kvs=>obtain⟨z,y,vs,r,ob,es,ep,e,c⟩:=x;exact⟨z,y,vs,r,ob,es,ep,k _ _ (.inl rfl) e,c⟩
 | dT kvs=>
  obtain⟨z,y,xs,r,ob,es,ep,e,c⟩:=x;exact⟨z,y,xs,Paired.mapP r λp q z=>⟨z.1,ht _ _ z.2.1,z.2.2⟩,ob,es,ep,k _ _ (.inl rfl) e,c⟩
 | set S n=>obtain⟨ob,es,ep,t,e,c⟩:=x;exact⟨ob,es,ep,t,k _ _ (.inl rfl) e,c⟩
 | ins C dx fs=>
  obtain⟨d,z,ne,e,mA,⟨od,es,ep,e2,c⟩,r⟩:=x;exact⟨ho _ d,z,ne,k _ _ (.inl rfl) e,mA,⟨od,es,ep,k _ _ (.inr d) e2,c⟩,r⟩
 | own y=>obtain⟨ob,e⟩:=x;exact⟨ob,k _ _ (.inl rfl) e⟩
 | xd fs=>obtain⟨mA,⟨od,es,ep,e,c⟩,r⟩:=x;exact⟨mA,⟨od,es,ep,k _ _ (.inl rfl) e,c⟩,r⟩
 | rng lo hi=>obtain⟨t,u,v,e⟩:=x;exact⟨t,u,v,k _ _ (.inl rfl) e⟩
 | frz ob u ih=>obtain⟨e,q⟩:=x;exact⟨k _ _ (.inl rfl) e,ih q⟩
 | tbl ps q=>
  obtain⟨m,e,tr,al⟩:=x;exact⟨m,k a _ (.inl rfl) e,tr,λp cv z=>let ⟨c,oc,vs,t,e1,e2,e3⟩:=al p cv z;⟨c,oc,vs,t,e1,hf _ _ _ e2,e3⟩⟩
 | met f y=>
  have e:=x;exact k a _ (.inl rfl) e
 | ext φ=>obtain⟨p,⟨o,e⟩,st⟩:=x;exact⟨st _ _ p λo q=>k _ _ (.inl rfl) q,⟨o,k _ _ (.inl rfl) e⟩,st⟩
theorem HOk.lt (x:HOk P w H h)(e:H a=some o):a < h.objs.size:=(x a o e).lt
theorem HOk.fresh (x:HOk P w H h)(e:h.objs.size<=a):H a=none:=by
 cases q:H a with
 | none=>rfl
 | some u=>exact absurd (aH (x.lt q) e) (bF _)
theorem HOk.kept (x:HOk P w H h)(k:∀b u,h.get? b=some u->h'.get? b=some u):HOk P w H h' :=λa o e=>
 (x a o e).stay (λb u _ q=>k b u q) (λ_ q=>q) λ_ _ q=>q
theorem HOk.laid (x:HOk P w H h)(k:∀b u,h.get? b=some u->h'.get? b=some u)(hp:h.objs.size<=a)(new:Z9 P w (upd H a o) h' a o):HOk P w (upd H a o) h' :=λb u e=>by
 have hn:=x.fresh hp
 by_cases hb:b=a
 ·subst hb;rw[zx]at e;cases e;exact new
 ·rw[zt hb]at e;exact(x b u e).stay (λc v _ q=>k c v q) (λc q=>by rw[zt (zL q hn)];exact q) (λc xs q=>by rw[zt (zL q hn)];exact q) λc o u q=>by rw[zt (zL q hn)];exact q
end
def Rd (H:Hp)(a:Addr)(u:HO):Prop:=H a=some u\/∃o,H a=some (.frz o u)
theorem Rd.ok (r:Rd H a u)(x:HOk P w H h):Z9 P w H h a u:=by
 rcases r with r | ⟨o,r⟩
 ·exact x a u r
 ·obtain⟨_,q⟩:=x a _ r;exact q
noncomputable def Mut:Option HO->Prop
 | some (.lst _)=>True
 | some (.dK _)=>True
 | some (.dT _)=>True
 | some (.set _ _)=>True
 | some (.ins _ _ _)=>True
 | some (.ext _)=>True
 | _=>False
section
theorem HOk.write (ok:HOk P w H h)(mu:Mut (H x))(he:e=x\/H e=some (.own x))(k:∀b u,b ≠ e->h.get? b=some u->h'.get? b=some u)(heo:∃u,h'.get? e=some u)
  (new:Z9 P w (upd H x o') h' x o'):HOk P w (upd H x o') h' :=λb u q=>by
 have nown:∀c y,H c=some (.own y)->c ≠ x:=λc y r z=>by subst z;rw[r]at mu;exact mu
 have ntup:∀c xs,H c=some (.tup xs)->c ≠ x:=λc xs r z=>by subst z;rw[r]at mu;exact mu
 by_cases hb:b=x
 ·subst hb;rw[zx]at q;cases q;exact new
 ·rw[zt hb]at q
  by_cases hbe:b=e
  ·have q' :H b=some (.own x):=by
    rcases he with z | z
    ·exact absurd (hbe.trans z) hb
    ·rw[hbe];exact z
   rw[q]at q';cases q';obtain⟨v,hv⟩:=heo;exact⟨v,by rw[hbe];exact hv⟩
  ·refine(ok b u q).stay (λc v hc r=>k c v ?_ r) (λc r=>by rw[zt (nown c b r)];exact r) (λc xs r=>by rw[zt (ntup c xs r)];exact r) λc o u r=>by rw[zt (λz=>by subst z;rw[r]at mu;exact mu)];exact r
   rcases hc with rfl | hc
   ·exact hbe
   ·rintro rfl
    rcases he with z | z
    ·exact nown c b hc z
    ·rw[hc]at z;cases z;exact hb rfl
end
structure Un (fs ex:List Addr) (H H' :Hp) (h h' :Heap):Prop where
 keep:∀b o,h.get? b=some o->H b=none->b ∉ fs->b ∉ ex->h'.get? b=some o
 slot:∀b o,h.get? b=some o->H b=none->b∈fs->b ∉ ex->∃sl,h'.get? b=some { o with slots:=sl }
 free:∀b o,h.get? b=some o->H b=none->b ∉ ex->H' b=none
 there:∀b o,h.get? b=some o->b ∉ ex->∃o',h'.get? b=some o'
 tups:∀b xs,H b=some (.tup xs)->H' b=some (.tup xs)
 frzs:∀b o u,H b=some (.frz o u)->H' b=some (.frz o u)
 tbls:∀b ps q,H b=some (.tbl ps q)->H' b=some (.tbl ps q)
section
variable {fs fs' ex ex' :List Addr}{H H1 H2:Hp}{h h1 h2 h' :Heap}{a x e:Addr}{o:HO}
theorem Un.any (u:Un fs ex H H1 h h1)(q:h.get? b=some ob)(n:H b=none)(hx:b ∉ ex):∃sl,h1.get? b=some { ob with slots:=sl }:=by
 by_cases hb:b∈fs
 ·exact u.slot b ob q n hb hx
 ·exact⟨ob.slots,u.keep b ob q n hb hx⟩
theorem Un.kept (k:∀b u,h.get? b=some u->h'.get? b=some u):Un fs ex H H h h' :=
 ⟨λb ob q _ _ _=>k b ob q,λb ob q _ _ _=>⟨ob.slots,k b ob q⟩,λ_ _ _ n _=>n,λb ob q _=>⟨ob,k b ob q⟩,λ_ _ q=>q,λ_ _ _ q=>q,λ_ _ _ q=>q⟩
theorem Un.refl:Un fs ex H H h h:=Un.kept λ_ _ q=>q
theorem Un.laid (k:∀b u,h.get? b=some u->h'.get? b=some u)(hp:h.objs.size<=a)(hn:H a=none):Un fs ex H (upd H a o) h h' where
 keep:=λb u q _ _ _=>k b u q
 slot:=λb u q _ _ _=>⟨u.slots,k b u q⟩
 free:=λb u q n _=>by rw[zt (aC (aH (aq q) hp))];exact n
 there:=λb u q _=>⟨u,k b u q⟩
 tups:=λb xs q=>by rw[zt (zL q hn)];exact q
 frzs:=λb u xs q=>by rw[zt (zL q hn)];exact q
 tbls:=λb ps q e=>by rw[zt (zL e hn)];exact e
theorem Un.write (mu:Mut (H x))(he:e=x\/H e=some (.own x))(k:∀b u,b ≠ e->h.get? b=some u->h'.get? b=some u)(heo:∃u,h'.get? e=some u):Un fs ex H (upd H x o) h h' :=by
 have hx:∀b,H b=none->b ≠ x:=λb n z=>by subst z;rw[n]at mu;exact mu
 have hb:∀b,H b=none->b ≠ e:=λb n z=>by
  subst z;rcases he with r | r
  ·exact hx b n r
  ·rw[n]at r;cases r
 have hm:∀b u,H b=some u->¬ Mut (some u)->b ≠ x:=λb u q nm z=>by subst z;rw[q]at mu;exact nm mu
 refine⟨λb u q n _ _=>k b u (hb b n) q,λb u q n _ _=>⟨u.slots,k b u (hb b n) q⟩,λb u q n _=>by rw[zt (hx b n)];exact n,λb u q _=> ?_,
  λb xs q=>by rw[zt (hm b _ q λz=>z)];exact q,λb u xs q=>by rw[zt (hm b _ q λz=>z)];exact q,λb ps q e=>by rw[zt (hm b _ e λz=>z)];exact e⟩
 by_cases hbe:b=e
 ·subst hbe;exact heo
 ·exact⟨u,k b u hbe q⟩
end
def trk (h:Heap)(H:Hp):List Addr:=(ba h.objs.size).filter λa=>(H a).isSome
def XM (h:Heap)(H:Hp):Heap:=PySem.W.hideAll h (trk h H)
theorem yv (h:Heap)(H:Hp):(XM h H).objs.size=h.objs.size:=PySem.W.hideAll_size _ _
theorem wE (e:h.get? b=some o)(n:H b=none):(XM h H).get? b=some o:=
 PySem.W.hideAll_get _ e λhm=>by
  have q:=(c_.mp hm).2;rw[n]at q;simp at q
theorem VC (e:(XM h H).get? b=some o):h.get? b=some o/\H b=none:=by
 have e' :=PySem.W.of_hideAll _ e;refine⟨e', ?_⟩;cases q:H b with
 | none=>rfl
 | some x=>
  have hm:b∈trk h H:=c_.mpr ⟨bn.mpr (aq e'),by simp[q]⟩
  have z:(XM h H).get? b=none:=PySem.W.hideAll_none _ hm;rw[z]at e;cases e
end L2
namespace L2
open PySem PySem.Spec PyProof.Rows
structure Mod (K:a8) (mg:Str->Option Value) (base:Heap):Prop where
 kin:K.In base
 glob:base.Ns mainGlobals mg
 blt:∃mb,base.Ns builtinsNs mb/\∀x:Str,x ≠ "__name__"->mb x=bootBuiltins x
 nolimit:base.NoLimit
structure Cx where
 prog:Program
 w:World
 K:a8
 mg:Str->Option Value
 base:Heap
 A:Around
 N:List Str
 s₀:Shared
 H₀:Hp
 env:Env
 outer:List Env
 stack:List Env
 ex:List Addr
 fn:Str->Bool
 calm:Bool
 pn:List (Addr×Obj)
 xe:Value->Shared->Prop
noncomputable def frs (l:List Env):List Addr:=l.filterMap (·.frame)
abbrev Cx.fs (X:Cx):List Addr:=frs X.outer
noncomputable def Vis (sc:Scope)(x:Str):Prop:=sc.names.lookup x=some .local\/sc.names.lookup x=some .cell\/sc.names.lookup x=some .free
noncomputable def Loc (sc:Scope)(x:Str):Prop:=sc.names.lookup x=some .local\/sc.names.lookup x=some .cell
noncomputable def Look (env:Env)(h:Heap)(m:Str->Option Value)(x:Str)(u:Value):Prop:=
 (env.kindOf x=some .local/\m x=some u)\/((env.kindOf x=some .cell\/env.kindOf x=some .free)/\∃c,env.cells.lookup x=some c/\h.IsCell c (some u))
structure Cx.Ok (X:Cx):Prop where
 mod:Mod X.K X.mg X.base
 kind:X.env.scope.kind= .function
 glob:X.env.globals=mainGlobals
 blt:X.env.builtins=builtinsNs
 above:X.s₀.heap.objs.size<=X.env.locals
 inj:∀x y c,X.env.cells.lookup x=some c->X.env.cells.lookup y=some c->x=y
 has:∀x,(X.env.kindOf x=some .cell\/X.env.kindOf x=some .free)->∃c,X.env.cells.lookup x=some c
 cab:∀x c,X.fn x=true->X.env.cells.lookup x=some c->X.s₀.heap.objs.size<=c
 hd:X.calm=true->X.A.handled=none
 frames:X.A.frames=some X.stack
 stk:X.stack=X.outer\/(X.stack=X.env :: X.outer/\X.env.frame=some X.env.locals)
 exf:∀b∈X.ex,b ≠ X.env.locals/\∀x c,X.env.cells.lookup x=some c->c ≠ b
 bs:∀b o,X.base.get? b=some o->X.s₀.heap.get? b=some o/\X.H₀ b=none
 bsz:X.base.objs.size<=X.s₀.heap.objs.size
 noex:∀b o,X.base.get? b=some o->b ∉ X.ex
 exfs:∀b∈X.ex,b ∉ X.fs
 funs:X.s₀.heap.FunFrames X.base X.outer
 frf:∀b∈X.fs,X.H₀ b=none
structure Inv (X:Cx) (pins:List (Addr×Obj)) (σ:List (Option V)) (H:Hp) (s:Shared):Prop where
 ok:X.Ok
 os:s.os=X.s₀.os
 bare:AllBare s.gens
 base:Un X.fs X.ex X.H₀ H X.s₀.heap s.heap
 loc:∃m,s.heap.Ns X.env.locals m/\∀(i:Nat) (x:Str) (v:V),X.N[i]? =some x->σ[i]? =some (some v)->Vis X.env.scope x->∃u,Zb v u/\Look X.env s.heap m x u
 cell:∀x c,X.env.cells.lookup x=some c->∃v,s.heap.IsCell c v
 free:H X.env.locals=none
 freeC:∀x c,X.env.cells.lookup x=some c->H c=none
 pin:∀p∈X.pn++pins,s.heap.get? p.1=some p.2/\H p.1=none/\p.1 ≠ X.env.locals/\p.1 ∉ X.fs/\∀v,p.2.data ≠ .cell v
 hok:HOk X.prog X.w H s.heap
 len:σ.length=X.N.length
section
variable {X:Cx}{pins:List (Addr×Obj)}{σ:List (Option V)}{H H' :Hp}{s:Shared}{h' :Heap}
theorem Cx.Ok.nofr (ok:X.Ok){b:Addr}{o:Obj}(e:X.base.get? b=some o):b ∉ X.fs:=λhb=>by
 have:=(ok.funs.mem hb).1;rw[e]at this;cases this
theorem Inv.bs (I:Inv X pins σ H s):∀b o,X.base.get? b=some o->s.heap.get? b=some o/\H b=none:=λb o e=>
 ⟨I.base.keep b o (I.ok.bs b o e).1 (I.ok.bs b o e).2 (I.ok.nofr e) (I.ok.noex b o e),I.base.free b o (I.ok.bs b o e).1 (I.ok.bs b o e).2 (I.ok.noex b o e)⟩
theorem Inv.bk (I:Inv X pins σ H s):∀b o,X.base.get? b=some o->s.heap.get? b=some o:=λb o e=>(I.bs b o e).1
theorem Inv.mod (I:Inv X pins σ H s):Mod X.K X.mg X.base:=I.ok.mod
theorem Inv.kIn (I:Inv X pins σ H s):X.K.In s.heap:=I.ok.mod.kin.keeps I.bk
theorem Inv.lt (I:Inv X pins σ H s):X.env.locals < s.heap.objs.size:=let ⟨_,hn,_⟩:=I.loc;hn.lt
theorem Inv.sz (I:Inv X pins σ H s):X.s₀.heap.objs.size<=s.heap.objs.size:=aD I.ok.above (eS I.lt)
theorem Inv.nofs (I:Inv X pins σ H s)(h:s.heap.objs.size<=a):a ∉ X.fs:=λhb=>by
 obtain⟨_,o,ho,_⟩:=I.ok.funs.mem hb;exact absurd (aH (aq ho) (aD I.sz h)) (bF _)
theorem Inv.cne (I:Inv X pins σ H s):∀x c,X.env.cells.lookup x=some c->c ≠ X.env.locals:=λx c e z=>by
 obtain⟨v,o,ho,hd⟩:=I.cell x c e;obtain⟨m,⟨o',es,ep,ho',hd',_⟩,_⟩:=I.loc;rw[z,ho']at ho;cases ho;rw[hd']at hd;cases hd
theorem Inv.funs (I:Inv X pins σ H s):s.heap.FunFrames X.base X.outer:=by
 have all:∀(l:List Env),(∀b∈frs l,b∈X.fs)->X.s₀.heap.FunFrames X.base l->s.heap.FunFrames X.base l:=by
  intro l
  induction l with
  | nil=>intro _ _;trivial
  | cons env r ih=>
   intro hs hl;obtain⟨hk,⟨L,o,hf,hn,ho,hd⟩,hr⟩:=hl;have hL:=hs L (by unfold frs;rw[cS,hf];exact am)
   obtain⟨sl,e⟩:=I.base.slot L o ho (I.ok.frf L hL) hL λz=>I.ok.exfs L z hL;exact⟨hk,⟨L,_,hf,hn,e,hd⟩,ih (λb hb=>hs b (by unfold frs;rw[cS,hf];exact ac _ hb)) hr⟩
 exact all _ (λ_ hb=>hb) I.ok.funs
theorem Inv.stack (I:Inv X pins σ H s):s.heap.FunFrames X.base X.stack:=by
 rcases I.ok.stk with e | ⟨e,hf⟩
 ·rw[e];exact I.funs
 ·rw[e];obtain⟨m,hn,_⟩:=I.loc;refine .cons (by rw[I.ok.kind];decide) hf hn ?_ I.funs
  exact Heap.get?_none_of_le (aD I.ok.bsz I.ok.above)
theorem Inv.stkSub (I:Inv X pins σ H s):∀b∈frs X.stack,b∈X.env.locals :: X.fs:=λb hb=>by
 rcases I.ok.stk with e | ⟨e,hf⟩
 ·rw[e]at hb;exact ac _ hb
 ·rw[e]at hb;unfold frs at hb;rw[cS,hf]at hb;exact hb
theorem Inv.stkFree (I:Inv X pins σ H s):∀b∈frs X.stack,H b=none:=λb hb=>by
 rcases ak.mp (I.stkSub b hb) with e | hb
 ·rw[e];exact I.free
 ·obtain⟨_,o,ho,_⟩:=I.ok.funs.mem hb;exact I.base.free b o ho (I.ok.frf b hb) λz=>I.ok.exfs b z hb
theorem Inv.step {g' :Array GenState}{t' :Nat}{d' :Drawn}{ch:List Addr}(I:Inv X pins σ H s)
  (hch:∀b∈ch,(b∈X.ex\/X.s₀.heap.objs.size<=b)/\b ≠ X.env.locals/\(∀x c,X.env.cells.lookup x=some c->c ≠ b)/\∀p∈X.pn++pins,p.1 ≠ b)
  (keep:∀b o,b ≠ X.env.locals->b ∉ X.fs->b ∉ ch->s.heap.get? b=some o->H b=none->h'.get? b=some o)
  (slot:∀b o,b ≠ X.env.locals->b∈X.fs->b ∉ ch->s.heap.get? b=some o->H b=none->∃sl,h'.get? b=some { o with slots:=sl }) (free:∀b o,b ∉ ch->s.heap.get? b=some o->H b=none->H' b=none)
  (there:∀b o,b ∉ ch->s.heap.get? b=some o->∃o',h'.get? b=some o')
  (tups:∀b xs,H b=some (.tup xs)->H' b=some (.tup xs)) (frzs:∀b o u,H b=some (.frz o u)->H' b=some (.frz o u)) (tbls:∀b ps q,H b=some (.tbl ps q)->H' b=some (.tbl ps q))
  (ns:∀m,s.heap.Ns X.env.locals m->h'.Ns X.env.locals m) (hok:HOk X.prog X.w H' h') (hg:AllBare g'):
  Inv X pins σ H' { s with heap:=h',gens:=g',drawn:=d',toks:=t' }:=by
 have neL:∀b o,X.s₀.heap.get? b=some o->b ≠ X.env.locals:=λb o e=>aC (aH (aq e) I.ok.above);have neC:∀b o,X.s₀.heap.get? b=some o->b ∉ X.ex->b ∉ ch:=λb o e hx hb=>by
  rcases(hch b hb).1 with z | z
  ·exact hx z
  ·exact absurd (aH (aq e) z) (bF _)
 have cellK:∀x c,X.env.cells.lookup x=some c->∀v,s.heap.IsCell c v->h'.IsCell c v:=λx c e v ⟨o,ho,hd⟩=>by
  have nch:=λz=>(hch c z).2.2.1 x c e rfl
  by_cases hc:c∈X.fs
  ·obtain⟨sl,q⟩:=slot c o (I.cne x c e) hc nch ho (I.freeC x c e);exact⟨_,q,hd⟩
  ·exact⟨o,keep c o (I.cne x c e) hc nch ho (I.freeC x c e),hd⟩
 refine⟨I.ok,I.os,hg,⟨λb o e n hb hx=> ?_,λb o e n hb hx=> ?_,λb o e n hx=> ?_,λb o e hx=> ?_,λb xs e=>tups b xs (I.base.tups b xs e),λb o xs e=>frzs b o xs (I.base.frzs b o xs e),λb ps q e=>tbls b ps q (I.base.tbls b ps q e)⟩, ?_,λx c e=> ?_, ?_,λx c e=> ?_,λp hp=> ?_,hok,I.len⟩
 ·exact keep b o (neL b o e) hb (neC b o e hx) (I.base.keep b o e n hb hx) (I.base.free b o e n hx)
 ·obtain⟨sl,e1⟩:=I.base.slot b o e n hb hx;obtain⟨sl',e2⟩:=slot b _ (neL b o e) hb (neC b o e hx) e1 (I.base.free b o e n hx);exact⟨sl',e2⟩
 ·obtain⟨o',e1⟩:=I.base.there b o e hx;exact free b o' (neC b o e hx) e1 (I.base.free b o e n hx)
 ·obtain⟨o',e1⟩:=I.base.there b o e hx;exact there b o' (neC b o e hx) e1
 ·obtain⟨m,hn,hl⟩:=I.loc;refine⟨m,ns m hn,λi x v e1 e2 e3=> ?_⟩;obtain⟨u,r,l⟩:=hl i x v e1 e2 e3;refine⟨u,r, ?_⟩;rcases l with l | ⟨k,c,e,z⟩
  ·exact .inl l
  ·exact .inr ⟨k,c,e,cellK x c e _ z⟩
 ·obtain⟨v,z⟩:=I.cell x c e;exact⟨v,cellK x c e v z⟩
 ·obtain⟨m,⟨o,_,_,ho,_⟩,_⟩:=I.loc;exact free _ o (λz=>(hch _ z).2.1 rfl) ho I.free
 ·obtain⟨v,o,ho,hd⟩:=I.cell x c e;exact free c o (λz=>(hch c z).2.2.1 x c e rfl) ho (I.freeC x c e)
 ·obtain⟨e,n,ne,nf,d⟩:=I.pin p hp;have nch:=λz=>(hch p.1 z).2.2.2 p hp rfl;exact⟨keep p.1 p.2 ne nf nch e n,free p.1 p.2 nch e n,ne,nf,d⟩
theorem Inv.un {t' :Nat}(I:Inv X pins σ H s)(u:Un X.fs [] H H' s.heap h')(hok:HOk X.prog X.w H' h'):Inv X pins σ H' { s with heap:=h',toks:=t' }:=by
 obtain⟨m,⟨o,es,ep,ho,r⟩,_⟩:=id I.loc;obtain⟨sl,hL⟩:=u.any ho I.free (by simp)
 exact I.step (ch:=[]) (λ_ z=>nomatch z) (λb o _ hb _ e n=>u.keep b o e n hb (by simp)) (λb o _ hb _ e n=>u.slot b o e n hb (by simp)) (λb o _ e n=>u.free b o e n (by simp)) (λb o _ e=>u.there b o e (by simp)) u.tups u.frzs u.tbls (λm' hm=>by
  obtain⟨o',es',ep',ho',r'⟩:=hm;rw[ho]at ho';cases ho';exact⟨_,es',ep',hL,r'⟩) hok I.bare
theorem Inv.call {g' :Array GenState}{t' :Nat}{d' :Drawn}{ch:List Addr}(I:Inv X pins σ H s)(u:Un (frs X.stack) ch H H' s.heap h')(hok:HOk X.prog X.w H' h')(hg:AllBare g')
  (hch:∀b∈ch,(b∈X.ex\/X.s₀.heap.objs.size<=b)/\b ≠ X.env.locals/\(∀x c,X.env.cells.lookup x=some c->c ≠ b)/\∀p∈X.pn++pins,p.1 ≠ b):
  Inv X pins σ H' { s with heap:=h',gens:=g',drawn:=d',toks:=t' }:=by
 obtain⟨m,⟨o,es,ep,ho,r⟩,_⟩:=id I.loc;obtain⟨sl,hL⟩:=u.any ho I.free λz=>(hch _ z).2.1 rfl;exact I.step hch (λb o hL hb hc e n=>u.keep b o e n (λz=>(ak.mp (I.stkSub b z)).elim hL hb) hc) (λb o _ _ hc e n=>u.any e n hc) (λb o hc e n=>u.free b o e n hc) (λb o hc e=>u.there b o e hc) u.tups u.frzs u.tbls (λm' hm=>by
  obtain⟨o',es',ep',ho',r'⟩:=hm;rw[ho]at ho';cases ho';exact⟨_,es',ep',hL,r'⟩) hok hg
theorem Inv.turned {t' :Nat}{it:Addr}(I:Inv X pins σ H s)(k:∀b o,b ≠ it->s.heap.get? b=some o->h'.get? b=some o)(hn:H it=none)(hL:it ≠ X.env.locals)
  (h1:it∈X.ex\/X.s₀.heap.objs.size<=it) (h2:∀x c,X.env.cells.lookup x=some c->c ≠ it) (h3:∀p∈X.pn++pins,p.1 ≠ it):Inv X pins σ H { s with heap:=h',toks:=t' }:=by
 have nit:∀b u,H b=some u->b ≠ it:=λb u e z=>by rw[z,hn]at e;cases e
 refine I.step (ch:=[it]) (λb hb=> ?_) (λb o _ _ hc e _=>k b o (λz=>hc (by simp[z])) e) (λb o _ _ hc e _=>⟨o.slots,k b o (λz=>hc (by simp[z])) e⟩) (λ_ _ _ _ n=>n)
  (λb o hc e=>⟨o,k b o (λz=>hc (by simp[z])) e⟩) (λ_ _ e=>e) (λ_ _ _ e=>e) (λ_ _ _ e=>e) (λm hm=> ?_) (λb u e=> ?_) I.bare
 ·have e:=by simpa using hb
  subst e;exact⟨h1,hL,h2,h3⟩
 ·obtain⟨o,es,ep,ho,r⟩:=hm;exact⟨o,es,ep,k _ o (aZ hL) ho,r⟩
 ·refine(I.hok b u e).stay (λc v hc q=>k c v ?_ q) (λ_ q=>q) λ_ _ q=>q;rcases hc with z | z
  ·rw[z];exact nit b u e
  ·exact nit c _ z
theorem Inv.tok (I:Inv X pins σ H s)(t:Nat):Inv X pins σ H { s with toks:=t }:=I.un Un.refl I.hok
theorem Inv.kept (I:Inv X pins σ H s)(k:∀b u,s.heap.get? b=some u->h'.get? b=some u):Inv X pins σ H { s with heap:=h',toks:=t' }:=I.un (Un.kept k) (I.hok.kept k)
theorem Inv.laid (I:Inv X pins σ H s)(k:∀b u,s.heap.get? b=some u->h'.get? b=some u)(hp:s.heap.objs.size<=a)(new:Z9 X.prog X.w (upd H a o) h' a o):
  Inv X pins σ (upd H a o) { s with heap:=h',toks:=t' }:=I.un (Un.laid k hp (I.hok.fresh hp)) (I.hok.laid k hp new)
theorem Inv.write (I:Inv X pins σ H s)(mu:Mut (H x))(he:e=x\/H e=some (.own x))(k:∀b u,b ≠ e->s.heap.get? b=some u->h'.get? b=some u)(heo:∃u,h'.get? e=some u)
  (new:Z9 X.prog X.w (upd H x o) h' x o):Inv X pins σ (upd H x o) { s with heap:=h',toks:=t' }:=I.un (Un.write mu he k heo) (I.hok.write mu he k heo new)
theorem Inv.pins_of (I:Inv X pins σ H s)(h:∀p∈pins',s.heap.get? p.1=some p.2/\H p.1=none/\p.1 ≠ X.env.locals/\p.1 ∉ X.fs/\∀v,p.2.data ≠ .cell v):Inv X pins' σ H s:=
 ⟨I.ok,I.os,I.bare,I.base,I.loc,I.cell,I.free,I.freeC,λp hp=>(d4.mp hp).elim (λz=>I.pin p (bY _ z)) (h p),I.hok,I.len⟩
theorem wF {N:List Str}(hN:N.Nodup){i j:Nat}{x:Str}(a:N[i]? =some x)(b:N[j]? =some x):i=j:=by
 obtain⟨h1,e1⟩:=ar.mp a;obtain⟨h2,e2⟩:=ar.mp b;exact(hV hN).mp (e1.trans e2.symm)
theorem Wl {M:Model}{A:Around}{E:Value->Shared->Prop}{i:Nat}{x:Str}{v:V}{u:Value}{Q:Unit->Shared->Prop}(I:Inv X pins σ H s)(hN:X.N.Nodup)(hi:X.N[i]? =some x)(hx:Loc X.env.scope x)(r:Zb v u)
  (h:∀s',Inv X pins (σ.set i (some v)) H s' ->(∃a,bZ a s.heap s'.heap/\(a=X.env.locals\/X.env.cells.lookup x=some a))->Q () s') (hf:X.fn x=true\/X.env.scope.names.lookup x=some .local:=by first | exact .inl rfl | exact .inr rfl | assumption):wpAny M A (storeName X.env x u) Q E s:=by
 obtain⟨m,hn,hl⟩:=id I.loc;have hcls:(X.env.scope.kind == .class || (X.env.scope.kind == .module && X.env.locals != X.env.globals))=false:=by rw[I.ok.kind];rfl
 have hiσ:i < σ.length:=by rw[I.len];exact(ar.mp hi).1
 have cne:=I.cne;have tracked:∀{a:Addr} {h' :Heap},(∃o,s.heap.get? a=some o/\H a=none)->bZ a _ h' ->HOk _ X.w H h' :=λ{a h'} ha hs b ob e=>by
  obtain⟨_,_,hfree⟩:=ha;refine(I.hok b ob e).stay (λc w' hc q=>(hs.2 c ?_).trans q) (λ_ q=>q) λ_ _ q=>q
  rintro rfl
  rcases hc with rfl | hc
  ·rw[hfree]at e;cases e
  ·rw[hfree]at hc;cases hc
 rcases hx with hk | hk
 ·refine wpAny_storeName_local hk hn (λh' hn' hs=> ?_) hcls;obtain⟨oL,_,_,hoL,_⟩:=id hn;refine h _ ⟨I.ok,I.os,I.bare,⟨λb o e n hb hx=> ?_,λb o e n hb hx=> ?_,I.base.free,λb o e hx=> ?_,I.base.tups,I.base.frzs,I.base.tbls⟩,⟨_,hn',λj y v' e1 e2 e3=> ?_⟩,λy c e=> ?_,I.free,I.freeC,λp hp=> ?_,tracked ⟨oL,hoL,I.free⟩ hs,by simpa using I.len⟩ ⟨_,hs,.inl rfl⟩
  ·exact(hs.2 b (aC (aH (aq e) I.ok.above))).trans (I.base.keep b o e n hb hx)
  ·obtain⟨sl,e1⟩:=I.base.slot b o e n hb hx;exact⟨sl,(hs.2 b (aC (aH (aq e) I.ok.above))).trans e1⟩
  ·obtain⟨o',e1⟩:=I.base.there b o e hx;exact⟨o',(hs.2 b (aC (aH (aq e) I.ok.above))).trans e1⟩
  ·by_cases hj:j=i
   ·subst hj;rw[hi]at e1;cases e1;rw[aL hiσ]at e2;cases e2;exact⟨u,r,.inl ⟨hk,by simp⟩⟩
   ·rw[aw (aZ hj)]at e2;obtain⟨u',r',q⟩:=hl j y v' e1 e2 e3;refine⟨u',r', ?_⟩;rcases q with ⟨k,e⟩ | ⟨k,c,e,z⟩
    ·refine .inl ⟨k, ?_⟩;have:y ≠ x:=λe=>hj (wF hN e1 (e ▸ hi));simp[this,e]
    ·exact .inr ⟨k,c,e,z.sameBut hs (cne y c e)⟩
  ·obtain⟨w',z⟩:=I.cell y c e;exact⟨w',z.sameBut hs (cne y c e)⟩
  ·obtain⟨e,n,ne,nf,d⟩:=I.pin p hp;exact⟨(hs.2 p.1 ne).trans e,n,ne,nf,d⟩
 ·have hfn:X.fn x=true:=by
   rcases hf with z | z
   ·exact z
   ·rw[z]at hk;cases hk
  obtain⟨c,hc⟩:=I.ok.has x (.inl hk);obtain⟨w',z⟩:=I.cell x c hc;refine wpAny_storeName_cell I.ok.kind hk hc z (λh' hc' hs=> ?_);obtain⟨oc,hoc,hocd⟩:=id z;refine h _ ⟨I.ok,I.os,I.bare,⟨λb o e n hb hx=> ?_,λb o e n hb hx=> ?_,I.base.free,λb o e hx=> ?_,I.base.tups,I.base.frzs,I.base.tbls⟩,⟨m,hn.sameBut hs (aZ (cne x c hc)),λj y v' e1 e2 e3=> ?_⟩,λy c' e=> ?_,I.free,I.freeC,λp hp=> ?_,tracked ⟨oc,hoc,I.freeC x c hc⟩ hs,by simpa using I.len⟩ ⟨c,hs,.inr hc⟩
  ·exact(hs.2 b (aC (aH (aq e) (I.ok.cab x c hfn hc)))).trans (I.base.keep b o e n hb hx)
  ·obtain⟨sl,e1⟩:=I.base.slot b o e n hb hx;exact⟨sl,(hs.2 b (aC (aH (aq e) (I.ok.cab x c hfn hc)))).trans e1⟩
  ·obtain⟨o',e1⟩:=I.base.there b o e hx;exact⟨o',(hs.2 b (aC (aH (aq e) (I.ok.cab x c hfn hc)))).trans e1⟩
  ·by_cases hj:j=i
   ·subst hj;rw[hi]at e1;cases e1;rw[aL hiσ]at e2;cases e2;exact⟨u,r,.inr ⟨.inl hk,c,hc,hc'⟩⟩
   ·rw[aw (aZ hj)]at e2;obtain⟨u',r',q⟩:=hl j y v' e1 e2 e3;refine⟨u',r', ?_⟩;rcases q with q | ⟨k,c',e,z'⟩
    ·exact .inl q
    ·refine .inr ⟨k,c',e,z'.sameBut hs ?_⟩
     rintro rfl
     exact hj (wF hN e1 (I.ok.inj _ _ _ e hc ▸ hi))
  ·by_cases hcc:c' =c
   ·subst hcc;exact⟨_,hc'⟩
   ·obtain⟨w2,z2⟩:=I.cell y c' e;exact⟨w2,z2.sameBut hs hcc⟩
  ·obtain⟨e,n,ne,nf,d⟩:=I.pin p hp;refine⟨(hs.2 p.1 ?_).trans e,n,ne,nf,d⟩;intro q;rw[q,hoc]at e;have q' :=aB e;exact d w' (by rw[← q'];exact hocd)
theorem jz {Q:Unit->Shared->Prop}(I:Inv X pins σ H s)(hN:X.N.Nodup)(hi:X.N[i]? =some x)(hx:Loc X.env.scope x)(r:Zb v u)
  (h:∀s',Inv X pins (σ.set i (some v)) H s' ->Q () s') (hf:X.fn x=true\/X.env.scope.names.lookup x=some .local:=by first | exact .inl rfl | exact .inr rfl | assumption):wpAny M A (storeName X.env x u) Q E s:=
 Wl I hN hi hx r (λs' I' _=>h s' I') hf
theorem Inv.call' (I:Inv X pins σ H s)(ho:s'.os=s.os)(u:Un (frs X.stack) ch H H' s.heap s'.heap)(hok:HOk X.prog X.w H' s'.heap)(hg:AllBare s'.gens)
  (hch:∀b∈ch,(b∈X.ex\/X.s₀.heap.objs.size<=b)/\b ≠ X.env.locals/\(∀x c,X.env.cells.lookup x=some c->c ≠ b)/\∀p∈X.pn++pins,p.1 ≠ b):Inv X pins σ H' s' :=by
 obtain⟨h',g',d',t',o'⟩:=s';have e:=ho;subst e;exact I.call u hok hg hch
end
abbrev XK:=Value->Option Addr->Hp->Prop
noncomputable abbrev St:=List (Option V)
abbrev VK:=V->Hp->Prop
abbrev TE:=St->Hp->VK->Prop
abbrev TT:=St->Hp->(Bool->Hp->Prop)->Prop
abbrev TA:=St->Hp->(List V->Hp->Prop)->Prop
structure yj where
 nx:St->Hp->Prop
 rt:VK
 bk:St->Hp->Prop:=λ_ _=>False
 ct:St->Hp->Prop:=λ_ _=>False
abbrev TS:=yj->St->Hp->Prop
def EP (X:Cx)(pins:List (Addr×Obj))(σ:St)(Q:VK)(u:Value)(s' :Shared):Prop:=∃v H',Inv X pins σ H' s' /\Zb v u/\Q v H'
def TP (X:Cx)(pins:List (Addr×Obj))(σ:St)(Q:Bool->Hp->Prop)(b:Bool)(s' :Shared):Prop:=∃H',Inv X pins σ H' s' /\Q b H'
def AP (X:Cx)(pins:List (Addr×Obj))(σ:St)(Q:List V->Hp->Prop)(us:List Value)(s' :Shared):Prop:=∃vs H',Inv X pins σ H' s' /\zT vs us/\Q vs H'
def SP (X:Cx)(pins:List (Addr×Obj))(D:yj)(f:Flow)(s' :Shared):Prop:=
 match f with
 | .next=>∃σ' H',Inv X pins σ' H' s' /\D.nx σ' H'
 | .brk=>∃σ' H',Inv X pins σ' H' s' /\D.bk σ' H'
 | .cont=>∃σ' H',Inv X pins σ' H' s' /\D.ct σ' H'
 | .ret u=>∃v σ' H',Inv X pins σ' H' s' /\Zb v u/\D.rt v H'
def PE (X:Cx)(e:Expr)(t:TE):Prop:=
 ∀(pins:List (Addr×Obj)) (s:Shared) (σ:St) (H:Hp) (Q:VK),Inv X pins σ H s->t σ H Q->wpAny (model X.prog X.w) X.A (eval e X.env) (EP X pins σ Q) X.xe s
def PT (X:Cx)(e:Expr)(t:TT):Prop:=
 ∀(pins:List (Addr×Obj)) (s:Shared) (σ:St) (H:Hp) (Q:Bool->Hp->Prop),Inv X pins σ H s->t σ H Q->wpAny (model X.prog X.w) X.A (isTrue e X.env (eval e X.env)) (TP X pins σ Q) X.xe s
def PW (X:Cx)(e:Expr)(t:TT):Prop:=
 ∀(whole:Sem Value) (pins:List (Addr×Obj)) (s:Shared) (σ:St) (H:Hp) (Q:Bool->Hp->Prop),Inv X pins σ H s->t σ H Q->wpAny (model X.prog X.w) X.A (isTrue e X.env whole) (TP X pins σ Q) X.xe s
theorem PW.pt (h:PW X e t):PT X e t:=h _
def PA (X:Cx)(es:List Expr)(t:TA):Prop:=
 ∀(pos:Pos) (pins:List _) (s:Shared) (σ:St) (H:Hp) (Q:List V->Hp->Prop),Inv X pins σ H s->t σ H Q->wpAny (model X.prog X.w) X.A (spliced (backTo pos (starEach es X.env))) (AP X pins σ Q) X.xe s
def PS (X:Cx)(st:Stmt)(t:TS):Prop:=
 ∀(pins:List (Addr×Obj)) (s:Shared) (σ:St) (H:Hp) (D:yj),Inv X pins σ H s->t D σ H->wpAny (model X.prog X.w) X.A (exec st X.env) (SP X pins D) X.xe s
def PSs (X:Cx)(st:List Stmt)(t:TS):Prop:=
 ∀(pins:List (Addr×Obj)) (s:Shared) (σ:St) (H:Hp) (D:yj),Inv X pins σ H s->t D σ H->wpAny (model X.prog X.w) X.A (execs st X.env) (SP X pins D) X.xe s
theorem thn {α:Type}{t:Sem α}{Q Q' :α->Shared->Prop}(h:wpAny M A t Q E s)(hQ:∀a s,Q a s->Q' a s):wpAny M A t Q' E s:=bI h hQ λ_ _ x=>x
end L2
namespace L2
open PySem PySem.Spec PyProof.Rows
section
theorem bin (ha:PE X a ta)(hb:PE X b tb){R:V->V->Hp->Prop}(I:Inv X pins σ H s)(h:ta σ H λx H1=>tb σ H1 λy H2=>R x y H2)
  {α:Type} {Q:α->Shared->Prop} {f:Value->Value->Sem α}
  (hf:∀v u s2 x y H2,Inv X pins σ H2 s2->Zb x v->Zb y u->R x y H2->wpAny (model X.prog X.w) X.A (f v u) Q X.xe s2):
  wpAny (model X.prog X.w) X.A (eval a X.env) (λv s₁=>wpAny (model X.prog X.w) X.A (eval b X.env) (λu s₂=>wpAny (model X.prog X.w) X.A (f v u) Q X.xe s₂) X.xe s₁) X.xe s:=by
 refine thn (ha _ s σ H _ I h) λv s1 ⟨x,H1,I1,r1,q1⟩=> ?_;refine thn (hb _ s1 σ H1 _ I1 q1) λu s2 ⟨y,H2,I2,r2,q2⟩=> ?_;exact hf v u s2 x y H2 I2 r1 r2 q2
def jk (i:Nat):TE:=λσ H Q=>∃v,σ[i]? =some (some v)/\Q v H
def tC (v:V):TE:=λ_ H Q=>Q v H
theorem uK (hN:X.N[i]? =some x)(hv:Vis X.env.scope x)(hd:(x == ("__debug__":Str))=false:=by decide)(hcd:(x == ("__classdict__":Str))=false:=by decide):PE X (.Name x pos) (jk i):=by
 intro pins s σ H Q I h;obtain⟨v,e,h⟩:=h;obtain⟨m,hn,hl⟩:=I.loc;obtain⟨u,r,l⟩:=hl i x v hN e hv;have fin:EP X _ σ Q u s:=⟨v,H,I,r,h⟩;rcases l with ⟨hk,hm⟩ | ⟨hk,c,hc,hcell⟩
 ·exact wpAny_Name (wpAny_loadName_local I.ok.kind hk hn hm fin) hd
 ·rcases hk with hk | hk
  ·exact wpAny_Name (wpAny_loadName_cell I.ok.kind hk hc hcell fin) hd
  ·exact wpAny_Name (wpAny_loadName_free I.ok.kind hk hc hcell fin hcd) hd
theorem XZ {i j pos}:PE X (.Constant (.int i) j pos) (tC (.int i)):=λ_ _ _ H _ I h=>wpAny_Constant_int ⟨.int i,H,I.tok _,⟨_,rfl⟩,h⟩
theorem z0b {b j pos}:PE X (.Constant (.bool b) j pos) (tC (.bl b)):=λ_ _ _ H _ I h=>Constant_bool ⟨.bl b,H,I,rfl,h⟩
theorem vN {x j pos}:PE X (.Constant (.str x) j pos) (tC (.str x)):=λ_ _ _ H _ I h=>Calls.Constant_str ⟨.str x,H,I.tok _,⟨_,rfl⟩,h⟩
noncomputable def Gl (X:Cx)(x:Str):Prop:=X.env.kindOf x=some .globalImplicit
theorem jq (I:Inv X pins σ H s)(hg:Gl X x)(hm:X.mg x=some u)(h:Q u s)
  (hd:(x == ("__debug__":Str))=false:=by decide):wpAny (model X.prog X.w) X.A (eval (.Name x pos) X.env) Q E s:=
 dE I.ok.kind hg (Calls.loadGlobal_global (by rw[I.ok.glob];exact I.mod.glob.keeps I.bk) hm h) hd
theorem j0 (I:Inv X pins σ H s)(hg:Gl X x)(hm:X.mg x=none)(hv:bootBuiltins x=some u)(h:Q u s)
  (hn:x ≠ "__name__":=by decide) (hd:(x == ("__debug__":Str))=false:=by decide):wpAny (model X.prog X.w) X.A (eval (.Name x pos) X.env) Q E s:=by
 obtain⟨mb,h1,h2⟩:=I.mod.blt;exact dE I.ok.kind hg (Calls.loadGlobal_builtin (by rw[I.ok.glob];exact I.mod.glob.keeps I.bk) hm (by rw[I.ok.blt];exact h1.keeps I.bk) ((h2 x hn).trans hv) h) hd
theorem yw (hg:Gl X x)(hm:X.mg x=some u)(r:Zb v u)(hd:(x == ("__debug__":Str))=false:=by decide):PE X (.Name x pos) (tC v):=
 λ_ _ _ H _ I h=>jq I hg hm ⟨v,H,I,r,h⟩ hd
theorem yx (hg:Gl X x)(hm:X.mg x=none)(hv:bootBuiltins x=some u)(r:Zb v u)(hn:x ≠ "__name__":=by decide)(hd:(x == ("__debug__":Str))=false:=by decide):PE X (.Name x pos) (tC v):=
 λ_ _ _ H _ I h=>j0 I hg hm hv ⟨v,H,I,r,h⟩ hn hd
variable {tA tB' :TT}{rest:List Expr}
def tAnd (t u:TT):TT:=λσ H Q=>t σ H λc H1=>if c=true then u σ H1 Q else Q false H1
def tOr (t u:TT):TT:=λσ H Q=>t σ H λc H1=>if c=true then Q true H1 else u σ H1 Q
def tNot (t:TT):TT:=λσ H Q=>t σ H λc H1=>Q (!c) H1
theorem VD (ha:PT X a tA):PW X (.BoolOp .And [a] pos) tA:=by
 intro wh pins s σ H Q I h;refine isTrue_and (thn (ha _ s σ H Q I h) λc s1 e=> ?_);cases c with
 | true=>exact isTrue_and_nil e
 | false=>exact e
theorem vO (ha:PT X a tA):PW X (.BoolOp .Or [a] pos) tA:=by
 intro wh pins s σ H Q I h;refine isTrue_or (thn (ha _ s σ H Q I h) λc s1 e=> ?_);cases c with
 | false=>exact isTrue_or_nil e
 | true=>exact e
theorem k6 (ha:PT X a tA)(hb:PW X (.BoolOp .And (b :: rest) pos) tB'):PW X (.BoolOp .And (a :: b :: rest) pos) (tAnd tA tB'):=by
 intro wh pins s σ H Q I h;refine isTrue_and (thn (ha _ s σ H _ I h) λc s1 ⟨H1,I1,q1⟩=> ?_);cases c with
 | true=>exact hb wh _ s1 σ H1 Q I1 q1
 | false=>exact⟨H1,I1,q1⟩
theorem k7 (ha:PT X a tA)(hb:PW X (.BoolOp .Or (b :: rest) pos) tB'):PW X (.BoolOp .Or (a :: b :: rest) pos) (tOr tA tB'):=by
 intro wh pins s σ H Q I h;refine isTrue_or (thn (ha _ s σ H _ I h) λc s1 ⟨H1,I1,q1⟩=> ?_);cases c with
 | true=>exact⟨H1,I1,q1⟩
 | false=>exact hb wh _ s1 σ H1 Q I1 q1
theorem k8 (ha:PT X a tA):PT X (.UnaryOp .Not a pos) (tNot tA):=by
 intro pins s σ H Q I h;exact isTrue_not (ha _ s σ H (λc H1=>Q _ H1) I h)
def z0c (ta tb:TE):TE:=λσ H Q=>ta σ H λx H1=>∃c,x= .bl c/\if c=true then tb σ H1 Q else Q (.bl false) H1
def tOrV (ta tb:TE):TE:=λσ H Q=>ta σ H λx H1=>∃c,x= .bl c/\if c=true then Q (.bl true) H1 else tb σ H1 Q
def z0d (ta:TE):TE:=λσ H Q=>ta σ H λx H1=>∃c,x= .bl c/\Q (.bl (!c)) H1
theorem k9 {op}(h:PE X a t):PE X (.BoolOp op [a] pos) t:=λpins s σ H Q I hw=>BoolOp_one (h _ s σ H Q I hw)
theorem ka (ha:PE X a ta)(hb:PE X (.BoolOp .And (b :: rest) pos) tb):PE X (.BoolOp .And (a :: b :: rest) pos) (z0c ta tb):=by
 intro pins s σ H Q I h;refine BoolOp_and (thn (ha _ s σ H _ I h) λv s1 ⟨x,H1,I1,r1,q1⟩=> ?_);obtain⟨c,rfl,q1⟩:=q1;cases r1;refine bc ?_;cases c with
 | true=>exact hb _ s1 σ H1 Q I1 q1
 | false=>exact⟨.bl _,H1,I1,rfl,q1⟩
theorem z0e (ha:PE X a ta)(hb:PE X (.BoolOp .Or (b :: rest) pos) tb):PE X (.BoolOp .Or (a :: b :: rest) pos) (tOrV ta tb):=by
 intro pins s σ H Q I h;refine BoolOp_or (thn (ha _ s σ H _ I h) λv s1 ⟨x,H1,I1,r1,q1⟩=> ?_);obtain⟨c,rfl,q1⟩:=q1;cases r1;refine bc ?_;cases c with
 | false=>exact hb _ s1 σ H1 Q I1 q1
 | true=>exact⟨.bl _,H1,I1,rfl,q1⟩
theorem kb (ha:PE X a ta):PE X (.UnaryOp .Not a pos) (z0d ta):=by
 intro pins s σ H Q I h;refine UnaryOp_ (thn (ha _ s σ H _ I h) λv s1 ⟨x,H1,I1,r1,q1⟩=> ?_);obtain⟨c,rfl,q1⟩:=q1;cases r1;exact not_of (bc ⟨.bl _,H1,I1,rfl,q1⟩)
def tIf (t:TT)(ta tb:TE):TE:=λσ H Q=>t σ H λc H1=>if c=true then ta σ H1 Q else tb σ H1 Q
theorem uL (hc:PT X c tA)(ha:PE X a ta)(hb:PE X b tb):PE X (.IfExp c a b pos) (tIf tA ta tb):=by
 intro pins s σ H Q I h;refine wpAny_IfExp (thn (hc _ s σ H _ I h) λd s1 ⟨H1,I1,q1⟩=> ?_);cases d with
 | true=>exact ha _ s1 σ H1 Q I1 q1
 | false=>exact hb _ s1 σ H1 Q I1 q1
end
end L2
namespace L2
open PySem PySem.Spec PyProof.Rows
def SqL (K:a8)(H:Hp)(a:Addr)(xs:List V):Prop:=
 Rd H a (.lst xs)\/
  ∃(o:Obj) (its:Array Value) (n:Nat),K.lookup a=some o/\o.cls= .type "list"/\o.dict=none/\o.data= .seq its n/\its.size<=sizeLine/\zT xs its.toList
def SqT (K:a8)(H:Hp)(a:Addr)(xs:List V):Prop:=
 Rd H a (.tup xs)\/
  ∃(o:Obj) (its:Array Value) (n:Nat),K.lookup a=some o/\o.cls= .type "tuple"/\o.data= .seq its n/\its.size<=sizeLine/\zT xs its.toList
noncomputable def absV:Value->Option V
 | .none=>some .non
 | .bool b=>some (.bl b)
 | .int i _=>some (.int i)
 | .str x _=>some (.str x)
 | .bytes b _=>some (.byt b)
 | .float b _=>some (.flt b)
 | .ref a=>some (.ref a)
 | .type n=>some (.ty n)
 | _=>none
theorem Zb.abs (r:Zb x u):absV u=some x:=by
 cases x with
 | non=>cases r;rfl
 | bl _=>cases r;rfl
 | int _=>obtain⟨t,rfl⟩:=r;rfl
 | str _=>obtain⟨t,rfl⟩:=r;rfl
 | byt _=>obtain⟨t,rfl⟩:=r;rfl
 | flt _=>obtain⟨t,rfl⟩:=r;rfl
 | ref _=>cases r;rfl
 | ty _=>cases r;rfl
theorem Zb.inj (r:Zb x u)(q:Zb y u):x=y:=aB (r.abs.symm.trans q.abs)
theorem zT.inj:∀{xs ys:List V} {us:List Value},zT xs us->zT ys us->xs=ys
 | _,_,_,.nil,.nil=>rfl
 | _,_,_,.cons r t,.cons r' t' =>by rw[r.inj r',zT.inj t t']
section
variable {X:Cx}{pins:List (Addr×Obj)}{σ:St}{H:Hp}{s:Shared}{a:Addr}{xs ys:List V}
theorem SqL.of {K:a8}(h:H a=some (.lst xs)):SqL K H a xs:= .inl (.inl h)
theorem SqT.of {K:a8}(h:H a=some (.tup xs)):SqT K H a xs:= .inl (.inl h)
theorem Inv.list (I:Inv X pins σ H s)(h:SqL X.K H a xs):∃its:List Value,zT xs its/\PlainL s.heap a its.toArray/\xs.length<=sizeLine:=by
 rcases h with h | ⟨o,its,n,hk,hc,hd,hs,hz,r⟩
 ·obtain⟨z,its,n,r,e⟩:=h.ok I.hok;exact⟨its,r,⟨_,n,e,rfl,rfl,rfl⟩,z⟩
 ·refine⟨its.toList,r,⟨o,n,I.kIn a o hk,hc,hd,by simpa using hs⟩, ?_⟩
  have e:=r.length;simp only[dB]at e;omega
theorem Inv.tuple (I:Inv X pins σ H s)(h:SqT X.K H a xs):∃its:List Value,zT xs its/\IsTup s.heap a its.toArray/\xs.length<=sizeLine:=by
 rcases h with h | ⟨o,its,n,hk,hc,hs,hz,r⟩
 ·obtain⟨z,its,r,p,_⟩:=h.ok I.hok;exact⟨its,r,p,z⟩
 ·refine⟨its.toList,r,⟨o,I.kIn a o hk,hc,n,by simpa using hs⟩, ?_⟩
  have e:=r.length;simp only[dB]at e;omega
theorem Inv.list_inj (I:Inv X pins σ H s)(h:SqL X.K H a xs)(h' :SqL X.K H a ys):xs=ys:=by
 obtain⟨its,r,⟨o,n,e,_,_,d⟩,_⟩:=I.list h;obtain⟨its',r',⟨o',n',e',_,_,d'⟩,_⟩:=I.list h';rw[e]at e';cases e';rw[d]at d';injection d' with d1 _;have:=by simpa using congrArg Array.toList d1
 subst this;exact r.inj r'
theorem Inv.tuple_inj (I:Inv X pins σ H s)(h:SqT X.K H a xs)(h' :SqT X.K H a ys):xs=ys:=by
 obtain⟨its,r,⟨o,e,_,n,d⟩,_⟩:=I.tuple h;obtain⟨its',r',⟨o',e',_,n',d'⟩,_⟩:=I.tuple h';rw[e]at e';cases e';rw[d]at d';injection d' with d1 _;have:=by simpa using congrArg Array.toList d1
 subst this;exact r.inj r'
end
noncomputable abbrev Cx.wish (X:Cx)(E:Value->Shared->Prop):Cx:={ X with xe:=E }
abbrev Cx.nox (X:Cx):Cx:=X.wish λ_ _=>False
theorem Cx.Ok.wish {X:Cx}(ok:X.Ok)(E:Value->Shared->Prop):(X.wish E).Ok:=
 ⟨ok.mod,ok.kind,ok.glob,ok.blt,ok.above,ok.inj,ok.has,ok.cab,ok.hd,ok.frames,ok.stk,ok.exf,ok.bs,ok.bsz,ok.noex,ok.exfs,ok.funs,ok.frf⟩
theorem Cx.Ok.unwish {X:Cx}{E:Value->Shared->Prop}(ok:(X.wish E).Ok):X.Ok:=
 ⟨ok.mod,ok.kind,ok.glob,ok.blt,ok.above,ok.inj,ok.has,ok.cab,ok.hd,ok.frames,ok.stk,ok.exf,ok.bs,ok.bsz,ok.noex,ok.exfs,ok.funs,ok.frf⟩
section
variable {X:Cx}{pins:List (Addr×Obj)}{σ:St}{H:Hp}{s:Shared}{E:Value->Shared->Prop}
theorem Inv.wish (I:Inv X pins σ H s)(E:Value->Shared->Prop):Inv (X.wish E) pins σ H s:=⟨I.ok.wish E,I.os,I.bare,I.base,I.loc,I.cell,I.free,I.freeC,I.pin,I.hok,I.len⟩
theorem Inv.unwish (I:Inv (X.wish E) pins σ H s):Inv X pins σ H s:=⟨I.ok.unwish,I.os,I.bare,I.base,I.loc,I.cell,I.free,I.freeC,I.pin,I.hok,I.len⟩
theorem SP.unwish {D:yj}{f:Flow}(h:SP (X.wish E) pins D f s'):SP X pins D f s' :=by
 cases f with
 | next=>obtain⟨σ',H',I,q⟩:=h;exact⟨σ',H',I.unwish,q⟩
 | brk=>obtain⟨σ',H',I,q⟩:=h;exact⟨σ',H',I.unwish,q⟩
 | cont=>obtain⟨σ',H',I,q⟩:=h;exact⟨σ',H',I.unwish,q⟩
 | ret u=>obtain⟨v,σ',H',I,r,q⟩:=h;exact⟨v,σ',H',I.unwish,r,q⟩
theorem PSs.nox {st:List Stmt}{t:TS}(h:PSs X.nox st t):PSs X st t:=λpins s σ H D I hw=>
 bI (h _ s σ H D (I.wish _) hw) (λ_ _ q=>q.unwish) λ_ _ z=>bo z
end
section
variable {X:Cx}{st:Stmt}{rest:List Stmt}{t u:TS}{e:Expr}{te:TE}{pos:Pos}
def z0f:TS:=λD σ H=>D.nx σ H
def tSeq (t u:TS):TS:=λD σ H=>t { D with nx:=u D } σ H
theorem yy:PSs X [] z0f:=λ_ _ σ H _ I h=>wpAny_execs_nil ⟨σ,H,I,h⟩
theorem wG (h1:PS X st t)(h2:PSs X rest u):PSs X (st :: rest) (tSeq t u):=by
 intro pins s σ H D I h;refine wpAny_execs_cons (thn (h1 _ s σ H _ I h) λf s1 q=> ?_);cases f with
 | next=>
  obtain⟨σ',H',I',q⟩:=q;exact h2 _ s1 σ' H' D I' q
 | ret v=>exact q
 | brk=>exact q
 | cont=>exact q
theorem jN (h1:PS X st t):PSs X [st] t:=by
 intro pins s σ H D I h;refine wpAny_execs_cons (thn (h1 _ s σ H D I h) λf s1 q=> ?_);cases f with
 | next=>exact wpAny_execs_nil q
 | ret v=>exact q
 | brk=>exact q
 | cont=>exact q
theorem Inv.quiet (I:Inv X pins σ H s):interactive X.env=false:=by simp[interactive,I.ok.kind]
def z0g (te:TE):TS:=λD σ H=>te σ H λ_ H1=>D.nx σ H1
theorem Jt (he:PE X e te)(hs:swapsWith e none pos.line X.env=pure false:=by rfl):PS X (.Expr e pos) (z0g te):=by
 intro pins s σ H D I h;exact wpAny_Expr_any (thn (he _ s σ H _ I h) λv s1 ⟨x,H1,I1,r1,q1⟩=>⟨σ,H1,I1,q1⟩) I.quiet hs
def tRet (te:TE):TS:=λD σ H=>te σ H D.rt
theorem wg (he:PE X e te):PS X (.Return (some e) pos) (tRet te):=by
 intro pins s σ H D I h;exact wpAny_Return_some (thn (he _ s σ H _ I h) λv s1 ⟨x,H1,I1,r1,q1⟩=>⟨x,σ,H1,I1,r1,q1⟩)
def tIfS (c:TT)(t u:TS):TS:=λD σ H=>c σ H λb H1=>if b=true then t D σ H1 else u D σ H1
theorem kd (hc:PT X c tc)(ha:PSs X a t)(hb:PSs X b u):PS X (.If c a b pos) (tIfS tc t u):=by
 intro pins s σ H D I h;refine wpAny_If (thn (hc _ s σ H _ I h) λd s1 ⟨H1,I1,q1⟩=> ?_);cases d with
 | true=>exact ha _ s1 σ H1 D I1 q1
 | false=>exact hb _ s1 σ H1 D I1 q1
end
abbrev TG:=V->St->Hp->(St->Hp->Prop)->Prop
abbrev TGs:=List V->St->Hp->(St->Hp->Prop)->Prop
def PG (X:Cx)(target:Expr)(t:TG):Prop:=
 ∀(pins:List (Addr×Obj)) (s:Shared) (σ:St) (H:Hp) (v:V) (u:Value) (Q:St->Hp->Prop),Inv X pins σ H s->Zb v u->t v σ H Q->
  wpAny (model X.prog X.w) X.A (assign target X.env u) (λ_ s' =>∃σ' H',Inv X pins σ' H' s' /\Q σ' H') X.xe s
def PGs (X:Cx)(ts:List Expr)(t:TGs):Prop:=
 ∀(pins:List (Addr×Obj)) (s:Shared) (σ:St) (H:Hp) (vs:List V) (us:List Value) (Q:St->Hp->Prop),Inv X pins σ H s->zT vs us->t vs σ H Q->
  wpAny (model X.prog X.w) X.A (assignInOrder ((assignEach ts X.env).map (·.2)) us) (λ_ s' =>∃σ' H',Inv X pins σ' H' s' /\Q σ' H') X.xe s
section
def wH (i:Nat):TG:=λv σ H Q=>Q (σ.set i (some v)) H
theorem jO (hN:X.N.Nodup)(hi:X.N[i]? =some x)(hx:Loc X.env.scope x)(hf:X.fn x=true\/X.env.scope.names.lookup x=some .local:=by first | exact .inl rfl | exact .inr rfl | assumption):PG X (.Name x pos) (wH i):=by
 intro pins s σ H v u Q I r h;exact wpAny_assign_Name (jz I hN hi hx r (λs' I' =>⟨_,H,I',h⟩) hf)
def z0h:TGs:=λvs σ H Q=>vs=[]/\Q σ H
def yz (t:TG)(u:TGs):TGs:=λvs σ H Q=>∃v r,vs=v :: r/\t v σ H λσ' H' =>u r σ' H' Q
theorem yA:PGs X [] z0h:=by
 intro pins s σ H vs us Q I r h;obtain⟨e,h⟩:=h;exact assignInOrder_nil ⟨σ,H,I,h⟩
theorem Jj {u:TGs}(h1:PG X e t)(h2:PGs X es u)
  (hs:(assignEach (e :: es) X.env).map (·.2)=assign e X.env :: (assignEach es X.env).map (·.2):=by rfl):PGs X (e :: es) (yz t u):=by
 intro pins s σ H vs us Q I r h;obtain⟨v,vr,e1,h⟩:=h;subst e1;cases r with
 | cons r rr=>
  rw[hs];refine assignInOrder_cons (thn (h1 _ s σ H _ _ _ I r h) λ_ s1 ⟨σ1,H1,I1,q1⟩=> ?_);exact h2 _ s1 σ1 H1 _ _ Q I1 rr q1
def z0i (K:a8)(n:Nat)(t:TGs):TG:=λv σ H Q=>∃a xs,v= .ref a/\SqT K H a xs/\xs.length=n/\t xs σ H Q
theorem vP {t:TGs}(hc:X.calm=true)(h:PGs X es t)
  (hn:(assignEach es X.env).length=n:=by rfl) (hst:(assignEach es X.env).findIdx? (·.1)=none:=by rfl):PG X (.Tuple es k pos) (z0i X.K n t):=by
 intro pins s σ H v u Q I r hw;obtain⟨a,xs,e1,hq,hl,hw⟩:=hw;subst e1;cases r;obtain⟨its,rv,ht,hz⟩:=I.tuple hq;refine assign_Tuple_tuple (I.ok.hd hc) ht (by simp[hn,← hl,rv.length]) hst λh' hx=> ?_
 have I1:Inv X _ σ H { s with heap:=h' }:=I.kept λb o e=>hx b o (aC (aq e)) e;exact h _ _ σ H xs _ Q I1 (by simpa using rv) hw
def tAsg (te:TE)(g:TG):TS:=λD σ H=>te σ H λx H1=>g x σ H1 D.nx
theorem wj (hN:X.N.Nodup)(hi:X.N[i]? =some x)(hx:Loc X.env.scope x)(he:PE X e te)(hs:swapsWith e (some (.Name x pos')) pos.line X.env=pure false:=by rfl)(hf:X.fn x=true\/X.env.scope.names.lookup x=some .local:=by first | exact .inl rfl | exact .inr rfl | assumption):
  PS X (.Assign [.Name x pos'] e pos) (tAsg te (wH i)):=by
 intro pins s σ H D I h;refine wpAny_Assign_Name (thn (he _ s σ H _ I h) λv s1 ⟨y,H1,I1,r1,q1⟩=> ?_) hs;exact jz I1 hN hi hx r1 (λs2 I2=>⟨_,H1,I2,q1⟩) hf
def tPar (i j:Nat)(ta:TA):TS:=λD σ H=>ta σ H λvs H1=>∃v w,vs=[v,w]/\D.nx ((σ.set i (some v)).set j (some w)) H1
theorem ke {kt k2 pt2}(hc:X.calm=true)(hN:X.N.Nodup)(hi:X.N[i]? =some x)(hj:X.N[j]? =some y)(hij:i ≠ j)
  (hx:X.env.scope.names.lookup x=some .local) (hy:X.env.scope.names.lookup y=some .local) (ha:PA X [a,b] ta)
  (hw:swappedStores [.Tuple [.Name x px,.Name y py] kt pt] (.Tuple [a,b] k2 pt2) X.env=pure (some [x,y]))
  (hs:swapsWithSole [.Tuple [.Name x px,.Name y py] kt pt] (.Tuple [a,b] k2 pt2) pos.line X.env=pure false:=by rfl):
  PS X (.Assign [.Tuple [.Name x px,.Name y py] kt pt] (.Tuple [a,b] k2 pt2) pos) (tPar i j ta):=by
 intro pins s σ H D I h;refine a7 (wpAny_standAt ?_);refine a7 (ao ?_);refine a7 (Tuple_ (thn (ha _ _ s σ H _ I h) λus s1 ⟨vs,H1,I1,r1,q1⟩=> ?_));obtain⟨v,w,e1,q1⟩:=q1;subst e1;obtain⟨u1,u2,rfl,rv,rw'⟩:∃u1 u2,us=[u1,u2]/\Zb v u1/\Zb w u2:=by
  cases r1 with
  | cons p q=>
   cases q with
   | cons p' q' =>
    cases q';exact⟨_,_,rfl,p,p'⟩
 refine bq ?_ (by show 2<=sizeLine;decide)
 have I2:Inv X _ σ H1 { s1 with heap:=s1.heap.push { cls:= .type "tuple",data:= .seq [u1,u2].toArray } }:=I1.kept λb o e=>a9 _ e;rw[hw];refine a7 (ao ?_);refine a7 (dF (a7 (unpackItems_tuple (items:= #[u1,u2]) (I.ok.hd hc) (IsTup.new _ _) λh' hx' => ?_)));have I3:=I2.kept (t' :=s1.toks) λb o e=>hx' b o (aC (aq e)) e;refine a7 (assignInOrder_cons (wpAny_bindName (jz I3 hN hj (.inl hy) rw' (λs2 I4=> ?_) (.inr hy))));refine assignInOrder_cons (wpAny_bindName (jz I4 hN hi (.inl hx) rv (λs3 I5=>assignInOrder_nil (ao ?_)) (.inr hx)));rw[fF _ _ (aZ hij)]at I5;exact⟨_,H1,I5,q1⟩
end
section
def kg (c:TT)(tb:TS):TS:=λD σ H=>∃W:Nat->St->Hp->Prop,(∃m,W m σ H)/\∀m σ H,W m σ H->
 c σ H λb H1=>if b=true then ∃N:St->Hp->Prop,(∀σ' H',N σ' H' ->∃m',m' < m/\W m' σ' H')/\tb { D with nx:=N,ct:=N,bk:=D.nx } σ H1 else D.nx σ H1
theorem Ql (hp:PassesOwn (model X.prog X.w) X.A X.env X.xe)(hc:PT X c tc)(hb:PSs X body tb):PS X (.While c body [] pos) (kg tc tb):=by
 intro pins s σ H D I h;obtain⟨W,⟨m0,w0⟩,turn⟩:=h;refine wpAny_While (codeAny_whileLoop (λn s' =>∃σ' H',Inv X _ σ' H' s' /\W n σ' H') ?_ m0 ⟨σ,H,I,w0⟩)
 rintro n s1 ⟨σ1,H1,I1,w1⟩
 refine bW hp (thn (hc _ s1 σ1 H1 _ I1 (turn n σ1 H1 w1)) λb s2 ⟨H2,I2,q2⟩=> ?_);cases b with
 | true=>
  obtain⟨N,hN,q2⟩:=q2;refine bW hp (thn (hb _ s2 σ1 H2 _ I2 q2) λf s3 q3=> ?_);cases f with
  | next=>
   obtain⟨σ3,H3,I3,n3⟩:=q3;obtain⟨m',hm,w3⟩:=hN σ3 H3 n3;exact⟨m',hm,σ3,H3,I3,w3⟩
  | cont=>
   obtain⟨σ3,H3,I3,n3⟩:=q3;obtain⟨m',hm,w3⟩:=hN σ3 H3 n3;exact⟨m',hm,σ3,H3,I3,w3⟩
  | brk=>exact q3
  | ret v=>exact q3
 | false=>
  exact wpAny_execs_nil ⟨σ1,H2,I2,q2⟩
end
structure It where
 go:Nat->Hp->Prop
 yld:Nat->Hp->V->Hp->Prop
 stop:Nat->Hp->Prop
def Wh (X:Cx)(pins:List (Addr×Obj))(H:Hp)(b:Addr):Prop:=
 H b=none/\b ≠ X.env.locals/\b ∉ X.fs/\(b∈X.ex\/X.s₀.heap.objs.size<=b)/\(∀x c,X.env.cells.lookup x=some c->c ≠ b)/\∀p∈X.pn++pins,p.1 ≠ b
theorem Inv.fpOk (I:Inv X pins σ H s)(hb:s.heap.objs.size<=b)(hn:H' b=none):Wh X pins H' b:=by
 refine⟨hn,da (aH I.lt hb),I.nofs hb,.inr (aD I.sz hb),λx c e z=> ?_,λp hp z=> ?_⟩
 ·obtain⟨v,q⟩:=I.cell x c e;exact absurd (aH q.lt (by rw[z];exact hb)) (bF _)
 ·exact absurd (aH (aq (I.pin p hp).1) (by rw[z];exact hb)) (bF _)
structure yk (P:Program) (w:World) (K:a8) (tg:Expr) (J:It) (fp:List Addr) (it:Addr) (tn:Nat->Heap->Prop):Prop where
 mem:it∈fp
 obj:∀i h,tn i h->∀b∈fp,∃o,h.get? b=some o/\∀v,o.data ≠ .cell v
 keep:∀i h h',tn i h->(∀b∈fp,∀o,h.get? b=some o->h'.get? b=some o)->tn i h'
 item:∀(X:Cx),X.prog=P->X.w=w->X.K=K->X.calm=true->∀(i:Nat) (pins:List (Addr×Obj)) (s:Shared) (σ:St) (H:Hp) (E:Value->Shared->Prop),Inv X pins σ H s->(∀b∈fp,Wh X pins H b)->tn i s.heap->J.go i H->
  wpAny (model P w) X.A (pyNext (.ref it)) (λr s1=>∃u,r=some u/\
   wpAny (model P w) X.A (letOwnedTupleGo tg (.ref it) u) (λ_ s2=>∃x H',Inv X pins σ H' s2/\Zb x u/\J.yld i H x H' /\tn (i+1) s2.heap/\∀b∈fp,H' b=none) E s1) E s
 done:∀(X:Cx),X.prog=P->X.w=w->X.K=K->X.calm=true->∀(i:Nat) (pins:List (Addr×Obj)) (s:Shared) (σ:St) (H:Hp) (E:Value->Shared->Prop),Inv X pins σ H s->(∀b∈fp,Wh X pins H b)->tn i s.heap->J.stop i H->
  wpAny (model P w) X.A (pyNext (.ref it)) (λr s1=>r=none/\Inv X pins σ H s1) E s
 self:∀(A:Around) (i:Nat) (s:Shared) (Q:Value->Shared->Prop) (E:Value->Shared->Prop),tn i s.heap->Q (.ref it) s->wpAny (model P w) A (pyIter (.ref it)) Q E s
abbrev TI:=St->Hp->(It->Hp->Prop)->Prop
def PIE (X:Cx)(pins:List (Addr×Obj))(σ:St)(tg:Expr)(R:It->Hp->Prop)(itv:Value)(s2:Shared):Prop:=
 ∃(it:Addr) (fp:List Addr) (tn:Nat->Heap->Prop) (J:It) (H' :Hp),itv= .ref it/\Inv X pins σ H' s2/\yk X.prog X.w X.K tg J fp it tn/\tn 0 s2.heap/\(∀b∈fp,Wh X pins H' b)/\R J H'
def PI (X:Cx)(tg iter:Expr)(wi:TI):Prop:=
 ∀(pins:List (Addr×Obj)) (s:Shared) (σ:St) (H:Hp) (R:It->Hp->Prop),Inv X pins σ H s->wi σ H R->
  wpAny (model X.prog X.w) X.A (eval iter X.env) (λv s1=>wpAny (model X.prog X.w) X.A (pyIter v) (PIE X pins σ tg R) X.xe s1) X.xe s
theorem UA {Q:Unit->Shared->Prop}(ho:s.heap.get? it=some o)(hc:o.cls= .type n)(hd:o.data= .fields vs)
  (hn:["enumerate","zip","dict_itemiterator","dict_reverseitemiterator","odict_iterator","itertools.zip_longest","itertools.pairwise"].contains n=false) (hQ:Q () s):wpAny M A (letOwnedTupleGo tg (.ref it) u) Q E s:=by
 cases tg <;> first
  | exact ao hQ
  | (cases u <;> first
    | exact ao hQ
    | (refine a7 (wpAny_load ho ?_);rw[hc,hd];show wpAny M A (if (["enumerate","zip","dict_itemiterator","dict_reverseitemiterator","odict_iterator","itertools.zip_longest","itertools.pairwise"].contains n && vs[0]? == some _)=true then _ else _) Q E s;rw[if_neg (by intro h;rw[hn]at h;cases h)];exact ao hQ))
def Itl (K:a8)(a:Addr):It:=
 ⟨λi H=>∃xs x,SqL K H a xs/\xs[i]? =some x,λi H x H' =>H' =H/\∀xs,SqL K H a xs->xs[i]? =some x,λi H=>∃xs,SqL K H a xs/\xs.length<=i⟩
def Itt (K:a8)(a:Addr):It:=
 ⟨λi H=>∃xs x,SqT K H a xs/\xs[i]? =some x,λi H x H' =>H' =H/\∀xs,SqT K H a xs->xs[i]? =some x,λi H=>∃xs,SqT K H a xs/\xs.length<=i⟩
noncomputable def Itr (lo:Int)(n:Nat):It:=⟨λi _=>i < n,λi H x H' =>H' =H/\x= .int (lo+i),λi _=>n<=i⟩
theorem Wm {P:Program}{w:World}{K:a8}{tg:Expr}(a it:Addr):yk P w K tg (Itl K a) [it] it (λi h=>h.IsListIter it a i) where
 mem:=by simp
 obj:=λi h st b hb=>by
  have e:b=it:=by simpa using hb
  subst e;obtain⟨o,e,c,d⟩:=st;exact⟨o,e,λv z=>by rw[d]at z;cases z⟩
 keep:=λi h h' st k=>st.at λo e=>k it (by simp) o e
 item:=by
  intro X hP hw hK hc i pins s σ H E I hf st hg;subst hP hw hK;obtain⟨xs,x,hq,hx⟩:=hg;obtain⟨its,rv,p,hz⟩:=I.list hq;obtain⟨u,hu,ru⟩:=rv.get hx;obtain⟨f0,f1,f2,f3,f4,f5⟩:=hf it (by simp)
  refine wpAny_pyNext_list_item st p.isList (x:=u) (by simpa using hu) λh' st' sb=> ?_
  have I1:Inv X pins σ H { s with heap:=h' }:=I.turned (t' :=s.toks) (λb o hb e=>(sb.2 b hb).trans e) f0 f1 f3 f4 f5;obtain⟨o,e,c,d⟩:=id st';exact⟨u,rfl,UA (s:={ s with heap:=h' }) e c d (by decide) ⟨x,H,I1,ru,⟨rfl,λys hy=>by rw[I.list_inj hy hq];exact hx⟩,st',λb hb=>(hf b hb).1⟩⟩
 done:=by
  intro X hP hw hK hc i pins s σ H E I hf st hg;subst hP hw hK;obtain⟨xs,hq,hx⟩:=hg;obtain⟨its,rv,p,hz⟩:=I.list hq;obtain⟨f0,f1,f2,f3,f4,f5⟩:=hf it (by simp)
  have hl:=rv.length;exact wpAny_pyNext_list_end (I.ok.hd hc) st p.isList (by simp;omega) λh' eb=>⟨rfl,I.turned (t' :=s.toks) (λb o hb e=>eb b o hb e) f0 f1 f3 f4 f5⟩
 self:=λ_ _ _ _ _ st h=>wpAny_pyIter_listiter st h
theorem wk {P:Program}{w:World}{K:a8}{tg:Expr}(a it:Addr):yk P w K tg (Itt K a) [it] it (λi h=>h.IsTupleIter it a i) where
 mem:=by simp
 obj:=λi h st b hb=>by
  have e:b=it:=by simpa using hb
  subst e;obtain⟨o,e,c,d⟩:=st;exact⟨o,e,λv z=>by rw[d]at z;cases z⟩
 keep:=λi h h' st k=>st.at λo e=>k it (by simp) o e
 item:=by
  intro X hP hw hK hc i pins s σ H E I hf st hg;subst hP hw hK;obtain⟨xs,x,hq,hx⟩:=hg;obtain⟨its,rv,p,hz⟩:=I.tuple hq;obtain⟨u,hu,ru⟩:=rv.get hx;obtain⟨f0,f1,f2,f3,f4,f5⟩:=hf it (by simp)
  refine wpAny_pyNext_tuple_item st (show s.heap.IsTuple a its.toArray from p) (x:=u) (by simpa using hu) λh' st' sb=> ?_
  have I1:Inv X pins σ H { s with heap:=h' }:=I.turned (t' :=s.toks) (λb o hb e=>(sb.2 b hb).trans e) f0 f1 f3 f4 f5;obtain⟨o,e,c,d⟩:=id st';exact⟨u,rfl,UA (s:={ s with heap:=h' }) e c d (by decide) ⟨x,H,I1,ru,⟨rfl,λys hy=>by rw[I.tuple_inj hy hq];exact hx⟩,st',λb hb=>(hf b hb).1⟩⟩
 done:=by
  intro X hP hw hK hc i pins s σ H E I hf st hg;subst hP hw hK;obtain⟨xs,hq,hx⟩:=hg;obtain⟨its,rv,p,hz⟩:=I.tuple hq;obtain⟨f0,f1,f2,f3,f4,f5⟩:=hf it (by simp)
  have hl:=rv.length;exact wpAny_pyNext_tuple_end (I.ok.hd hc) st (show s.heap.IsTuple a its.toArray from p) (by simp;omega) λh' eb=>⟨rfl,I.turned (t' :=s.toks) (λb o hb e=>eb b o hb e) f0 f1 f3 f4 f5⟩
 self:=λ_ _ _ _ _ st h=>wpAny_pyIter_tupleiter st h
theorem UB {P:Program}{w:World}{K:a8}{tg:Expr}(it:Addr)(lo:Int)(n:Nat):yk P w K tg (Itr lo n) [it] it (λi h=>IsRangeIter h it (lo+(i:Nat)*1) ((n:Int) - (i:Nat)) 1) where
 mem:=by simp
 obj:=λi h st b hb=>by
  have e:b=it:=by simpa using hb
  subst e;exact⟨_,st,λv z=>by
   have z' :Data.fields _=Data.cell v:=z;cases z'⟩
 keep:=λi h h' st k=>k it (by simp) _ st
 item:=by
  intro X hP hw hK hc i pins s σ H E I hf st hg;subst hP hw hK;obtain⟨f0,f1,f2,f3,f4,f5⟩:=hf it (by simp)
  have W:=Walks.range (prog:=X.prog) (w:=X.w) (I.ok.hd hc) it lo 1 n;refine W.item i s _ _ hg st λv h' tk hv st' kk=> ?_;obtain⟨t,rfl⟩:=hv;have I1:Inv X pins σ H { s with heap:=h',toks:=tk }:=I.turned (λb o hb e=>kk b o (by simpa using hb) e) f0 f1 f3 f4 f5
  refine⟨_,rfl,UA (s:={ s with heap:=h',toks:=tk }) (n:="range_iterator") st' rfl rfl (by decide) ⟨.int (lo+i),H,I1,⟨t, ?_⟩,⟨rfl,rfl⟩,st',λb hb=>(hf b hb).1⟩⟩
  rw[Int.mul_one]
 done:=by
  intro X hP hw hK hc i pins s σ H E I hf st hg;subst hP hw hK;obtain⟨f0,f1,f2,f3,f4,f5⟩:=hf it (by simp)
  exact wpAny_pyNext_range_end (I.ok.hd hc) st (by have:n<=i:=hg;omega) λh' eb=>⟨rfl,I.turned (t' :=s.toks) (λb o hb e=>eb b o hb e) f0 f1 f3 f4 f5⟩
 self:=λ_ _ _ _ _ st h=>wpAny_pyIter_rangeiter st h
end L2
namespace L2
open PySem PySem.Spec PyProof.Rows
section
theorem uM {pins:List (Addr×Obj)}{σ:St}{H:Hp}{s:Shared}{R:It->Hp->Prop}{E:Value->Shared->Prop}{lo hi:Int}{t u v:Tok}{tk:Nat}(I:Inv X pins σ H s)(h1: -(2 ^ 62)<=lo)(h2:lo < 2 ^ 62)(h3: -(2 ^ 62)<=hi)(h4:hi < 2 ^ 62)
  (q:R (Itr lo (hi - lo).toNat) H):wpAny (model X.prog X.w) X.A (pyIter (.ref s.heap.objs.size)) (PIE X pins σ tg R) E { s with heap:=s.heap.push { cls:= .type "range",data:= .fields #[.int lo t,.int hi u,.int 1 v] },toks:=tk }:=by
 refine wpAny_pyIter_range (IsRange.new ..) (small_one h1 h2 h3 h4) ?_;have I1:Inv X _ σ H { s with heap:=s.heap.push { cls:= .type "range",data:= .fields #[.int lo t,.int hi u,.int 1 v] },toks:=tk }:=I.kept λb o e=>a9 _ e;refine⟨(s.heap.push _).objs.size,[(s.heap.push _).objs.size],_,_,H,rfl,
  I1.kept λb o e=>a9 _ e,UB _ lo _, ?_,λb hb=> ?_,q⟩
 ·have e1:lo+((0:Nat))*1=lo:=by simp
  have e2:(((hi - lo).toNat):Int) - ((0:Nat))=eF lo hi 1:=by rw[rangeSize_one];split <;> omega
  rw[e1,e2];exact af _ rfl
 ·have e:b=(s.heap.push { cls:= .type "range",data:= .fields #[.int lo t,.int hi u,.int 1 v] }).objs.size:=by simpa using hb
  subst e;exact I1.fpOk (ai _) (I1.hok.fresh (ai _))
def z0j (ta:TA):TI:=λσ H R=>ta σ H λvs H1=>∃j:Int,vs=[.int j]/\ -(2 ^ 62)<=j/\j < 2 ^ 62/\R (Itr 0 j.toNat) H1
def z0k (ta:TA):TI:=λσ H R=>ta σ H λvs H1=>∃i j:Int,vs=[.int i,.int j]/\(-(2 ^ 62)<=i/\i < 2 ^ 62/\ -(2 ^ 62)<=j/\j < 2 ^ 62)/\R (Itr i (j - i).toNat) H1
theorem yB {a:Expr}{ta:TA}{p pos:Pos}(hg:Gl X "range")(hm:X.mg "range"=none)(ha:PA X [a] ta)(hs:starEach [a] X.env=[(false,eval a X.env)]:=by rfl):PI X tg (.Call (.Name "range" p) [a] [] pos) (z0j ta):=by
 intro pins s σ H R I h;refine Call_ (j0 I hg hm boot_range (aU (thn (ha pos _ s σ H _ I h) λus s1 ⟨vs,H1,I1,r1,q1⟩=> ?_) hs rfl));obtain⟨j,e,q1,q2,q⟩:=q1;subst e;cases r1 with
 | cons r rr=>
  cases rr;obtain⟨t,rfl⟩:=r;exact call_range_1 (uM I1 (by omega) (by omega) q1 q2 (by simpa using q))
theorem yC (hg:Gl X "range")(hm:X.mg "range"=none)(ha:PA X [a,b] ta)(hs:starEach [a,b] X.env=[(false,eval a X.env),(false,eval b X.env)]:=by rfl)(hs2:starEach [b] X.env=[(false,eval b X.env)]:=by rfl):
  PI X tg (.Call (.Name "range" p) [a,b] [] pos) (z0k ta):=by
 intro pins s σ H R I h;refine Call_ (j0 I hg hm boot_range (aU (thn (ha pos _ s σ H _ I h) λus s1 ⟨vs,H1,I1,r1,q1⟩=> ?_) (by rw[hs,hs2]) (by rw[hs2];rfl)))
 obtain⟨i,j,e,⟨q1,q2,q3,q4⟩,q⟩:=q1;subst e;cases r1 with
 | cons r rr=>
  cases rr with
  | cons r' rr=>
   cases rr;obtain⟨t,rfl⟩:=r;obtain⟨t',rfl⟩:=r';exact call_range_2 (uM I1 q1 q2 q3 q4 q)
def tFor (wi:TI)(g:TG)(tb:TS):TS:=λD σ H=>wi σ H λJ H1=>∃W:Nat->Nat->St->Hp->Prop,(∃m,W 0 m σ H1)/\∀i m σ H,W i m σ H->
 (J.stop i H/\D.nx σ H)\/(J.go i H/\∃N:St->Hp->Prop,(∀σ' H',N σ' H' ->∃m',m' < m/\W (i+1) m' σ' H')/\∀x H',J.yld i H x H' ->g x σ H' λσ2 H2=>tb { D with nx:=N,ct:=N,bk:=D.nx } σ2 H2)
noncomputable def uN (fp:List Addr)(h:Heap):List (Addr×Obj):=fp.filterMap λb=>(h.get? b).map λo=>(b,o)
theorem jf (hb:b∈fp)(e:h.get? b=some o):(b,o)∈uN fp h:=d6.mpr ⟨b,hb,by rw[e];rfl⟩
theorem yD {p:Addr×Obj}(hp:p∈uN fp h):p.1∈fp/\h.get? p.1=some p.2:=by
 obtain⟨b,hb,e⟩:=d6.mp hp;cases q:h.get? b with
 | none=>rw[q]at e;cases e
 | some o=>
  rw[q]at e;have e' :=aB e;subst e';exact⟨hb,q⟩
theorem Inv.pinned (I:Inv X pins σ H s)(hf:∀b∈fp,Wh X pins H b)(ho:∀b∈fp,∃o,s.heap.get? b=some o/\∀v,o.data ≠ .cell v):Inv X (pins++uN fp s.heap) σ H s:=
 I.pins_of λp hp=>(d4.mp hp).elim (λz=>I.pin p (aY _ z)) λz=>by
  obtain⟨hb,e⟩:=yD z;obtain⟨f0,f1,f2,_⟩:=hf p.1 hb;obtain⟨o,e',d⟩:=ho p.1 hb;rw[e]at e';cases e';exact⟨e,f0,f1,f2,d⟩
theorem Inv.unpinned (I:Inv X (pins++pl) σ H s):Inv X pins σ H s:=I.pins_of λp hp=>I.pin p (aY _ (bY _ hp))
theorem vQ (hp:PassesOwn (model X.prog X.w) X.A X.env X.xe)(hc:X.calm=true)(hi:PI X tg iter wi)(hg:PG X tg g)(hb:PSs X body tb)
  (hs:∀x,foldedSetIterable iter X.env x=pure x:=by intro _;rfl):PS X (.For tg iter body [] pos) (tFor wi g tb):=by
 intro pins s σ H D I h;refine wpAny_For (thn (hi _ s σ H _ I h) λv s1 h1=>thn h1 λitv s2 h2=> ?_) hs;obtain⟨it,fp,tn,J,H2,e,I2,T,st2,f2,W,⟨m0,w0⟩,turn⟩:=h2;subst e;have stat:∀{H' :Hp},(∀b∈fp,H' b=none)->∀b∈fp,Wh X _ H' b:=λhn b hb=>⟨hn b hb,(f2 b hb).2⟩;refine codeAny_forLoop_any (λn s' =>∃i σ' H',Inv X _ σ' H' s' /\tn i s'.heap/\(∀b∈fp,H' b=none)/\W i n σ' H') ?_ m0 ⟨0,σ,H2,I2,st2,λb hb=>(f2 b hb).1,w0⟩
 rintro n s3 ⟨i,σ3,H3,I3,st3,fr3,w3⟩
 rcases turn i n σ3 H3 w3 with ⟨stop,qn⟩ | ⟨go,N,hN,step⟩
 ·refine bW hp (thn (T.done X rfl rfl rfl hc i _ s3 σ3 H3 _ I3 (stat fr3) st3 stop) λr s4 ⟨hr,I4⟩=> ?_);subst hr;exact wpAny_execs_nil ⟨σ3,H3,I4,qn⟩
 ·refine bW hp (thn (T.item X rfl rfl rfl hc i _ s3 σ3 H3 _ I3 (stat fr3) st3 go) λr s4 ⟨u,hr,h4⟩=> ?_);subst hr;refine bW hp (thn h4 λ_ s5 ⟨x,H5,I5,r5,y5,st5,fr5⟩=> ?_);have I5' :=I5.pinned (stat fr5) (T.obj _ _ st5);refine bW hp (thn (hg _ s5 σ3 H5 x u _ I5' r5 (step x H5 y5)) λ_ s6 ⟨σ6,H6,I6,q6⟩=> ?_);refine bW hp (thn (hb _ s6 σ6 H6 _ I6 q6) λf s7 q7=> ?_);have again:∀{σ7:St} {H7:Hp},Inv X (pins++uN fp _) σ7 H7 s7->N σ7 H7->∃m,m < n/\∃i σ' H',Inv X _ σ' H' s7/\tn i _/\(∀b∈fp,H' b=none)/\W i m σ' H' :=λ{σ7 H7} I7 n7=>by
   obtain⟨m',hm,w7⟩:=hN σ7 H7 n7;refine⟨m',hm,i+1,σ7,H7,I7.unpinned,T.keep _ _ _ st5 λb hb o e=>(I7.pin _ (aY _ (aY _ (jf hb e)))).1,λb hb=> ?_,w7⟩;obtain⟨o,e,d⟩:=T.obj _ _ st5 b hb;exact(I7.pin _ (aY _ (aY _ (jf hb e)))).2.1
  cases f with
  | next=>obtain⟨σ7,H7,I7,n7⟩:=q7;exact again I7 n7
  | cont=>obtain⟨σ7,H7,I7,n7⟩:=q7;exact again I7 n7
  | brk=>obtain⟨σ7,H7,I7,q7⟩:=q7;exact⟨σ7,H7,I7.unpinned,q7⟩
  | ret v=>obtain⟨x7,σ7,H7,I7,r7,q7⟩:=q7;exact⟨x7,σ7,H7,I7.unpinned,r7,q7⟩
end
end L2
namespace L2
open PySem PySem.Spec PyProof.Rows
abbrev R2:=V->V->Hp->VK->Prop
def OpR (X:Cx)(f:Value->Value->Sem Value)(r:R2):Prop:=
 ∀(pins:List (Addr×Obj)) (s:Shared) (σ:St) (H:Hp) (x y:V) (v u:Value) (Q:VK),Inv X pins σ H s->Zb x v->Zb y u->r x y H Q->
  wpAny (model X.prog X.w) X.A (f v u) (EP X pins σ Q) X.xe s
def UnR (X:Cx)(f:Value->Sem Value)(r:V->Hp->VK->Prop):Prop:=
 ∀(pins:List (Addr×Obj)) (s:Shared) (σ:St) (H:Hp) (x:V) (v:Value) (Q:VK),Inv X pins σ H s->Zb x v->r x H Q->
  wpAny (model X.prog X.w) X.A (f v) (EP X pins σ Q) X.xe s
def Zt (X:Cx)(f:Value)(r:List V->Hp->VK->Prop):Prop:=
 ∀(pins:List (Addr×Obj)) (s:Shared) (σ:St) (H:Hp) (xs:List V) (us:List Value) (Q:VK),Inv X pins σ H s->zT xs us->r xs H Q->
  wpAny (model X.prog X.w) X.A (call f us) (EP X pins σ Q) X.xe s
def TruR (X:Cx)(r:V->Hp->(Bool->Hp->Prop)->Prop):Prop:=
 ∀(pins:List _) (s:Shared) (σ:St) (H:Hp) (x:V) (v:Value) (Q:Bool->Hp->Prop),Inv X pins σ H s->Zb x v->r x H Q->
  wpAny (model X.prog X.w) X.A (truthy v) (TP X pins σ Q) X.xe s
def tOp (r:R2)(ta tb:TE):TE:=λσ H Q=>ta σ H λx H1=>tb σ H1 λy H2=>r x y H2 Q
def tUn (r:V->Hp->VK->Prop)(ta:TE):TE:=λσ H Q=>ta σ H λx H1=>r x H1 Q
def rI (C:Int->Int->Prop)(g:Int->Int->V):R2:=λx y H Q=>∃i j,x= .int i/\y= .int j/\C i j/\Q (g i j) H
def rI0 (g:Int->Int->V):R2:=λx y H Q=>∃i j,x= .int i/\y= .int j/\Q (g i j) H
def rU (g:Int->V):V->Hp->VK->Prop:=λx H Q=>∃i,x= .int i/\Q (g i) H
section
theorem z0l (ha:PE X a ta)(hb:PE X b tb){R:V->V->Hp->Prop}(I:Inv X pins σ H s)
  (h:ta σ H λx H1=>tb σ H1 λy H2=>R x y H2) {Q:Value->Shared->Prop} {f:Value->Value->Sem Value}
  (hf:∀v u s2 x y H2,Inv X pins σ H2 s2->Zb x v->Zb y u->R x y H2->wpAny (model X.prog X.w) X.A (f v u) Q X.xe s2):
  wpAny (model X.prog X.w) X.A (eval a X.env) (λv s₁=>wpAny (model X.prog X.w) X.A (eval b X.env) (λu s₂=>wpAny (model X.prog X.w) X.A (f v u) Q X.xe s₂) X.xe s₁) X.xe s:=by
 refine thn (ha _ s σ H _ I h) λv s1 ⟨x,H1,I1,r1,q1⟩=> ?_;refine thn (hb _ s1 σ H1 _ I1 q1) λu s2 ⟨y,H2,I2,r2,q2⟩=> ?_;exact hf v u s2 x y H2 I2 r1 r2 q2
theorem z0m (ho:OpR X (binaryOp op) r)(ha:PE X a ta)(hb:PE X b tb):PE X (.BinOp a op b pos) (tOp r ta tb):=by
 intro pins s σ H Q I h;exact wpAny_BinOp (z0l ha hb I h λv u s2 x y H2 I2 rx ry q=>ho _ s2 σ H2 x y v u Q I2 rx ry q)
theorem z0n {op:UnaryOp}{r:V->Hp->VK->Prop}(ho:UnR X (unaryOp op) r)(ha:PE X a ta):PE X (.UnaryOp op a pos) (tUn r ta):=by
 intro pins s σ H Q I h;exact UnaryOp_ (thn (ha _ s σ H _ I h) λv s1 ⟨x,H1,I1,r1,q1⟩=>ho _ s1 σ H1 x v Q I1 r1 q1)
theorem opI {f:Value->Value->Sem Value}{C:Int->Int->Prop}{g:Int->Int->Int}
  (rule:∀(i j:Int) (t u:Tok) (s:Shared) (Q:Value->Shared->Prop) (E:Value->Shared->Prop),C i j->Q (.int (g i j) s.toks) { s with toks:=s.toks+1 }->wpAny (model X.prog X.w) X.A (f (.int i t) (.int j u)) Q E s):
  OpR X f (rI C λi j=> .int (g i j)):=by
 intro pins s σ H x y v u Q I rx ry h;obtain⟨i,j,rfl,rfl,hc,q⟩:=h;obtain⟨t,rfl⟩:=rx;obtain⟨t',rfl⟩:=ry;exact rule i j t t' s _ _ hc ⟨.int _,H,I.tok _,⟨_,rfl⟩,q⟩
theorem opI0 {f:Value->Value->Sem Value}{g:Int->Int->Int}
  (rule:∀(i j:Int) (t u:Tok) (s:Shared) (Q:Value->Shared->Prop) (E:Value->Shared->Prop),Q (.int (g i j) s.toks) { s with toks:=s.toks+1 }->wpAny (model X.prog X.w) X.A (f (.int i t) (.int j u)) Q E s):
  OpR X f (rI0 λi j=> .int (g i j)):=by
 intro pins s σ H x y v u Q I rx ry h;obtain⟨i,j,rfl,rfl,q⟩:=h;obtain⟨t,rfl⟩:=rx;obtain⟨t',rfl⟩:=ry;exact rule i j t t' s _ _ ⟨.int _,H,I.tok _,⟨_,rfl⟩,q⟩
theorem GE {f:Value->Value->Sem Value}{g:Int->Int->Bool}
  (rule:∀(i j:Int) (t u:Tok) (s:Shared) (Q:Value->Shared->Prop) (E:Value->Shared->Prop),Q (.bool (g i j)) s->wpAny (model X.prog X.w) X.A (f (.int i t) (.int j u)) Q E s):
  OpR X f (rI0 λi j=> .bl (g i j)):=by
 intro pins s σ H x y v u Q I rx ry h;obtain⟨i,j,rfl,rfl,q⟩:=h;obtain⟨t,rfl⟩:=rx;obtain⟨t',rfl⟩:=ry;exact rule i j t t' s _ _ ⟨.bl _,H,I,rfl,q⟩
noncomputable def CDiv (i j:Int):Prop:=0 < j/\j < 1073741824
noncomputable def ud (i j:Int):Prop:=(-(2 ^ 64) < i/\i < 2 ^ 64)\/(-(2 ^ 64) < j/\j < 2 ^ 64)
theorem ud.ok (h:ud i j):IntMulOk i j:=by
 rcases h with ⟨h1,h2⟩ | ⟨h1,h2⟩
 ·exact .of_left (intBits_le_64 h1 h2)
 ·exact .of_right (intBits_le_64 h1 h2)
theorem kh:OpR X (binaryOp .Add) (rI0 λi j=> .int (i+j)):=opI0 λ_ _ _ _ _ _ _ q=>add_int q
theorem ki:OpR X (binaryOp .Sub) (rI0 λi j=> .int (i - j)):=opI0 λ_ _ _ _ _ _ _ q=>sub_int q
theorem kl:OpR X (binaryOp .Mult) (rI ud λi j=> .int (i*j)):=opI λ_ _ _ _ _ _ _ hc q=>mul_int q hc.ok
theorem VE:OpR X (binaryOp .FloorDiv) (rI CDiv λi j=> .int (i / j)):=opI λi j _ _ _ _ _ hc q=>by
 have h1:=hc.1;have h2:=hc.2;exact floordiv_int (by omega) (by rw[Int.fdiv_eq_ediv_of_nonneg i (by omega)];exact q) (.inl (PyProof.noPylong_small (by omega)))
theorem km:OpR X (binaryOp .Mod) (rI (λ_ j=>0 < j) λi j=> .int (i % j)):=opI λi j _ _ _ _ _ hc q=>by
 exact mod_int' (by omega) (by rw[Int.fmod_eq_emod_of_nonneg i (by omega)];exact q)
theorem unI {f:Value->Sem Value}{g:Int->Int}
  (rule:∀(i:Int) (t:Tok) (s:Shared) (Q:Value->Shared->Prop) (E:Value->Shared->Prop),Q (.int (g i) s.toks) { s with toks:=s.toks+1 }->wpAny (model X.prog X.w) X.A (f (.int i t)) Q E s):
  UnR X f (rU λi=> .int (g i)):=by
 intro pins s σ H x v Q I rx h;obtain⟨i,rfl,q⟩:=h;obtain⟨t,rfl⟩:=rx;exact rule i t s _ _ ⟨.int _,H,I.tok _,⟨_,rfl⟩,q⟩
theorem kn:UnR X (unaryOp .USub) (rU λi=> .int (-i)):=unI λ_ _ _ _ _ q=>neg_int q
theorem yE:OpR X (binaryOp .Add) (λx y H Q=>∃i k,x= .int i/\y= .bl k/\Q (.int (i+b2i k)) H):=by
 intro pins s σ H x y v u Q I rx ry h;obtain⟨i,k,rfl,rfl,q⟩:=h;obtain⟨t,rfl⟩:=rx;cases ry;exact add_int_bool ⟨.int _,H,I.tok _,⟨_,rfl⟩,q⟩
end
section
theorem z0o:OpR X (compareOp .Lt) (rI0 λi j=> .bl (decide (i < j))):=GE λ_ _ _ _ _ _ _ q=>lt_int q
theorem z0p:OpR X (compareOp .LtE) (rI0 λi j=> .bl (decide (i<=j))):=GE λ_ _ _ _ _ _ _ q=>le_int q
theorem z0q:OpR X (compareOp .Gt) (rI0 λi j=> .bl (decide (j < i))):=GE λ_ _ _ _ _ _ _ q=>gt_int q
theorem z0r:OpR X (compareOp .GtE) (rI0 λi j=> .bl (decide (j<=i))):=GE λ_ _ _ _ _ _ _ q=>ge_int q
theorem jl (b:Expr)(h:op ≠ .In:=by decide)(h2:op ≠ .NotIn:=by decide):behindInMarks op b=false:=by
 have e1:(op == CmpOp.In)=false:=by cases op <;> first | rfl | exact absurd rfl h
 have e2:(op == CmpOp.NotIn)=false:=by cases op <;> first | rfl | exact absurd rfl h2
 cases b <;> simp[behindInMarks,e1,e2]
theorem VF (ho:OpR X (compareOp op) r)(ha:PE X a ta)(hb:PE X b tb)(hm:behindInMarks op b=false):PE X (.Compare a [op] [b] pos) (tOp r ta tb):=by
 intro pins s σ H Q I h;exact wpAny_Compare1 (z0l ha hb I h λv u s2 x y H2 I2 rx ry q=>ho _ s2 σ H2 x y v u Q I2 rx ry q) hm
def kq (t:TE):TT:=λσ H Q=>t σ H λx H' =>∃k,x= .bl k/\Q k H'
theorem yF (ho:OpR X (compareOp op) r)(ha:PE X a ta)(hb:PE X b tb)(hm:behindInMarks op b=false):PT X (.Compare a [op] [b] pos) (kq (tOp r ta tb)):=by
 intro pins s σ H Q I h;refine wpAny_isTrue_Compare1 (thn (ha _ s σ H _ I h) λv s1 ⟨x,H1,I1,r1,q1⟩=>thn (hb _ s1 σ H1 _ I1 q1) λu s2 ⟨y,H2,I2,r2,q2⟩=>
  thn (ho _ s2 σ H2 x y v u _ I2 r1 r2 q2) λc s3 ⟨z,H3,I3,r3,k,e,q3⟩=> ?_) hm
 subst e;cases r3;exact bc ⟨H3,I3,q3⟩
def vR (r r' :R2)(ta tb tc:TE):TE:=λσ H Q=>ta σ H λx H1=>tb σ H1 λy H2=>r x y H2 λz H3=>∃k,z= .bl k/\
 (if k=true then tc σ H3 λw' H4=>r' y w' H4 Q else Q (.bl false) H3)
theorem Qm (ho:OpR X (compareOp op) r)(ho' :OpR X (compareOp op') r')(ha:PE X a ta)(hb:PE X b tb)(hc:PE X c tc)
  (hm:lastMarks [op,op'] [b,c]=false:=by with_unfolding_all rfl):PE X (.Compare a [op,op'] [b,c] pos) (vR r r' ta tb tc):=by
 intro pins s σ H Q I h;refine Compare_chain (thn (ha _ s σ H _ I h) λv s1 ⟨x,H1,I1,r1,q1⟩=>chain_link (thn (hb _ s1 σ H1 _ I1 q1) λu s2 ⟨y,H2,I2,r2,q2⟩=>
  thn (ho _ s2 σ H2 x y v u _ I2 r1 r2 q2) λd s3 ⟨z,H3,I3,r3,k,e,q3⟩=> ?_)) hm
 subst e;cases r3;refine bc ?_;cases k with
 | false=>exact ite_ff ⟨.bl _,H3,I3,rfl,q3⟩
 | true=>exact ite_tt (chain_last (thn (hc _ s3 σ H3 _ I3 q3) λw' s4 ⟨z',H4,I4,r4,q4⟩=>ho' _ s4 σ H4 y z' u w' Q I4 r2 r4 q4))
theorem Qn (ho:OpR X (compareOp op) r)(ho' :OpR X (compareOp op') r')(ha:PE X a ta)(hb:PE X b tb)(hc:PE X c tc)
  (hm:lastMarks [op,op'] [b,c]=false:=by with_unfolding_all rfl):PT X (.Compare a [op,op'] [b,c] pos) (kq (vR r r' ta tb tc)):=by
 intro pins s σ H Q I h;refine isTrue_chain (thn (ha _ s σ H _ I h) λv s1 ⟨x,H1,I1,r1,q1⟩=>test_link (thn (hb _ s1 σ H1 _ I1 q1) λu s2 ⟨y,H2,I2,r2,q2⟩=>
  thn (ho _ s2 σ H2 x y v u _ I2 r1 r2 q2) λd s3 ⟨z,H3,I3,r3,k,e,q3⟩=> ?_)) hm
 subst e;cases r3;refine bc ?_;cases k with
 | false=>
  obtain⟨k',e',q'⟩:=q3;cases e';exact ite_ff ⟨H3,I3,q'⟩
 | true=>
  refine ite_tt (test_last (thn (hc _ s3 σ H3 _ I3 q3) λw' s4 ⟨z',H4,I4,r4,q4⟩=>thn (ho' _ s4 σ H4 y z' u w' _ I4 r2 r4 q4) λd' s5 ⟨z2,H5,I5,r5,k2,e2,q5⟩=> ?_));subst e2;cases r5;exact bc ⟨H5,I5,q5⟩
def TruV (K:a8)(x:V)(H:Hp)(k:Bool):Prop:=
 match x with
 | .non=>k=false
 | .bl b=>k=b
 | .int i=>k=(i != 0)
 | .str y=>y.length<=sizeLine/\k=((y.length:Int) != 0)
 | .byt y=>y.size<=sizeLine/\k=((y.size:Int) != 0)
 | .ref p=>(∃xs,SqL K H p xs/\k= !xs.isEmpty)\/(∃xs,SqT K H p xs/\k= !xs.isEmpty)\/∃kvs,H p=some (.dK kvs)/\k= !kvs.isEmpty
 | _=>False
theorem UC {κ:Type}{kvs:List (κ×V)}{vs:List (κ×Value)}(r:KV kvs vs):(!vs.isEmpty)= !kvs.isEmpty:=by
 cases r <;> rfl
theorem wl (r:zT xs its):(!its.toArray.isEmpty)= !xs.isEmpty:=by
 cases r <;> simp
theorem Wn:(sizeLine:Nat) < 2 ^ 63:=by decide
theorem ku:TruR X (λx H Q=>∃k,TruV X.K x H k/\Q k H):=by
 intro pins s σ H x v Q I rx h;obtain⟨k,e,q⟩:=h;have hs:=bT;cases x with
 | non=>
  cases rx;have e' :k=false:=e;subst e';exact truthy_none ⟨H,I,q⟩
 | bl b=>
  cases rx;have e' :k=b:=e;subst e';exact bc ⟨H,I,q⟩
 | int i=>
  obtain⟨t,rfl⟩:=rx;have e' :k=(i != 0):=e;subst e';exact PySem.P.truthy_int ⟨H,I,q⟩
 | str y=>
  obtain⟨t,rfl⟩:=rx;obtain⟨hy,e'⟩:y.length<=sizeLine/\k=((y.length:Int) != 0):=e;subst e';exact PySem.P.truthy_str (by omega) ⟨H,I.tok _,q⟩
 | byt y=>
  obtain⟨t,rfl⟩:=rx;obtain⟨hy,e'⟩:y.size<=sizeLine/\k=((y.size:Int) != 0):=e;subst e';exact PySem.W.truthy_bytes (by omega) ⟨H,I.tok _,q⟩
 | ref p=>
  cases rx;have e' :=e;rcases e' with ⟨xs,hx,e'⟩ | ⟨xs,hx,e'⟩ | ⟨kvs,hx,e'⟩
  ·subst e';obtain⟨its,r,pl,hz⟩:=I.list hx;have hlen:=r.length;exact wpAny_truthy_list pl.isList (by simp only[az];omega) ⟨H,I.tok _,by rw[wl r];exact q⟩
  ·subst e';obtain⟨its,r,pl,hz⟩:=I.tuple hx;have hlen:=r.length;exact truthy_tuple pl (by simp only[az];omega) ⟨H,I.tok _,by rw[wl r];exact q⟩
  ·subst e';obtain⟨hz,hS,vs,r,m⟩:kvs.length<=sizeLine/\(p == sysModules)=false/\∃vs,KV kvs vs/\s.heap.DictOf _ p vs:=I.hok p _ hx;have hlen:=Paired.length r;exact wpAny_truthy_dict hS m (by omega) ⟨H,I.tok _,by rw[UC r];exact q⟩
 | _=>exact(e).elim
theorem Qo (ha:PE X a ta)(he:∀whole,isTrue a X.env whole=(do let v ← whole;standAt a.pos;holding [v] (truthy v))):
  PT X a (λσ H Q=>ta σ H λx H' =>∃k,TruV X.K x H' k/\Q k H'):=by
 intro pins s σ H Q I h;exact isTrue_plain (thn (ha _ s σ H _ I h) λv s1 ⟨x,H1,I1,r1,q1⟩=>ku _ s1 σ H1 x v Q I1 r1 q1) (he _)
theorem UD:OpR X (binaryOp .Add) (λx y H Q=>∃i j,x= .str i/\y= .str j/\i.length+j.length<=sizeLine/\Q (.str (i++j)) H):=by
 intro pins s σ H x y v u Q I rx ry h;obtain⟨i,j,rfl,rfl,hz,q⟩:=h;obtain⟨t,rfl⟩:=rx;obtain⟨t',rfl⟩:=ry;exact add_str (λt' tk=>⟨.str _,H,I.tok _,⟨_,rfl⟩,q⟩) hz
theorem ZP (r:zT [x] us):∃u,us=[u]/\Zb x u:=by
 cases r with
 | cons r1 r2=>cases r2;exact⟨_,rfl,r1⟩
theorem yG (r:zT [x,y] us):∃u w',us=[u,w']/\Zb x u/\Zb y w' :=by
 cases r with
 | cons r1 r2=>
  cases r2 with
  | cons r3 r4=>cases r4;exact⟨_,_,rfl,r1,r3⟩
theorem yH (hc:X.calm=true):Zt X (.builtin "min") (λxs H Q=>∃i j,xs=[.int i,.int j]/\Q (.int (if j < i then j else i)) H):=by
 intro pins s σ H xs us Q I r h;obtain⟨i,j,rfl,q⟩:=h;obtain⟨u,w',rfl,⟨t,rfl⟩,⟨t',rfl⟩⟩:=yG r;refine min_two_ints (I.ok.hd hc) λh' tk k=>⟨_,H,I.kept k, ?_,q⟩
 by_cases hj:j < i
 ·rw[if_pos hj,if_pos hj];exact⟨_,rfl⟩
 ·rw[if_neg hj,if_neg hj];exact⟨_,rfl⟩
theorem yI:Zt X (.type "int") (λxs H Q=>(∃i,xs=[.int i]/\Q (.int i) H)\/∃k,xs=[.bl k]/\Q (.int (if k then 1 else 0)) H):=by
 intro pins s σ H xs us Q I r h;rcases h with ⟨i,rfl,q⟩ | ⟨k,rfl,q⟩
 ·obtain⟨u,rfl,t,rfl⟩:=ZP r;exact call_int_int ⟨.int i,H,I,⟨_,rfl⟩,q⟩
 ·obtain⟨u,rfl,r1⟩:=ZP r;cases r1;exact call_int_bool ⟨.int _,H,I.tok _,⟨_,rfl⟩,q⟩
end
end L2
namespace L2
open PySem PySem.Spec PyProof.Rows
structure VG (h:Heap) (x dx C:Addr) (mA:Str->Option Value):Prop where
 obj:h.get? x=some (cA C dx)
 ns:h.Ns1 dx mA
 ne:dx ≠ x
theorem yJ {h:Heap}{dx:Addr}{mA:Str->Option Value}(n:h.Ns1 dx mA):∃od,h.get? dx=some od/\∀name,dG name od=some (mA name):=by
 obtain⟨o,es,ep,ho,hd,hk,_,hm⟩:=n;refine⟨o,ho,λname=> ?_⟩;have e:=hm name;unfold nsFind findBy at e;rw[← Array.find?_toList]at e;unfold dG;rw[hd];dsimp only;split
 ·rename_i y q;rw[q]at e;exact congrArg _ e
 ·rename_i q;rw[q]at e;have a:es.toList.any (·.refKey)=false:=by
   rw[fP];intro y hy;obtain⟨z,t,hkey⟩:=hk y (Array.mem_toList_iff.mp hy);simp[DictEntry.refKey,hkey]
  have a' :¬ es.toList.any (·.refKey)=true:=by rw[a];exact aA
  rw[if_neg a'];exact congrArg _ e
theorem VG.look (I:VG h x dx C mA):∃od,PySem.W.InstAt h x (cA C dx) C (some od)/\∀name,dG name od=some (mA name):=
 let ⟨od,ho,hl⟩:=yJ I.ns
 ⟨od,⟨I.obj,rfl,rfl,ho⟩,hl⟩
section
variable {prog:Program}{w:World}{A:Around}{E:Value->Shared->Prop}{s:Shared}{K:a8}{x dx C f:Addr}{mA:Str->Option Value}{name:Str}{v:Value}
theorem VH {expr:Bool}{Q:Value->Shared->Prop}(X:K.In s.heap)(I:VG s.heap x dx C mA)(hg:dm K C name=true)(hh:dU K C=true)
  (ha:bf K (.ref C) name=some none) (hv:mA name=some v) (hv' :hW v=true) (h:Q v { s with toks:=s.toks+1 }):
  wpAny (model prog w) A (getAttr (.ref x) name expr) Q E s:=by
 obtain⟨od,J,hl⟩:=I.look;exact PySem.W.get_value X J (dC hg).1 (PySem.W.findObj_own hh ha rfl (by rw[hl,hv])) hv' h
theorem Qp {pl:Sem Bool}{Q:Value×List Value->Shared->Prop}(X:K.In s.heap)(I:VG s.heap x dx C mA)(hg:dm K C name=true)
  (hf:bf K (.ref C) name=some (some (.ref f))) (ht:eT K (.ref f)=true) (hv:mA name=none) (h:Q (.ref f,[.ref x]) s):
  wpAny (model prog w) A (getMethod (.ref x) name pl) Q E s:=by
 obtain⟨od,J,hl⟩:=I.look;exact PySem.W.method_fn X J (dC hg).1 (dC hg).2 hf (beq_iff_eq.mp ht) (by show (dG _ od).map _=some _;rw[hl,hv];rfl) h
theorem VI {ns:List Str}{Q:Unit->Shared->Prop}(X:K.In s.heap)(I:VG s.heap x dx C mA)
  (hs:bf K (.ref C) "__setattr__"=some (some (.builtin "object.__setattr__"))) (hp:fQ K C=true) (ht:f7 K C name=some none) (hh:dU K C=true)
  (hw:eR mA ns) (hsz:ns.length<=sizeLine)
  (h:∀h',VG h' x dx C (λy=>if y=name then some v else mA y)->bZ dx s.heap h' ->Q () { s with heap:=h',toks:=s.toks+2 }):
  wpAny (model prog w) A (setAttr (.ref x) name v) Q E s:=by
 obtain⟨od,J,hl⟩:=I.look;refine PySem.W.set_plain X J hs (PySem.W.osa_open X J hp ht λb=> ?_);obtain⟨cd,hc,hd'⟩:=PySem.W.any_some hh;have hx:=I.obj;refine a7 (ao (a7 (a7 (wpAny_loadPart hx (a7 (PySem.W.Looks.here (PySem.W.looks_clsIn X hc) ?_))))));rw[hd'];refine ao (a7 (ao (a7 ?_)));refine wpAny_nsSet1 I.ns λh' hn2 hs2=> ?_;obtain⟨oD,esD,epD,hoD,hdD,hcD⟩:=hn2.count (eR.cons _ v hw);refine a7 (wpAny_lookBehind hoD (by rw[hdD];exact pastItsLine_dict (aD hcD (by rw[ag];omega))) ?_)
 exact ao (h _ ⟨(hs2.2 _ (aZ I.ne)).trans I.obj,hn2,I.ne⟩ hs2)
theorem Qq {R:Result->Shared->Prop}{vs:List Value}{kw:List (Str×Value)}(X:K.In s.heap)(hm:ir K C=true)
  (hi:bf K (.ref C) "__init__"=some (some (.ref f))) (hf:PySem.W.typeIn K (.ref f)=some (.type "function"))
  (h:codeAny (model prog w) (A.under (.builtin "type.__call__" ⟨.ref C :: vs,kw⟩)) (.call (.ref f) ⟨.ref (s.heap.objs.size+1) :: vs,kw⟩) (PySem.W.InitBack (s.heap.objs.size+1) R)
   { s with heap:=(s.heap.push cG).push (cA C s.heap.objs.size) }):
  codeAny (model prog w) A (.call (.ref C) ⟨vs,kw⟩) R s:=by
 exact PySem.W.make_core (PySem.W.makes_of X hm) (PySem.W.looks_findIn X hi) (λself=>PySem.W.bind_fn X _ hf) (.inl rfl) h
end
noncomputable def putF (f:Str)(v:V):List (Str×V)->List (Str×V)
 | []=>[(f,v)]
 | (g,x) :: r=>if g=f then (g,v) :: r else (g,x) :: putF f v r
theorem lookup_putF (f g:Str)(v:V):∀fs:List (Str×V),(putF f v fs).lookup g=if g=f then some v else fs.lookup g
 | []=>by
  show d8 g [(f,v)]=_
  by_cases h:g=f
  ·have hb:=beq_iff_eq.mpr h;simp only[d8,hb,if_pos h]
  ·have hb:=beq_eq_false_iff_ne.mpr h;simp only[d8,hb,if_neg h]
 | (k,x) :: r=>by
  have ih:=lookup_putF f g v r;rw[show putF f v _=(if k=f then (k,v) :: r else (k,x) :: putF f v r) from rfl]
  by_cases hk:k=f
  ·rw[if_pos hk]
   by_cases h:g=k
   ·have hb:=beq_iff_eq.mpr h;simp only[d8,hb,if_pos (h.trans hk)]
   ·have hb:=beq_eq_false_iff_ne.mpr h;simp only[d8,hb,if_neg (λe:g=f=>h (e.trans hk.symm))]
  ·rw[if_neg hk]
   by_cases h:g=k
   ·have hb:=beq_iff_eq.mpr h;simp only[d8,hb,if_neg (λe=>hk (h.symm.trans e))]
   ·have hb:=beq_eq_false_iff_ne.mpr h;simp only[d8,hb];exact ih
theorem Ju (f:Str)(v:V):∀fs:List (Str×V),f∈(putF f v fs).map (·.1)/\∀g,g∈fs.map (·.1)->g∈(putF f v fs).map (·.1)
 | []=>⟨by simp[putF],λg h=>by simp at h⟩
 | (k,x) :: r=>by
  obtain⟨i1,i2⟩:=Ju f v r;rw[show putF f v _=(if k=f then (k,v) :: r else (k,x) :: putF f v r) from rfl]
  by_cases hk:k=f
  ·subst hk;exact⟨by simp,λg h=>by simpa using h⟩
  ·rw[if_neg hk];refine⟨?_,λg h=> ?_⟩
   ·exact ac _ i1
   ·rcases ak.mp h with e | e
    ·exact ak.mpr (.inl e)
    ·exact ac _ (i2 g e)
theorem Jv (f:Str)(v:V):∀fs:List (Str×V),(putF f v fs).length<=fs.length+1
 | []=>by simp[putF]
 | (k,x) :: r=>by
  have ih:=Jv f v r;rw[show putF f v _=(if k=f then (k,v) :: r else (k,x) :: putF f v r) from rfl]
  by_cases hk:k=f
  ·rw[if_pos hk,ag,ag];omega
  ·rw[if_neg hk,ag,ag];omega
theorem Qk.some_of (r:Qk (some v) o):∃u,o=some u/\Zb v u:=by
 cases o with
 | none=>exact(r).elim
 | some u=>exact⟨u,rfl,r⟩
theorem Qk.none_of (r:Qk none o):o=none:=by
 cases o with
 | none=>rfl
 | some u=>exact(r).elim
theorem yK (r:Zb v u):hW u=true:=by
 cases v with
 | non=>cases (r);rfl
 | bl b=>cases (r);rfl
 | int i=>obtain⟨t,e⟩:=(r);cases e;rfl
 | str x=>obtain⟨t,e⟩:=(r);cases e;rfl
 | byt b=>obtain⟨t,e⟩:=(r);cases e;rfl
 | flt b=>obtain⟨t,e⟩:=(r);cases e;rfl
 | ref a=>cases (r);rfl
 | ty n=>cases (r);rfl
section
theorem wI (hok:HOk P w H h)(e:H a=some (.ins C dx fs)):∃mA,VG h a dx C mA/\(∀f,Qk (fs.lookup f) (mA f))/\eR mA (fs.map (·.1))/\fs.length<=1000/\H dx=some (.own a):=by
 obtain⟨d,z,ne,ob,mA,n,r,q⟩:=(show Z9 P w H h a _ from hok a _ e);exact⟨mA,⟨ob,n,ne⟩,r,q,z,d⟩
end
structure Cls (K:a8) (C:Addr):Prop where
 pg:dm K C Str.empty=true
 hd:dU K C=true
 po:fQ K C=true
 sa:bf K (.ref C) "__setattr__"=some (some (.builtin "object.__setattr__"))
theorem Cls.get {K:a8}{C:Addr}(c:Cls K C)(f:Str):dm K C f=true:=c.pg
noncomputable def NoAttr (K:a8)(C:Addr)(f:Str):Prop:=bf K (.ref C) f=some none
theorem NoAttr.taker {K:a8}{C:Addr}{f:Str}(n:NoAttr K C f):f7 K C f=some none:=by
 unfold f7;rw[show bf K _ f=some _ from n];rfl
structure Meth (K:a8) (C:Addr) (m:Str) (f:Addr):Prop where
 at_:bf K (.ref C) m=some (some (.ref f))
 fn:eT K (.ref f)=true
 kp:bJ K (.ref f)=true
section
theorem UE (I:Inv X pins σ H s)(e:H a=some (.ins C dx fs))(c:Cls X.K C)(n:NoAttr X.K C f)(l:fs.lookup f=some v)
  (h:∀u s',Inv X pins σ H s' ->Zb v u->Q u s'):wpAny (model X.prog X.w) A (getAttr (.ref a) f b) Q E s:=by
 obtain⟨mA,O,r,_,_,_⟩:=wI I.hok e;obtain⟨u,hu,ru⟩:=Qk.some_of (by rw[← l];exact r f)
 exact VH I.kIn O (c.get f) c.hd n hu (yK ru) (h u _ (I.tok _) ru)
theorem jP {Q:Value×List Value->Shared->Prop}(I:Inv X pins σ H s)(e:H a=some (.ins C dx fs))(c:Cls X.K C)(k:Meth X.K C m g)(l:fs.lookup m=none)
  (h:Q (.ref g,[.ref a]) s):wpAny (model X.prog X.w) A (getMethod (.ref a) m pl) Q E s:=by
 obtain⟨mA,O,r,_,_,_⟩:=wI I.hok e;have hn:=Qk.none_of (by rw[← l];exact r m)
 exact Qp I.kIn O (c.get m) k.at_ k.fn hn h
theorem UF {Q:Unit->Shared->Prop}(I:Inv X pins σ H s)(e:H a=some (.ins C dx fs))(c:Cls X.K C)(n:NoAttr X.K C f)(hl:fs.length < 1000)(ry:Zb y u)
  (h:∀s',Inv X pins σ (upd H a (.ins C dx (putF f y fs))) s' ->Q () s'):wpAny (model X.prog X.w) A (setAttr (.ref a) f u) Q E s:=by
 obtain⟨mA,O,r,wi,_,ho⟩:=wI I.hok e;have hz:(fs.map (·.1)).length<=sizeLine:=by rw[aa,bT];omega
 refine VI I.kIn O c.sa c.po n.taker c.hd wi hz λh' O' sb=>h _ ?_;have hd:∃o,h'.get? dx=some o:=let ⟨o,_,_,e',_⟩:=O'.ns;⟨o,e'⟩;refine I.write (by rw[e];exact True.intro) (.inr ho) (λb q hb z=>(sb.2 b hb).trans z) hd ?_
 refine⟨by rw[zt O.ne];exact ho, ?_,O.ne,O'.obj,_,O'.ns,λg=> ?_,λg hg=> ?_⟩
 ·have:=Jv f y fs;omega
 ·rw[lookup_putF]
  by_cases q:g=f
  ·rw[if_pos q,if_pos q];exact ry
  ·rw[if_neg q,if_neg q];exact r g
 ·by_cases q:g=f
  ·rw[q];exact(Ju f y fs).1
  ·refine(Ju f y fs).2 g (wi g λz=>hg ?_);show (if g=f then some u else mA g)=none
   rw[if_neg q];exact z
theorem Inv.made (I:Inv X pins σ H s):Inv X pins σ (upd (upd H s.heap.objs.size (.own (s.heap.objs.size+1))) (s.heap.objs.size+1) (.ins C s.heap.objs.size []))
  { s with heap:=(s.heap.push cG).push (cA C s.heap.objs.size) }:=by
 have e1:(s.heap.push cG).get? _=some _:=af _ rfl;have e2:=by
  have:=af (s.heap.push cG) (o:=cA C s.heap.objs.size) rfl;rwa[bK]at this
 have e3:(s.heap.push _).Ns _ (λ_=>none):=⟨cG, #[],_,e1,rfl,(λe he=>absurd he (by simp)),λ_=>rfl⟩
 have I1:=I.laid (o:= .own (s.heap.objs.size+1)) (t' :=s.toks) (λb u q=>a9 _ q) (ai _) ⟨_,e1⟩;refine I1.laid (λb u q=>a9 _ q) (fR (bK _ _)) ?_;have ne:s.heap.objs.size ≠ s.heap.objs.size+1:=aC (cL _);refine⟨by rw[zt ne,zx],bu _,ne,e2,λ_=>none,(Heap.Ns1.of_empty e3).at λo q=>a9 _ q,λ_=>True.intro,λy hy=>absurd rfl hy⟩
theorem VJ (hb:attributeBase e f env (eval e env)=eval e env)
  (h:wpAny (model prog w) A (eval e env) (λo s₁=>wpAny (model prog w) A (getAttr o f true) Q E s₁) E s):wpAny (model prog w) A (eval (.Attribute e f pos) env) Q E s:=
 Attribute_any_ h (by rw[arm_eval_Attribute,hb])
end
def tFld (K:a8)(ta:TE)(f:Str):TE:=λσ H Q=>ta σ H λx H1=>∃a C dx fs v,x= .ref a/\H1 a=some (.ins C dx fs)/\Cls K C/\NoAttr K C f/\fs.lookup f=some v/\Q v H1
def sFld (K:a8)(ta tv:TE)(f:Str):TS:=λD σ H=>tv σ H λy H1=>ta σ H1 λx H2=>∃a C dx fs,x= .ref a/\H2 a=some (.ins C dx fs)/\Cls K C/\NoAttr K C f/\fs.length < 1000/\
 D.nx σ (upd H2 a (.ins C dx (putF f y fs)))
section
theorem jA (he:PE X e ta)(hb:attributeBase e f X.env (eval e X.env)=eval e X.env):PE X (.Attribute e f pos) (tFld X.K ta f):=by
 intro pins s σ H Q I h;refine VJ hb (thn (he _ s σ H _ I h) λu s1 ⟨x,H1,I1,rx,a,C,dx,fs,v,ex,ea,c,n,l,q⟩=> ?_);subst ex;obtain rfl:u=Value.ref a:=rx;exact UE I1 ea c n l λu' s2 I2 ru=>⟨v,H1,I2,ru,q⟩
theorem yL (ha:PE X o ta)(hv:PE X value tv)(hs:swapsWith value (some (.Attribute o f pos')) pos.line X.env=pure false):PS X (.Assign [.Attribute o f pos'] value pos) (sFld X.K ta tv f):=by
 intro pins s σ H D I h;refine plainObj_wpAny_Assign_Attribute (thn (hv _ s σ H _ I h) λu s1 ⟨y,H1,I1,ry,q⟩=>thn (ha _ s1 σ H1 _ I1 q) λov s2 ⟨x,H2,I2,rx,a,C,dx,fs,ex,ea,c,n,l,q2⟩=> ?_) hs;subst ex;obtain rfl:ov=Value.ref a:=rx;exact UF I2 ea c n l ry λs3 I3=>⟨σ,_,I3,q2⟩
theorem VL (he:PE X e te)(I:Inv X pins σ H s)
  (h:te σ H λx H1=>∃a C dx fs g,x= .ref a/\H1 a=some (.ins C dx fs)/\Cls X.K C/\Meth X.K C m g/\fs.lookup m=none/\
   ∀s1,Inv X pins σ H1 s1->wpAny (model X.prog X.w) X.A (callWith pos (.ref g) [.ref a] (backTo pos (starEach args X.env)) (backToKw pos (keywordEach [] X.env))) Q X.xe s1)
  (ht:eval (.Call (.Attribute e m apos) args [] pos) X.env=(do
   let ov ← eval e X.env
   standAt apos.atName
   let (f,first) ← holding [ov] (getMethod ov m pl)
   callWith pos f first (backTo pos (starEach args X.env)) (backToKw pos (keywordEach [] X.env)))):
  wpAny (model X.prog X.w) X.A (eval (.Call (.Attribute e m apos) args [] pos) X.env) Q X.xe s:=by
 refine dk (thn (he _ s σ H _ I h) λu s1 ⟨x,H1,I1,rx,a,C,dx,fs,g,ex,ea,c,k,l,q⟩=> ?_) ht;subst ex;obtain rfl:u=Value.ref a:=rx;exact jP I1 ea c k l (q s1 I1)
end
section
inductive UG (K:a8) (H:Hp):V->Value->Prop where
 | non:UG K H .non (.type "NoneType")
 | bl (x:Bool):UG K H (.bl x) (.type "bool")
 | int (i:Int):UG K H (.int i) (.type "int")
 | str (x:Str):UG K H (.str x) (.type "str")
 | flt (x:UInt64):UG K H (.flt x) (.type "float")
 | lst {a:Addr} {xs:List V} (e:H a=some (.lst xs)):UG K H (.ref a) (.type "list")
 | frz {a:Addr} {o:Obj} {xs:List V} (e:H a=some (.frz o (.lst xs))):UG K H (.ref a) (.type "list")
 | tup {a:Addr} {xs:List V} (e:H a=some (.tup xs)):UG K H (.ref a) (.type "tuple")
 | dK {a:Addr} {kvs:List (Key×V)} (e:H a=some (.dK kvs)):UG K H (.ref a) (.type "dict")
 | dT {a:Addr} {kvs:List (List Key×V)} (e:H a=some (.dT kvs)):UG K H (.ref a) (.type "dict")
 | ins {a C dx:Addr} {fs:List (Str×V)} (e:H a=some (.ins C dx fs)) (cl:Cls K C) (ha:bf K (.ref C) "__class__"=some (some (.builtin "object.__class__")))
   (hn:fS K (.builtin "object.__class__") "__get__"=some (some (.builtin "getset_descriptor.__get__"))) (htk:iu K (.builtin "object.__class__")=some true)
   (hm:fG K C (.type "object")=some true):UG K H (.ref a) (.ref C)
theorem yM (I:Inv X pins σ H s)(rx:Zb x u)(ty:UG X.K H x t)(e:aO X.K t c=some b)(h:∀tk,Q (.bool b) { s with toks:=tk }):
  wpAny (model X.prog X.w) A (call (.builtin "isinstance") [u,c]) Q E s:=by
 cases ty with
 | non=>cases (rx);exact bA PySem.W.kitx_none I.kIn True.intro e (λz=>nomatch z) h
 | bl y=>cases (rx);exact bA PySem.W.kitx_bool I.kIn True.intro e (λz=>nomatch z) h
 | int i=>obtain⟨t,q⟩:=(rx);cases q;exact bA PySem.W.kitx_int I.kIn True.intro e (λz=>nomatch z) h
 | str y=>obtain⟨t,q⟩:=(rx);cases q;exact bA PySem.W.kitx_str I.kIn True.intro e (λz=>nomatch z) h
 | flt y=>obtain⟨t,q⟩:=(rx);cases q;exact bA PySem.W.kitx_float I.kIn True.intro e (λz=>nomatch z) h
 | @lst a xs ea=>
  cases (rx);obtain⟨_,_,n,_,h1⟩:=(show Z9 _ X.w H _ a _ from I.hok a _ ea);exact bA fT I.kIn ⟨_,h1,rfl⟩ e (λz=>nomatch z) h
 | @frz a ob xs ea=>
  cases (rx);obtain⟨_,_,_,n,_,h1⟩:=(show Z9 _ X.w H _ a _ from I.hok a _ ea);exact bA fT I.kIn ⟨_,h1,rfl⟩ e (λz=>nomatch z) h
 | @tup a xs ea=>
  cases (rx);obtain⟨_,_,_,p,_⟩:=(show Z9 _ X.w H _ a _ from I.hok a _ ea);obtain⟨o,h1,h2,_⟩:=p;exact bA PySem.W.kitx_tuple I.kIn ⟨o,h1,h2⟩ e (λz=>nomatch z) h
 | @dK a kvs ea=>
  cases (rx);obtain⟨_,_,vs,_,p⟩:=(show Z9 _ X.w H _ a _ from I.hok a _ ea);obtain⟨o,es,ep,h1,h2,_⟩:=p;exact bA fU I.kIn ⟨o,h1,h2.1⟩ e (λz=>nomatch z) h
 | @dT a kvs ea=>
  cases (rx);obtain⟨_,_,xs,_,o,es,ep,h1,h2,_⟩:=(show Z9 _ X.w H _ a _ from I.hok a _ ea);exact bA fU I.kIn ⟨o,h1,h2.1⟩ e (λz=>nomatch z) h
 | @ins a C dx fs ea cl ha hn htk hm=>
  cases (rx);obtain⟨mA,O,_⟩:=wI I.hok ea;obtain⟨od,J,_⟩:=O.look;exact bA (PySem.W.kitx_own (cl.get _) cl.hd ha hn htk hm) I.kIn J e (λz=>nomatch z) h
end
end L2
namespace L2
open PySem PySem.Spec PyProof.Rows
structure Zu (k:Nat) (A:Around):Prop where
 hd:A.handled=none
 dp:A.depth+3*k+5 < recursionLimit
 un:A.units+16*k+200 < cLine
 gd:A.guards=some []
theorem Zu.mono (r:Zu k A)(h:j<=k):Zu j A:=⟨r.hd,by have:=r.dp;omega,by have:=r.un;omega,r.gd⟩
theorem Zu.deeper (r:Zu (k+1) A)(env:Env):Zu k (A.deeper env):=
 ⟨r.hd,by have:=r.dp;show A.depth+1+3*k+5 < _;omega,by have:=r.un;show A.units+3+16*k+200 < _;omega,r.gd⟩
theorem UH {A:Around}{C:Addr}{us:List Value}{kw:List (Str×Value)}:(A.under (.builtin "type.__call__" ⟨.ref C :: us,kw⟩)).depth=A.depth+1:=by
 first | rfl | simp[Around.under,Code.weight,Code.isCreation,Code.isGuard,Code.isCaller,Code.frames,fV,guardIds]
theorem UI {A:Around}{C:Addr}{us:List Value}{kw:List (Str×Value)}:(A.under (.builtin "type.__call__" ⟨.ref C :: us,kw⟩)).units=A.units+1:=by
 first | rfl | simp[Around.under,Code.cUnits,Code.frames,fV]
theorem Zu.make (r:Zu (k+1) A)(C:Addr)(us:List Value)(kw:List (Str×Value)):Zu k (A.under (.builtin "type.__call__" ⟨.ref C :: us,kw⟩)):=
 ⟨r.hd,by have:=r.dp;rw[UH];omega,by have:=r.un;rw[UI];omega,by first | exact r.gd | simpa[pushGuards] using r.gd⟩
theorem Zu.depth (r:Zu k A):A.depth < recursionLimit:=by have:=r.dp;omega
theorem Zu.units (r:Zu k A):A.units+64 < cLine:=by have:=r.un;omega
def tNil:TA:=λ_ H Q=>Q [] H
def z0s (ta:TE)(tr:TA):TA:=λσ H Q=>ta σ H λx H1=>tr σ H1 λxs H2=>Q (x :: xs) H2
section
theorem zO:PA X [] tNil:=λ_ _ _ _ H Q I h=>fW ⟨[],H,I,.nil,h⟩
theorem zy (ha:PE X e te)(hr:PA X es t)(hs:starEach (e :: es) X.env=(false,eval e X.env) :: starEach es X.env:=by rfl):PA X (e :: es) (z0s te t):=by
 intro pos pins s σ H Q I h;rw[hs];refine dH (thn (ha _ s σ H _ I h) λu s1 ⟨x,H1,I1,r1,q1⟩=> ?_);exact thn (hr pos _ s1 σ H1 _ I1 q1) λus s2 ⟨xs,H2,I2,r2,q2⟩=>⟨x :: xs,H2,I2,.cons r1 r2,q2⟩
def tTup (t:TA):TE:=λσ H Q=>t σ H λxs H1=>xs.length<=sizeLine/\∀p,H1 p=none->Q (.ref p) (upd H1 p (.tup xs))
def z0t (t:TA):TE:=λσ H Q=>t σ H λxs H1=>xs.length<=sizeLine/\∀p,H1 p=none->Q (.ref p) (upd H1 p (.lst xs))
theorem uO {x1}(h:PA X es t):PE X (.Tuple es x1 pos) (tTup t):=by
 intro pins s σ H Q I hq;refine wpAny_Tuple_spliced (thn (h pos _ s σ H _ I hq) λus s1 ⟨xs,H1,I1,r,z,q⟩=>⟨by rw[← r.length];exact z, ?_⟩)
 have hf:=I1.hok.fresh (ai _);refine⟨.ref _,upd H1 _ _,I1.laid (λb u e=>a9 _ e) (ai _) ?_,rfl,q _ hf⟩;exact⟨z,us,r,⟨_,af _ rfl,rfl,_,rfl⟩,.inr ⟨_,af _ rfl,rfl⟩⟩
theorem uP (h:PA X es t):PE X (.List es pos) (z0t t):=by
 intro pins s σ H Q I hq;refine wpAny_List_spliced (thn (h pos _ s σ H _ I hq) λus s1 ⟨xs,H1,I1,r,z,q⟩=>⟨by rw[← r.length];exact z, ?_⟩)
 have hf:=I1.hok.fresh (ai _);refine⟨.ref _,upd H1 _ _,I1.laid (λb u e=>a9 _ e) (ai _) ?_,rfl,q _ hf⟩;exact⟨z,us,0,r,af _ rfl⟩
end
abbrev Sp:=List V->Hp->VK->XK->Prop
abbrev CXT:=List Env->Hp->Shared->XK->Value->Shared->Prop
structure uQ (P:Program) (w:World) (K:a8) (mg:Str->Option Value) (base:Heap) (A:Around) (outer:List Env) (s:Shared) (H:Hp):Prop where
 frames:A.frames=some outer
 mod:Mod K mg base
 bs:∀b o,base.get? b=some o->s.heap.get? b=some o/\H b=none
 bsz:base.objs.size<=s.heap.objs.size
 funs:s.heap.FunFrames base outer
 frf:∀b∈frs outer,H b=none
 hok:HOk P w H s.heap
 bare:AllBare s.gens
def CE (outer:List Env)(P:Program)(w:World)(H:Hp)(s:Shared)(Q:VK)(u:Value)(s' :Shared):Prop:=
 ∃v H',s'.os=s.os/\AllBare s'.gens/\Un (frs outer) [] H H' s.heap s'.heap/\HOk P w H' s'.heap/\Zb v u/\Q v H'
def CR (CX:CXT)(outer:List Env)(P:Program)(w:World)(H:Hp)(s:Shared)(Q:VK)(E:XK)(r:Result)(s' :Shared):Prop:=
 match r with
 | .ok (.ret u)=>CE outer P w H s Q u s'
 | .ok _=>False
 | .error e=>CX outer H s E e s'
structure ZW (P:Program) (w:World) (K:a8) (mg:Str->Option Value) (base:Heap) (CX:CXT) (k:Nat) (f:Addr) (fd:FuncData) (ps:List Str) (sp:Sp):Prop where
 len:∀vs H Q E,sp vs H Q E->vs.length=ps.length
 run:∀(A:Around) (outer:List Env) (s:Shared) (H:Hp) (args:Args) (us:List Value) (vs:List V) (Q:VK) (E:XK),Zu k A->uQ P w K mg base A outer s H->BindsTo s fd args (ps.zip us)->zT vs us->sp vs H Q E->
  codeAny (model P w) A (.call (.ref f) args) (CR CX outer P w H s Q E) s
theorem uQ.make {P:Program}{w:World}{K:a8}{mg:Str->Option Value}{base:Heap}{A:Around}{outer:List Env}{s:Shared}{H:Hp}(e:uQ P w K mg base A outer s H)(C:Addr)(us:List Value)(kw:List (Str×Value)):
  uQ P w K mg base (A.under (.builtin "type.__call__" ⟨.ref C :: us,kw⟩)) outer s H:=⟨by first | exact e.frames | (simpa[fV] using e.frames),e.mod,e.bs,e.bsz,e.funs,e.frf,e.hok,e.bare⟩
section
theorem Inv.env0 (I:Inv X pins σ H s):uQ X.prog X.w X.K X.mg X.base X.A X.stack s H:=
 ⟨I.ok.frames,I.ok.mod,I.bs,aD I.ok.bsz I.sz,I.stack,I.stkFree,I.hok,I.bare⟩
theorem Inv.after (I:Inv X pins σ H s)(h:CE X.stack X.prog X.w H s Q u s'):EP X pins σ Q u s' :=by
 obtain⟨v,H',os,bare,un,hok,r,q⟩:=h;obtain⟨hh,g,d,t,os'⟩:=s';obtain rfl:os' =s.os:=os;exact⟨v,H',I.call un hok bare (λb z=>absurd z (by simp)),r,q⟩
end
def z0u (sp:Sp)(dvs:List V)(E:XK)(t:TA):TE:=λσ H Q=>t σ H λvs H1=>sp (vs++dvs) H1 Q E
def kv (C:Addr)(m:Str)(sp:Sp)(dvs:List V)(E:XK)(ta:TE)(t:TA):TE:=λσ H Q=>ta σ H λx H1=>∃a dx fs,x= .ref a/\H1 a=some (.ins C dx fs)/\fs.lookup m=none/\
 t σ H1 λvs H2=>sp (x :: (vs++dvs)) H2 Q E
def z0v (C:Addr)(sp:Sp)(dvs:List V)(E:XK)(t:TA):TE:=λσ H Q=>t σ H λvs H1=>∀x dx,H1 x=none->H1 dx=none->dx ≠ x->
 sp (.ref x :: (vs++dvs)) (upd (upd H1 dx (.own x)) x (.ins C dx [])) (λv H2=>v= .non/\Q (.ref x) H2) E
noncomputable def Binds (K:a8)(fd:FuncData)(ps:List Str)(ds:List Value):Prop:=
 ∀(s:Shared) (us:List Value),K.In s.heap->(us++ds).length=ps.length->BindsTo s fd ⟨us,[]⟩ (ps.zip (us++ds))
theorem Binds.all {K:a8}{fd:FuncData}{ps:List Str}(h:∀us:List Value,us.length=ps.length->bindArgs fd ⟨us,[]⟩=pure (ps.zip us)):Binds K fd ps []:=λs us _ hl=>by
 rw[aP]at hl ⊢;exact .of_eq (h us hl)
def zX (CX:CXT)(X:Cx)(E:XK):Prop:=∀(pins:List (Addr×Obj)) (σ:St) (H:Hp) (s:Shared) (e:Value) (s' :Shared),Inv X pins σ H s->CX X.stack H s E e s' ->X.xe e s'
section
theorem yN (F:ZW X.prog X.w X.K X.mg X.base CX k f fd ps sp)(hr:Zu k X.A)(hb:Binds X.K fd ps ds)(hd:zT dvs ds)(hx:zX CX X E)
  (I:Inv X pins σ H s) (r:zT vs us) (h:sp (vs++dvs) H Q E):wpAny (model X.prog X.w) X.A (call (.ref f) us) (EP X pins σ Q) X.xe s:=by
 have r2:=r.append hd;have hl:(us++ds).length=ps.length:=by rw[← r2.length];exact F.len _ _ _ _ h
 refine d7 (b_ (F.run X.A _ s H _ _ _ Q E hr I.env0 (hb s us I.kIn hl) r2 h) λr s' hq=> ?_);cases r with
 | error e=>exact hx _ σ H s e s' I hq
 | ok fl=>
  cases fl with
  | ret u=>exact I.after hq
  | next=>exact bo hq
  | brk=>exact bo hq
  | cont=>exact bo hq
theorem yO (F:ZW X.prog X.w X.K X.mg X.base CX k f fd ps sp)(hr:Zu k X.A)(hg:Gl X x)(hm:X.mg x=some (.ref f))(hk:bJ X.K (.ref f)=true)(hb:Binds X.K fd ps ds)(hd:zT dvs ds)(hx:zX CX X E)
  (ha:PA X (e :: es) t) (hdb:(x == ("__debug__":Str))=false:=by decide) (he:starEach (e :: es) X.env=(false,eval e X.env) :: starEach es X.env:=by rfl) (hpl:(backTo pos (starEach es X.env)).any (·.1)=false:=by rfl):
  PE X (.Call (.Name x p) (e :: es) [] pos) (z0u sp dvs E t):=by
 intro pins s σ H Q I h;refine bx (jq I hg hm ?_ hdb);refine dI I.ok.mod.kin hk (thn (ha pos _ s σ H _ I h) λus s1 ⟨vs,H1,I1,r,q⟩=>⟨I1.kIn, ?_⟩) he hpl;exact yN F hr hb hd hx I1 r q
theorem yP (he:PE X o ta)(c:Cls X.K C)(hm:Meth X.K C m f)(F:ZW X.prog X.w X.K X.mg X.base CX k f fd ps sp)(hr:Zu k X.A)(hb:Binds X.K fd ps ds)(hd:zT dvs ds)(hx:zX CX X E)(ha:PA X (e :: es) t)
  (hst:starEach (e :: es) X.env=(false,eval e X.env) :: starEach es X.env:=by rfl) (hpl:(backTo pos (starEach es X.env)).any (·.1)=false:=by rfl)
  (ht:eval (.Call (.Attribute o m apos) (e :: es) [] pos) X.env=(do
   let ov ← eval o X.env
   standAt apos.atName
   let (f,first) ← holding [ov] (getMethod ov m pl)
   callWith pos f first (backTo pos (starEach (e :: es) X.env)) (backToKw pos (keywordEach [] X.env))):=by rfl):
  PE X (.Call (.Attribute o m apos) (e :: es) [] pos) (kv C m sp dvs E ta t):=by
 intro pins s σ H Q I h;refine dk (thn (he _ s σ H _ I h) λu s1 ⟨x,H1,I1,rx,a,dx,fs,ex,ea,l,q⟩=> ?_) ht;subst ex;obtain rfl:u=Value.ref a:=rx;refine jP I1 ea c hm l ?_;refine dI I.ok.mod.kin hm.kp (thn (ha pos _ s1 σ H1 _ I1 q) λus s2 ⟨vs,H2,I2,r,q2⟩=>⟨I2.kIn, ?_⟩) hst hpl;exact yN (vs:= .ref a :: vs) F hr hb hd hx I2 (.cons rfl r) q2
theorem jB (he:PE X o ta)(c:Cls X.K C)(hm:Meth X.K C m f)(F:ZW X.prog X.w X.K X.mg X.base CX k f fd ps sp)(hr:Zu k X.A)(hb:Binds X.K fd ps ds)(hd:zT dvs ds)(hx:zX CX X E)
  (ht:eval (.Call (.Attribute o m apos) [] [] pos) X.env=(do
   let ov ← eval o X.env
   standAt apos.atName
   let (f,first) ← holding [ov] (getMethod ov m pl)
   callWith pos f first (backTo pos (starEach [] X.env)) (backToKw pos (keywordEach [] X.env))):=by rfl):
  PE X (.Call (.Attribute o m apos) [] [] pos) (kv C m sp dvs E ta tNil):=by
 intro pins s σ H Q I h;refine dk (thn (he _ s σ H _ I h) λu s1 ⟨x,H1,I1,rx,a,dx,fs,ex,ea,l,q⟩=> ?_) ht;subst ex;obtain rfl:u=Value.ref a:=rx;refine jP I1 ea c hm l ?_;exact PySem.W.callWith_K0 I1.kIn hm.kp (yN (vs:=[.ref a]) F hr hb hd hx I1 (.cons rfl .nil) q)
structure Mk (K:a8) (C f:Addr):Prop where
 makes:ir K C=true
 init:bf K (.ref C) "__init__"=some (some (.ref f))
 fn:eT K (.ref f)=true
 kp:bJ K (.ref C)=true
theorem Qr (M:Mk X.K C f)(F:ZW X.prog X.w X.K X.mg X.base CX k f fd ps sp)(hr:Zu (k+1) X.A)(hb:Binds X.K fd ps ds)(hd:zT dvs ds)
  (hx:zX CX X E) (I:Inv X pins σ H s) (r:zT vs us)
  (h:∀x dx,H x=none->H dx=none->dx ≠ x->sp (.ref x :: (vs++dvs)) (upd (upd H dx (.own x)) x (.ins C dx [])) (λv H2=>v= .non/\Q (.ref x) H2) E):
  wpAny (model X.prog X.w) X.A (call (.ref C) us) (EP X pins σ Q) X.xe s:=by
 have hq:=h _ _ (I.hok.fresh (du _)) (I.hok.fresh (ai _)) (aC (cL _));have I2:=Inv.made (C:=C) I;have r2:zT (V.ref (s.heap.objs.size+1) :: (vs++dvs)) _:= .cons rfl (r.append hd);have hl:=by
  have e:=r2.length;rw[F.len _ _ _ _ hq]at e;exact e.symm
 refine d7 (Qq I.kIn M.makes M.init (beq_iff_eq.mp M.fn) (b_ (F.run _ _ _ _ _ _ _ _ E (hr.make C us [])
  (I2.env0.make C us []) (hb _ _ I2.kIn hl) r2 hq) λr s' hq' => ?_))
 cases r with
 | error e=>exact hx _ σ _ _ e s' I2 hq'
 | ok fl=>
  cases fl with
  | ret u=>
   obtain⟨v,H',I3,rv,ev,q3⟩:=I2.after hq';subst ev;exact⟨rv,⟨V.ref _,H',I3,rfl,q3⟩⟩
  | next=>exact bo hq'
  | brk=>exact bo hq'
  | cont=>exact bo hq'
theorem yQ (M:Mk X.K C f)(F:ZW X.prog X.w X.K X.mg X.base CX k f fd ps sp)(hr:Zu (k+1) X.A)(hg:Gl X x)(hm:X.mg x=some (.ref C))(hb:Binds X.K fd ps ds)(hd:zT dvs ds)(hx:zX CX X E)
  (ha:PA X (e :: es) t) (hdb:(x == ("__debug__":Str))=false:=by decide) (he:starEach (e :: es) X.env=(false,eval e X.env) :: starEach es X.env:=by rfl) (hpl:(backTo pos (starEach es X.env)).any (·.1)=false:=by rfl):
  PE X (.Call (.Name x p) (e :: es) [] pos) (z0v C sp dvs E t):=by
 intro pins s σ H Q I h;refine bx (jq I hg hm ?_ hdb);refine dI I.ok.mod.kin M.kp (thn (ha pos _ s σ H _ I h) λus s1 ⟨vs,H1,I1,r,q⟩=>⟨I1.kIn, ?_⟩) he hpl;exact Qr M F hr hb hd hx I1 r q
end
section
variable {kws:List Keyword}{nm:Option Str}
variable {g:List Value->List Value->List Value}{gV:List V->List V->List V}
end
structure ZA (N P:List Str) (sc:Scope):Prop where
 kind:sc.kind= .function
 co:sc.isCoroutine=false
 gen:sc.isGenerator=false
 nd:N.Nodup
 pre:N.take P.length=P
 par:∀x∈P,sc.names.lookup x=some .local\/sc.names.lookup x=some .cell
 nofree:∀y∈sc.names,y.2 ≠ .free
theorem Wo {kindOf:Str->Option NameKind}{x:Str}:∀{binds:List (Str×Value)} {m:Str->Option Value},(∀v,(x,v) ∉ binds)->bindL kindOf binds m x=m x
 | [],_,_=>rfl
 | (n,v) :: r,m,h=>by
  unfold bindL;rw[Wo λw hw=>h w (ac _ hw)];split
  ·have:x ≠ n:=by rintro rfl;exact h v am
   simp[this]
  ·rfl
theorem Wp {kindOf:Str->Option NameKind}{x:Str}:∀{binds:List (Str×Value)} {m:Str->Option Value},(∀v,(x,v) ∉ binds)->bindC kindOf binds m x=m x
 | [],_,_=>rfl
 | (n,v) :: r,m,h=>by
  unfold bindC;rw[Wp λw hw=>h w (ac _ hw)];split
  ·rfl
  ·have:x ≠ n:=by rintro rfl;exact h v am
   simp[this]
theorem Wq {kindOf:Str->Option NameKind}{x:Str}{v:Value}:∀{P:List Str} {vs:List Value} {i:Nat} {m:Str->Option Value},P.Nodup->P[i]? =some x->vs[i]? =some v->kindOf x=some .local->
  bindL kindOf (P.zip vs) m x=some v
 | [],_,_,_,_,h,_,_=>by simp at h
 | _ :: _,[],_,_,_,_,h,_=>by simp at h
 | p :: P,w :: vs,0,m,nd,h1,h2,hk=>by
  simp at h1 h2;subst h1;subst h2;show bindL _ ((p,w) :: P.zip vs) m p=_;unfold bindL;rw[Wo λv hv=>(d5.mp nd).1 (dz hv).1,if_pos hk];simp
 | p :: P,w :: vs,i+1,m,nd,h1,h2,hk=>by
  show bindL _ ((p,w) :: P.zip vs) m x=_;exact Wq (d5.mp nd).2 (by simpa using h1) (by simpa using h2) hk
theorem Wr {kindOf:Str->Option NameKind}{x:Str}{v:Value}:∀{P:List Str} {vs:List Value} {i:Nat} {m:Str->Option Value},P.Nodup->P[i]? =some x->vs[i]? =some v->kindOf x ≠ some .local->
  bindC kindOf (P.zip vs) m x=some v
 | [],_,_,_,_,h,_,_=>by simp at h
 | _ :: _,[],_,_,_,_,h,_=>by simp at h
 | p :: P,w :: vs,0,m,nd,h1,h2,hk=>by
  simp at h1 h2;subst h1;subst h2;show bindC _ ((p,w) :: P.zip vs) m p=_;unfold bindC;rw[Wp λv hv=>(d5.mp nd).1 (dz hv).1,if_neg hk];simp
 | p :: P,w :: vs,i+1,m,nd,h1,h2,hk=>by
  show bindC _ ((p,w) :: P.zip vs) m x=_;exact Wr (d5.mp nd).2 (by simpa using h1) (by simpa using h2) hk
def start (N:List Str)(vs:List V):St:=vs.map some++aj (N.length - vs.length) none
def jL (CX:CXT)(P:Program)(w:World)(K:a8)(mg:Str->Option Value)(base:Heap)(N:List Str)(qual:Str)(scope:Scope)(f:Addr)(cd:Value)(A:Around)(outer:List Env)(s:Shared)(H:Hp)(E:XK):Cx where
 prog:=P
 w:=w
 K:=K
 mg:=mg
 base:=base
 A:=A.deeper (envOfC qual scope s.heap.objs.size f cd)
 N:=N
 s₀:=s
 H₀:=H
 env:=envOfC qual scope s.heap.objs.size f cd
 outer:=outer
 stack:=envOfC qual scope s.heap.objs.size f cd :: outer
 ex:=[]
 calm:=true
 fn:=λ_=>true
 pn:=[]
 xe:=λe s' =>wpAny (model P w) (A.deeper (envOfC qual scope s.heap.objs.size f cd)) (leaving (envOfC qual scope s.heap.objs.size f cd) e) (λ_ s'' =>CX outer H s E e s'') (λe' s'' =>CX outer H s E e' s'') s'
theorem uR {sc:Scope}{n:Nat}{x:Str}(h:sc.names.lookup x=some .cell):∃c,(cellsFrom n sc.names []).lookup x=some c:=by
 have q:=eU _ n [] (.inl h);exact cV.mp q
theorem Ws {CX:CXT}{P:Program}{w:World}{K:a8}{mg:Str->Option Value}{base:Heap}{N ps:List Str}{qual:Str}{scope:Scope}{f:Addr}{cd:Value}{A:Around}{outer:List Env}{s s1:Shared}{H:Hp}{E:XK}{us:List Value}{vs:List V}
  (S:ZA N ps scope) (hd:A.handled=none) (e0:uQ P w K mg base A outer s H) (hl:vs.length=ps.length) (r:zT vs us)
  (x:InCallC s s.heap.objs.size (bindL (envOfC qual scope s.heap.objs.size f cd).kindOf (ps.zip us) λ_=>none) (cellsFrom (s.heap.objs.size+1) scope.names []) (bindC (envOfC qual scope s.heap.objs.size f cd).kindOf (ps.zip us) λ_=>none) s1):
  Inv (jL CX P w K mg base N qual scope f cd A outer s H E) [] (start N vs) H s1:=by
 have hpl:=by have:=congrArg List.length S.pre;rw[eG]at this;omega
 obtain⟨h1,tk,rfl,hk⟩:=x.done;have noA:∀b,b ∉ (jL CX P w K mg base N qual scope f cd A outer s H E).ex:=λb z=>absurd (show b∈([]:List _) from z) (by simp)
 refine⟨⟨e0.mod,S.kind,rfl,rfl,ai _,λy z c h1 h2=> ?_,λy hy=> ?_,λy c _ h=> ?_,λ_=>hd,dv e0.frames,.inr ⟨rfl,rfl⟩,λb z=>absurd z (noA b),e0.bs,e0.bsz,λb _ _=>noA b,λb z=>absurd z (noA b),e0.funs,e0.frf⟩,
  rfl,e0.bare,Un.kept hk,⟨_,x.toInCall.ns,λi y v h1 h2 h3=> ?_⟩,λy c h=>⟨_,x.cell y c h⟩,e0.hok.fresh (ai _),λy c h=> ?_,λp hp=>absurd (show p∈([]:List _) from hp) (by simp),e0.hok.kept hk, ?_⟩
 ·exact name_of_addr x.apart (bv h1) (bv h2)
 ·rcases hy with hy | hy
  ·exact uR hy
  ·exact absurd rfl (S.nofree _ (bv hy))
 ·exact eS (x.above y c (bv h))
 ·have hi:i < vs.length:=by
   unfold start at h2
   by_cases hi:i < vs.length
   ·exact hi
   ·rw[au (by simpa using hi)]at h2
    rw[aG]at h2;split at h2 <;> cases h2
  have ha:vs[i]? =some v:=by
   unfold start at h2;rw[ax (by simpa using hi),ay]at h2
   cases e:vs[i]? with
   | none=>rw[e]at h2;cases h2
   | some a=>rw[e]at h2;cases h2;rfl
  obtain⟨u,hu,rv⟩:=r.get ha;have hp:ps[i]? =some y:=by
   rw[← S.pre,List.getElem?_take_of_lt (by omega)];exact h1
  have ndP:ps.Nodup:=by rw[← S.pre];exact S.nd.sublist (List.take_sublist _ _)
  refine⟨u,rv, ?_⟩;rcases S.par y (fo hp) with k | k
  ·exact .inl ⟨k,Wq ndP hp hu k⟩
  ·obtain⟨c,e⟩:=uR k;refine .inr ⟨.inl k,c,e, ?_⟩;have q:=x.cell y c e;rw[Wr ndP hp hu (by show scope.names.lookup y ≠ _;rw[k];decide)]at q
   exact q
 ·exact e0.hok.fresh (eS (x.above y c (bv h)))
 ·unfold start;show _=N.length;rw[av,aa,aS];omega
theorem VM {CX:CXT}{P:Program}{w:World}{K:a8}{mg:Str->Option Value}{base:Heap}{k:Nat}{f:Addr}{name qual:Str}{params:Arguments}{body:List Stmt}{scope:Scope}{dV kV doc pm cdv ct oc:Value}{an od:Option Addr}
  {osl:Array (Option Value)} {N ps:List Str} {sp:Sp} (lk:K.lookup f=some ⟨oc,od,.func (bB name qual params body scope dV kV doc pm an cdv ct),osl⟩) (hcd:db K cdv qual=true) (S:ZA N ps scope)
  (len:∀vs H Q E,sp vs H Q E->vs.length=ps.length)
  (hbody:∀(A:Around) (outer:List Env) (s:Shared) (H:Hp) (vs:List V) (Q:VK) (E:XK),Zu k (A.deeper (envOfC qual scope s.heap.objs.size f cdv))->sp vs H Q E->
   ∃t,PSs (jL CX P w K mg base N qual scope f cdv A outer s H E) body t/\t { nx:=λ_ H' =>Q .non H',rt:=Q } (start N vs) H):
  ZW P w K mg base CX (k+1) f (bB name qual params body scope dV kV doc pm an cdv ct) ps sp:=by
 refine⟨len,λA outer s H args us vs Q E hr e0 hb r hsp=> ?_⟩;have hl:=len _ _ _ _ hsp;have KX:=e0.mod.kin.keeps λb o e=>(e0.bs b o e).1;have lim:=e0.mod.nolimit.keeps λb o e=>(e0.bs b o e).1;have hkind:∀y∈ps.zip us,scope.names.lookup y.1=some _\/(scope.names.lookup y.1=some _/\((cellsFrom (s.heap.objs.size+1) _ []).lookup y.1).isSome=true):=λ⟨n,v⟩ hy=>by
  rcases S.par n (dz hy).1 with q | q
  ·exact .inl q
  ·exact .inr ⟨q,eU _ _ _ (.inl q)⟩
 refine codeAny_call_function hr.depth (KX _ _ lk) rfl S.co S.gen rfl (PySem.W.codeRec_of KX hcd) (hb _ _ _ _ ?_);refine wpAny_newFunctionEnv_cells S.kind hkind λenv he s1 x=> ?_;subst he;refine⟨lim.keeps x.toInCall.keep,codeAny_func ?_⟩;obtain⟨t,ht,hq⟩:=hbody A _ s H vs Q E (hr.deeper _) hsp;have I:Inv (jL CX P w K mg _ N _ _ f cdv A _ s H E) [] _ H s1:=Ws S hr.hd e0 hl r x;refine bI (ht [] s1 _ H _ I hq) (λfl s' hs=> ?_) λe s' hs=>hs;have fin:∀{σ' :St} {H' :Hp} {v:V} {u:Value},Inv (jL CX P w K mg base N qual scope f cdv A outer s H E) [] σ' H' s' ->Zb v u->Q v H' ->CE _ P w H s Q u s' :=
  λ{σ' H' v u} J rv q=>⟨v,H',J.os,J.bare,J.base,J.hok,rv,q⟩
 cases fl with
 | ret u=>
  obtain⟨v,σ',H',J,rv,q⟩:=hs;exact fin J rv q
 | next=>
  obtain⟨σ',H',J,q⟩:=hs;exact fin (v:=V.non) J rfl q
 | brk=>
  obtain⟨_,_,_,q⟩:=hs;exact bo q
 | cont=>
  obtain⟨_,_,_,q⟩:=hs;exact bo q
end L2
namespace L2
open PySem PySem.Spec PyProof.Rows
section
variable {X:Cx}{x:Str}{p pos:Pos}{e:Expr}{es:List Expr}{t:TA}{id T:String}{r:List V->Hp->VK->Prop}
def tCB (r:List V->Hp->VK->Prop)(t:TA):TE:=λσ H Q=>t σ H λvs H1=>r vs H1 Q
theorem jg (hc:Zt X (.builtin id) r)(hg:Gl X x)(hm:X.mg x=none)(hv:bootBuiltins x=some (.builtin id))(ha:PA X (e :: es) t)(hn:x ≠ "__name__":=by decide)(hdb:(x == ("__debug__":Str))=false:=by decide)
  (he:starEach (e :: es) X.env=(false,eval e X.env) :: starEach es X.env:=by rfl) (hpl:(backTo pos (starEach es X.env)).any (·.1)=false:=by rfl):PE X (.Call (.Name x p) (e :: es) [] pos) (tCB r t):=by
 intro pins s σ H Q I h;refine bx (j0 I hg hm hv ?_ hn hdb);exact PyProof.Rows.callWith_builtin1 (thn (ha pos _ s σ H _ I h) λus s1 ⟨vs,H1,I1,r1,q1⟩=>hc _ s1 σ H1 vs us Q I1 r1 q1) he hpl
theorem ZQ (hc:Zt X (.type T) r)(hg:Gl X x)(hm:X.mg x=none)(hv:bootBuiltins x=some (.type T))(ha:PA X (e :: es) t)(hn:x ≠ "__name__":=by decide)(hdb:(x == ("__debug__":Str))=false:=by decide)
  (he:starEach (e :: es) X.env=(false,eval e X.env) :: starEach es X.env:=by rfl) (hpl:(backTo pos (starEach es X.env)).any (·.1)=false:=by rfl):PE X (.Call (.Name x p) (e :: es) [] pos) (tCB r t):=by
 intro pins s σ H Q I h;refine bx (j0 I hg hm hv ?_ hn hdb);exact aU (thn (ha pos _ s σ H _ I h) λus s1 ⟨vs,H1,I1,r1,q1⟩=>hc _ s1 σ H1 vs us Q I1 r1 q1) he hpl
end
end L2
namespace HT
open PySem PyProof.Rows
section
open PySem.SeqAt
open PySem.AutoSeq1 (wpAny_loadPart')
open PySem.MeetsSeq PySem.MeetsSeq2 PySem.MeetsSeq3
end
section
theorem cat_tup (ht:IsTup s.heap t vs.toArray)(hb:IsTup s.heap b ws.toArray)(hv:vs ≠ [])
  (h1:ws=[]->Q (.ref t) s) (h2:ws ≠ []->Q (.ref s.heap.objs.size) { s with heap:=s.heap.push { cls:= .type "tuple",data:= .seq (vs++ws).toArray } })
  (hsz:vs.length+ws.length<=sizeLine):wpAny (model prog w) A (binaryOp .Add (.ref t) (.ref b)) Q E s:=by
 obtain⟨⟨cls,dd,data,sl⟩,ho,hc,n,hd⟩:=id ht;obtain⟨⟨cls2,dd2,data2,sl2⟩,ho2,hc2,n2,hd2⟩:=id hb;subst hc hd hc2 hd2;have e:vs.toArray++ws.toArray=(vs++ws).toArray:=by simp
 by_cases hw:ws=[]
 ·exact concat_meets ⟨_,ho,rfl⟩ ⟨_,ho2,rfl⟩ noFill_tuple_add seq_tuple_add de d9 (cW _ _)
   (tuple_addW1 t b _ _ n n2 dd dd2 sl sl2 (by simpa using hv) (by simp[hw])) ⟨ho,ho2,h1 hw⟩
 ·refine concat_meets ⟨_,ho,rfl⟩ ⟨_,ho2,rfl⟩ noFill_tuple_add seq_tuple_add de d9 (cW _ _)
   (tuple_addW2 t b _ _ n n2 dd dd2 sl sl2 (by simpa using hv) (by simpa using hw) (by exact hsz)) ⟨ho,ho2, ?_⟩
  rw[e];exact h2 hw
noncomputable def sIx (n d:Nat):Option Int->Nat
 | none=>d
 | some v=>if v < 0 then (v+(n:Int)).toNat else min v.toNat n
theorem sIx_none (n d:Nat):sIx n d none=d:=rfl
theorem sIx_nat (n d k:Nat):sIx n d (some (k:Int))=min k n:=by
 show (if (k) < 0 then ((k:Int)+(n)).toNat else min _ n)=min k n
 rw[if_neg (by omega),bC]
theorem yR (v:Int)(n d:Nat):(if v < 0 then max (v+(n:Int)) 0 else min v (n:Int))=((sIx n d (some v):Nat):Int):=by
 show (if v < 0 then max _ 0 else min v (n))=(((if v < 0 then (v+(n)).toNat else min _ n):Nat):Int)
 by_cases hv:v < 0
 ·simp only[if_pos hv];omega
 ·simp only[if_neg hv];omega
theorem UJ (lo hi:Option Int)(n:Nat):dR lo hi 1 (n:Int)=(((sIx n 0 lo:Nat):Int),((sIx n n hi:Nat):Int)):=by
 refine Prod.ext ?_ ?_
 ·cases lo with
  | none=>rfl
  | some v=>exact yR v n 0
 ·cases hi with
  | none=>rfl
  | some v=>exact yR v n n
theorem UK (i j:Nat):cR (i:Int) (j:Int) 1=j - i:=by
 unfold cR;split <;> omega
theorem wm {o:Option Int}{Q:Option Int->Shared->Prop}(p:IsPart v o)(h:Q o s):wpAny (model prog w) A (Builtin.Slice.slicePartIndex v) Q E s:=by
 cases p with
 | none=>exact slicePart_none h
 | int i t=>exact slicePart_int h
theorem sliceApplied_gen {lo hi:Option Int}{Q:Int×Int×Nat->Shared->Prop}(hs:s.heap.IsSliceOf sl vl vu .none)(pl:IsPart vl lo)(pu:IsPart vu hi)
  (h:Q (((sIx n 0 lo:Nat):Int),1,sIx n n hi - sIx n 0 lo) s):wpAny (model prog w) A (Builtin.Slice.sliceApplied (.ref sl) (pure (n:Int))) Q E s:=by
 obtain⟨os,hos,hcs,hds⟩:=id hs;refine a7 (a7 (bg hos hds rfl (a7 (bg hos hds rfl (a7 (bg hos hds rfl (ao ?_)))))));refine a7 (slicePart_none ?_);refine a7 (wm pl (a7 (wm pu (a7 (ao ?_)))));show wpAny _ _ (match dR lo hi 1 _ with | (lo,hi)=>pure (lo,(1:Int),cR lo hi 1)) _ _ s
 rw[UJ lo hi n];show wpAny _ _ (pure _) _ _ s;rw[UK];exact ao h
theorem Qs (xs:Array Value)(i k:Nat):((ba k).filterMap λ(m:Nat)=>xs[((i:Int)+(m:Int)*1).toNat]?).toArray=((xs.toList.drop i).take k).toArray:=by
 have e:(λ(m:Nat)=>xs[((i:Int)+(m)*1).toNat]?)=λm=>xs[i+m]? :=by
  funext m
  have:((i:Int)+(m)*1).toNat=i+m:=by omega
  rw[this]
 rw[e];have:=pick_run xs i k;rw[List.filterMap_map]at this;have e2:((λx=>xs[x]?) ∘ λx=>i+x)=λm=>xs[i+m]? :=rfl;rw[e2]at this;rw[this]
theorem getItem_tuple_cut {lo hi:Option Int}(ht:IsTup s.heap t items)(hs:s.heap.IsSliceOf sl vl vu .none)(pl:IsPart vl lo)(pu:IsPart vu hi)
  (hw:¬ (sIx items.size 0 lo=0/\sIx items.size items.size hi=items.size))
  (h:Q (.ref s.heap.objs.size) { s with heap:=s.heap.push { cls:= .type "tuple",data:= .seq ((items.toList.drop (sIx items.size 0 lo)).take (sIx items.size items.size hi - sIx items.size 0 lo)).toArray } })
  (hsz:items.size<=sizeLine):wpAny (model prog w) A (getItem (.ref t) (.ref sl)) Q E s:=by
 have htake:sizeOk (.seq ((items.toList.drop (sIx items.size 0 lo)).take (sIx items.size items.size hi - sIx items.size 0 lo)).toArray):=by
  show ((items.toList.drop _).take _).toArray.size<=sizeLine;rw[az,eG,eH,dB];omega
 obtain⟨os,hos,hcs,hds⟩:=id hs;have hTs:s.TypeIs (.ref sl) _:=⟨os,hos,hcs⟩;unfold getItem
 try with_reducible refine cB ?_
 refine a7 (wpAny_sequenceKey ht.typeIs (by decide) ?_)
 refine a7 (bw ht.typeIs bi
  (bN bi ht.typeIs entry_tuple_getitem ?_ (args_tuple_getitem _ _)))
 show wpAny _ _ (dJ _ >>= _) _ _ s;refine a7 (tupleItemsOf_ ht ?_);refine a7 (wpAny_typeOf hTs ?_);refine a7 (sliceApplied_gen hs pl pu ?_);have hno:¬ ((((sIx items.size 0 lo):Int) == 0 && (1:Int) == 1 && (sIx items.size items.size hi - sIx items.size 0 lo) == items.size)=true):=by
  intro q;rw[ae,ae]at q;have q1:=eq_of_beq q.1.1;have q2:=eq_of_beq q.2;exact hw ⟨by omega,by omega⟩
 show wpAny _ _ (if (((sIx _ 0 lo:Nat):Int) == 0 && (1) == 1 && (sIx _ _ hi - sIx _ 0 lo) == items.size)=true then _ else _) _ _ s
 rw[if_neg hno,Qs]
 first
  | exact a7 (bq (ao ⟨_,rfl,ao h⟩) htake)
  | exact a7 _
  | exact a7 _
  | exact a7 _
end
end HT
namespace L2
open PySem PySem.Spec PyProof.Rows
abbrev TO:=St->Hp->(Option Int->Hp->Prop)->Prop
def PO (X:Cx)(e:Option Expr)(t:TO):Prop:=
 ∀(pins:List (Addr×Obj)) (s:Shared) (σ:St) (H:Hp) (Q:Option Int->Hp->Prop),Inv X pins σ H s->t σ H Q->
  wpAny (model X.prog X.w) X.A (evalPart e X.env) (λu s' =>∃o H',Inv X pins σ H' s' /\IsPart u o/\Q o H') X.xe s
def VN:TO:=λ_ H Q=>Q none H
def z0w (t:TE):TO:=λσ H Q=>t σ H λx H1=>∃i,x= .int i/\Q (some i) H1
section
variable {X:Cx}{e:Expr}{te:TE}{lo hi:Option Expr}{tl th:TO}{pos p2:Pos}
theorem VO:PO X none VN:=by
 intro pins s σ H Q I h;exact ao ⟨none,H,I,.none,h⟩
theorem VP (h:PE X e te):PO X (some e) (z0w te):=by
 intro pins s σ H Q I hw;refine thn (h _ s σ H _ I hw) λu s1 ⟨x,H1,I1,r1,q1⟩=> ?_;obtain⟨i,rfl,q⟩:=q1;obtain⟨t,rfl⟩:=r1;exact⟨some i,H1,I1,.int i t,q⟩
def SlR (X:Cx)(r:V->Option Int->Option Int->Hp->VK->Prop):Prop:=
 ∀(pins:List (Addr×Obj)) (s:Shared) (σ:St) (H:Hp) (x:V) (v vl vu:Value) (lo hi:Option Int) (sl:Addr) (Q:VK),Inv X pins σ H s->Zb x v->s.heap.IsSliceOf sl vl vu .none->IsPart vl lo->IsPart vu hi->r x lo hi H Q->
  ∃T id,typeLookup (.type T) "__getitem__"=pure (some (.builtin id))/\s.TypeIs v T/\wpAny (model X.prog X.w) X.A (getItem v (.ref sl)) (EP X pins σ Q) X.xe s
theorem SlR.or {r r' :V->Option Int->Option Int->Hp->VK->Prop}(h:SlR X r)(h' :SlR X r'):SlR X (λx lo hi H Q=>r x lo hi H Q\/r' x lo hi H Q):=by
 intro pins s σ H x v vl vu lo hi sl Q I rx hs pl pu q;rcases q with q | q
 ·exact h _ s σ H x v vl vu lo hi sl Q I rx hs pl pu q
 ·exact h' _ s σ H x v vl vu lo hi sl Q I rx hs pl pu q
def tSl (r:V->Option Int->Option Int->Hp->VK->Prop)(te:TE)(tl th:TO):TE:=λσ H Q=>te σ H λx H1=>tl σ H1 λl H2=>th σ H2 λu H3=>r x l u H3 Q
theorem Qt {r:V->Option Int->Option Int->Hp->VK->Prop}(hr:SlR X r)(he:PE X e te)(hl:PO X lo tl)(hu:PO X hi th):PE X (.Subscript e (.Slice lo hi none p2) pos) (tSl r te tl th):=by
 intro pins s σ H Q I h;refine Subscript_ (thn (he _ s σ H _ I h) λv s1 ⟨x,H1,I1,r1,q1⟩=> ?_);refine wpAny_Slice (thn (hl _ s1 σ H1 _ I1 q1) λvl s2 ⟨l,H2,I2,pl,q2⟩=>thn (hu _ s2 σ H2 _ I2 q2) λvu s3 ⟨u,H3,I3,pu,q3⟩=> ?_);refine ao ?_;have I4:Inv X _ σ H3 { s3 with heap:=s3.heap.push { cls:= .type "slice",data:= .fields #[vl,vu,.none] } }:=I3.kept λb ob q=>a9 _ q;obtain⟨T,id,hT,ht,hg⟩:=hr _ _ σ H3 x v vl vu l u _ Q I4 r1 (Heap.IsSliceOf.new ..) pl pu q3;exact tail_any ht hT hg (by with_unfolding_all rfl)
noncomputable def XN (xs:List V)(lo hi:Option Int):List V:=(xs.drop (HT.sIx xs.length 0 lo)).take (HT.sIx xs.length xs.length hi - HT.sIx xs.length 0 lo)
theorem Jw (xs:List V)(lo hi:Option Int):(XN xs lo hi).length<=xs.length:=by
 unfold XN;rw[eG,eH];omega
def rSlT (K:a8):V->Option Int->Option Int->Hp->VK->Prop:=λx lo hi H Q=>∃a xs,x= .ref a/\SqT K H a xs/\
 ¬ (HT.sIx xs.length 0 lo=0/\HT.sIx xs.length xs.length hi=xs.length)/\∀p,H p=none->Q (.ref p) (upd H p (.tup (XN xs lo hi)))
theorem kx:SlR X (rSlT X.K):=by
 intro pins s σ H x v vl vu lo hi sl Q I rx hs pl pu h;obtain⟨a,xs,rfl,hx,hw,q⟩:=h;cases rx;obtain⟨its,r,ht,hz⟩:=I.tuple hx;have hlen:its.toArray.size=xs.length:=by exact r.length.symm
 refine⟨"tuple",_,bi.lookup,ht.typeIs, ?_⟩;refine HT.getItem_tuple_cut ht hs pl pu (by rw[hlen];exact hw) ?_ (by rw[hlen];exact hz)
 rw[hlen];refine⟨.ref _,_,I.laid (λb ob q=>a9 _ q) (ai _) ?_,rfl,q _ (I.hok.fresh (ai _))⟩;exact⟨aD (Jw xs lo hi) hz,_,(r.drop _).take _,ITN.new _ _⟩
def z0x (K:a8):R2:=λx y H Q=>∃a b xs ys,x= .ref a/\y= .ref b/\SqT K H a xs/\SqT K H b ys/\xs ≠ []/\xs.length+ys.length<=sizeLine/\
 (ys=[]->Q (.ref a) H)/\(ys ≠ []->∀p,H p=none->Q (.ref p) (upd H p (.tup (xs++ys))))
theorem zT.nil_iff (r:zT xs us):us=[]↔xs=[]:=by
 cases r with
 | nil=>simp
 | cons _ _=>simp
theorem VQ:OpR X (binaryOp .Add) (z0x X.K):=by
 intro pins s σ H x y v u Q I rx ry h;obtain⟨a,b,xs,ys,rfl,rfl,ha,hb,hx,hz,q1,q2⟩:=h;cases rx;cases ry;obtain⟨its,r1,p1,_⟩:=I.tuple ha;obtain⟨its2,r2,p2,_⟩:=I.tuple hb;refine HT.cat_tup p1 p2 (λz=>hx (r1.nil_iff.mp z)) (λz=>⟨.ref a,H,I,rfl,q1 (r2.nil_iff.mp z)⟩) (λz=> ?_) (by rw[← r1.length,← r2.length];exact hz)
 refine⟨.ref _,_,I.laid (λb ob q=>a9 _ q) (ai _) ?_,rfl,q2 (λw=>z (r2.nil_iff.mpr w)) _ (I.hok.fresh (ai _))⟩;exact⟨by rw[av];exact hz,_,r1.append r2,ITN.new _ _⟩
end
end L2
namespace L2
open PySem PySem.Spec PyProof.Rows
noncomputable def ixN (n:Nat)(i:Int):Option Nat:=if 0<=i then (if i < n then some i.toNat else none) else if -(n:Int)<=i then some (i+n).toNat else none
def atI {α:Type}(xs:List α)(i:Int):Option α:=(ixN xs.length i).bind λj=>xs[j]?
theorem VR (h:ixN n i=some j):seqIndex? i n=some j/\j < n/\ -(n:Int)<=i/\i < n:=by
 unfold ixN at h
 by_cases h0:0<=i
 ·rw[if_pos h0]at h
  by_cases h1:i < n
  ·rw[if_pos h1]at h;have e:=aB h;exact⟨by rw[seqIndex_of h0 h1,e],by omega,by omega,h1⟩
  ·rw[if_neg h1]at h;cases h
 ·rw[if_neg h0]at h
  by_cases h1: -(n)<=i
  ·rw[if_pos h1]at h;have e:=aB h;exact⟨by rw[seqIndex_neg (by omega) h1,e],by omega,h1,by omega⟩
  ·rw[if_neg h1]at h;cases h
theorem ui {α:Type}{xs:List α}{v:α}(h:atI xs i=some v):∃j,seqIndex? i xs.length=some j/\xs[j]? =some v/\j < xs.length/\ -(xs.length:Int)<=i/\i < xs.length:=by
 unfold atI at h;cases e:ixN _ i with
 | none=>rw[e]at h;cases h
 | some j=>
  rw[e]at h;obtain⟨h1,h2,h3,h4⟩:=VR e;exact⟨j,h1,h,h2,h3,h4⟩
theorem j3 {α:Type}{xs:List α}{j:Nat}{v:α}(h:xs[j]? =some v):atI xs (j:Int)=some v:=by
 have hj:=(ar.mp h).1;have e:ixN xs.length (j)=some j:=by
  unfold ixN;rw[if_pos (by omega),if_pos (by omega)];simp
 unfold atI;rw[e];exact h
noncomputable def Jx (b:Expr):Prop:=∀o i,subscripted b false o i=operate [o,i] (getItem o i)
def IxR (X:Cx)(r:R2):Prop:=
 ∀(value slice:Expr) (pins:List (Addr×Obj)) (s:Shared) (σ:St) (H:Hp) (x y:V) (v u:Value) (Q:VK),Inv X pins σ H s->Zb x v->Zb y u->r x y H Q->
  subscripted slice false v u=operate [v,u] (getItem v u)->wpAny (model X.prog X.w) X.A (subscriptTail value slice v u) (EP X pins σ Q) X.xe s
def MtR (X:Cx)(id:String)(r:V->List V->Hp->VK->Prop):Prop:=
 ∀(pins:List (Addr×Obj)) (s:Shared) (σ:St) (H:Hp) (x:V) (xs:List V) (v:Value) (us:List Value) (Q:VK),Inv X pins σ H s->Zb x v->zT xs us->r x xs H Q->
  wpAny (model X.prog X.w) X.A (call (.builtin id) (v :: us)) (EP X pins σ Q) X.xe s
section
variable {X:Cx}{a b:Expr}{ta tb:TE}{pos:Pos}
theorem IxR.or (h:IxR X r)(h' :IxR X r'):IxR X (λx y H Q=>r x y H Q\/r' x y H Q):=by
 intro value slice pins s σ H x y v u Q I rx ry q hs;rcases q with q | q
 ·exact h _ _ _ s σ H x y v u Q I rx ry q hs
 ·exact h' _ _ _ s σ H x y v u Q I rx ry q hs
theorem Qu (hr:IxR X r)(ha:PE X a ta)(hb:PE X b tb)(hs:Jx b):PE X (.Subscript a b pos) (tOp r ta tb):=by
 intro pins s σ H Q I h;exact Subscript_ (z0l ha hb I h λv u s2 x y H2 I2 rx ry q=>hr a b _ s2 σ H2 x y v u Q I2 rx ry q (hs _ _))
def rIxL (K:a8):R2:=λx y H Q=>∃p xs i v,x= .ref p/\y= .int i/\SqL K H p xs/\atI xs i=some v/\Q v H
def rIxT (K:a8):R2:=λx y H Q=>∃p xs i v,x= .ref p/\y= .int i/\SqT K H p xs/\atI xs i=some v/\Q v H
def rIxS:R2:=λx y H Q=>∃z i c,x= .str z/\y= .int i/\z.length<=sizeLine/\atI z.cps.toList i=some c/\Q (.str ⟨#[c]⟩) H
theorem VS:IxR X (rIxL X.K):=by
 intro value slice pins s σ H x y v u Q I rx ry h hs;obtain⟨p,xs,i,z,rfl,rfl,hq,he,q⟩:=h;cases rx;obtain⟨t,rfl⟩:=ry;obtain⟨its,r,pl,hz⟩:=I.list hq;obtain⟨j,h1,h2,h3,h4,h5⟩:=ui he;obtain⟨w,ew,rw'⟩:=r.get h2;have hl:=r.length;have hn:=Wn;have fin:EP X _ σ Q w s:=⟨z,H,I,rw',q⟩
 by_cases h0:0<=i
 ·have hj:=by
   rw[seqIndex_of h0 h5]at h1;exact aB h1
  exact item_listR pl.isList h0 (by omega) (by rw[hj];simpa using ew) fin hs
 ·have hj:(i+(its.toArray.size)).toNat=j:=by
   rw[seqIndex_neg (by omega) h4]at h1
   rw[az,← hl];exact aB h1
  exact subscriptTail_builtinR pl.isList.typeIs slot_list_getitem.lookup
   (wpAny_getItem_list_neg pl.isList (by omega) (by rw[az] <;> omega) (by omega) (by rw[hj];simpa using ew) ⟨rfl,fin⟩) hs
theorem ky:IxR X (rIxT X.K):=by
 intro value slice pins s σ H x y v u Q I rx ry h hs;obtain⟨p,xs,i,z,rfl,rfl,hq,he,q⟩:=h;cases rx;obtain⟨t,rfl⟩:=ry;obtain⟨its,r,pl,hz⟩:=I.tuple hq;obtain⟨j,h1,h2,h3,h4,h5⟩:=ui he;obtain⟨w,ew,rw'⟩:=r.get h2;have hl:=r.length;have hn:=Wn;have fin:EP X _ σ Q w s:=⟨z,H,I,rw',q⟩;exact subscriptTail_builtinR pl.typeIs slot_tuple_getitem.lookup
  (getItem_tuple pl (by omega) (by omega) (by rw[az,← hl];exact h1) (by simpa using ew) ⟨rfl,fin⟩) hs
theorem kz:IxR X rIxS:=by
 intro value slice pins s σ H x y v u Q I rx ry h hs;obtain⟨z,i,c,rfl,rfl,hz,he,q⟩:=h;obtain⟨t,rfl⟩:=rx;obtain⟨t',rfl⟩:=ry;obtain⟨j,h1,h2,h3,h4,h5⟩:=ui he;have hl:z.cps.toList.length=z.length:=by simp[Str.length]
 rw[hl]at h1 h4 h5;have hn:=Wn;exact tail_any (typeIs_str s z t) slot_str_getitem.lookup (getItem_str (by
  have e1:decide (i < -(2 ^ 63))=false:=decide_eq_false (by omega)
  have e2:decide (i ≥ 2 ^ 63)=false:=decide_eq_false (by omega)
  rw[e1,e2,Bool.or_false]) (by rw[h1];simpa using h2) ⟨.str _,H,I.tok _,⟨_,rfl⟩,q⟩) hs
def rIx (K:a8):R2:=λx y H Q=>rIxL K x y H Q\/rIxT K x y H Q\/rIxS x y H Q
theorem uS:IxR X (rIx X.K):=VS.or (ky.or kz)
theorem Wt (lo hi:Option Int)(n:Nat):(sliceBounds lo hi none n).1=((HT.sIx n 0 lo:Nat):Int)/\(sliceBounds lo hi none n).2.1=((HT.sIx n n hi:Nat):Int)/\(sliceBounds lo hi none n).2.2=1:=by
 refine⟨?_, ?_,rfl⟩
 ·cases lo with
  | none=>simp[sliceBounds,HT.sIx]
  | some i=>
   simp only[sliceBounds,HT.sIx,hZ,show (1) > 0 by decide,if_true]
   by_cases h:i < 0
   ·simp only[h,if_true] <;> omega
   ·simp only[h,if_false] <;> omega
 ·cases hi with
  | none=>simp[sliceBounds,HT.sIx]
  | some i=>
   simp only[sliceBounds,HT.sIx,hZ,show (1) > 0 by decide,if_true]
   by_cases h:i < 0
   ·simp only[h,if_true] <;> omega
   ·simp only[h,if_false] <;> omega
theorem wJ (its:List Value)(lo hi:Option Int):slicePick its.toArray lo hi none=((its.drop (HT.sIx its.length 0 lo)).take (HT.sIx its.length its.length hi - HT.sIx its.length 0 lo)).toArray:=by
 obtain⟨h1,h2,h3⟩:=Wt lo hi _;unfold slicePick;rw[h1,h2,h3];simp only[sliceRange_one,pick_run,az] <;> rfl
def rSlL (K:a8):V->Option Int->Option Int->Hp->VK->Prop:=λx lo hi H Q=>∃a xs,x= .ref a/\SqL K H a xs/\∀p,H p=none->Q (.ref p) (upd H p (.lst (XN xs lo hi)))
theorem VT:SlR X (rSlL X.K):=by
 intro pins s σ H x v vl vu lo hi sl Q I rx hs pl pu h;obtain⟨a,xs,rfl,hx,q⟩:=h;cases rx;obtain⟨its,r,ht,hz⟩:=I.list hx;have hlen:=r.length;refine⟨"list",_,slot_list_getitem.lookup,ht.isList.typeIs, ?_⟩;refine wpAny_getItem_list_slice ht.isList hs pl pu .none (by simp) ?_ (by rw[az] <;> omega)
 rw[wJ,← hlen];refine⟨.ref _,_,I.laid (λb ob q=>a9 _ q) (ai _) ?_,rfl,q _ (I.hok.fresh (ai _))⟩;exact⟨aD (Jw xs lo hi) hz,_,0,(r.drop _).take _,af _ rfl⟩
theorem Wu:Zt X (.builtin "len") (λxs H Q=>∃p ys,xs=[.ref p]/\(SqL X.K H p ys\/SqT X.K H p ys)/\Q (.int ys.length) H):=by
 intro pins s σ H xs us Q I r h;obtain⟨p,ys,rfl,hq,q⟩:=h;obtain⟨u,rfl,rx⟩:=ZP r;cases rx;have hn:=Wn;rcases hq with hq | hq
 ·obtain⟨its,r',pl,hz⟩:=I.list hq;have hlen:=r'.length;exact Calls.call_len_list pl.isList (by simp only[az] <;> omega) ⟨.int _,H,I.tok _,⟨s.toks+1,by rw[az,hlen]⟩,q⟩
 ·obtain⟨its,r',pl,hz⟩:=I.tuple hq;have hlen:=r'.length;exact len_tuple pl (by simp only[az] <;> omega) ⟨.int _,H,I.tok _,⟨s.toks+1,by rw[az,hlen]⟩,q⟩
theorem Wv:Zt X (.builtin "len") (λxs H Q=>∃z,xs=[.str z]/\z.length<=sizeLine/\Q (.int z.length) H):=by
 intro pins s σ H xs us Q I r h;obtain⟨z,rfl,hz,q⟩:=h;obtain⟨u,rfl,t,rfl⟩:=ZP r;have hn:=Wn;exact len_str (by omega) ⟨.int _,H,I.tok _,⟨_,rfl⟩,q⟩
theorem Zt.or {r r' :List V->Hp->VK->Prop}(h:Zt X f r)(h' :Zt X f r'):Zt X f (λxs H Q=>r xs H Q\/r' xs H Q):=by
 intro pins s σ H xs us Q I rs q;rcases q with q | q
 ·exact h _ s σ H xs us Q I rs q
 ·exact h' _ s σ H xs us Q I rs q
theorem j4:Zt X (.type "list") (λxs H Q=>∃p ys,xs=[.ref p]/\(SqL X.K H p ys\/SqT X.K H p ys)/\∀l,H l=none->Q (.ref l) (upd H l (.lst ys))):=by
 intro pins s σ H xs us Q I r h;obtain⟨p,ys,rfl,hq,q⟩:=h;obtain⟨u,rfl,rx⟩:=ZP r;cases rx;have fin:∀(its:List _),zT ys its->ys.length<=sizeLine->∀(h' :Heap) (c' :Nat),(∀b o',s.heap.get? b=some o' ->h'.get? b=some o')->
   h'.get? _=some _->EP X _ σ Q _ { s with heap:=h' }:=λits r' hz h' c' kp e=>
  ⟨.ref _,_,I.laid kp (ai _) (show Z9 _ X.w _ h' _ (.lst ys) from ⟨hz,its,c',r',e⟩),rfl,q _ (I.hok.fresh (ai _))⟩
 rcases hq with hq | hq
 ·obtain⟨its,r',pl,hz⟩:=I.list hq;have hlen:=r'.length;obtain⟨o,ho,hc,n,hd⟩:=pl.isList;exact call_list_seq p (.inl rfl) ho hc hd (λh' c' kp e=>fin its r' hz h' c' kp e) (by simp only[az] <;> omega)
 ·obtain⟨its,r',pl,hz⟩:=I.tuple hq;have hlen:=r'.length;obtain⟨o,ho,hc,n,hd⟩:=pl;exact call_list_seq p (.inr rfl) ho hc hd (λh' c' kp e=>fin its r' hz h' c' kp e) (by simp only[az] <;> omega)
theorem wK:Zt X (.type "tuple") (λxs H Q=>∃p ys,xs=[.ref p]/\((SqL X.K H p ys/\∀l,H l=none->Q (.ref l) (upd H l (.tup ys)))\/(SqT X.K H p ys/\Q (.ref p) H))):=by
 intro pins s σ H xs us Q I r h;obtain⟨p,ys,rfl,h⟩:=h;obtain⟨u,rfl,rx⟩:=ZP r;cases rx;rcases h with ⟨hq,q⟩ | ⟨hq,q⟩
 ·obtain⟨its,r',pl,hz⟩:=I.list hq;have hlen:=r'.length;refine call_tuple_list pl.isList (λh' kp=> ?_) (by simp only[az] <;> omega)
  have I1:Inv X _ σ H { s with heap:=h' }:=I.kept kp;have I2:Inv X _ σ (upd H _ (.tup ys)) { s with heap:=h'.push _ }:=
   I1.laid (λb o e=>a9 _ e) (ai _) (show Z9 _ X.w _ _ _ _ from ⟨hz,its,r',ITN.new _ _⟩)
  exact⟨.ref _,_,I2,rfl,q _ (I1.hok.fresh (ai _))⟩
 ·obtain⟨its,r',pl,hz⟩:=I.tuple hq;exact call_tuple_same pl ⟨.ref p,H,I,rfl,q⟩
def tyV (K:a8)(T:String)(x:V)(H:Hp):Prop:=match x with
 | .str _=>T="str"
 | .int _=>T="int"
 | .ref p=>(T="list"/\∃xs,SqL K H p xs)\/(T="tuple"/\∃o,K.lookup p=some o/\o.cls= .type "tuple"/\o.dict=none)\/
   (T="dict"/\((∃kvs,H p=some (.dK kvs))\/∃kvs,H p=some (.dT kvs)))\/(T="set"/\∃S n,H p=some (.set S n))
 | _=>False
theorem vS (I:Inv X pins σ H s)(r:Zb x v)(ty:tyV X.K T x H):
  s.TypeIs v T/\∀a,v= .ref a->∃ob,s.heap.get? a=some ob/\ob.dict=none:=by
 cases x with
 | str z=>
  obtain⟨t,rfl⟩:=r;cases (ty);exact⟨typeIs_str s z t,λ_ e=>nomatch e⟩
 | int i=>
  obtain⟨t,rfl⟩:=r;cases (ty);exact⟨typeIs_int s i t,λ_ e=>nomatch e⟩
 | ref p=>
  cases r;rcases ty with ⟨rfl,xs,hq⟩ | ⟨rfl,o,hk,hc,hd⟩ | ⟨rfl,hk⟩ | ⟨rfl,S,n,hk⟩
  ·obtain⟨its,_,pl,_⟩:=I.list hq;refine⟨pl.isList.typeIs,λa e=> ?_⟩;cases e;obtain⟨o,n,e,c,hd,_⟩:=pl;exact⟨o,e,hd⟩
  ·refine⟨⟨o,I.kIn p o hk,hc⟩,λa e=> ?_⟩;cases e;exact⟨o,I.kIn _ o hk,hd⟩
  ·have z:∃o,s.heap.get? p=some o/\o.ExactDict:=by
    rcases hk with ⟨kvs,hk⟩ | ⟨kvs,hk⟩
    ·obtain⟨_,_,_,_,o,_,_,e,ex,_⟩:=I.hok p _ hk;exact⟨o,e,ex⟩
    ·obtain⟨_,_,_,_,o,_,_,e,ex,_⟩:=I.hok p _ hk;exact⟨o,e,ex⟩
   obtain⟨o,e,ex⟩:=z;refine⟨⟨o,e,ex.1⟩,λa e2=> ?_⟩;cases e2;exact⟨o,e,ex.2.1⟩
  ·obtain⟨o,_,_,_,e,ex,_⟩:=I.hok p _ hk;refine⟨⟨o,e,ex.1⟩,λa e2=> ?_⟩;cases e2;exact⟨o,e,ex.2.1⟩
 | _=>exact bo ty
def tBM0 (K:a8)(T:String)(r:V->List V->Hp->VK->Prop)(to:TE):TE:=λσ H Q=>to σ H λx H1=>tyV K T x H1/\r x [] H1 Q
def tBM (K:a8)(T:String)(r:V->List V->Hp->VK->Prop)(to:TE)(t:TA):TE:=λσ H Q=>to σ H λx H1=>tyV K T x H1/\t σ H1 λxs H2=>r x xs H2 Q
variable {o e:Expr}{es:List Expr}{to:TE}{t:TA}{name:Str}{apos cpos:Pos}{T id:String}{r:V->List V->Hp->VK->Prop}
theorem kA (pa:PlainAttrs T)(slot:Slot T name id)(hty:typeOf (.builtin id)=pure (.type "method_descriptor"))(hm:MtR X id r)(ho:PE X o to)
  (hbase:attributeBase o name X.env (eval o X.env)=eval o X.env:=by rfl) (hline:(apos.endLine == cpos.line)=true:=by rfl):PE X (.Call (.Attribute o name apos) [] [] cpos) (tBM0 X.K T r to):=by
 intro pins s σ H Q I h;refine wpAny_Call_method0_late hbase hline (thn (ho _ s σ H _ I h) λv s1 ⟨x,H1,I1,r1,ty,q1⟩=> ?_);obtain⟨h1,h2⟩:=vS I1 r1 ty;exact⟨T,id,pa,slot,hty,h1,h2,eV rfl (PySem.evalArgs_none (hm _ s1 σ H1 x [] v [] Q I1 r1 .nil q1))⟩
theorem UL (pa:PlainAttrs T)(slot:Slot T name id)(hty:typeOf (.builtin id)=pure (.type "method_descriptor"))(hm:MtR X id r)(ho:PE X o to)(ha:PA X (e :: es) t)
  (hbase:attributeBase o name X.env (eval o X.env)=eval o X.env:=by rfl)
  (hfew:((backTo cpos (starEach (e :: es) X.env)).all (λx=> !x.1) && (backToKw cpos (keywordEach [] X.env)).all (λx=>x.1.isSome)
   && decide ((e :: es).length+([]:List Keyword).length+(if ([]:List Keyword).isEmpty then 0 else 1) < 30))=true:=by rfl)
  (hline:(apos.endLine == cpos.line)=true:=by rfl) (hs:starEach (e :: es) X.env=(false,eval e X.env) :: starEach es X.env:=by rfl) (hplain:(backTo cpos (starEach es X.env)).any (·.1)=false:=by rfl):
  PE X (.Call (.Attribute o name apos) (e :: es) [] cpos) (tBM X.K T r to t):=by
 intro pins s σ H Q I h;refine wpAny_Call_method_late hbase hfew hline rfl (thn (ho _ s σ H _ I h) λv s1 ⟨x,H1,I1,r1,ty,q1⟩=> ?_);obtain⟨h1,h2⟩:=vS I1 r1 ty;refine⟨T,id,pa,slot,hty,h1,h2, ?_⟩;have hA:=ha cpos _ s1 σ H1 _ I1 q1;rw[hs]at hA ⊢;refine eV (by show (false || (backTo _ _).any _)=false;rw[hplain] <;> rfl) (fq ?_)
 exact thn hA λus s2 ⟨vs,H2,I2,r2,q2⟩=>hm _ s2 σ H2 x vs v us Q I2 r1 r2 q2
end
end L2
namespace L2
open PySem PySem.Spec PyProof.Rows
def MtM (X:Cx)(id:String)(r:V->List V->Hp->VK->Prop):Prop:=
 ∀(pins:List (Addr×Obj)) (s:Shared) (σ:St) (H:Hp) (x:V) (xs:List V) (v:Value) (us:List Value) (Q:VK),Inv X pins σ H s->Zb x v->zT xs us->r x xs H Q->
  wpAny (model X.prog X.w) X.A (call (.builtin id) (v :: us)) (EP X pins σ Q) X.xe s
theorem zT.one:∀{x:V} {us:List Value},zT [x] us->∃u,us=[u]/\Zb x u
 | _,_,.cons r .nil=>⟨_,rfl,r⟩
theorem zT.zero:∀{us:List Value},zT [] us->us=[]
 | _,.nil=>rfl
theorem zT.dropLast (h:zT xs us):zT xs.dropLast us.dropLast:=by
 induction h with
 | nil=>exact .nil
 | cons r t ih=>
  cases t with
  | nil=>exact .nil
  | cons q t' =>exact .cons r ih
theorem zT.rep (h:zT xs us):∀k:Nat,zT (aj k xs).flatten (aj k us).flatten
 | 0=> .nil
 | k+1=>by
  exact zT.append h (zT.rep h k)
theorem UN {α:Type}(l:List α):l.eraseIdx (l.length - 1)=l.dropLast:=by
 induction l with
 | nil=>rfl
 | cons a r ih=>
  cases r with
  | nil=>rfl
  | cons b r=>
   have e:(a :: b :: r).length - 1=((b :: r).length - 1)+1:=by
    have h1:(a :: b :: r).length=r.length+2:=rfl;have h2:(b :: r).length=r.length+1:=rfl;omega
   rw[e,List.eraseIdx_cons_succ,ih]
   all_goals rfl
theorem jC (its:List Value):∀(k:Nat) (acc:List Value),
  dL (λx1 x2=>x1++x2) acc.toArray (aj k its.toArray)=(acc++(aj k its).flatten).toArray
 | 0,acc=>by simp
 | k+1,acc=>by
  have e:acc.toArray++its.toArray=(acc++its).toArray:=by simp
  have e2:(acc++its)++(aj k its).flatten=acc++(aj (k+1) its).flatten:=by
   rw[bS,dW,aX]
  rw[← e2,← jC its k _,← e,bS,List.foldl_cons]
section
theorem Inv.lset {its its' :List Value}{n:Nat}{f:Array Value->Array Value}{t' :Nat}(I:Inv X pins σ H s)(hH:H l=some (.lst xs))
  (e:s.heap.get? l=some { cls:= .type "list",data:= .seq its.toArray n }) (hf:f its.toArray=its'.toArray) (hv:zT ys its') (hz:ys.length<=sizeLine):
  Inv X pins σ (upd H l (.lst ys)) { s with heap:=s.heap.update l (Obj.mapSeq f),toks:=t' }:=by
 have q:=PySem.IsL.update e f;rw[hf]at q;refine I.write (by rw[hH];exact trivial) (.inl rfl) (λb' u hb hu=>(Heap.get?_update_other _ _ (aZ hb)).trans hu) ⟨_,q⟩ ?_
 exact⟨hz,its',_,hv,q⟩
theorem Inv.lnew (I:Inv X pins σ H s)(hv:zT ys its)(hz:ys.length<=sizeLine):
  Inv X pins σ (upd H s.heap.objs.size (.lst ys)) { s with heap:=s.heap.push { cls:= .type "list",data:= .seq its.toArray },toks:=t' }:=
 I.laid (λ_ _ q=>a9 _ q) (ai _) ⟨hz,its,0,hv,af _ rfl⟩
theorem Inv.fresh (I:Inv X pins σ H s):H s.heap.objs.size=none:=I.hok.fresh (ai _)
theorem Inv.lstM (I:Inv X pins σ H s)(hH:H l=some (.lst xs)):xs.length<=sizeLine/\∃(its:List Value) (n:Nat),zT xs its/\xs.length=its.length/\s.heap.get? l=some { cls:= .type "list",data:= .seq its.toArray n }:=by
 obtain⟨z,its,n,r,e⟩:=I.hok l _ hH;exact⟨z,its,n,r,r.length,e⟩
theorem uT (h:n<=sizeLine):cX n=false:=by
 exact decide_eq_false (by omega)
end
section
variable {X:Cx}
def VU:V->List V->Hp->VK->Prop:=λx vs H Q=>∃l xs y,x= .ref l/\vs=[y]/\H l=some (.lst xs)/\xs.length < sizeLine/\Q .non (upd H l (.lst (xs++[y])))
theorem Jy:MtM X "list.append" VU:=by
 intro pins s σ H x vs v us Q I rx rv h;obtain⟨l,xs,y,rfl,rfl,hH,hz,q⟩:=h;cases rx;obtain⟨u,rfl,ru⟩:=rv.one;obtain⟨z,its,n,r,hl,e⟩:=I.lstM hH;refine cJ F.slot_list_append ⟨_,e,rfl⟩ F.entry_list_append (F.args_list_append_2 _ _) (PySem.list_append l _ n u (by rw[az];omega)) ⟨e, ?_⟩
 refine⟨.non,_,I.lset hH e (by simp) (r.append (.cons ru .nil)) ?_,rfl,q⟩
 rw[av,aF];omega
def VV:V->List V->Hp->VK->Prop:=λx vs H Q=>∃l b xs zs,x= .ref l/\vs=[.ref b]/\H l=some (.lst xs)/\H b=some (.lst zs)/\xs.length+zs.length<=sizeLine/\Q .non (upd H l (.lst (xs++zs)))
theorem yS:MtM X "list.extend" VV:=by
 intro pins s σ H x vs v us Q I rx rv h;obtain⟨l,b,xs,zs,rfl,rfl,hH,hB,hz,q⟩:=h;cases rx;obtain⟨u,rfl,ru⟩:=rv.one;cases ru;obtain⟨z,its,n,r,hl,e⟩:=I.lstM hH;obtain⟨z2,its2,n2,r2,hl2,e2⟩:=I.lstM hB;have hsz:its.toArray.size+its2.toArray.size<=sizeLine:=by rw[az,az];omega
 have hlong:¬ (!its.toArray.isEmpty && cX (its.toArray.size+its2.toArray.size))=true:=by
  rw[uT hsz,Bool.and_false];exact aA
 refine cJ F.slot_list_extend ⟨_,e,rfl⟩ F.entry_list_extend (F.args_list_extend_2 _ _)
  (AutoSeq1.list_extend_list_list_0 l _ n b _ n2 hlong (by omega) (by omega)) ⟨e,e2, ?_⟩
 refine⟨.non,_,I.lset hH e (by simp) (r.append r2) ?_,rfl,q⟩
 rw[av];omega
def rPop:V->List V->Hp->VK->Prop:=λx vs H Q=>∃l xs y,x= .ref l/\vs=[]/\H l=some (.lst xs)/\xs[xs.length - 1]? =some y/\Q y (upd H l (.lst xs.dropLast))
theorem kB:MtM X "list.pop" rPop:=by
 intro pins s σ H x vs v us Q I rx rv h;obtain⟨l,xs,y,rfl,rfl,hH,hy,q⟩:=h;cases rx;have hus:=rv.zero;subst hus;obtain⟨z,its,n,r,hl,e⟩:=I.lstM hH;obtain⟨u,hu,ru⟩:=r.get hy;have hy' :=by
  show its.toArray[its.length - 1]? =some u;rw[← fg,← hl];exact hu
 refine cJ F.slot_list_pop ⟨_,e,rfl⟩ F.entry_list_pop (F.args_list_pop_1 _) (MeetsSeq.list_pop_last l _ n u hy' (by rw[az];omega)) ⟨e, ?_⟩
 refine⟨y,_,I.lset hH e ?_ r.dropLast ?_,ru,q⟩
 ·rw[az,List.eraseIdxIfInBounds_toArray,UN]
 ·rw[List.length_dropLast];omega
def rCat:R2:=λx y H Q=>∃l b xs zs,x= .ref l/\y= .ref b/\H l=some (.lst xs)/\H b=some (.lst zs)/\xs.length+zs.length<=sizeLine/\∀p,H p=none->Q (.ref p) (upd H p (.lst (xs++zs)))
theorem kC:OpR X (binaryOp .Add) rCat:=by
 intro pins s σ H x y v u Q I rx ry h;obtain⟨l,b,xs,zs,rfl,rfl,hH,hB,hz,q⟩:=h;cases rx;cases ry;obtain⟨z,its,n,r,hl,e⟩:=I.lstM hH;obtain⟨z2,its2,n2,r2,hl2,e2⟩:=I.lstM hB;refine PySem.P.add_list e e2 ?_ (by rw[az,az];omega)
 have ea:its.toArray++its2.toArray=(its++its2).toArray:=by simp
 rw[ea];exact⟨.ref _,_,I.lnew (r.append r2) (by rw[av];omega),rfl,q _ I.fresh⟩
def rRep:R2:=λx y H Q=>∃l k xs,x= .ref l/\y= .int k/\H l=some (.lst xs)/\ -(2 ^ 63)<=k/\k < 2 ^ 63/\xs.length*k.toNat<=sizeLine/\
 ∀p,H p=none->Q (.ref p) (upd H p (.lst (aj k.toNat xs).flatten))
theorem jQ {α:Type}(xs:List α)(k:Nat):(aj k xs).flatten.length=k*xs.length:=by
 induction k with
 | zero=>simp
 | succ k ih=>rw[bS,dW,av,ih,eW,Nat.add_comm]
theorem kD:OpR X (binaryOp .Mult) rRep:=by
 intro pins s σ H x y v u Q I rx ry h;obtain⟨l,k,xs,rfl,rfl,hH,h1,h2,hz,q⟩:=h;cases rx;obtain⟨t,rfl⟩:=ry;obtain⟨z,its,n,r,hl,e⟩:=I.lstM hH;have hlen:its.toArray.size*k.toNat<=sizeLine:=by rw[az,← hl];exact hz
 have hcap:¬ its.toArray.size*k.toNat > (2 ^ 63 - 1) / 8:=by
  have:(sizeLine)<=(2 ^ 63 - 1) / 8:=by decide
  omega
 have hfit:¬ (!Builtin.List.listFitsIndex k)=true:=by
  rw[fitsIndex_both h1 h2];exact aA
 have hlong:¬ cX (its.toArray.size*k.toNat)=true:=by
  rw[uT hlen];exact aA
 have hnew:dL (λx1 x2=>x1++x2) #[] (aj (if its.toArray.isEmpty=true then 0 else k.toNat) its.toArray)=(aj k.toNat its).flatten.toArray:=by
  have f0:∀m,dL (λx1 x2=>x1++x2) #[] _=(aj m its).flatten.toArray:=λm=>by
   have:=jC its m [];exact this
  rw[f0];cases its with
  | nil=>simp
  | cons a r' =>rw[if_neg (by simp)]
 refine wpAny_binaryOp_repeat_ref (by decide) ⟨_,e,rfl⟩ (λs' =>typeIs_int s' k t) noFill_list_mul iw dA repeat_list h_.lookup
  (cJ dA (typeIs_int s k t) i5 (fX _ _) (int___rmul___int_list k t l _ n)
   ⟨e,rfl,⟨_,e,rfl⟩,cJ F.slot_list_mul ⟨_,e,rfl⟩ F.entry_list_mul (F.args_list_mul_2 _ _) (AutoListH.list___mul___list_int_3 l _ n k t hfit hcap hlong) ⟨e, ?_⟩⟩)
 rw[hnew];exact⟨.ref _,_,I.lnew (r.rep _) (by rw[jQ,cM];exact hz),rfl,q _ I.fresh⟩
end
section
end
section
end
end L2
namespace Att
open PySem PySem.W PySem.Calls PyProof.Rows
theorem Jz {P:Params}:∀(ns:List Int) (vs:List Value),WellAll P h vs (ns.map WData.int)->IntsAre vs ns:=by
 intro ns
 induction ns with
 | nil=>
  intro vs w;cases w;exact .nil
 | cons n ns ih=>
  intro vs w;cases w with
  | cons a b=>
   cases a;exact .cons _ _ (ih _ b)
theorem yT {l:OpenLaw}(hn:l.most=some n){P:Params}{args:List WData}
  (hpre:l.row.toRowW.claim.pre args=true) (hwl:WellAll P h vals args):
  ∃a vs ns,vals=[Value.ref a]/\args=[WData.list (ns.map WData.int)]/\h.get? a=some { cls:= .type "list",data:= .seq vs.toArray }/\IntsAre vs ns/\ns.length<=n:=by
 have hsh:=(pre_splitW hpre).1;have hc:=(pre_splitW hpre).2;obtain⟨d,r,rfl,h1,h2⟩:=hasAllW_cons hsh;obtain rfl:=hasAllW_nil h2;obtain⟨xs,rfl,h3⟩:=hasW_list h1;obtain⟨ns,rfl⟩:=items_int h3;have hlen:ns.length<=n:=by
  have h4:=by
   have h4:=(holds_andW hc).1;rw[hn]at h4;exact h4
  have h5:=condW_of h4 (w_not (w_lt w_lit (w_len_list (w_arg rfl))));rw[aa]at h5;refine Nat.le_of_not_lt λq=> ?_;have q' :(n) < ((ns.length):Int):=by omega
  first
   | (rw[decide_eq_true q']at h5;exact absurd h5 (by decide))
   | (simp at h5)
 cases hwl with
 | cons w1 w2=>
  cases w2;cases w1 with
  | list ho hall=>exact⟨_,_,ns,rfl,rfl,ho,Jz ns _ hall,hlen⟩
theorem yU (l:OpenLaw)(args:List WData):l.row.toRowW.claim.post args (.bool true) args=true:=
 postW_of
  (show WShape.has [] _ _=true by first | rfl | decide | simp[WShape.has,WShape.arms,WShape.armsAll])
  (show (WTm.eq _ _).value [] _=some _ from w_eq_bool (w_res rfl) w_lit) rfl
theorem attach_call {l:OpenLaw}{XP:(Str->Option Value)->Heap->Prop}{YP:World->Heap->Prop}{d:DefRec}
  (hn:l.most=some n) (hdf:d.params.defaults=[])
  (call:∀(w:World) (s₀ s₁:Shared) (mg mb:Str->Option Value) (fa:Addr) (o:Obj) (pm cd doc:Value) (a:Addr) (vs:List Value) (ns:List Int),
   Ground q loose [] XP w s₀ mg mb s₁.heap->YP w s₁.heap->
   s₁.heap.get? fa=some o->o.data= .func (docDef d.name d.params d.body d.scope pm cd doc)->s₁.heap.CodeRec cd d.name->mg d.name=some (.ref fa)->
   s₁.heap.get? a=some { cls:= .type "list",data:= .seq vs.toArray }->IntsAre vs ns->ns.length<=n->s₁.gens= #[]->
   codeAny (model l.prog w) callerA (.call (.ref fa) ⟨[.ref a],[]⟩) (λr s' =>r= .ok (.ret (.bool true))/\OldK s₁.heap s'.heap/\s'.os=s₁.os/\AllBare s'.gens) s₁):
  WalkO q loose XP YP l.row.toRowW d [] (λf vs=>iE f vs):=by
 intro w s₀ s₁ mg mb G Y fa o pm cd doc dV kV ho hd hcd hD hmg hg args vals as hpre hlay hrd hwl hlo;obtain rfl:dV= .none:=Dflts.none hD hdf;obtain rfl:kV= .none:=Dflts.noKw hD;obtain⟨a,vs,ns,rfl,rfl,hobj,hints,hlen⟩:=yT hn hpre hwl;refine enter_call (b_ (call w _ _ mg mb fa o pm cd doc a vs ns G Y ho (fd_plain hd) hcd hmg hobj hints hlen hg) λr s' hq=> ?_);obtain⟨rfl,h2,h3,h4⟩:=hq;exact⟨.inl ⟨.bool _,.bool _,[],rfl,λ_=>rfl,.bool _,yU l _,λ_=>⟨List.Pairwise.nil,λ_ hm=>(nomatch hm)⟩⟩,h2,h3,h4⟩
end Att
namespace L2
open PySem PySem.Spec PyProof.Rows
theorem jD:∀{vs:List Value} {ns:List Int},IntsAre vs ns->zT (ns.map V.int) vs
 | _,_,.nil=> .nil
 | _,_,.cons n t h=> .cons ⟨t,rfl⟩ (jD h)
end L2
namespace L2
open PySem PySem.Spec PyProof.Rows
end L2
namespace L2
open PySem PySem.Spec PyProof.Rows
noncomputable def Zo (s:Stmt):Arguments:=match s with
 | .FunctionDef _ a _ _ _ _ _ _ _ _=>a
 | _=>{ posonlyargs:=[],args:=[],vararg:=none,kwonlyargs:=[],kw_defaults:=[],kwarg:=none,defaults:=[] }
noncomputable def zI (s:Stmt):List Stmt:=match s with
 | .FunctionDef _ _ b _ _ _ _ _ _ _=>b
 | _=>[]
noncomputable def zr (s:Stmt):Scope:=match s with
 | .FunctionDef _ _ _ _ _ _ sc _ _ _=>sc
 | _=>{ kind:= .function,names:=[],isGenerator:=false,isCoroutine:=false }
abbrev CX0:CXT:=λ_ _ _ _ _ _=>False
structure Fun (K:a8) (x qual:Str) (st:Stmt) (f:Addr) (fd:FuncData):Prop where
 ex:∃(oc:Value) (od:Option Addr) (kV doc pm:Value) (an:Option Addr) (cdv ct:Value) (osl:Array (Option Value)),
  fd=bB x qual (Zo st) (zI st) (zr st) .none kV doc pm an cdv ct/\K.lookup f=some ⟨oc,od,.func fd,osl⟩/\db K cdv qual=true
 kp:bJ K (.ref f)=true
section
variable {P:Program}{w:World}{K:a8}{mg:Str->Option Value}{base:Heap}
theorem Fun.ok {x qual:Str}{st:Stmt}{f:Addr}{fd:FuncData}{N ps:List Str}{k:Nat}{sp:Sp}(F:Fun K x qual st f fd)(S:ZA N ps (zr st))(len:∀vs H Q E,sp vs H Q E->vs.length=ps.length)
  (hbody:∀(cdv:Value) (A:Around) (outer:List Env) (s:Shared) (H:Hp) (vs:List V) (Q:VK) (E:XK),Zu k (A.deeper (envOfC qual (zr st) s.heap.objs.size f cdv))->sp vs H Q E->
   ∃t,PSs (jL CX0 P w K mg base N qual (zr st) f cdv A outer s H E).nox (zI st) t/\t { nx:=λ_ H' =>Q .non H',rt:=Q } (start N vs) H):ZW P w K mg base CX0 (k+1) f fd ps sp:=by
 obtain⟨oc,od,kV,doc,pm,an,cdv,ct,osl,rfl,lk,hcd⟩:=F.ex;refine VM lk hcd S len λA outer s H vs Q E hr hsp=> ?_;obtain⟨t,h,q⟩:=hbody cdv A _ s H vs Q E hr hsp;exact⟨t,h.nox,q⟩
theorem Fun.binds {x qual:Str}{st:Stmt}{f:Addr}{fd:FuncData}{ps:List Str}(F:Fun K x qual st f fd)
  (h:∀(kV doc pm:Value) (an:Option Addr) (cdv ct:Value) (us:List Value),us.length=ps.length->bindArgs (bB x qual (Zo st) (zI st) (zr st) .none kV doc pm an cdv ct) ⟨us,[]⟩=pure (ps.zip us)):Binds K fd ps []:=by
 obtain⟨oc,od,kV,doc,pm,an,cdv,ct,osl,rfl,lk,hcd⟩:=F.ex;exact .all (h kV doc pm an cdv ct)
theorem vT {x qual:Str}{st:Stmt}{f:Addr}{oc:Value}{od an:Option Addr}{osl:Array (Option Value)}{kV doc pm cdv ct:Value}(l:K.lookup f=some ⟨oc,od,.func (bB x qual (Zo st) (zI st) (zr st) .none kV doc pm an cdv ct),osl⟩)
  (c:db K cdv qual=true) (k:bJ K (.ref f)=true):Fun K x qual st f (bB x qual (Zo st) (zI st) (zr st) .none kV doc pm an cdv ct):=⟨⟨oc,od,kV,doc,pm,an,cdv,ct,osl,rfl,l,c⟩,k⟩
end
section
theorem pv (i:Nat)(hN:X.N[i]? =some x:=by rfl)(hv:Vis X.env.scope x:=by first | exact Or.inl rfl | exact Or.inr (Or.inl rfl) | exact Or.inr (Or.inr rfl))(hd:(x == ("__debug__":Str))=false:=by decide)
  (hcd:(x == ("__classdict__":Str))=false:=by decide):PE X (.Name x pos) (jk i):=uK hN hv hd hcd
end
def zu (H H' :Hp):Prop:=∀b o,H b=some o->H' b=some o
theorem zu.refl (H:Hp):zu H H:=λ_ _ h=>h
theorem zu.trans (a:zu H H1)(b:zu H1 H2):zu H H2:=λc o h=>b c o (a c o h)
theorem zu.free (e:zu H H')(h:H' l=Option.none):H l=Option.none:=by
 cases q:H l with
 | none=>rfl
 | some o=>
  rw[e l o q]at h;cases h
end L2
namespace L2
open PySem PySem.Spec PyProof.Rows PySem.W
theorem uU (h:env.frame=some L):frs (env :: outer)=L :: frs outer:=by
 unfold frs;rw[cS,h]
structure uV (P:Program) (w:World) (outer:List Env) (H:Hp) (s s' :Shared) (ea:Addr) (cls a0:Value) (B:Heap) (H' :Hp):Prop where
 os:s'.os=s.os
 bare:AllBare s'.gens
 fly:df B outer ea cls a0 s'.heap
 hok:HOk P w H' B
 un:Un (frs outer) [] H H' s.heap s'.heap
 inB:∀b o,s.heap.get? b=some o->b ∉ frs outer->(H b=none->B.get? b=some o)/\∃o',B.get? b=some o'
def CX1 (P:Program)(w:World):CXT:=λouter H s E e s' =>∃ea cls a0 B H',e= .ref ea/\uV P w outer H s s' ea cls a0 B H' /\E cls none H'
section
variable {X:Cx}{pins:List (Addr×Obj)}{σ:St}{H H' :Hp}{s s' :Shared}{ea:Addr}{cls a0:Value}{B:Heap}{h' h'' :Heap}
theorem Inv.frNf (I:Inv X pins σ H s):∀b∈frs X.stack,H b=none/\∃o,s.heap.get? b=some o/\∀vs,o.data ≠ .fields vs:=λb hb=>⟨I.stkFree b hb,(I.stack.mem hb).2⟩
theorem uV.on (L:uV P w outer H s s' ea cls a0 B H')(ff:∀b∈frs outer,H b=none/\∃o,s.heap.get? b=some o/\∀vs,o.data ≠ .fields vs)
  (fl:df B outer ea cls a0 h') (sl:s'.heap.UpToSlots h'):uV P w outer H s { s' with heap:=h' } ea cls a0 B H' where
 os:=L.os
 bare:=L.bare
 fly:=fl
 hok:=L.hok
 inB:=L.inB
 un:=by
  have slot:∀b o,s.heap.get? b=some o->H b=none->b∈frs outer->∃sl,h'.get? b=some { o with slots:=sl }:=λb o e n hb=>by
   obtain⟨sl1,e1⟩:=L.un.slot b o e n hb (by simp)
   obtain⟨_,o2,e2,nf⟩:=ff b hb;rw[e]at e2;cases e2;obtain⟨sl2,e3⟩:=sl b _ e1 nf;exact⟨sl2,e3⟩
  exact⟨λb o e n hb _=>fl.1 b o ((L.inB b o e hb).1 n),λb o e n hb _=>slot b o e n hb,L.un.free,λb o e _=>by
   by_cases hb:b∈frs outer
   ·obtain⟨sl1,e1⟩:=slot b o e (ff b hb).1 hb;exact⟨_,e1⟩
   ·obtain⟨o',e'⟩:=(L.inB b o e hb).2;exact⟨o',fl.1 b o' e'⟩,L.un.tups,L.un.frzs,L.un.tbls⟩
theorem Inv.old (I:Inv X pins σ H s)(hX:X.stack=X.env :: X.outer)(hf:X.env.frame=some X.env.locals)(e:X.s₀.heap.get? b=some o)(hb:b ∉ frs X.outer):b ∉ frs X.stack:=by
 rw[hX,uU hf];intro z;rcases ak.mp z with z | z
 ·exact absurd (aH (aq e) I.ok.above) (by rw[z];exact bF _)
 ·exact hb z
theorem uj {X:Cx}(hX:X.stack=X.env :: X.outer)(hf:X.env.frame=some X.env.locals){b:Addr}(hb:b∈frs X.outer):b∈frs X.stack:=by
 rw[hX,uU hf];exact ac _ hb
theorem uV.out (I:Inv X pins σ H s)(hX:X.stack=X.env :: X.outer)(hf:X.env.frame=some X.env.locals)(hex:X.ex=[])(L:uV X.prog X.w X.stack H s s' ea cls a0 B H')
  (fl:df B X.outer ea cls a0 h') (sl:s'.heap.UpToSlots h'):uV X.prog X.w X.outer X.H₀ X.s₀ { s' with heap:=h' } ea cls a0 B H' where
 os:=L.os.trans I.os
 bare:=L.bare
 fly:=fl
 hok:=L.hok
 inB:=λb o e hb=>by
  have nx:b ∉ X.ex:=by rw[hex];simp
  obtain⟨o1,e1⟩:=I.base.there b o e nx;have hb' :=I.old hX hf e hb;exact⟨λn=>(L.inB b o (I.base.keep b o e n hb nx) hb').1 (I.base.free b o e n nx),(L.inB b o1 e1 hb').2⟩
 un:=by
  have nx:∀b,b ∉ X.ex:=λb=>by rw[hex];simp
  have slot:∀b o,X.s₀.heap.get? b=some o->X.H₀ b=none->b∈frs X.outer->∃sl,h'.get? b=some { o with slots:=sl }:=λb o e n hb=>by
   obtain⟨sl1,e1⟩:=I.base.slot b o e n hb (nx b);have n1:=I.base.free b o e n (nx b);obtain⟨sl2,e2⟩:=L.un.slot b _ e1 n1 (uj hX hf hb) (by simp)
   obtain⟨_,o3,e3,nf⟩:=I.frNf b (uj hX hf hb);rw[e1]at e3;cases e3;obtain⟨sl4,e4⟩:=sl b _ e2 nf;exact⟨sl4,e4⟩
  refine⟨λb o e n hb _=> ?_,λb o e n hb _=>slot b o e n hb,λb o e n _=> ?_,λb o e _=> ?_,λb xs e=>L.un.tups b xs (I.base.tups b xs e),λb o xs e=>L.un.frzs b o xs (I.base.frzs b o xs e),λb ps q e=>L.un.tbls b ps q (I.base.tbls b ps q e)⟩
  ·exact fl.1 b o ((L.inB b o (I.base.keep b o e n hb (nx b)) (I.old hX hf e hb)).1 (I.base.free b o e n (nx b)))
  ·obtain⟨o1,e1⟩:=I.base.there b o e (nx b);exact L.un.free b o1 e1 (I.base.free b o e n (nx b)) (by simp)
  ·by_cases hb:b∈frs X.outer
   ·obtain⟨sl1,e1⟩:=slot b o e (I.ok.frf b hb) hb;exact⟨_,e1⟩
   ·obtain⟨o1,e1⟩:=I.base.there b o e (nx b);obtain⟨o',e'⟩:=(L.inB b o1 e1 (I.old hX hf e hb)).2;exact⟨o',fl.1 b o' e'⟩
theorem uV.made (I:Inv X pins σ H s)(hX:X.stack=X.env :: X.outer)(hf:X.env.frame=some X.env.locals)(hex:X.ex=[]){vs:List Value}(hx:Heap.MadeExcOf s.heap h' ea cls vs)
  (fl:df (hideAll s.heap (frs X.stack)) X.outer ea cls a0 h'') (sl:h'.UpToSlots h''):uV X.prog X.w X.outer X.H₀ X.s₀ { s with heap:=h'' } ea cls a0 (hideAll s.heap (frs X.stack)) H where
 os:=I.os
 bare:=I.bare
 fly:=fl
 hok:=λa o e=>(I.hok a o e).stay (λb u hb q=>hideAll_get _ q λz=>by
   have:=I.stkFree b z;rcases hb with rfl | hb
   ·rw[e]at this;cases this
   ·rw[hb]at this;cases this) (λ_ q=>q) λ_ _ q=>q
 inB:=λb o e hb=>by
  have nx:b ∉ X.ex:=by rw[hex];simp
  obtain⟨o1,e1⟩:=I.base.there b o e nx;have hb' :=I.old hX hf e hb;exact⟨λn=>hideAll_get _ (I.base.keep b o e n hb nx) hb',o1,hideAll_get _ e1 hb'⟩
 un:=by
  have nx:∀b,b ∉ X.ex:=λb=>by rw[hex];simp
  have slot:∀b o,X.s₀.heap.get? b=some o->X.H₀ b=none->b∈frs X.outer->∃sl,h''.get? b=some { o with slots:=sl }:=λb o e n hb=>by
   obtain⟨sl1,e1⟩:=I.base.slot b o e n hb (nx b);obtain⟨_,o3,e3,nf⟩:=I.frNf b (uj hX hf hb);rw[e1]at e3;cases e3;obtain⟨sl4,e4⟩:=sl b _ (hx.keeps b _ e1) nf;exact⟨sl4,e4⟩
  refine⟨λb o e n hb _=> ?_,λb o e n hb _=>slot b o e n hb,λb o e n _=>I.base.free b o e n (nx b),λb o e _=> ?_,I.base.tups,I.base.frzs,I.base.tbls⟩
  ·exact fl.1 b o (hideAll_get _ (I.base.keep b o e n hb (nx b)) (I.old hX hf e hb))
  ·by_cases hb:b∈frs X.outer
   ·obtain⟨sl1,e1⟩:=slot b o e (I.ok.frf b hb) hb;exact⟨_,e1⟩
   ·obtain⟨o1,e1⟩:=I.base.there b o e (nx b);exact⟨o1,fl.1 b o1 (hideAll_get _ e1 (I.old hX hf e hb))⟩
end
section
variable {P:Program}{w:World}{K:Frag}{mg:Str->Option Value}{base:Heap}{N:List Str}{qual:Str}{scope:Scope}{f:Addr}{cd:Value}{A:Around}{outer:List Env}{s:Shared}{H:Hp}{E:XK}
theorem UP:zX (CX1 P w) (jL (CX1 P w) P w K mg base N qual scope f cd A outer s H E) E:=by
 intro pins σ H1 s1 e s' I ⟨ea,cls,a0,B,H',he,L,hE⟩;subst he;exact wpAny_leaves_onW I.ok.frames rfl L.fly λh' fl sl=>⟨ea,cls,a0,B,H',rfl,L.out I rfl rfl rfl fl sl,hE⟩
theorem yV {x:Str}{C:Addr}{bm bmN:List Value}{Bn Bb newId nid initId inN:String}{np cpos pos:Pos}{e:Expr}{t:TA}(O:OwnCls x C bm newId mg base)(Fn:ExcBaseFacts Bn newId inN bmN)(hBn:bm.contains (.type Bn)=true)(FB:ExcBaseFacts Bb nid initId bm)
  (hg:Gl (jL (CX1 P w) P w K mg base N qual scope f cd A outer s H E) x) (ha:PA (jL (CX1 P w) P w K mg base N qual scope f cd A outer s H E) [e] t)
  (he:starEach [e] (envOfC qual scope s.heap.objs.size f cd)=[(false,eval e (envOfC qual scope s.heap.objs.size f cd))]) (hd:(x == ("__debug__":Str))=false:=by decide):
  PS (jL (CX1 P w) P w K mg base N qual scope f cd A outer s H E) (.Raise (some (.Call (.Name x np) [e] [] cpos)) none pos) (λ_ σ H1=>t σ H1 λvs H2=>vs.length<=sizeLine/\E (.ref C) none H2):=by
 intro pins s1 σ H1 D I hw;obtain⟨tl,N',nm,q,bs,hdct,sn,sub,ab,col,dd,k0,k1,k2,k3,k5,mN,hC,hN,hni,T⟩:=O.obj;have hp:(backTo cpos (starEach [e] (envOfC qual scope s.heap.objs.size f cd))).any (·.1)=false:=by rw[he];rfl
 refine wpAny_Raise_call_subU (nm:=nm) (q:=q) (N:=N') (bs:=bs) (hdct:=hdct) (sn:=sn) (sub:=sub) (ab:=ab) (col:=col) (dd:=dd) (k0:=k0) (k1:=k1) (k2:=k2) (k3:=k3) (k5:=k5)
  Fn hBn FB (T.hasType FB.hasBase) (I.ok.hd rfl) hp hni (jq I hg O.bound ⟨rfl, ?_⟩ hd)
 have h2:=ha cpos _ s1 σ H1 _ I hw;have he' :starEach [e] (jL (CX1 P w) P w K mg base N _ _ f cd A outer s H E).env=[(false,eval e _)]:=he;rw[he']at h2 ⊢;refine fq (thn h2 λus s2 ⟨vs,H2,I2,r,hl,hE⟩=>⟨rfl,by rw[← r.length];exact hl,I2.bk _ _ hC,hN.keeps I2.bk,T.keeps I2.bk,λh' ea hx=> ?_⟩)
 have hin:∀env∈(jL (CX1 P w) P w K mg base N qual scope f cd A outer s H E).stack,∀b,env.frame=some b->b∈frs _:=λenv he b hb=>d6.mpr ⟨env,he,hb⟩;exact wpAny_leaves_madeW I2.ok.frames rfl (λb o q=>of_hideAll _ q) (funFrames_hide I2.stack hin) hx λh'' t' fl _ _ sl=>
  ⟨ea,.ref C,.ref t',_,H2,rfl,uV.made I2 rfl rfl rfl hx fl sl,hE⟩
end
end L2
namespace L2
open PySem PySem.Spec PyProof.Rows PySem.W
theorem Z9.there (x:Z9 P w H h a o):∃ob,h.get? a=some ob:=by
 cases o with
 | lst xs=>obtain⟨_,_,_,_,e⟩:=x;exact⟨_,e⟩
 | tup xs=>obtain⟨_,_,_,⟨_,e,_⟩,_⟩:=x;exact⟨_,e⟩
 | dK kvs=>obtain⟨_,_,_,_,o,_,_,e,_⟩:=x;exact⟨_,e⟩
 | dT kvs=>obtain⟨_,_,_,_,o,_,_,e,_⟩:=x;exact⟨_,e⟩
 | set S n=>obtain⟨o,_,_,_,e,_⟩:=x;exact⟨_,e⟩
 | ins C dx fs=>obtain⟨_,_,_,e,_⟩:=x;exact⟨_,e⟩
 | own y=>obtain⟨_,e⟩:=x;exact⟨_,e⟩
 | xd fs=>obtain⟨_,⟨_,_,_,e,_⟩,_⟩:=x;exact⟨_,e⟩
 | rng lo hi=>obtain⟨_,_,_,e⟩:=x;exact⟨_,e⟩
 | frz ob u=>obtain⟨e,_⟩:=x;exact⟨_,e⟩
 | tbl ps q=>obtain⟨_,e,_⟩:=x;exact⟨_,e⟩
 | met f y=>exact⟨_,(x)⟩
 | ext φ=>obtain⟨_,e,_⟩:=x;exact e
noncomputable def yW (cls:Value)(a:Addr)(h:Heap):Prop:=∃o,h.get? a=some o/\o.cls=cls
theorem yW.ok (x:yW cls a h):Z9 P w H h a (.ext (yW cls a)):=
 ⟨x,let ⟨o,e,_⟩:=x;⟨o,e⟩,λ_ _ ⟨o,e,c⟩ k=>⟨o,k o e,c⟩⟩
noncomputable abbrev Cx.try' (X:Cx)(pn:List (Addr×Obj))(xe:Value->Shared->Prop):Cx:={ X with pn:=pn,xe:=xe }
noncomputable abbrev Cx.mark' (X:Cx)(e:Value):Cx:={ X with A:=X.A.mark (some e),calm:=false,xe:=λ_ _=>False }
section
variable {X:Cx}{pins pins' :List (Addr×Obj)}{σ:St}{H H' :Hp}{s s' :Shared}{xe:Value->Shared->Prop}
theorem Cx.Ok.try' (ok:X.Ok){pn:List (Addr×Obj)}:(X.try' pn xe).Ok:=
 ⟨ok.mod,ok.kind,ok.glob,ok.blt,ok.above,ok.inj,ok.has,ok.cab,ok.hd,ok.frames,ok.stk,ok.exf,ok.bs,ok.bsz,ok.noex,ok.exfs,ok.funs,ok.frf⟩
theorem Cx.Ok.untry {pn:List (Addr×Obj)}(ok:(X.try' pn xe).Ok):X.Ok:=
 ⟨ok.mod,ok.kind,ok.glob,ok.blt,ok.above,ok.inj,ok.has,ok.cab,ok.hd,ok.frames,ok.stk,ok.exf,ok.bs,ok.bsz,ok.noex,ok.exfs,ok.funs,ok.frf⟩
theorem Inv.try' (I:Inv X pins σ H s)(xe:Value->Shared->Prop):Inv (X.try' (X.pn++pins) xe) [] σ H s:=
 ⟨I.ok.try',I.os,I.bare,I.base,I.loc,I.cell,I.free,I.freeC,λp hp=>I.pin p (by simpa using hp),I.hok,I.len⟩
theorem Inv.untry (I:Inv (X.try' (X.pn++pins) xe) pins' σ H s):Inv X pins σ H s:=
 ⟨I.ok.untry,I.os,I.bare,I.base,I.loc,I.cell,I.free,I.freeC,λp hp=>I.pin p (bY _ hp),I.hok,I.len⟩
theorem Inv.mark' (I:Inv X pins σ H s)(e:Value):Inv (X.mark' e) pins σ H s:=
 ⟨⟨I.ok.mod,I.ok.kind,I.ok.glob,I.ok.blt,I.ok.above,I.ok.inj,I.ok.has,I.ok.cab,λz=>(by cases z),I.ok.frames,I.ok.stk,I.ok.exf,I.ok.bs,I.ok.bsz,I.ok.noex,I.ok.exfs,I.ok.funs,I.ok.frf⟩,I.os,I.bare,I.base,I.loc,I.cell,I.free,I.freeC,I.pin,I.hok,I.len⟩
theorem Inv.unmark (I:Inv (X.mark' e) pins σ H s)(hd:X.calm=true->X.A.handled=none):Inv X pins σ H s:=
 ⟨⟨I.ok.mod,I.ok.kind,I.ok.glob,I.ok.blt,I.ok.above,I.ok.inj,I.ok.has,I.ok.cab,hd,I.ok.frames,I.ok.stk,I.ok.exf,I.ok.bs,I.ok.bsz,I.ok.noex,I.ok.exfs,I.ok.funs,I.ok.frf⟩,I.os,I.bare,I.base,I.loc,I.cell,I.free,I.freeC,I.pin,I.hok,I.len⟩
theorem SP.untry {D:yj}{f:Flow}(h:SP (X.try' (X.pn++pins) xe) pins' D f s'):SP X pins D f s' :=by
 cases f with
 | next=>obtain⟨σ',H',I,q⟩:=h;exact⟨σ',H',I.untry,q⟩
 | brk=>obtain⟨σ',H',I,q⟩:=h;exact⟨σ',H',I.untry,q⟩
 | cont=>obtain⟨σ',H',I,q⟩:=h;exact⟨σ',H',I.untry,q⟩
 | ret u=>obtain⟨v,σ',H',I,r,q⟩:=h;exact⟨v,σ',H',I.untry,r,q⟩
theorem VW {Q:Unit->Shared->Prop}(I:Inv X pins σ H s)(hN:X.N.Nodup)(hi:X.N[i]? =some n)(hl:X.env.kindOf n=some .local)(h:∀s',Inv X pins (σ.set i none) H s' ->Q () s'):
  wpAny M A (do bindName X.env n .none;unbindBehindTheSuite X.env n pos) Q E s:=by
 obtain⟨m,hn,hlo⟩:=id I.loc;have hcls:(X.env.scope.kind == .class || (X.env.scope.kind == .module && X.env.locals != X.env.globals))=false:=by rw[I.ok.kind];rfl
 refine wpAny_nameGoes_keeps hl hn hcls λh' v hn' hs=> ?_;refine h _ ⟨I.ok,I.os,I.bare,⟨λb o e n hb hx=> ?_,λb o e n hb hx=> ?_,I.base.free,λb o e hx=> ?_,I.base.tups,I.base.frzs,I.base.tbls⟩,⟨_,hn',λj y v' e1 e2 e3=> ?_⟩,λy c e=> ?_,I.free,I.freeC,λp hp=> ?_,λb ob e=> ?_,by simpa using I.len⟩
 ·exact(hs.2 b (aC (aH (aq e) I.ok.above))).trans (I.base.keep b o e n hb hx)
 ·obtain⟨sl,e1⟩:=I.base.slot b o e n hb hx;exact⟨sl,(hs.2 b (aC (aH (aq e) I.ok.above))).trans e1⟩
 ·obtain⟨o',e1⟩:=I.base.there b o e hx;exact⟨o',(hs.2 b (aC (aH (aq e) I.ok.above))).trans e1⟩
 ·by_cases hj:j=i
  ·subst hj;have hiσ:j < σ.length:=by rw[I.len];exact(ar.mp hi).1
   rw[aL hiσ]at e2;cases e2
  ·rw[aw (aZ hj)]at e2;obtain⟨u',r',q⟩:=hlo j y v' e1 e2 e3;refine⟨u',r', ?_⟩;rcases q with ⟨k,e⟩ | ⟨k,c,e,z⟩
   ·refine .inl ⟨k, ?_⟩;have:y ≠ n:=λe=>hj (wF hN e1 (e ▸ hi));simp[this,e]
   ·exact .inr ⟨k,c,e,z.sameBut hs (I.cne y c e)⟩
 ·obtain⟨w',z⟩:=I.cell y c e;exact⟨w',z.sameBut hs (I.cne y c e)⟩
 ·obtain⟨e,n,ne,nf,d⟩:=I.pin p hp;exact⟨(hs.2 p.1 ne).trans e,n,ne,nf,d⟩
 ·refine(I.hok b ob e).stay (λc w' hc q=>(hs.2 c ?_).trans q) (λ_ q=>q) λ_ _ q=>q
  rintro rfl
  rcases hc with rfl | hc
  ·rw[I.free]at e;cases e
  ·rw[I.free]at hc;cases hc
end
section
theorem UQ {K:Frag}{e:Addr}{cls c:Value}{t:Expr}{n:Str}{b₀:Stmt}{suite:List Stmt}{pos:Pos}{rest:List ExceptHandler}{Q:Flow->Shared->Prop}(hx:exmOne K cls c=some true)
  (h:wpAny (model prog w) (A.mark (some (.ref e))) (eval t env) (λv s₁=>v=c/\K.In s₁.heap/\(∃oe,s₁.heap.get? e=some oe/\oe.cls=cls)/\
   wpAny (model prog w) (A.mark (some (.ref e))) (setFlight (.ref e) none) (λ_ s₂=>
     wpAny (model prog w) (A.mark (some (.ref e))) (storeName env n (.ref e)) (λ_ s₃=>
      wpAny (model prog w) (A.mark (some (.ref e))) (execs (b₀ :: suite) env)
       (λf s₄=>wpAny (model prog w) A (do bindName env n .none;unbindBehindTheSuite env n pos) (λ_ s₅=>Q f s₅) E s₄)
       (λ_ _=>False) s₃) (λ_ _=>False) s₂) (λ_ _=>False) s₁) (λ_ _=>False) s):
  wpAny (model prog w) A (handleBy (.ref e) env (.ExceptHandler (some t) (some n) (b₀ :: suite) pos :: rest)) Q E s:=by
 refine wpAny_handleBy_cons (codeAny_handlers_test (bI h (λv s₁ h₁=> ?_) λ_ _ y=>y.elim)) (by intro q;cases q)
 obtain⟨rfl,X,⟨oe,he,hcls⟩,hk⟩:=h₁;have LT:Looks (model prog w) s₁.heap (typeOf (.ref e)) cls:=by
  rw[← hcls];exact(Looks.ld he).andThen .now
 refine(exm_one X LT hx) _ _ _ _ (λb o q=>q) (codeAny_handlers_suite_as ?_);exact bI hk (λ_ s₂ h₂=>bI h₂ (λ_ s₃ h₃=>bI h₃ (λ_ _ y=>y) λ_ _ y=>y.elim) λ_ _ y=>y.elim) λ_ _ y=>y.elim
end
end L2
namespace L2
open PySem PySem.Spec PyProof.Rows PySem.W
section
theorem Inv.caught (I:Inv X pins σ H s)(L:uV X.prog X.w X.stack H s s' ea cls a0 B H')(fl:df B X.stack ea cls a0 h3)(sl:s'.heap.UpToSlots h3):Inv X pins σ H' { s' with heap:=h3 }:=
 have L3:=L.on I.frNf fl sl
 I.call' L3.os L3.un (L.hok.kept fl.1) L3.bare (λb z=>absurd z (by simp))
theorem uV.fresh (L:uV P w outer H s s' ea cls a0 B H'):H' ea=none:=by
 cases q:H' ea with
 | none=>rfl
 | some o=>
  obtain⟨ob,e⟩:=(L.hok ea o q).there;have:=L.fly.2.1;rw[e]at this;cases this
theorem Inv.caughtX (I:Inv X pins σ H s)(L:uV X.prog X.w X.stack H s s' ea cls a0 B H')(fl:df B X.stack ea cls a0 h3)(sl:s'.heap.UpToSlots h3):Inv X pins σ (upd H' ea (.ext (yW cls ea))) { s' with heap:=h3 }:=by
 have L3:=L.on I.frNf fl sl;have hfree:=L.fresh;obtain⟨oe,vs,he,hc,hd,_⟩:=fl.first;have hne:∀b o,s.heap.get? b=some o->b ≠ ea:=λb o e z=>by
  subst z
  by_cases hb:b∈frs X.stack
  ·obtain⟨n,o2,e2,nf⟩:=I.frNf b hb;obtain⟨sl1,e3⟩:=L3.un.slot b o2 e2 n hb (by simp)
   rw[he]at e3;cases e3;exact nf vs hd
  ·obtain⟨o',e'⟩:=(L.inB b o e hb).2;have:=L.fly.2.1;rw[e']at this;cases this
 have nt:∀b u,H' b=some u->b ≠ ea:=λb u e z=>by rw[z,hfree]at e;cases e
 refine I.call' L3.os ⟨L3.un.keep,L3.un.slot,λb o e n hx=> ?_,L3.un.there,λb xs e=> ?_,λb o xs e=> ?_,λb ps q e=> ?_⟩ ?_ L3.bare (λb z=>absurd z (by simp))
 ·rw[zt (hne b o e)];exact L3.un.free b o e n hx
 ·have:=L3.un.tups b xs e;rw[zt (nt b _ this)];exact this
 ·have:=L3.un.frzs b o xs e;rw[zt (nt b _ this)];exact this
 ·have:=L3.un.tbls b ps q e;rw[zt (nt b _ this)];exact this
 ·intro b u e
  by_cases hb:b=ea
  ·subst hb;rw[zx]at e;cases e;exact yW.ok ⟨oe,he,hc⟩
  ·rw[zt hb]at e;exact((L.hok.kept fl.1) b u e).stay (λ_ _ _ q=>q) (λc q=>by rw[zt (nt c _ q)];exact q) (λc xs q=>by rw[zt (nt c _ q)];exact q) λc o u q=>by rw[zt (nt c _ q)];exact q
end
end L2
namespace PySem
open PySem.W
section
end
end PySem
namespace L2
open PySem PySem.Spec PyProof.Rows PySem.W
section
def kF (X:Cx)(E:XK):Prop:=∀(pins:List (Addr×Obj)) (σ:St) (H:Hp) (s:Shared) (e:Value) (s' :Shared) (C:Addr) (m:Str->Option Value) (E' :Value->Shared->Prop) (cenv:Env),Inv X pins σ H s->s.heap.Ns C m->H C=none->X.s₀.heap.objs.size<=C->C ∉ frs X.stack->cenv.frame=X.env.frame->CX1 X.prog X.w X.stack H s E e s' ->
 wpAny (model X.prog X.w) X.A (noteFrame e cenv) (λ_ s'' =>∃m,s''.heap.Ns C m/\∀h',bZ C s''.heap h' ->∀env:Env,env.locals=C->wpAny (model X.prog X.w) X.A (passOn "comprehension.variables-let-go" e env:Sem Value) (λ_ _=>False) X.xe { s'' with heap:=h' }) E' s'
theorem jR (h:E=λ_ _ _=>False):kF X E:=λpins σ H s e s' C m E' cenv I _ _ _ _ _ ⟨_,_,_,_,_,_,_,z⟩=>by subst h;exact z.elim
end
end L2
namespace L2
open PySem PySem.Spec PyProof.Rows
theorem PE.imp (h:PE X e t)(i:∀σ H Q,t' σ H Q->t σ H Q):PE X e t' :=λpins s σ H Q I q=>h _ s σ H Q I (i σ H Q q)
theorem PT.imp (h:PT X e t)(i:∀σ H Q,t' σ H Q->t σ H Q):PT X e t' :=λpins s σ H Q I q=>h _ s σ H Q I (i σ H Q q)
theorem PA.imp (h:PA X e t)(i:∀σ H Q,t' σ H Q->t σ H Q):PA X e t' :=λpos pins s σ H Q I q=>h pos _ s σ H Q I (i σ H Q q)
theorem PS.imp (h:PS X e t)(i:∀D σ H,t' D σ H->t D σ H):PS X e t' :=λpins s σ H D I q=>h _ s σ H D I (i D σ H q)
theorem PSs.imp (h:PSs X e t)(i:∀D σ H,t' D σ H->t D σ H):PSs X e t' :=λpins s σ H D I q=>h _ s σ H D I (i D σ H q)
end L2
namespace PV
open PySem
noncomputable def Ww:Expr->Bool
 | .Starred _ _=>false
 | _=>true
theorem zC (h:Ww e=true):starEach (e :: rest) env=(false,eval e env) :: starEach rest env:=by
 cases e <;> first | rfl | cases h
theorem st2 (h:Ww a=true)(h' :Ww b=true):starEach [a,b] env=[(false,eval a env),(false,eval b env)]:=by
 rw[zC h,zC h'];rfl
theorem st1 (h:Ww a=true):starEach [a] env=[(false,eval a env)]:=by
 rw[zC h];rfl
theorem Zd {pos:Pos}{env:Env}:∀{es:List Expr},es.all Ww=true->((backTo pos (starEach es env)).any λx=>x.fst)=false
 | [],_=>rfl
 | e :: es,h=>by
  rw[cY,ae]at h;rw[zC h.1];have:=Zd (pos:=pos) (env:=env) h.2;show (false || ((backTo pos _).any λx=>x.fst))=false
  rw[this];rfl
open PySem PySem.Spec PyProof.Rows L2
noncomputable abbrev Sg:=L2.St
inductive T where
 | non | bl (b:Bool) | int (i:Int) | str (x:Str) | tup (xs:List T) | lst (xs:List T) | fz (xs:List T)
inductive R (α:Type) where
 | ok (a:α) | ex (c:Nat) | bad
noncomputable def R.bind {α β:Type}(r:R α)(f:α->R β):R β:=match r with
 | .ok a=>f a
 | .ex c=> .ex c
 | .bad=> .bad
mutual
inductive Rep (H:Hp):V->T->Prop where
 | non:Rep H .non .non
 | bl (b:Bool):Rep H (.bl b) (.bl b)
 | int (i:Int):Rep H (.int i) (.int i)
 | str (x:Str):Rep H (.str x) (.str x)
 | tup {a:Addr} {xs:List V} {ts:List T}:H a=some (.tup xs)->zE H xs ts->Rep H (.ref a) (.tup ts)
 | lst {a:Addr} {xs:List V} {ts:List T}:H a=some (.lst xs)->zE H xs ts->Rep H (.ref a) (.lst ts)
 | fz {a:Addr} {o:Obj} {xs:List V} {ts:List T}:H a=some (.frz o (.lst xs))->zE H xs ts->Rep H (.ref a) (.fz ts)
inductive zE (H:Hp):List V->List T->Prop where
 | nil:zE H [] []
 | cons {v:V} {t:T} {vs:List V} {ts:List T}:Rep H v t->zE H vs ts->zE H (v :: vs) (t :: ts)
end
mutual
theorem Rep.mono {H H' :Hp}(s:zu H H'):∀{v:V} {t:T},Rep H v t->Rep H' v t
 | _,_,.non=> .non
 | _,_,.bl b=> .bl b
 | _,_,.int i=> .int i
 | _,_,.str x=> .str x
 | _,_,.tup h r=> .tup (s _ _ h) (zE.mono s r)
 | _,_,.lst h r=> .lst (s _ _ h) (zE.mono s r)
 | _,_,.fz h r=> .fz (s _ _ h) (zE.mono s r)
theorem zE.mono {H H' :Hp}(s:zu H H'):∀{v:List V} {t:List T},zE H v t->zE H' v t
 | _,_,.nil=> .nil
 | _,_,.cons h r=> .cons (Rep.mono s h) (zE.mono s r)
end
theorem zE.length {H:Hp}:∀{vs:List V} {ts:List T},zE H vs ts->vs.length=ts.length
 | _,_,.nil=>rfl
 | _,_,.cons _ r=>congrArg _ (zE.length r)
theorem zE.get {H:Hp}:∀{vs:List V} {ts:List T} {i:Nat} {t:T},zE H vs ts->ts[i]? =some t->∃v,vs[i]? =some v/\Rep H v t
 | _,_,_,_,.nil,e=>by simp at e
 | _,_,0,_,.cons r _,e=>by simp at e;subst e;exact⟨_,rfl,r⟩
 | _,_,i+1,t,.cons _ q,e=>by
  obtain⟨v,h1,h2⟩:=zE.get q (by simpa using e)
  exact⟨v,by simpa using h1,h2⟩
theorem zE.getV {H:Hp}:∀{vs:List V} {ts:List T} {i:Nat} {v:V},zE H vs ts->vs[i]? =some v->∃t,ts[i]? =some t/\Rep H v t
 | _,_,_,_,.nil,e=>by simp at e
 | _,_,0,_,.cons r _,e=>by simp at e;subst e;exact⟨_,rfl,r⟩
 | _,_,i+1,v,.cons _ q,e=>by
  obtain⟨t,h1,h2⟩:=zE.getV q (by simpa using e)
  exact⟨t,by simpa using h1,h2⟩
theorem zE.append {H:Hp}:∀{vs ws:List V} {ts us:List T},zE H vs ts->zE H ws us->zE H (vs++ws) (ts++us)
 | _,_,_,_,.nil,q=>q
 | _,_,_,_,.cons r t,q=> .cons r (zE.append t q)
theorem zE.take {H:Hp}:∀{vs:List V} {ts:List T} (n:Nat),zE H vs ts->zE H (vs.take n) (ts.take n)
 | _,_,0,_=> .nil
 | _,_,_+1,.nil=> .nil
 | _,_,n+1,.cons r t=> .cons r (zE.take n t)
theorem zE.drop {H:Hp}:∀{vs:List V} {ts:List T} (n:Nat),zE H vs ts->zE H (vs.drop n) (ts.drop n)
 | _,_,0,r=>r
 | _,_,_+1,.nil=> .nil
 | _,_,n+1,.cons _ t=>zE.drop n t
theorem zE.rep {H:Hp}{vs:List V}{ts:List T}(h:zE H vs ts):∀n:Nat,zE H (aj n vs).flatten (aj n ts).flatten
 | 0=> .nil
 | n+1=>by
  exact h.append (zE.rep h n)
theorem zE.nil_iff (h:zE H vs ts):vs=[]↔ts=[]:=by
 cases h <;> simp
def zM (B H H' :Hp):Hp:=λb=>match H b with
 | none=>H' b
 | some _=>B b
theorem zY (h:H b=none):zM B H H' b=H' b:=by unfold zM;rw[h]
theorem Z7 (h:H b=some o):zM B H H' b=B b:=by unfold zM;rw[h]
theorem zM.ge (s:zu B H)(s' :zu H H'):zu B (zM B H H'):=λb o h=>by
 rw[Z7 (s b o h)];exact h
theorem zM.le (s:zu B H)(s' :zu H H'):zu (zM B H H') H' :=λb o h=>by
 cases q:H b with
 | none=>rw[zY q]at h;exact h
 | some u=>rw[Z7 q]at h;exact s' b o (s b o h)
theorem zM.self (B H:Hp)(s:zu B H):zM B H H=B:=by
 funext b
 cases q:H b with
 | none=>
  rw[zY q,q];cases z:B b with
  | none=>rfl
  | some o=>rw[s b o z]at q;cases q
 | some u=>rw[Z7 q]
theorem zM.trans (s1:zu H H1)(s2:zu H1 H2):zM (zM B H H1) H1 H2=zM B H H2:=by
 funext b
 cases q:H b with
 | none=>
  rw[zY q];cases z:H1 b with
  | none=>rw[zY z]
  | some o=>rw[Z7 z,zY q,z,s2 b o z]
 | some u=>rw[Z7 q,Z7 (s1 b u q),Z7 q]
inductive Fd where
 | tv (t:T) | tl (ts:List T)
noncomputable abbrev Ob:=Nat×List (Str×Fd)
noncomputable def Q8:List Str:=["kind","remaining","done","undone","first","last","answered"]
def InC (vs:List (Str×V)):Prop:=∀f,f ∉ Q8->vs.lookup f=none
inductive Sl where
 | un | vl (t:T) | ow (ts:List T) | xc (c:Nat) | ob (k n:Nat) | oc (k:Nat) (fs:List (Str×Fd)) | st (os:List Ob)
noncomputable def Sl.isS:Sl->Bool
 | .ob _ _=>true
 | .st _=>true
 | _=>false
noncomputable def Sl.isO:Sl->Bool
 | .ob _ _=>true
 | .oc _ _=>true
 | .st _=>true
 | _=>false
noncomputable abbrev En:=List Sl
structure Fx where
 B0:Hp
 H0:Hp
 E:XK
 cl:Nat->Value
 as:List Addr
def Wx (ρ:En)(σ:Sg)(l:Addr):Prop:=∀(j:Nat) (us:List T),ρ[j]? =some (Sl.ow us)->σ[j]? ≠ some (some (V.ref l))
def FdR (Y:Fx)(B:Hp)(ρ:En)(σ:Sg)(H:Hp)(o:Addr->Prop)(v:V):Fd->Prop
 | .tv t=>Rep B v t
 | .tl ts=>∃l xs,v= .ref l/\B l=none/\Y.H0 l=none/\H l=some (.lst xs)/\zE B xs ts/\Wx ρ σ l/\o l
def FsO (B H:Hp)(vs:List (Str×V))(fs:List (Str×Fd)):Prop:=∀(m:Nat) (f:Str) (d:Fd),fs[m]? =some (f,d)->∃v,vs[m]? =some (f,v)/\match d with
 | .tv t=>Rep B v t
 | .tl ts=>∃l xs,v= .ref l/\H l=some (.lst xs)/\zE B xs ts
theorem FsO.mono {B B' H H' :Hp}{vs:List (Str×V)}{fs:List (Str×Fd)}(h:FsO B H vs fs)(s:zu B B')(s' :zu H H'):FsO B' H' vs fs:=λm f d e=>by
 obtain⟨v,e1,r⟩:=h m f d e;refine⟨v,e1, ?_⟩;cases d with
 | tv t=>exact Rep.mono s r
 | tl ts=>obtain⟨l,xs,a,b,c⟩:=r;exact⟨l,xs,a,s' _ _ b,c.mono s⟩
structure StI (Y:Fx) (B:Hp) (ρ:En) (σ:Sg) (H:Hp) (as:List Addr) (O:Addr->Option (Nat×Nat)):Prop where
 pre:Y.as <+:as
 len:∀(i:Nat) (os:List Ob),ρ[i]? =some (Sl.st os)->as.length=os.length
 one:∀(i j:Nat) (os os' :List Ob),ρ[i]? =some (Sl.st os)->ρ[j]? =some (Sl.st os')->i=j
 ob:∀(i k n:Nat),ρ[i]? =some (Sl.ob k n)->∃a C dx vs,as[n]? =some a/\σ[i]? =some (some (V.ref a))/\Y.cl k= .ref C/\H a=some (.ins C dx vs)/\B a=none/\Y.H0 a=none/\InC vs
 oc:∀(i k:Nat) (fs:List (Str×Fd)),ρ[i]? =some (Sl.oc k fs)->∃a C dx vs,σ[i]? =some (some (V.ref a))/\Y.cl k= .ref C/\Y.H0 a=some (.ins C dx vs)/\InC vs/\FsO B Y.H0 vs fs
 st:∀(i:Nat) (os:List Ob),ρ[i]? =some (Sl.st os)->∀(n k:Nat) (fs:List (Str×Fd)),os[n]? =some (k,fs)->∃a C dx vs,as[n]? =some a/\Y.cl k= .ref C/\H a=some (.ins C dx vs)/\B a=none/\Y.H0 a=none/\O a=some (n,0)/\(vs.length=fs.length/\InC vs)/\
  ∀(m:Nat) (f:Str) (d:Fd),fs[m]? =some (f,d)->∃v,vs[m]? =some (f,v)/\FdR Y B ρ σ H (λl=>O l=some (n,m+1)) v d
structure SI (Y:Fx) (B:Hp) (ρ:En) (σ:Sg) (H:Hp):Prop where
 s0:zu Y.B0 Y.H0
 sH:zu Y.H0 H
 sB:zu B H
 old:∀b o,Y.H0 b=some o->B b=Y.B0 b
 len:ρ.length=σ.length
 vl:∀(i:Nat) (t:T),ρ[i]? =some (Sl.vl t)->∃v:V,σ[i]? =some (some v)/\Rep B v t
 ow:∀(i:Nat) (ts:List T),ρ[i]? =some (Sl.ow ts)->∃(a:Addr) (xs:List V),σ[i]? =some (some (V.ref a))/\B a=none/\Y.H0 a=none/\H a=some (.lst xs)/\zE B xs ts/\
  ∀(j:Nat) (us:List T),j ≠ i->ρ[j]? =some (Sl.ow us)->σ[j]? ≠ some (some (V.ref a))
 xc:∀(i:Nat) (c:Nat),ρ[i]? =some (Sl.xc c)->∃a:Addr,σ[i]? =some (some (V.ref a))/\B a=some (.ext (yW (Y.cl c) a))
 st:∃as O,StI Y B ρ σ H as O
theorem StI.on {Y Y' :Fx}{B B' :Hp}{ρ ρ' :En}{σ σ' :Sg}{H H' :Hp}{as:List Addr}{O:Addr->Option (Nat×Nat)}(x:StI Y B ρ σ H as O)(hO:∀(i:Nat) (s:Sl),s.isO=true->ρ'[i]? =some s->ρ[i]? =some s/\σ'[i]? =σ[i]?)(hB:zu B B')(hc:Y'.cl=Y.cl)(hA:Y'.as=Y.as)(h0:zu Y.H0 Y'.H0)
  (hH:∀b o,H b=some o->B b=none->Y.H0 b=none->((∃C dx vs,o= .ins C dx vs)\/Wx ρ σ b)->H' b=some o/\B' b=none/\Y'.H0 b=none/\(Wx ρ σ b->Wx ρ' σ' b)):StI Y' B' ρ' σ' H' as O where
 pre:=by rw[hA];exact x.pre
 len:=λi os h=>x.len i os (hO i _ rfl h).1
 one:=λi j os os' h1 h2=>x.one i j os os' (hO i _ rfl h1).1 (hO j _ rfl h2).1
 ob:=λi k n h=>by
  obtain⟨h1,h2⟩:=hO i _ rfl h;obtain⟨a,C,dx,vs,e1,e2,e3,e4,e5,e6⟩:=x.ob i k n h1;obtain⟨g1,g2,g3,_⟩:=hH a _ e4 e5 e6.1 (.inl ⟨_,_,_,rfl⟩);rw[h2,hc];exact⟨a,C,dx,vs,e1,e2,e3,g1,g2,g3,e6.2⟩
 oc:=λi k fs h=>by
  obtain⟨h1,h2⟩:=hO i _ rfl h;obtain⟨a,C,dx,vs,e1,e2,e3,e4,e5⟩:=x.oc i k fs h1;rw[h2,hc];exact⟨a,C,dx,vs,e1,e2,h0 _ _ e3,e4,e5.mono hB h0⟩
 st:=λi os h n k fs e=>by
  obtain⟨a,C,dx,vs,e1,e2,e3,e4,e5,e6,e7,e8⟩:=x.st i os (hO i _ rfl h).1 n k fs e;obtain⟨g1,g2,g3,_⟩:=hH a _ e3 e4 e5 (.inl ⟨_,_,_,rfl⟩);refine⟨a,C,dx,vs,e1,by rw[hc];exact e2,g1,g2,g3,e6,e7,λm f d z=> ?_⟩
  obtain⟨v,z1,z2⟩:=e8 m f d z;refine⟨v,z1, ?_⟩;cases d with
  | tv t=>exact Rep.mono hB z2
  | tl ts=>
   obtain⟨l,xs,p1,p2,p3,p4,p5,p6,p7⟩:=z2;obtain⟨g1,g2,g3,g4⟩:=hH l _ p4 p2 p3 (.inr p6);exact⟨l,xs,p1,g2,g3,g1,p5.mono hB,g4 p6,p7⟩
theorem StI.no (h:∀(i:Nat) (s:Sl),s.isO=true->ρ[i]? ≠ some s):∃as O,StI Y B ρ σ H as O:=⟨Y.as,λ_=>none,bO _,λi os e=>(h i _ rfl e).elim,λi j os os' e=>(h i _ rfl e).elim,λi k n e=>(h i _ rfl e).elim,λi k fs e=>(h i _ rfl e).elim,λi os e=>(h i _ rfl e).elim⟩
theorem SI.grow {Y:Fx}{B:Hp}{ρ:En}{σ:Sg}{H H' :Hp}(I:SI Y B ρ σ H)(s:zu H H'):SI Y (zM B H H') ρ σ H' where
 s0:=I.s0
 sH:=I.sH.trans s
 sB:=zM.le I.sB s
 old:=λb o h=>by rw[Z7 (I.sH b o h)];exact I.old b o h
 len:=I.len
 vl:=λi t h=>let ⟨v,e,r⟩:=I.vl i t h;⟨v,e,r.mono (zM.ge I.sB s)⟩
 ow:=λi ts h=>let ⟨a,xs,e,b,h0,hh,r,d⟩:=I.ow i ts h;⟨a,xs,e,by rw[Z7 hh];exact b,h0,s _ _ hh,r.mono (zM.ge I.sB s),d⟩
 xc:=λi c h=>let ⟨a,e,r⟩:=I.xc i c h;⟨a,e,zM.ge I.sB s a _ r⟩
 st:=let ⟨as,O,x⟩:=I.st;⟨as,O,x.on (λ_ _ _ h=>⟨h,rfl⟩) (zM.ge I.sB s) rfl rfl (zu.refl _) λb o h hb h0 _=>⟨s _ _ h,by rw[Z7 h];exact hb,h0,id⟩⟩
def XP (Y:Fx)(B:Hp)(c:Nat):Prop:=∀(d:Option Addr) (H' :Hp),zu Y.H0 H' ->zu B H' ->Y.E (Y.cl c) d H'
def Po {α β:Type}(Y:Fx)(rel:Hp->Hp->β->α->Prop)(B H:Hp)(r:R α)(Q:β->Hp->Prop):Prop:=match r with
 | .ok a=>∀b H',zu H H' ->rel (zM B H H') H' b a->Q b H'
 | .ex c=>XP Y B c
 | .bad=>False
abbrev rC:Hp->Hp->V->T->Prop:=λB _ v t=>Rep B v t
abbrev rB:Hp->Hp->V->T->Prop:=λ_ H v t=>Rep H v t
abbrev rCs:Hp->Hp->List V->List T->Prop:=λB _ v t=>zE B v t
abbrev rE {α:Type}:Hp->Hp->α->α->Prop:=λ_ _ a b=>a=b
def tS {α β:Type}(Y:Fx)(rel:Hp->Hp->β->α->Prop)(f:En->R α)(ρ:En):Sg->Hp->(β->Hp->Prop)->Prop:=λσ H Q=>∃B,SI Y B ρ σ H/\Po Y rel B H (f ρ) Q
structure Snd (X:Cx) (Y:Fx) (e:Expr) (f:En->R T):Prop where
 mk ::
 go:∀ρ,PE X e (tS Y rC f ρ)
instance {X:Cx}{Y:Fx}{e:Expr}{f:En->R T}:CoeFun (Snd X Y e f) λ_=>∀ρ,PE X e (tS Y rC f ρ):=⟨Snd.go⟩
structure ZZ (X:Cx) (Y:Fx) (e:Expr) (f:En->R T):Prop where
 mk ::
 go:∀ρ,PE X e (tS Y rB f ρ)
instance {X:Cx}{Y:Fx}{e:Expr}{f:En->R T}:CoeFun (ZZ X Y e f) λ_=>∀ρ,PE X e (tS Y rB f ρ):=⟨ZZ.go⟩
structure wL (X:Cx) (Y:Fx) (e:Expr) (f:En->R Bool):Prop where
 mk ::
 go:∀ρ,PT X e (tS Y rE f ρ)
instance {X:Cx}{Y:Fx}{e:Expr}{f:En->R Bool}:CoeFun (wL X Y e f) λ_=>∀ρ,PT X e (tS Y rE f ρ):=⟨wL.go⟩
structure wn (X:Cx) (Y:Fx) (es:List Expr) (f:En->R (List T)):Prop where
 mk ::
 go:∀ρ,PA X es (tS Y rCs f ρ)
instance {X:Cx}{Y:Fx}{es:List Expr}{f:En->R (List T)}:CoeFun (wn X Y es f) λ_=>∀ρ,PA X es (tS Y rCs f ρ):=⟨wn.go⟩
theorem step {α α' β β' :Type}{rel:Hp->Hp->β->α->Prop}{rel' :Hp->Hp->β' ->α' ->Prop}{f:En->R α}{k:α->R α'}{Q:β' ->Hp->Prop}{K:β->Hp->Prop}
  (I:SI Y B ρ σ H) (h:Po Y rel' B H ((f ρ).bind k) Q)
  (n:∀a b H1,f ρ= .ok a->zu H H1->rel (zM B H H1) H1 b a->SI Y (zM B H H1) ρ σ H1->Po Y rel' (zM B H H1) H1 (k a) Q->K b H1):tS Y rel f ρ σ H K:=by
 refine⟨B,I, ?_⟩;cases e:f ρ with
 | bad=>rw[e]at h;exact h
 | ex c=>rw[e]at h;exact h
 | ok a=>
  rw[e]at h;intro b H1 s r;refine n a b H1 e s r (I.grow s) ?_;have h' :Po Y _ B H (k a) Q:=h;revert h';cases k a with
  | bad=>exact λh' =>h'
  | ex c=>exact λh' d H' s0 sB' =>h' d H' s0 ((zM.ge I.sB s).trans sB')
  | ok a' =>exact λh' b' H2 s2 r2=>h' b' H2 (s.trans s2) (by rw[← zM.trans s s2];exact r2)
theorem ZB {α β:Type}{rel:Hp->Hp->β->α->Prop}{a:α}{b:β}{Q:β->Hp->Prop}(I:SI Y B ρ σ H)(h:Po Y rel B H (.ok a) Q)(r:rel B H b a):Q b H:=h b H (zu.refl H) (by rw[zM.self B H I.sB];exact r)
theorem Snd.b {X:Cx}{Y:Fx}{e:Expr}{f:En->R T}(h:Snd X Y e f):ZZ X Y e f:= .mk λρ=>PE.imp (h ρ) λσ H Q ⟨B,I,q⟩=>⟨B,I,by
 revert q;cases f ρ with
 | bad=>exact λq=>q
 | ex c=>exact λq=>q
 | ok a=>exact λq b H' s r=>q b H' s (r.mono (zM.le I.sB s))⟩
section
def vE (i:Nat):En->R T:=λρ=>match ρ[i]? with
 | some (.vl t)=> .ok t
 | _=> .bad
def vB (i:Nat):En->R T:=λρ=>match ρ[i]? with
 | some (.vl t)=> .ok t
 | some (.ow ts)=> .ok (.lst ts)
 | _=> .bad
def cE (t:T):En->R T:=λ_=> .ok t
theorem z0y (i:Nat)(h:PE X (.Name x pos) (jk i)):Snd X Y (.Name x pos) (vE i):= .mk λρ=>PE.imp h λσ H Q ⟨B,I,q⟩=>by
 unfold vE at q;split at q
 ·rename_i t e;obtain⟨v,e1,r⟩:=I.vl i t e;exact⟨v,e1,ZB I q r⟩
 ·exact q.elim
theorem kG (i:Nat){x:Str}(h:PE X (.Name x pos) (jk i)):ZZ X Y (.Name x pos) (vB i):= .mk λρ=>PE.imp h λσ H Q ⟨B,I,q⟩=>by
 unfold vB at q;split at q
 ·rename_i t e;obtain⟨v,e1,r⟩:=I.vl i t e;exact⟨v,e1,ZB I q (r.mono I.sB)⟩
 ·rename_i ts e;obtain⟨a,xs,e1,_,_,hh,r,_⟩:=I.ow i ts e;exact⟨.ref a,e1,ZB I q (.lst hh (r.mono I.sB))⟩
 ·exact q.elim
theorem z0z {i j}:Snd X Y (.Constant (.int i) j pos) (cE (.int i)):= .mk λρ=>PE.imp XZ λσ H Q ⟨B,I,q⟩=>ZB I q (.int i)
theorem s_bl {i j}:Snd X Y (.Constant (.bool i) j pos) (cE (.bl i)):= .mk λρ=>PE.imp z0b λσ H Q ⟨B,I,q⟩=>ZB I q (.bl i)
theorem kH {i j}:Snd X Y (.Constant (.str i) j pos) (cE (.str i)):= .mk λρ=>PE.imp vN λσ H Q ⟨B,I,q⟩=>ZB I q (.str i)
def zj:En->R (List T):=λ_=> .ok []
def z9 (f:En->R T)(g:En->R (List T)):En->R (List T):=λρ=>(f ρ).bind λt=>(g ρ).bind λts=> .ok (t :: ts)
theorem kI:wn X Y [] zj:= .mk λρ=>PA.imp zO λσ H Q ⟨B,I,q⟩=>ZB I q .nil
theorem vU {es:List Expr}{g:En->R (List T)}(h:Snd X Y a fa)(hs:wn X Y es g)(hq:starEach (a :: es) X.env=(false,eval a X.env) :: starEach es X.env:=by exact zC rfl):wn X Y (a :: es) (z9 fa g):= .mk λρ=>
 PA.imp (zy (h ρ) (hs ρ) hq) λσ H Q ⟨B,I,q⟩=>step I q λt v H1 _ s1 r1 I1 q1=>step I1 q1 λts vs H2 _ s2 r2 I2 q2=>ZB I2 q2 (.cons (r1.mono (zM.ge I1.sB s2)) r2)
theorem zu.new (h:H p=none)(o:HO):zu H (upd H p o):=λb u q=>by rw[zt (zL q h)];exact q
theorem j5 (h:H p=none)(o:HO):zM B H (upd H p o) p=some o:=by rw[zY h,zx]
noncomputable def bnd:Nat:=16777216
theorem Zg (h:n<=bnd):n<=sizeLine:=by exact h
def Zv (g:En->R (List T)):En->R T:=λρ=>(g ρ).bind λts=>if ts.length<=bnd then .ok (.tup ts) else .bad
def j6 (g:En->R (List T)):En->R T:=λρ=>(g ρ).bind λts=>if ts.length<=bnd then .ok (.lst ts) else .bad
theorem VX {ρ:En}{σ:Sg}{B H:Hp}{xs:List V}{ts:List T}(I:SI Y B ρ σ H)(r:zE B xs ts){p:Addr}(h:H p=none):Rep (zM B H (upd H p (.tup xs))) (.ref p) (.tup ts):=
 .tup (j5 h _) (r.mono (zM.ge I.sB (zu.new h _)))
theorem VY {ρ:En}{σ:Sg}{B H:Hp}{xs:List V}{ts:List T}(I:SI Y B ρ σ H)(r:zE B xs ts){p:Addr}(h:H p=none):Rep (zM B H (upd H p (.lst xs))) (.ref p) (.lst ts):=
 .lst (j5 h _) (r.mono (zM.ge I.sB (zu.new h _)))
theorem z0A {es:List Expr}{g:En->R (List T)}{x1}(h:wn X Y es g):Snd X Y (.Tuple es x1 pos) (Zv g):= .mk λρ=>PE.imp (uO (h ρ)) λσ H Q ⟨B,I,q⟩=>
 step I q λts vs H1 _ s1 r1 I1 q1=>by
  split at q1
  ·rename_i hb;refine⟨by rw[r1.length];exact Zg hb,λp hp=>q1 _ _ (zu.new hp _) (VX I1 r1 hp)⟩
  ·exact q1.elim
theorem z0B {es:List Expr}{g:En->R (List T)}(h:wn X Y es g):Snd X Y (.List es pos) (j6 g):= .mk λρ=>PE.imp (uP (h ρ)) λσ H Q ⟨B,I,q⟩=>
 step I q λts vs H1 _ s1 r1 I1 q1=>by
  split at q1
  ·rename_i hb;refine⟨by rw[r1.length];exact Zg hb,λp hp=>q1 _ _ (zu.new hp _) (VY I1 r1 hp)⟩
  ·exact q1.elim
end
end PV
namespace PV
open PySem PySem.Spec PyProof.Rows L2
noncomputable def eqL (f:T->T->Option Bool):List T->List T->Option Bool
 | [],[]=>some true
 | [],_ :: _=>some false
 | _ :: _,[]=>some false
 | x :: xs,y :: ys=>match f x y with
  | none=>none
  | some b=>match eqL f xs ys with
   | none=>none
   | some c=>some (b && c)
noncomputable def b2 (b:Bool):Int:=if b then 1 else 0
def eqF:Nat->T->T->Option Bool
 | _,.non,.non=>some true
 | _,.bl a,.bl b=>some (a == b)
 | _,.bl a,.int j=>some (b2 a == j)
 | _,.int i,.bl b=>some (i == b2 b)
 | _,.int i,.int j=>some (i == j)
 | _,.str x,.str y=>some (x == y)
 | n+1,.tup xs,.tup ys=>eqL (eqF n) xs ys
 | n+1,.lst xs,.lst ys=>eqL (eqF n) xs ys
 | n+1,.fz xs,.lst ys=>eqL (eqF n) xs ys
 | n+1,.lst xs,.fz ys=>eqL (eqF n) xs ys
 | n+1,.fz xs,.fz ys=>eqL (eqF n) xs ys
 | 0,.tup _,.tup _=>none
 | 0,.lst _,.lst _=>none
 | 0,.fz _,.lst _=>none
 | 0,.lst _,.fz _=>none
 | 0,.fz _,.fz _=>none
 | _,.non,_=>some false
 | _,.bl _,_=>some false
 | _,.int _,_=>some false
 | _,.str _,_=>some false
 | _,.tup _,_=>some false
 | _,.lst _,_=>some false
 | _,.fz _,_=>some false
mutual
theorem Rep.fn {H:Hp}:∀{v:V} {t t' :T},Rep H v t->Rep H v t' ->t=t'
 | _,_,_,.non,.non=>rfl
 | _,_,_,.bl _,.bl _=>rfl
 | _,_,_,.int _,.int _=>rfl
 | _,_,_,.str _,.str _=>rfl
 | _,_,_,.tup h r,.tup h' r' =>by
  rw[h]at h';cases h';rw[zE.fn r r']
 | _,_,_,.tup h r,.lst h' r' =>by rw[h]at h';cases h'
 | _,_,_,.tup h r,.fz h' r' =>by rw[h]at h';cases h'
 | _,_,_,.lst h r,.tup h' r' =>by rw[h]at h';cases h'
 | _,_,_,.lst h r,.lst h' r' =>by
  rw[h]at h';cases h';rw[zE.fn r r']
 | _,_,_,.lst h r,.fz h' r' =>by rw[h]at h';cases h'
 | _,_,_,.fz h r,.tup h' r' =>by rw[h]at h';cases h'
 | _,_,_,.fz h r,.lst h' r' =>by rw[h]at h';cases h'
 | _,_,_,.fz h r,.fz h' r' =>by
  rw[h]at h';cases h';rw[zE.fn r r']
theorem zE.fn {H:Hp}:∀{v:List V} {t t' :List T},zE H v t->zE H v t' ->t=t'
 | _,_,_,.nil,.nil=>rfl
 | _,_,_,.cons h r,.cons h' r' =>by rw[Rep.fn h h',zE.fn r r']
end
theorem Zj {f:T->T->Option Bool}(hf:∀x b,f x x=some b->b=true):∀(xs:List T) (b:Bool),eqL f xs xs=some b->b=true
 | [],b,h=>by
  have h' :=h;cases h';rfl
 | x :: xs,b,h=>by
  unfold eqL at h;cases e:f x x with
  | none=>rw[e]at h;cases h
  | some c=>
   rw[e]at h;cases e' :eqL f xs xs with
   | none=>rw[e']at h;cases h
   | some d=>
    rw[e']at h;cases h;rw[hf x c e,Zj hf xs d e'];rfl
theorem Ze:∀(n:Nat) (t:T) (b:Bool),eqF n t t=some b->b=true
 | n,.non,b,h=>by unfold eqF at h;cases h;rfl
 | n,.bl x,b,h=>by unfold eqF at h;cases h;simp
 | n,.int x,b,h=>by unfold eqF at h;cases h;simp
 | n,.str x,b,h=>by unfold eqF at h;cases h;simp
 | 0,.tup x,b,h=>by cases h
 | 0,.lst x,b,h=>by cases h
 | 0,.fz x,b,h=>by cases h
 | n+1,.tup x,b,h=>by exact Zj (Ze n) x b h
 | n+1,.lst x,b,h=>by exact Zj (Ze n) x b h
 | n+1,.fz x,b,h=>by exact Zj (Ze n) x b h
theorem yX {f:T->T->Option Bool}:∀{xs ys:List T} {b:Bool},eqL f xs ys=some b->
  ∃e:Nat->Bool,(∀j x y,xs[j]? =some x->ys[j]? =some y->f x y=some (e j))/\((ba (min xs.length ys.length)).all e && xs.length == ys.length)=b
 | [],[],b,h=>by
  have h' :=h;cases h';exact⟨λ_=>true,λj x y h=>by simp at h,by simp⟩
 | [],y :: ys,b,h=>by
  have h' :=h;cases h';exact⟨λ_=>true,λj x y h=>by simp at h,by simp⟩
 | x :: xs,[],b,h=>by
  have h' :=h;cases h';exact⟨λ_=>true,λj x y h h' =>by simp at h',by simp⟩
 | x :: xs,y :: ys,b,h=>by
  unfold eqL at h;cases e:f x y with
  | none=>rw[e]at h;cases h
  | some c=>
   rw[e]at h;cases e' :eqL f xs ys with
   | none=>rw[e']at h;cases h
   | some d=>
    rw[e']at h;cases h;obtain⟨g,h1,h2⟩:=yX e';refine⟨λj=>match j with | 0=>c | j+1=>g j,λj u v hu hv=> ?_, ?_⟩
    ·cases j with
     | zero=>simp at hu hv;subst hu hv;exact e
     | succ j=>exact h1 j u v (by simpa using hu) (by simpa using hv)
    ·have z:min (x :: xs).length (y :: ys).length=min xs.length ys.length+1:=by simp only[ag];omega
     rw[z,cq,cY,fY];have z2:((x :: xs).length == (y :: ys).length)=(xs.length == ys.length):=by simp
     rw[z2,← h2,Bool.and_assoc];rfl
section
theorem ZF (I:L2.Inv X pins σ H s)(h:H a=some (.tup xs))(r:zE H xs ts):∃its:List Value,zT xs its/\s.heap.IsTuple a its.toArray/\ts.length=its.length/\xs.length<=sizeLine:=by
 obtain⟨its,rv,p,z⟩:=I.tuple (SqT.of h);exact⟨its,rv,p,by rw[← r.length];exact rv.length,z⟩
theorem zU (I:L2.Inv X pins σ H s)(h:Rd H a (.lst xs))(r:zE H xs ts):∃its:List Value,zT xs its/\s.heap.IsList a its.toArray/\ts.length=its.length/\xs.length<=sizeLine:=by
 obtain⟨its,rv,p,z⟩:=I.list (.inl h);exact⟨its,rv,p.isList,by rw[← r.length];exact rv.length,z⟩
end
noncomputable abbrev EqN (A:Around)(s:Shared)(u u' :Value)(b:Bool):Prop:=cI A s u u' b/\eX A s u u' b/\dg A s u u' (!b)
section
theorem yY {f:T->T->Option Bool}{e:Nat->Bool}(r:zE H xs ts)(r' :zE H ys us)(v:zT xs its)(v' :zT ys its')
  (he:∀(j:Nat) (x y:T),ts[j]? =some x->us[j]? =some y->f x y=some (e j))
  (ih:∀(x y:T) (b:Bool) (p q:V) (u w:Value),f x y=some b->Rep H p x->Rep H q y->Zb p u->Zb q w->EqN A s u w b) (j:Nat) (h1:j < its.toArray.size) (h2:j < its'.toArray.size):
  cI A s its.toArray[j] its'.toArray[j] (e j):=by
 have l1:=v.length;have l2:=v'.length;have k1:j < xs.length:=by simp at h1;omega
 have k2:j < ys.length:=by simp at h2;omega
 obtain⟨t,et,rt⟩:=r.getV (ah k1);obtain⟨t',et',rt'⟩:=r'.getV (ah k2);obtain⟨u,eu,ru⟩:=v.get (ah k1);obtain⟨u',eu',ru'⟩:=v'.get (ah k2);have q1:=by
  have:its[j]? =some its.toArray[j]:=by simp at h1 ⊢
  rw[eu]at this;exact(aB this).symm
 have q2:=by
  have:its'[j]? =some its'.toArray[j]:=by simp at h2 ⊢
  rw[eu']at this;exact(aB this).symm
 rw[q1,q2];exact(ih t t' _ _ _ u u' (he j t t' et et') rt rt' ru ru').1
theorem VZ {A:Around}{a c:Addr}{xs ys:List V}{ts us:List T}{b:Bool}{f:T->T->Option Bool}(I:L2.Inv X pins σ H s)(hu:A.units < cLine)(ha:H a=some (.tup xs))(hc:H c=some (.tup ys))(r:zE H xs ts)(r' :zE H ys us)
  (hb:eqL f ts us=some b) (hr:∀x b,f x x=some b->b=true)
  (ih:∀(x y:T) (b:Bool) (p q:V) (u w:Value),f x y=some b->Rep H p x->Rep H q y->Zb p u->Zb q w->EqN A.in1 s u w b):EqN A s (.ref a) (.ref c) b:=by
 obtain⟨its,v,p,l,_⟩:=ZF I ha r;obtain⟨its',v',p',l',_⟩:=ZF I hc r';obtain⟨e,he,hb'⟩:=yX hb;have hp:=yY r r' v v' he ih;have z:((ba (min its.toArray.size its'.toArray.size)).all e && its.toArray.size == its'.toArray.size)=b:=by
  rw[← hb'];simp[l,l']
 have R:=eX.tuples p p' hu hp;have N:=dg.tuples p p' hu hp;rw[z]at R;have N' :dg A s (.ref a) (.ref c) (!b):=by
  rw[← z];exact N
 refine⟨?_,R,N'⟩
 by_cases hac:a=c
 ·subst hac;rw[ha]at hc;cases hc;have:=r.fn r';subst this;rw[Zj hr ts b hb];exact ix _
 ·exact fK hac R
theorem wM {A:Around}{a c:Addr}{xs ys:List V}{ts us:List T}{b:Bool}{f:T->T->Option Bool}(I:L2.Inv X pins σ H s)(hu:A.units < cLine)(ha:Rd H a (.lst xs))(hc:Rd H c (.lst ys))(r:zE H xs ts)(r' :zE H ys us)
  (hb:eqL f ts us=some b) (hr:∀x b,f x x=some b->b=true)
  (ih:∀(x y:T) (b:Bool) (p q:V) (u w:Value),f x y=some b->Rep H p x->Rep H q y->Zb p u->Zb q w->EqN A.in1 s u w b):EqN A s (.ref a) (.ref c) b:=by
 obtain⟨its,v,p,l,_⟩:=zU I ha r;obtain⟨its',v',p',l',_⟩:=zU I hc r';obtain⟨e,he,hb'⟩:=yX hb;have hp:=yY r r' v v' he ih;have RN:eX A s (.ref a) (.ref c) b/\dg A s (.ref a) (.ref c) (!b):=by
  by_cases hl:its.toArray.size=its'.toArray.size
  ·have z:(ba its.toArray.size).all e=b:=by
    rw[← hb'];have:ts.length=us.length:=by simp at hl;omega
    rw[this];have k:its.toArray.size=us.length:=by simp;omega
    rw[k];simp
   have R:=eX.lists p p' hl hu hp;have N:=dg.lists p p' hl hu hp;rw[z]at R;refine⟨R, ?_⟩;rw[← z];exact N
  ·have hl' :(its.toArray.size != its'.toArray.size)=true:=by simpa using hl
   have z:b=false:=by
    rw[← hb'];have:¬ ts.length=us.length:=by simp at hl;omega
    simp[this]
   subst z;exact⟨eX.lists_lengths p p' hl' hu,dg.lists_lengths p p' hl' hu⟩
 refine⟨?_,RN.1,RN.2⟩
 by_cases hac:a=c
 ·subst hac;have hxy:xs=ys:=by
   rcases ha with ha | ⟨o,ha⟩ <;> rcases hc with hc | ⟨o',hc⟩ <;> (rw[ha]at hc;cases hc) <;> rfl
  subst hxy;have:=r.fn r';subst this;rw[Zj hr ts b hb];exact ix _
 ·exact fK hac RN.1
end
section
variable {X:Cx}{pins:List (Addr×Obj)}{σ:Sg}{H:Hp}{s:Shared}
theorem jE {A:Around}:A.in1.units=A.units+1:=rfl
set_option maxHeartbeats 2000000 in
theorem yZ (I:L2.Inv X pins σ H s):∀(A:Around),A.units < cLine->∀(x y:T) (b:Bool) (p q:V) (u w:Value),eqF 0 x y=some b->Rep H p x->Rep H q y->Zb p u->Zb q w->EqN A s u w b:=by
 intro A hu x y b p q u w h rp rq ru rw';have hu' :=hu;cases rp with
 | non=>
  obtain rfl:u=Value.none:=ru;cases rq with
  | non=>obtain rfl:w=Value.none:=rw';unfold eqF at h;cases h;exact⟨.same _,.none_none,.none_none⟩
  | bl c=>obtain rfl:w=Value.bool c:=rw';unfold eqF at h;cases h;exact⟨.none_bool _,.none_bool _,.none_bool _⟩
  | int c=>obtain⟨t,rfl⟩:=rw';unfold eqF at h;cases h;exact⟨.none_int _ _,.none_int _ _,.none_int _ _⟩
  | str c=>obtain⟨t,rfl⟩:=rw';unfold eqF at h;cases h;exact⟨.none_str _ _,.none_str _ _,.none_str _ _⟩
  | tup h1 r1=>obtain rfl:w=Value.ref _:=rw';unfold eqF at h;cases h;obtain⟨i,_,p,_⟩:=ZF I h1 r1;exact⟨.none_tuple p hu',.none_tuple p hu',.none_tuple p hu'⟩
  | lst h1 r1=>obtain rfl:w=Value.ref _:=rw';unfold eqF at h;cases h;obtain⟨i,_,p,_⟩:=zU I (.inl h1) r1;exact⟨.none_list p hu',.none_list p hu',.none_list p hu'⟩
  | fz h1 r1=>obtain rfl:w=Value.ref _:=rw';unfold eqF at h;cases h;obtain⟨i,_,p,_⟩:=zU I (.inr ⟨_,h1⟩) r1;exact⟨.none_list p hu',.none_list p hu',.none_list p hu'⟩
 | bl d=>
  obtain rfl:u=Value.bool d:=ru;cases rq with
  | non=>obtain rfl:w=Value.none:=rw';unfold eqF at h;cases h;exact⟨.bool_none _,.bool_none _,.bool_none _⟩
  | bl c=>obtain rfl:w=Value.bool c:=rw';unfold eqF at h;cases h;exact⟨.bool_bool _ _,.bool_bool _ _,.bool_bool _ _⟩
  | int c=>obtain⟨t,rfl⟩:=rw';unfold eqF at h;cases h;exact⟨.bool_int _ _ _,.bool_int _ _ _,.bool_int _ _ _⟩
  | str c=>obtain⟨t,rfl⟩:=rw';unfold eqF at h;cases h;exact⟨.bool_str _ _ _,.bool_str _ _ _,.bool_str _ _ _⟩
  | tup h1 r1=>obtain rfl:w=Value.ref _:=rw';unfold eqF at h;cases h;obtain⟨i,_,p,_⟩:=ZF I h1 r1;exact⟨.bool_tuple _ p hu',.bool_tuple _ p hu',.bool_tuple _ p hu'⟩
  | lst h1 r1=>obtain rfl:w=Value.ref _:=rw';unfold eqF at h;cases h;obtain⟨i,_,p,_⟩:=zU I (.inl h1) r1;exact⟨.bool_list _ p hu',.bool_list _ p hu',.bool_list _ p hu'⟩
  | fz h1 r1=>obtain rfl:w=Value.ref _:=rw';unfold eqF at h;cases h;obtain⟨i,_,p,_⟩:=zU I (.inr ⟨_,h1⟩) r1;exact⟨.bool_list _ p hu',.bool_list _ p hu',.bool_list _ p hu'⟩
 | int d=>
  obtain⟨t0,rfl⟩:=ru;cases rq with
  | non=>obtain rfl:w=Value.none:=rw';unfold eqF at h;cases h;exact⟨.int_none _ _,.int_none _ _,.int_none _ _⟩
  | bl c=>obtain rfl:w=Value.bool c:=rw';unfold eqF at h;cases h;exact⟨.int_bool _ _ _,.int_bool _ _ _,.int_bool _ _ _⟩
  | int c=>obtain⟨t,rfl⟩:=rw';unfold eqF at h;cases h;exact⟨.int_int _ _ _ _,.int_int _ _ _ _,.int_int _ _ _ _⟩
  | str c=>obtain⟨t,rfl⟩:=rw';unfold eqF at h;cases h;exact⟨.int_str _ _ _ _,.int_str _ _ _ _,.int_str _ _ _ _⟩
  | tup h1 r1=>obtain rfl:w=Value.ref _:=rw';unfold eqF at h;cases h;obtain⟨i,_,p,_⟩:=ZF I h1 r1;exact⟨.int_tuple _ _ p hu',.int_tuple _ _ p hu',.int_tuple _ _ p hu'⟩
  | lst h1 r1=>obtain rfl:w=Value.ref _:=rw';unfold eqF at h;cases h;obtain⟨i,_,p,_⟩:=zU I (.inl h1) r1;exact⟨.int_list _ _ p hu',.int_list _ _ p hu',.int_list _ _ p hu'⟩
  | fz h1 r1=>obtain rfl:w=Value.ref _:=rw';unfold eqF at h;cases h;obtain⟨i,_,p,_⟩:=zU I (.inr ⟨_,h1⟩) r1;exact⟨.int_list _ _ p hu',.int_list _ _ p hu',.int_list _ _ p hu'⟩
 | str d=>
  obtain⟨t0,rfl⟩:=ru;cases rq with
  | non=>obtain rfl:w=Value.none:=rw';unfold eqF at h;cases h;exact⟨.str_none _ _,.str_none _ _,.str_none _ _⟩
  | bl c=>obtain rfl:w=Value.bool c:=rw';unfold eqF at h;cases h;exact⟨.str_bool _ _ _,.str_bool _ _ _,.str_bool _ _ _⟩
  | int c=>obtain⟨t,rfl⟩:=rw';unfold eqF at h;cases h;exact⟨.str_int _ _ _ _,.str_int _ _ _ _,.str_int _ _ _ _⟩
  | str c=>obtain⟨t,rfl⟩:=rw';unfold eqF at h;cases h;exact⟨.str_str _ _ _ _,.str_str _ _ _ _,.str_str _ _ _ _⟩
  | tup h1 r1=>obtain rfl:w=Value.ref _:=rw';unfold eqF at h;cases h;obtain⟨i,_,p,_⟩:=ZF I h1 r1;exact⟨.str_tuple _ _ p hu',.str_tuple _ _ p hu',.str_tuple _ _ p hu'⟩
  | lst h1 r1=>obtain rfl:w=Value.ref _:=rw';unfold eqF at h;cases h;obtain⟨i,_,p,_⟩:=zU I (.inl h1) r1;exact⟨.str_list _ _ p hu',.str_list _ _ p hu',.str_list _ _ p hu'⟩
  | fz h1 r1=>obtain rfl:w=Value.ref _:=rw';unfold eqF at h;cases h;obtain⟨i,_,p,_⟩:=zU I (.inr ⟨_,h1⟩) r1;exact⟨.str_list _ _ p hu',.str_list _ _ p hu',.str_list _ _ p hu'⟩
 | tup h0 r0=>
  obtain rfl:u=Value.ref _:=ru;obtain⟨i0,_,p0,_⟩:=ZF I h0 r0;cases rq with
  | non=>obtain rfl:w=Value.none:=rw';unfold eqF at h;cases h;exact⟨.tuple_none p0 hu',.tuple_none p0 hu',.tuple_none p0 hu'⟩
  | bl c=>obtain rfl:w=Value.bool c:=rw';unfold eqF at h;cases h;exact⟨.tuple_bool _ p0 hu',.tuple_bool _ p0 hu',.tuple_bool _ p0 hu'⟩
  | int c=>obtain⟨t,rfl⟩:=rw';unfold eqF at h;cases h;exact⟨.tuple_int _ _ p0 hu',.tuple_int _ _ p0 hu',.tuple_int _ _ p0 hu'⟩
  | str c=>obtain⟨t,rfl⟩:=rw';unfold eqF at h;cases h;exact⟨.tuple_str _ _ p0 hu',.tuple_str _ _ p0 hu',.tuple_str _ _ p0 hu'⟩
  | tup h1 r1=>unfold eqF at h;cases h
  | lst h1 r1=>obtain rfl:w=Value.ref _:=rw';unfold eqF at h;cases h;obtain⟨i,_,p,_⟩:=zU I (.inl h1) r1;exact⟨.tuple_list p0 p hu',.tuple_list p0 p hu',.tuple_list p0 p hu'⟩
  | fz h1 r1=>obtain rfl:w=Value.ref _:=rw';unfold eqF at h;cases h;obtain⟨i,_,p,_⟩:=zU I (.inr ⟨_,h1⟩) r1;exact⟨.tuple_list p0 p hu',.tuple_list p0 p hu',.tuple_list p0 p hu'⟩
 | lst h0 r0=>
  obtain rfl:u=Value.ref _:=ru;obtain⟨i0,_,p0,_⟩:=zU I (.inl h0) r0;cases rq with
  | non=>obtain rfl:w=Value.none:=rw';unfold eqF at h;cases h;exact⟨.list_none p0 hu',.list_none p0 hu',.list_none p0 hu'⟩
  | bl c=>obtain rfl:w=Value.bool c:=rw';unfold eqF at h;cases h;exact⟨.list_bool _ p0 hu',.list_bool _ p0 hu',.list_bool _ p0 hu'⟩
  | int c=>obtain⟨t,rfl⟩:=rw';unfold eqF at h;cases h;exact⟨.list_int _ _ p0 hu',.list_int _ _ p0 hu',.list_int _ _ p0 hu'⟩
  | str c=>obtain⟨t,rfl⟩:=rw';unfold eqF at h;cases h;exact⟨.list_str _ _ p0 hu',.list_str _ _ p0 hu',.list_str _ _ p0 hu'⟩
  | tup h1 r1=>obtain rfl:w=Value.ref _:=rw';unfold eqF at h;cases h;obtain⟨i,_,p,_⟩:=ZF I h1 r1;exact⟨.list_tuple p0 p hu',.list_tuple p0 p hu',.list_tuple p0 p hu'⟩
  | lst h1 r1=>unfold eqF at h;cases h
  | fz h1 r1=>unfold eqF at h;cases h
 | fz h0 r0=>
  obtain rfl:u=Value.ref _:=ru;obtain⟨i0,_,p0,_⟩:=zU I (.inr ⟨_,h0⟩) r0;cases rq with
  | non=>obtain rfl:w=Value.none:=rw';unfold eqF at h;cases h;exact⟨.list_none p0 hu',.list_none p0 hu',.list_none p0 hu'⟩
  | bl c=>obtain rfl:w=Value.bool c:=rw';unfold eqF at h;cases h;exact⟨.list_bool _ p0 hu',.list_bool _ p0 hu',.list_bool _ p0 hu'⟩
  | int c=>obtain⟨t,rfl⟩:=rw';unfold eqF at h;cases h;exact⟨.list_int _ _ p0 hu',.list_int _ _ p0 hu',.list_int _ _ p0 hu'⟩
  | str c=>obtain⟨t,rfl⟩:=rw';unfold eqF at h;cases h;exact⟨.list_str _ _ p0 hu',.list_str _ _ p0 hu',.list_str _ _ p0 hu'⟩
  | tup h1 r1=>obtain rfl:w=Value.ref _:=rw';unfold eqF at h;cases h;obtain⟨i,_,p,_⟩:=ZF I h1 r1;exact⟨.list_tuple p0 p hu',.list_tuple p0 p hu',.list_tuple p0 p hu'⟩
  | lst h1 r1=>unfold eqF at h;cases h
  | fz h1 r1=>unfold eqF at h;cases h
set_option maxHeartbeats 2000000 in
theorem Y0 (I:L2.Inv X pins σ H s):∀(n:Nat) (A:Around),A.units+n < cLine->∀(x y:T) (b:Bool) (p q:V) (u w:Value),eqF n x y=some b->Rep H p x->Rep H q y->Zb p u->Zb q w->EqN A s u w b:=by
 intro n
 induction n with
 | zero=>exact λA hu x y b p q u w h=>yZ I A (by omega) x y b p q u w h
 | succ n ih=>
  intro A hu x y b p q u w h rp rq ru rw';have low:=λh=>yZ I A (by omega) x y b p q u w h rp rq ru rw'
  have hu' :A.units < cLine:=by omega
  have ih' :=ih A.in1 (by rw[jE];omega)
  cases rp with
  | tup h0 r0=>
   cases rq with
   | tup h1 r1=>
    obtain rfl:u=Value.ref _:=ru;obtain rfl:w=Value.ref _:=rw';exact VZ I hu' h0 h1 r0 r1 h (Ze n) ih'
   | _=>exact low (by exact h)
  | lst h0 r0=>
   cases rq with
   | lst h1 r1=>
    obtain rfl:u=Value.ref _:=ru;obtain rfl:w=Value.ref _:=rw';exact wM I hu' (.inl h0) (.inl h1) r0 r1 h (Ze n) ih'
   | fz h1 r1=>
    obtain rfl:u=Value.ref _:=ru;obtain rfl:w=Value.ref _:=rw';exact wM I hu' (.inl h0) (.inr ⟨_,h1⟩) r0 r1 h (Ze n) ih'
   | _=>exact low (by exact h)
  | fz h0 r0=>
   cases rq with
   | lst h1 r1=>
    obtain rfl:u=Value.ref _:=ru;obtain rfl:w=Value.ref _:=rw';exact wM I hu' (.inr ⟨_,h0⟩) (.inl h1) r0 r1 h (Ze n) ih'
   | fz h1 r1=>
    obtain rfl:u=Value.ref _:=ru;obtain rfl:w=Value.ref _:=rw';exact wM I hu' (.inr ⟨_,h0⟩) (.inr ⟨_,h1⟩) r0 r1 h (Ze n) ih'
   | _=>exact low (by exact h)
  | _=>exact low (by cases rq <;> (exact h))
end
section
def rG (Y:Fx)(g:T->T->R T):R2:=λx y H Q=>∃B t t',zu B H/\Rep B x t/\Rep B y t' /\Po Y rC B H (g t t') Q
def zd (g:T->T->R T)(fa fb:En->R T):En->R T:=λρ=>(fa ρ).bind λx=>(fb ρ).bind λy=>g x y
theorem Y1 (ho:OpR X (binaryOp op) (rG Y g))(ha:Snd X Y a fa)(hb:Snd X Y b fb):Snd X Y (.BinOp a op b pos) (zd g fa fb):= .mk λρ=>
 PE.imp (z0m ho (ha ρ) (hb ρ)) λσ H Q ⟨B,I,q⟩=>step I q λt v H1 _ s1 r1 I1 q1=>step I1 q1 λt' v' H2 _ s2 r2 I2 q2=>
  ⟨_,t,t',I2.sB,r1.mono (zM.ge I1.sB s2),r2,q2⟩
theorem po0 (sB:zu B H)(q:Po Y rC B H g Q)(e:g= .ok t)(r:Rep B v t):Q v H:=by
 subst e;exact q v H (zu.refl H) (by rw[zM.self B H sB];exact r)
theorem kJ (sB:zu B H)(q:Po Y rC B H g Q)(e:g= .ok (.tup ts))(r:zE B xs ts)(h:H p=none):Q (.ref p) (upd H p (.tup xs)):=by
 subst e;exact q _ _ (zu.new h _) (.tup (j5 h _) (r.mono (zM.ge sB (zu.new h _))))
theorem kK (sB:zu B H)(q:Po Y rC B H g Q)(e:g= .ok (.lst ts))(r:zE B xs ts)(h:H p=none):Q (.ref p) (upd H p (.lst xs)):=by
 subst e;exact q _ _ (zu.new h _) (.lst (j5 h _) (r.mono (zM.ge sB (zu.new h _))))
def zG:T->T->R T
 | .int i,.int j=> .ok (.int (i+j))
 | .bl x,.int j=> .ok (.int (b2 x+j))
 | .int i,.bl y=> .ok (.int (i+b2 y))
 | .str x,.str y=>if x.length+y.length<=bnd then .ok (.str (x++y)) else .bad
 | .tup xs,.tup ys=>if xs.length+ys.length<=bnd then .ok (.tup (xs++ys)) else .bad
 | .lst xs,.lst ys=>if xs.length+ys.length<=bnd then .ok (.lst (xs++ys)) else .bad
 | _,_=> .bad
theorem Qv {prog:Program}{w:World}{A:Around}{E:Value->Shared->Prop}{s:Shared}{t b:Addr}{vs ws:List Value}{Q:Value->Shared->Prop}(ht:IsTup s.heap t vs.toArray)(hb:IsTup s.heap b ws.toArray)(hv:vs=[])
  (h1:Q (.ref b) s):wpAny (model prog w) A (binaryOp .Add (.ref t) (.ref b)) Q E s:=by
 obtain⟨⟨cls,dd,data,sl⟩,ho,hc,n,hd⟩:=id ht;obtain⟨⟨cls2,dd2,data2,sl2⟩,ho2,hc2,n2,hd2⟩:=id hb;subst hc hd hc2 hd2;exact concat_meets ⟨_,ho,rfl⟩ ⟨_,ho2,rfl⟩ noFill_tuple_add seq_tuple_add de d9 (cW _ _)
   (tuple_addW0 t b _ _ n n2 dd dd2 sl sl2 (by simp[hv])) ⟨ho,ho2,h1⟩
theorem x6:OpR X (binaryOp .Add) (rG Y zG):=by
 intro pins s σ H x y v u Q I rx ry h;obtain⟨B,t,t',sB,r,r',q⟩:=h;cases r with
 | int i=>
  cases r' with
  | int j=>exact kh pins s σ H _ _ v u Q I rx ry ⟨i,j,rfl,rfl,po0 sB q rfl (.int _)⟩
  | bl y=>exact yE pins s σ H _ _ v u Q I rx ry ⟨i,y,rfl,rfl,po0 sB q rfl (.int _)⟩
  | _=>exact q.elim
 | bl x=>
  cases r' with
  | int j=>
   obtain rfl:v=Value.bool x:=rx;obtain⟨tk,rfl⟩:=ry;exact IntBool.add_bool_int (⟨.int _,H,I.tok _,⟨_,rfl⟩,po0 sB q rfl (.int _)⟩)
  | _=>exact q.elim
 | str x=>
  cases r' with
  | str y=>
   by_cases hb:x.length+y.length<=bnd
   ·exact UD pins s σ H _ _ v u Q I rx ry ⟨x,y,rfl,rfl,Zg hb,po0 sB q (if_pos hb) (.str _)⟩
   ·rw[show zG (.str x) (.str y)= .bad from if_neg hb]at q;exact q.elim
  | _=>exact q.elim
 | @tup a xs ts h1 r1=>
  cases r' with
  | @tup a' ys us h2 r2=>
   by_cases hb:ts.length+us.length<=bnd
   ·have eg:zG (.tup ts) (.tup us)= .ok _:=if_pos hb;have hz:xs.length+ys.length<=sizeLine:=by rw[r1.length,r2.length];exact Zg hb
    by_cases hx:xs=[]
    ·obtain rfl:v=Value.ref a:=rx;obtain rfl:u=Value.ref a' :=ry;obtain⟨its,rv,p,_⟩:=I.tuple (SqT.of (sB _ _ h1));obtain⟨its',rv',p',_⟩:=I.tuple (SqT.of (sB _ _ h2));have et:=r1.nil_iff.mp hx;refine Qv p p' (rv.nil_iff.mpr hx) ⟨.ref a',H,I,rfl,po0 sB q eg ?_⟩;rw[et];exact .tup h2 r2
    ·refine VQ _ s σ H _ _ v u Q I rx ry ⟨a,a',xs,ys,rfl,rfl,SqT.of (sB _ _ h1),SqT.of (sB _ _ h2),hx,hz,λhy=> ?_,λhy p hp=> ?_⟩
     ·refine po0 sB q eg ?_;rw[r2.nil_iff.mp hy,aP];exact .tup h1 r1
     ·exact kJ sB q eg (r1.append r2) hp
   ·rw[show zG (.tup ts) (.tup us)= .bad from if_neg hb]at q;exact q.elim
  | _=>exact q.elim
 | @lst a xs ts h1 r1=>
  cases r' with
  | @lst a' ys us h2 r2=>
   by_cases hb:ts.length+us.length<=bnd
   ·have eg:zG (.lst ts) (.lst us)= .ok _:=if_pos hb;have hz:xs.length+ys.length<=sizeLine:=by rw[r1.length,r2.length];exact Zg hb
    exact kC _ s σ H _ _ v u Q I rx ry ⟨a,a',xs,ys,rfl,rfl,sB _ _ h1,sB _ _ h2,hz,λp hp=>kK sB q eg (r1.append r2) hp⟩
   ·rw[show zG (.lst ts) (.lst us)= .bad from if_neg hb]at q;exact q.elim
  | _=>exact q.elim
 | _=>cases r' <;> exact q.elim
theorem z0C (ha:Snd X Y a fa)(hb:Snd X Y b fb):Snd X Y (.BinOp a .Add b pos) (zd zG fa fb):=Y1 x6 ha hb
noncomputable def jM:T->T->R T
 | .int i,.int j=> .ok (.int (i - j))
 | _,_=> .bad
noncomputable def jS:T->T->R T
 | .int i,.int j=>if 0 < j then .ok (.int (i % j)) else .bad
 | _,_=> .bad
noncomputable def wN:T->T->R T
 | .int i,.int j=>if 0 < j/\j < 1073741824 then .ok (.int (i / j)) else .bad
 | _,_=> .bad
instance (i j:Int):Decidable (ud i j):=by unfold ud;infer_instance
def Z4:T->T->R T
 | .int i,.int j=>if ud i j then .ok (.int (i*j)) else .bad
 | .lst xs,.int k=>if 0<=k/\k < 1000000/\xs.length*k.toNat<=bnd then .ok (.lst (aj k.toNat xs).flatten) else .bad
 | .tup xs,.int k=>if 2<=k/\k < 1000000/\xs ≠ []/\xs.length*k.toNat<=bnd then .ok (.tup (aj k.toNat xs).flatten) else .bad
 | _,_=> .bad
theorem x8:OpR X (binaryOp .Sub) (rG Y jM):=by
 intro pins s σ H x y v u Q I rx ry h;obtain⟨B,t,t',sB,r,r',q⟩:=h;cases r with
 | int i=>
  cases r' with
  | int j=>exact ki _ s σ H _ _ v u Q I rx ry ⟨i,j,rfl,rfl,po0 sB q rfl (.int _)⟩
  | _=>exact q.elim
 | _=>cases r' <;> exact q.elim
theorem x9:OpR X (binaryOp .Mod) (rG Y jS):=by
 intro pins s σ H x y v u Q I rx ry h;obtain⟨B,t,t',sB,r,r',q⟩:=h;cases r with
 | int i=>
  cases r' with
  | int j=>
   by_cases hj:0 < j
   ·exact km _ s σ H _ _ v u Q I rx ry ⟨i,j,rfl,rfl,hj,po0 sB q (if_pos hj) (.int _)⟩
   ·rw[show jS (.int i) (.int j)= .bad from if_neg hj]at q;exact q.elim
  | _=>exact q.elim
 | _=>cases r' <;> exact q.elim
theorem Qw:OpR X (binaryOp .FloorDiv) (rG Y wN):=by
 intro pins s σ H x y v u Q I rx ry h;obtain⟨B,t,t',sB,r,r',q⟩:=h;cases r with
 | int i=>
  cases r' with
  | int j=>
   by_cases hj:0 < j/\j < 1073741824
   ·exact VE _ s σ H _ _ v u Q I rx ry ⟨i,j,rfl,rfl,hj,po0 sB q (if_pos hj) (.int _)⟩
   ·rw[show wN (.int i) (.int j)= .bad from if_neg hj]at q;exact q.elim
  | _=>exact q.elim
 | _=>cases r' <;> exact q.elim
theorem UR (l:Addr)(items:Array Value)(n:Nat)(dd:Option Addr)(sl:Array (Option Value))(x:Int)(u:Tok)(h1:2<=x)(h2:x < 1000000)(hne:items.isEmpty=false)(hsz:items.size*x.toNat<=sizeLine):
  Meets (Builtin.«tuple.__mul__» ⟨[.ref l,.int x u],[]⟩) (λ_ R s=>s.heap.get? l=some { cls:= .type "tuple",dict:=dd,data:= .seq items n,slots:=sl }/\
   R (.ok (.ret (Value.ref s.heap.objs.size))) { s with heap:=s.heap.push { cls:=Value.type "tuple",data:=Data.seq (dL (λx1 x2=>x1++x2) #[] (aj x.toNat items)) },toks:=s.toks }):=
 .of_wp λprog w A R s h=>by
  obtain⟨hl,h⟩:=h;have e0:(items.size:Int)*x=((items.size*x.toNat:Nat):Int):=by
   have:x=((x.toNat:Nat):Int):=by omega
   rw[iy,← this]
  have sl1:(sizeLine:Nat)=16777216:=bT;have c1:¬ (decide (x < -(2 ^ 63)) || decide (x ≥ 2 ^ 63))=true:=by simp;omega
  have c2:¬ (items.isEmpty || x == 1)=true:=by simp[hne];omega
  have c3:¬ (decide (x<=0) || items.isEmpty)=true:=by simp[hne];omega
  have c4:¬ ((items.size:Int)*x > (2 ^ 63 - 1) / 8):=by rw[e0];omega
  have c5:¬ dM ((items.size:Int)*x)=true:=by
   unfold dM;rw[e0];intro z;have:=of_decide_eq_true z;omega
  unfold Builtin.«tuple.__mul__»
  wp_walk using wpAny_loadPart' hl
  rw[if_neg c1]
  wp_walk using wpAny_loadPart' hl
  rw[if_neg c2]
  try dsimp only
  rw[if_neg c3]
  try dsimp only
  rw[if_neg c4]
  try dsimp only
  rw[if_neg c5]
  try dsimp only
  have hsz' :sizeOk (.seq (dL (λx1 x2=>x1++x2) #[] (aj x.toNat items))):=by
   show (dL (λx1 x2=>x1++x2) #[] _).size<=sizeLine;have:=jC items.toList x.toNat [];have q:=by
    simpa using this
   rw[q,az,jQ,cM];exact hsz
  exact a7 (bq (ao ⟨_,rfl,h⟩) hsz')
theorem Wy:seqRepeat? (.type "tuple")=pure (some (.builtin "tuple.__mul__")):=by
 unfold seqRepeat?;rw[i6 (name:="__mul__") eI.lookup (by decide+kernel),i6 (name:="__rmul__") fZ.lookup (by decide+kernel)]
 rfl
theorem Jc:fillsNumberSlot (.type "tuple") "mul"=pure false:=
 PySem.fillsNumberSlot_seq eI.lookup (by decide+kernel) fZ.lookup (by decide+kernel)
theorem JY (a:Int)(t:Tok)(l:Addr)(items:Array Value)(n:Nat)(dd:Option Addr)(sl:Array (Option Value)):
  Meets (Builtin.«int.__rmul__» ⟨[.int a t,.ref l],[]⟩) (λ_ R s=>s.heap.get? l=some { cls:= .type "tuple",dict:=dd,data:= .seq items n,slots:=sl }/\R (.ok (.ret Value.notImplemented)) s):=
 .of_wp λprog w A R s h=>by obtain⟨hl,h⟩:=h;wp_walk;exact⟨_,rfl,h⟩
theorem xa {t:Tok}(p:IsTup s.heap l its.toArray)(hne:its ≠ [])(h1:2<=k)(h2:k < 1000000)
  (hsz:its.length*k.toNat<=sizeLine) (q:Q (.ref s.heap.objs.size) { s with heap:=s.heap.push { cls:= .type "tuple",data:= .seq (aj k.toNat its).flatten.toArray } }):
  wpAny (model prog w) A (binaryOp .Mult (.ref l) (.int k t)) Q E s:=by
 obtain⟨⟨cls,dd,data,sl⟩,ho,hc,n,hd⟩:=id p;subst hc hd;refine wpAny_binaryOp_repeat_ref (by decide) ⟨_,ho,rfl⟩ (λs' =>typeIs_int s' k t) Jc iw dA Wy h_.lookup
  (cJ dA (typeIs_int s k t) i5 (fX _ _) (JY k t l _ n dd sl)
   ⟨ho,rfl,⟨_,ho,rfl⟩,cJ eI ⟨_,ho,rfl⟩ F.entry_tuple_mul (F.args_tuple_mul_2 _ _) (UR l _ n dd sl k t h1 h2 (by simpa using hne) (by simpa using hsz)) ⟨ho, ?_⟩⟩)
 have:=jC its k.toNat [];rw[this];exact q
theorem xb:OpR X (binaryOp .Mult) (rG Y Z4):=by
 intro pins s σ H x y v u Q I rx ry h;obtain⟨B,t,t',sB,r,r',q⟩:=h;cases r with
 | int i=>
  cases r' with
  | int j=>
   by_cases hj:ud i j
   ·exact kl _ s σ H _ _ v u Q I rx ry ⟨i,j,rfl,rfl,hj,po0 sB q (if_pos hj) (.int _)⟩
   ·rw[show Z4 (.int i) (.int j)= .bad from if_neg hj]at q;exact q.elim
  | _=>exact q.elim
 | @lst l xs ts h1 r1=>
  cases r' with
  | int k=>
   by_cases hk:0<=k/\k < 1000000/\ts.length*k.toNat<=bnd
   ·have eg:Z4 (.lst ts) (.int k)= .ok _:=if_pos hk;exact kD _ s σ H _ _ v u Q I rx ry ⟨l,k,xs,rfl,rfl,sB _ _ h1,by omega,by omega,by rw[r1.length];exact Zg hk.2.2,λp hp=>kK sB q eg (r1.rep _) hp⟩
   ·rw[show Z4 (.lst ts) (.int k)= .bad from if_neg hk]at q;exact q.elim
  | _=>exact q.elim
 | @tup l xs ts h1 r1=>
  cases r' with
  | int k=>
   by_cases hk:2<=k/\k < 1000000/\ts ≠ []/\ts.length*k.toNat<=bnd
   ·have eg:Z4 (.tup ts) (.int k)= .ok _:=if_pos hk;obtain rfl:v=Value.ref l:=rx;obtain⟨tk,rfl⟩:=ry;obtain⟨its,rv,p,_⟩:=I.tuple (SqT.of (sB _ _ h1));have ln:=r1.length.symm.trans rv.length;have hne:its ≠ []:=λz=>hk.2.2.1 (by rw[z]at ln;exact eJ.mp ln)
    refine xa p hne hk.1 hk.2.1 (by rw[← ln];exact Zg hk.2.2.2) ⟨.ref _,upd H _ (.tup (aj k.toNat xs).flatten),I.laid (λb u e=>a9 _ e) (ai _) ?_,rfl, ?_⟩
    ·exact⟨by rw[jQ,r1.length,cM];exact Zg hk.2.2.2,(aj _ its).flatten,rv.rep _,⟨_,af _ rfl,rfl,_,rfl⟩,.inr ⟨_,af _ rfl,rfl⟩⟩
    ·exact kJ sB q eg (r1.rep _) (I.hok.fresh (ai _))
   ·rw[show Z4 (.tup ts) (.int k)= .bad from if_neg hk]at q;exact q.elim
  | _=>exact q.elim
 | _=>cases r' <;> exact q.elim
theorem z0D (ha:Snd X Y a fa)(hb:Snd X Y b fb):Snd X Y (.BinOp a .Sub b pos) (zd jM fa fb):=Y1 x8 ha hb
theorem z0E (ha:Snd X Y a fa)(hb:Snd X Y b fb):Snd X Y (.BinOp a .Mod b pos) (zd jS fa fb):=Y1 x9 ha hb
theorem kL (ha:Snd X Y a fa)(hb:Snd X Y b fb):Snd X Y (.BinOp a .FloorDiv b pos) (zd wN fa fb):=Y1 Qw ha hb
theorem z0F (ha:Snd X Y a fa)(hb:Snd X Y b fb):Snd X Y (.BinOp a .Mult b pos) (zd Z4 fa fb):=Y1 xb ha hb
def Jd (fa:En->R T):En->R T:=λρ=>(fa ρ).bind λx=>match x with
 | .int i=> .ok (.int (-i))
 | _=> .bad
theorem z0G (ha:Snd X Y a fa):Snd X Y (.UnaryOp .USub a pos) (Jd fa):= .mk λρ=>PE.imp (z0n kn (ha ρ)) λσ H Q ⟨B,I,q⟩=>step I q λt v H1 _ s1 r1 I1 q1=>by
 cases r1 with
 | int i=>exact⟨i,rfl,po0 I1.sB q1 rfl (.int _)⟩
 | _=>exact q1.elim
def wO (g:T->T->R Bool):R2:=λx y H Q=>∃t t' b,Rep H x t/\Rep H y t' /\g t t' = .ok b/\Q (.bl b) H
def ZS (g:T->T->R Bool)(fa fb:En->R T):En->R T:=λρ=>(fa ρ).bind λx=>(fb ρ).bind λy=>(g x y).bind λb=> .ok (.bl b)
def zD (g:T->T->R Bool)(fa fb:En->R T):En->R Bool:=λρ=>(fa ρ).bind λx=>(fb ρ).bind λy=>g x y
noncomputable def Nx (g:T->T->R Bool):Prop:=∀t t' c,g t t' ≠ .ex c
theorem Y2 (nx:Nx g)(ho:OpR X (compareOp op) (wO g))(ha:ZZ X Y a fa)(hb:ZZ X Y b fb)(hm:behindInMarks op b=false):Snd X Y (.Compare a [op] [b] pos) (ZS g fa fb):= .mk λρ=>
 PE.imp (VF ho (ha ρ) (hb ρ) hm) λσ H Q ⟨B,I,q⟩=>step I q λt v H1 _ s1 r1 I1 q1=>step I1 q1 λt' v' H2 _ s2 r2 I2 q2=>by
  cases e:g t t' with
  | bad=>rw[e]at q2;exact q2.elim
  | ex c=>exact absurd e (nx _ _ _)
  | ok b=>rw[e]at q2;exact⟨t,t',b,r1.mono s2,r2,e,ZB I2 q2 (.bl b)⟩
theorem uk (nx:Nx g)(ho:OpR X (compareOp op) (wO g))(ha:ZZ X Y a fa)(hb:ZZ X Y b fb)(hm:behindInMarks op b=false):wL X Y (.Compare a [op] [b] pos) (zD g fa fb):= .mk λρ=>
 PT.imp (yF ho (ha ρ) (hb ρ) hm) λσ H Q ⟨B,I,q⟩=>step I q λt v H1 _ s1 r1 I1 q1=>step I1 q1 λt' v' H2 _ s2 r2 I2 q2=>by
  cases e:g t t' with
  | bad=>rw[e]at q2;exact q2.elim
  | ex c=>exact absurd e (nx _ _ _)
  | ok b=>rw[e]at q2;exact⟨t,t',b,r1.mono s2,r2,e,b,rfl,ZB I2 q2 rfl⟩
def eqC (t t' :T):R Bool:=match eqF 30 t t' with
 | some b=> .ok b
 | none=> .bad
def neC (t t' :T):R Bool:=match eqF 30 t t' with
 | some b=> .ok (!b)
 | none=> .bad
theorem kN:Nx eqC:=λt t' c h=>by unfold eqC at h;split at h <;> cases h
theorem xf:Nx neC:=λt t' c h=>by unfold neC at h;split at h <;> cases h
theorem vV (hu:X.A.units+64 < cLine):OpR X (compareOp .Eq) (wO eqC):=by
 intro pins s σ H x y v u Q I rx ry h;obtain⟨t,t',b,r,r',e,q⟩:=h;unfold eqC at e;split at e
 ·rename_i k ek;have e' :=by injection e
  subst e';exact(Y0 I 30 X.A (by omega) t t' k x y v u ek r r' rx ry).2.1 _ _ _ _ ⟨.bl k,H,I,rfl,q⟩
 ·cases e
theorem Y3 (hu:X.A.units+64 < cLine):OpR X (compareOp .NotEq) (wO neC):=by
 intro pins s σ H x y v u Q I rx ry h;obtain⟨t,t',b,r,r',e,q⟩:=h;unfold neC at e;split at e
 ·rename_i k ek;cases e;exact(Y0 I 30 X.A (by omega) t t' k x y v u ek r r' rx ry).2.2 _ _ _ _ ⟨.bl _,H,I,rfl,q⟩
 ·cases e
noncomputable def ltC:T->T->R Bool
 | .int i,.int j=> .ok (decide (i < j))
 | _,_=> .bad
noncomputable def leC:T->T->R Bool
 | .int i,.int j=> .ok (decide (i<=j))
 | .str x,.str y=> .ok (!decide (y.cps.toList < x.cps.toList))
 | _,_=> .bad
noncomputable def gtC:T->T->R Bool
 | .int i,.int j=> .ok (decide (j < i))
 | _,_=> .bad
noncomputable def geC:T->T->R Bool
 | .int i,.int j=> .ok (decide (j<=i))
 | _,_=> .bad
theorem z0H:Nx ltC:=λt t' c h=>by unfold ltC at h;split at h <;> cases h
theorem wP:Nx leC:=λt t' c h=>by unfold leC at h;split at h <;> cases h
theorem z0I:Nx gtC:=λt t' c h=>by unfold gtC at h;split at h <;> cases h
theorem z0J:Nx geC:=λt t' c h=>by unfold geC at h;split at h <;> cases h
theorem kP:OpR X (compareOp .Lt) (wO ltC):=by
 intro pins s σ H x y v u Q I rx ry h;obtain⟨t,t',b,r,r',e,q⟩:=h;unfold ltC at e;split at e
 ·rename_i i j;cases e;cases r;cases r';exact z0o _ s σ H _ _ v u Q I rx ry ⟨i,j,rfl,rfl,q⟩
 ·cases e
theorem kQ:OpR X (compareOp .Gt) (wO gtC):=by
 intro pins s σ H x y v u Q I rx ry h;obtain⟨t,t',b,r,r',e,q⟩:=h;unfold gtC at e;split at e
 ·rename_i i j;cases e;cases r;cases r';exact z0q _ s σ H _ _ v u Q I rx ry ⟨i,j,rfl,rfl,q⟩
 ·cases e
theorem kR:OpR X (compareOp .GtE) (wO geC):=by
 intro pins s σ H x y v u Q I rx ry h;obtain⟨t,t',b,r,r',e,q⟩:=h;unfold geC at e;split at e
 ·rename_i i j;cases e;cases r;cases r';exact z0r _ s σ H _ _ v u Q I rx ry ⟨i,j,rfl,rfl,q⟩
 ·cases e
theorem jF:OpR X (compareOp .LtE) (wO leC):=by
 intro pins s σ H x y v u Q I rx ry h;obtain⟨t,t',b,r,r',e,q⟩:=h;unfold leC at e;split at e
 ·rename_i i j;cases e;cases r;cases r';exact z0p _ s σ H _ _ v u Q I rx ry ⟨i,j,rfl,rfl,q⟩
 ·cases e;cases r;cases r';obtain⟨t1,rfl⟩:=rx;obtain⟨t2,rfl⟩:=ry;exact PySem.P.le_str ⟨.bl _,H,I,rfl,q⟩
 ·cases e
end
section
variable {X:Cx}{Y:Fx}{a b c d:Expr}{fa fb fc fd:En->R T}{pos:Pos}
noncomputable def Wi (f:T->Option Bool):List T->Option Bool
 | []=>some false
 | t :: r=>match f t with
  | none=>none
  | some b=>match Wi f r with
   | none=>none
   | some c=>some (b || c)
def inC (t t' :T):R Bool:=match t' with
 | .tup ys=>match Wi (λy=>eqF 30 y t) ys with | some b=> .ok b | none=> .bad
 | .lst ys=>match Wi (λy=>eqF 30 y t) ys with | some b=> .ok b | none=> .bad
 | _=> .bad
def Qx (t t' :T):R Bool:=(inC t t').bind λb=> .ok (!b)
theorem Qy:Nx inC:=λt t' c h=>by
 unfold inC at h;split at h
 ·split at h <;> cases h
 ·split at h <;> cases h
 ·cases h
theorem kS:Nx Qx:=λt t' c h=>by
 unfold Qx at h;cases e:inC t t' with
 | bad=>rw[e]at h;cases h
 | ex k=>exact absurd e (Qy _ _ _)
 | ok k=>rw[e]at h;cases h
open Classical in
theorem ul (f:T->Option Bool):∃e:Value->Bool,∀(v:V) (t:T) (u:Value) (b:Bool),Zb v u->Rep H v t->f t=some b->e u=b:=by
 refine⟨λu=>decide (∃v t,Zb v u/\Rep H v t/\f t=some true),λv t u b rv r e=> ?_⟩;cases b with
 | true=>exact decide_eq_true ⟨v,t,rv,r,e⟩
 | false=>
  refine decide_eq_false ?_
  rintro⟨v',t',rv',r',e'⟩
  have:=rv.inj rv';subst this;have:=r.fn r';subst this;rw[e]at e';cases e'
theorem Y4 {H:Hp}{f:T->Option Bool}{e:Value->Bool}(he:∀(v:V) (t:T) (u:Value) (b:Bool),Zb v u->Rep H v t->f t=some b->e u=b):∀{xs:List V} {ts:List T} {its:List Value} {b:Bool},
  zT xs its->zE H xs ts->Wi f ts=some b->its.any e=b/\∀u∈its,∃v t k,Zb v u/\Rep H v t/\f t=some k
 | _,_,_,b,.nil,.nil,h=>by
  have h' :=h;cases h';exact⟨rfl,λu hu=>by simp at hu⟩
 | _,_,_,b,.cons rv vs,.cons r rs,h=>by
  rename_i v u vals us t ts;unfold Wi at h;cases q:f t with
  | none=>rw[q]at h;cases h
  | some k=>
   rw[q]at h;cases q' :Wi f ts with
   | none=>rw[q']at h;cases h
   | some k' =>
    rw[q']at h;cases h;obtain⟨h1,h2⟩:=Y4 he vs rs q';refine⟨by rw[fH,h1,he v t u k rv r q],λw hw=> ?_⟩
    rcases ak.mp hw with rfl | hw
    ·exact⟨v,t,k,rv,r,q⟩
    ·exact h2 w hw
theorem Y5 (hu:X.A.units+64 < cLine)(neg:Bool):OpR X (compareOp (if neg then .NotIn else .In)) (wO (if neg then Qx else inC)):=by
 intro pins s σ H x y v u Q I rx ry h;obtain⟨t,t',b,r,r',e,q⟩:=h;have hs:∃k,inC t t' = .ok k/\b=(if neg then !k else k):=by
  cases neg with
  | false=>exact⟨b,e,rfl⟩
  | true=>
   have e' :Qx t t' = .ok b:=e;unfold Qx at e';cases z:inC t t' with
   | bad=>rw[z]at e';cases e'
   | ex k=>exact absurd z (Qy _ _ _)
   | ok k=>rw[z]at e';cases e';exact⟨k,rfl,rfl⟩
 obtain⟨k,ek,rfl⟩:=hs;unfold inC at ek;obtain⟨f,hf⟩:=ul λy=>eqF 30 y t;have eqa:∀w,(∃v t' k,Zb v w/\Rep H v t' /\eqF 30 t' t=some k)->cI X.A.in1 s w v (f w):=λw ⟨v',t',k,rv,rr,ee⟩=>by
  rw[hf v' t' w k rv rr ee];exact(Y0 I 30 _ (by rw[jE];omega) t' t k v' x w v ee rr r rv rx).1
 split at ek
 ·split at ek
  ·rename_i k' hk;cases ek;cases r' with
   | @tup l xs _ h1 r1=>
    obtain rfl:u=Value.ref l:=ry;obtain⟨its,rv,p,_⟩:=ZF I h1 r1;obtain⟨h2,h3⟩:=Y4 hf rv r1 hk;have h4:its.toArray.any f=k:=by simpa using h2
    cases neg with
    | false=>exact SeqAt.in_tupleAt f p (λw hw=>eqa w (h3 w (by simpa using hw))) (by rw[h4];exact⟨.bl k,H,I,rfl,q⟩)
    | true=>exact SeqAt.notIn_tupleAt f p (λw hw=>eqa w (h3 w (by simpa using hw))) (by rw[h4];exact⟨.bl _,H,I,rfl,q⟩)
  ·cases ek
 ·split at ek
  ·rename_i k' hk;cases ek;cases r' with
   | @lst l xs _ h1 r1=>
    obtain rfl:u=Value.ref l:=ry;obtain⟨its,rv,p,_⟩:=zU I (.inl h1) r1;obtain⟨h2,h3⟩:=Y4 hf rv r1 hk;have h4:its.toArray.any f=k:=by simpa using h2
    cases neg with
    | false=>exact SeqAt.in_listAt f p (λw hw=>eqa w (h3 w (by simpa using hw))) (by rw[h4];exact⟨.bl k,H,I,rfl,q⟩)
    | true=>exact SeqAt.notIn_listAt f p (λw hw=>eqa w (h3 w (by simpa using hw))) (by rw[h4];exact⟨.bl _,H,I,rfl,q⟩)
  ·cases ek
 ·cases ek
theorem vW (hu:X.A.units+64 < cLine):OpR X (compareOp .In) (wO inC):=Y5 hu false
theorem xg (hu:X.A.units+64 < cLine):OpR X (compareOp .NotIn) (wO Qx):=Y5 hu true
noncomputable def isNC (t t' :T):R Bool:=match t' with
 | .non=>match t with | .non=> .ok true | _=> .ok false
 | .bl k=>match t with | .bl j=> .ok (j == k) | _=> .ok false
 | _=> .bad
def chE (g g' :T->T->R Bool)(fa fb fc:En->R T):En->R T:=λρ=>(fa ρ).bind λx=>(fb ρ).bind λy=>(g x y).bind λk=>if k=true then (fc ρ).bind λz=>(g' y z).bind λk' => .ok (.bl k') else .ok (.bl false)
def chT (g g' :T->T->R Bool)(fa fb fc:En->R T):En->R Bool:=λρ=>(fa ρ).bind λx=>(fb ρ).bind λy=>(g x y).bind λk=>if k=true then (fc ρ).bind λz=>g' y z else .ok false
theorem xh (nx:Nx g)(nx' :Nx g')(ho:OpR X (compareOp op) (wO g))(ho' :OpR X (compareOp op') (wO g'))(ha:ZZ X Y a fa)(hb:ZZ X Y b fb)(hc:ZZ X Y c fc)
  (hm:lastMarks [op,op'] [b,c]=false:=by with_unfolding_all rfl):Snd X Y (.Compare a [op,op'] [b,c] pos) (chE g g' fa fb fc):= .mk λρ=>
 PE.imp (Qm ho ho' (ha ρ) (hb ρ) (hc ρ) hm) λσ H Q ⟨B,I,q⟩=>step I q λt v H1 _ s1 r1 I1 q1=>step I1 q1 λt' v' H2 _ s2 r2 I2 q2=>by
  cases e:g t t' with
  | bad=>rw[e]at q2;exact q2.elim
  | ex c=>exact absurd e (nx _ _ _)
  | ok k=>
   rw[e]at q2;refine⟨t,t',k,r1.mono s2,r2,e,k,rfl, ?_⟩;cases k with
   | false=>exact ZB I2 q2 (.bl _)
   | true=>
    refine step I2 q2 λt3 v3 H3 _ s3 r3 I3 q3=> ?_
    ·cases e:g' t' t3 with
     | bad=>rw[e]at q3;exact q3.elim
     | ex c=>exact absurd e (nx' _ _ _)
     | ok k=>rw[e]at q3;exact⟨t',t3,k,r2.mono s3,r3,e,ZB I3 q3 (.bl k)⟩
theorem xi (nx:Nx g)(nx' :Nx g')(ho:OpR X (compareOp op) (wO g))(ho' :OpR X (compareOp op') (wO g'))(ha:ZZ X Y a fa)(hb:ZZ X Y b fb)(hc:ZZ X Y c fc)
  (hm:lastMarks [op,op'] [b,c]=false:=by with_unfolding_all rfl):wL X Y (.Compare a [op,op'] [b,c] pos) (chT g g' fa fb fc):= .mk λρ=>
 PT.imp (Qn ho ho' (ha ρ) (hb ρ) (hc ρ) hm) λσ H Q ⟨B,I,q⟩=>step I q λt v H1 _ s1 r1 I1 q1=>step I1 q1 λt' v' H2 _ s2 r2 I2 q2=>by
  cases e:g t t' with
  | bad=>rw[e]at q2;exact q2.elim
  | ex c=>exact absurd e (nx _ _ _)
  | ok k=>
   rw[e]at q2;refine⟨t,t',k,r1.mono s2,r2,e,k,rfl, ?_⟩;cases k with
   | false=>exact⟨false,rfl,ZB I2 q2 rfl⟩
   | true=>
    refine step I2 q2 λt3 v3 H3 _ s3 r3 I3 q3=> ?_
    ·cases e:g' t' t3 with
     | bad=>rw[e]at q3;exact q3.elim
     | ex c=>exact absurd e (nx' _ _ _)
     | ok k=>rw[e]at q3;exact⟨t',t3,k,r2.mono s3,r3,e,k,rfl,ZB I3 q3 rfl⟩
def xj (r r' r'' :R2)(ta tb tc td:TE):TE:=λσ H Q=>ta σ H λx H1=>tb σ H1 λy H2=>r x y H2 λz H3=>∃k,z= .bl k/\
 (if k=true then tc σ H3 λw' H4=>r' y w' H4 λz' H5=>∃k',z' = .bl k' /\(if k' =true then td σ H5 λw2 H6=>r'' w' w2 H6 Q else Q (.bl false) H5) else Q (.bl false) H3)
theorem Y6 (ho:OpR X (compareOp op) r)(ho' :OpR X (compareOp op') r')(ho'' :OpR X (compareOp op'') r'')(ha:PE X a ta)(hb:PE X b tb)(hc:PE X c tc)(hd:PE X d td)
  (hm:lastMarks [op,op',op''] [b,c,d]=false:=by with_unfolding_all rfl):PE X (.Compare a [op,op',op''] [b,c,d] pos) (xj r r' r'' ta tb tc td):=by
 intro pins s σ H Q I h;refine Compare_chain (thn (ha _ s σ H _ I h) λv s1 ⟨x,H1,I1,r1,q1⟩=>chain_link (thn (hb _ s1 σ H1 _ I1 q1) λu s2 ⟨y,H2,I2,r2,q2⟩=>
  thn (ho _ s2 σ H2 x y v u _ I2 r1 r2 q2) λd' s3 ⟨z,H3,I3,r3,k,e,q3⟩=> ?_)) hm
 subst e;cases r3;refine bc ?_;cases k with
 | false=>exact ite_ff ⟨.bl _,H3,I3,rfl,q3⟩
 | true=>
  refine ite_tt (chain_link (thn (hc _ s3 σ H3 _ I3 q3) λw' s4 ⟨z',H4,I4,r4,q4⟩=>thn (ho' _ s4 σ H4 y z' u w' _ I4 r2 r4 q4) λd2 s5 ⟨z5,H5,I5,r5,k5,e5,q5⟩=> ?_));subst e5;cases r5;refine bc ?_;cases k5 with
  | false=>exact ite_ff ⟨.bl _,H5,I5,rfl,q5⟩
  | true=>exact ite_tt (chain_last (thn (hd _ s5 σ H5 _ I5 q5) λw6 s6 ⟨z6,H6,I6,r6,q6⟩=>ho'' _ s6 σ H6 z' z6 w' w6 Q I6 r4 r6 q6))
def ch3E (g g' g'' :T->T->R Bool)(fa fb fc fd:En->R T):En->R T:=λρ=>(fa ρ).bind λx=>(fb ρ).bind λy=>(g x y).bind λk=>if k=true then (fc ρ).bind λz=>(g' y z).bind λk' =>
 if k' =true then (fd ρ).bind λw=>(g'' z w).bind λk'' => .ok (.bl k'') else .ok (.bl false) else .ok (.bl false)
theorem Qz (nx:Nx g)(nx' :Nx g')(nx'' :Nx g'')(ho:OpR X (compareOp op) (wO g))(ho' :OpR X (compareOp op') (wO g'))(ho'' :OpR X (compareOp op'') (wO g''))
  (ha:ZZ X Y a fa) (hb:ZZ X Y b fb) (hc:ZZ X Y c fc) (hd:ZZ X Y d fd)
  (hm:lastMarks [op,op',op''] [b,c,d]=false:=by with_unfolding_all rfl):Snd X Y (.Compare a [op,op',op''] [b,c,d] pos) (ch3E g g' g'' fa fb fc fd):= .mk λρ=>
 PE.imp (Y6 ho ho' ho'' (ha ρ) (hb ρ) (hc ρ) (hd ρ) hm) λσ H Q ⟨B,I,q⟩=>step I q λt v H1 _ s1 r1 I1 q1=>step I1 q1 λt' v' H2 _ s2 r2 I2 q2=>by
  cases e:g t t' with
  | bad=>rw[e]at q2;exact q2.elim
  | ex c=>exact absurd e (nx _ _ _)
  | ok k=>
   rw[e]at q2;refine⟨t,t',k,r1.mono s2,r2,e,k,rfl, ?_⟩;cases k with
   | false=>exact ZB I2 q2 (.bl _)
   | true=>
    refine step I2 q2 λt3 v3 H3 _ s3 r3 I3 q3=> ?_
    ·cases e:g' t' t3 with
     | bad=>rw[e]at q3;exact q3.elim
     | ex c=>exact absurd e (nx' _ _ _)
     | ok k=>
      rw[e]at q3;refine⟨t',t3,k,r2.mono s3,r3,e,k,rfl, ?_⟩;cases k with
      | false=>exact ZB I3 q3 (.bl _)
      | true=>
       refine step I3 q3 λt4 v4 H4 _ s4 r4 I4 q4=> ?_
       ·cases e:g'' t3 t4 with
        | bad=>rw[e]at q4;exact q4.elim
        | ex c=>exact absurd e (nx'' _ _ _)
        | ok k=>rw[e]at q4;exact⟨t3,t4,k,r3.mono s4,r4,e,ZB I4 q4 (.bl k)⟩
variable {rest:List Expr}{ga gb:En->R Bool}
def jr (fa fb:En->R T):En->R T:=λρ=>(fa ρ).bind λx=>match x with
 | .bl true=>fb ρ
 | .bl false=> .ok (.bl false)
 | _=> .bad
def orE (fa fb:En->R T):En->R T:=λρ=>(fa ρ).bind λx=>match x with
 | .bl true=> .ok (.bl true)
 | .bl false=>fb ρ
 | _=> .bad
def Q9 (fa:En->R T):En->R T:=λρ=>(fa ρ).bind λx=>match x with
 | .bl k=> .ok (.bl (!k))
 | _=> .bad
theorem z0K {op}(h:Snd X Y a fa):Snd X Y (.BoolOp op [a] pos) fa:= .mk λρ=>k9 (h ρ)
theorem z0L (ha:Snd X Y a fa)(hb:Snd X Y (.BoolOp .And (b :: rest) pos) fb):Snd X Y (.BoolOp .And (a :: b :: rest) pos) (jr fa fb):= .mk λρ=>
 PE.imp (ka (ha ρ) (hb ρ)) λσ H Q ⟨B,I,q⟩=>step I q λt v H1 _ s1 r1 I1 q1=>by
  cases r1 with
  | bl k=>
   refine⟨k,rfl, ?_⟩;cases k with
   | true=>exact⟨_,I1,q1⟩
   | false=>exact ZB I1 q1 (.bl _)
  | _=>exact q1.elim
theorem s_or (ha:Snd X Y a fa)(hb:Snd X Y (.BoolOp .Or (b :: rest) pos) fb):Snd X Y (.BoolOp .Or (a :: b :: rest) pos) (orE fa fb):= .mk λρ=>
 PE.imp (z0e (ha ρ) (hb ρ)) λσ H Q ⟨B,I,q⟩=>step I q λt v H1 _ s1 r1 I1 q1=>by
  cases r1 with
  | bl k=>
   refine⟨k,rfl, ?_⟩;cases k with
   | false=>exact⟨_,I1,q1⟩
   | true=>exact ZB I1 q1 (.bl _)
  | _=>exact q1.elim
theorem z0M (ha:Snd X Y a fa):Snd X Y (.UnaryOp .Not a pos) (Q9 fa):= .mk λρ=>
 PE.imp (kb (ha ρ)) λσ H Q ⟨B,I,q⟩=>step I q λt v H1 _ s1 r1 I1 q1=>by
  cases r1 with
  | bl k=>exact⟨k,rfl,ZB I1 q1 (.bl _)⟩
  | _=>exact q1.elim
structure yl (X:Cx) (Y:Fx) (e:Expr) (f:En->R Bool):Prop where
 mk ::
 go:∀ρ,PW X e (tS Y rE f ρ)
instance {X:Cx}{Y:Fx}{e:Expr}{f:En->R Bool}:CoeFun (yl X Y e f) λ_=>∀ρ,PW X e (tS Y rE f ρ):=⟨yl.go⟩
theorem yl.t (h:yl X Y e f):wL X Y e f:= .mk λρ=>(h ρ).pt
theorem PW.imp (h:PW X e t)(i:∀σ H Q,t' σ H Q->t σ H Q):PW X e t' :=λwh pins s σ H Q I q=>h wh _ s σ H Q I (i σ H Q q)
def kT (fa fb:En->R Bool):En->R Bool:=λρ=>(fa ρ).bind λx=>if x=true then fb ρ else .ok false
def orT (fa fb:En->R Bool):En->R Bool:=λρ=>(fa ρ).bind λx=>if x=true then .ok true else fb ρ
def ue (fa:En->R Bool):En->R Bool:=λρ=>(fa ρ).bind λx=> .ok (!x)
theorem kU (h:wL X Y a ga):yl X Y (.BoolOp .And [a] pos) ga:= .mk λρ=>VD (h ρ)
theorem z0N (h:wL X Y a ga):yl X Y (.BoolOp .Or [a] pos) ga:= .mk λρ=>vO (h ρ)
theorem z0O (ha:wL X Y a ga)(hb:yl X Y (.BoolOp .And (b :: rest) pos) gb):yl X Y (.BoolOp .And (a :: b :: rest) pos) (kT ga gb):= .mk λρ=>
 PW.imp (k6 (ha ρ) (hb ρ)) λσ H Q ⟨B,I,q⟩=>step I q λt v H1 _ s1 r1 I1 q1=>by
  have r1' :=r1;subst r1';cases v with
  | true=>exact⟨_,I1,q1⟩
  | false=>exact ZB I1 q1 rfl
theorem w_or (ha:wL X Y a ga)(hb:yl X Y (.BoolOp .Or (b :: rest) pos) gb):yl X Y (.BoolOp .Or (a :: b :: rest) pos) (orT ga gb):= .mk λρ=>
 PW.imp (k7 (ha ρ) (hb ρ)) λσ H Q ⟨B,I,q⟩=>step I q λt v H1 _ s1 r1 I1 q1=>by
  have r1' :=r1;subst r1';cases v with
  | false=>exact⟨_,I1,q1⟩
  | true=>exact ZB I1 q1 rfl
theorem z0P (ha:wL X Y a ga):wL X Y (.UnaryOp .Not a pos) (ue ga):= .mk λρ=>
 PT.imp (k8 (ha ρ)) λσ H Q ⟨B,I,q⟩=>step I q λt v H1 _ s1 r1 I1 q1=>by
  have r1' :=r1;subst r1';exact ZB I1 q1 rfl
noncomputable def tru:T->R Bool
 | .bl k=> .ok k
 | .non=> .ok false
 | .int i=> .ok (i != 0)
 | .tup xs=> .ok (!xs.isEmpty)
 | .lst xs=> .ok (!xs.isEmpty)
 | _=> .bad
def Jk (fa:En->R T):En->R Bool:=λρ=>(fa ρ).bind tru
theorem isE (r:zE H xs ts):(!xs.isEmpty)= !ts.isEmpty:=by cases r <;> rfl
theorem z0Q (ha:ZZ X Y a fa)(he:∀whole,isTrue a X.env whole=(do let v ← whole;standAt a.pos;holding [v] (truthy v)):=by intro _;rfl):wL X Y a (Jk fa):= .mk λρ=>
 PT.imp (Qo (ha ρ) he) λσ H Q ⟨B,I,q⟩=>step I q λt v H1 _ s1 r1 I1 q1=>by
  cases r1 with
  | bl k=>exact⟨k,rfl,ZB I1 q1 rfl⟩
  | non=>exact⟨false,rfl,ZB I1 q1 rfl⟩
  | int i=>exact⟨_,rfl,ZB I1 q1 rfl⟩
  | tup h r=>exact⟨_,.inr (.inl ⟨_,SqT.of h,rfl⟩),ZB I1 q1 (isE r)⟩
  | lst h r=>exact⟨_,.inl ⟨_,SqL.of h,rfl⟩,ZB I1 q1 (isE r)⟩
  | _=>exact q1.elim
def ifE (g:En->R Bool)(fa fb:En->R T):En->R T:=λρ=>(g ρ).bind λk=>if k=true then fa ρ else fb ρ
theorem s_if (hc:wL X Y c ga)(ha:Snd X Y a fa)(hb:Snd X Y b fb):Snd X Y (.IfExp c a b pos) (ifE ga fa fb):= .mk λρ=>
 PE.imp (uL (hc ρ) (ha ρ) (hb ρ)) λσ H Q ⟨B,I,q⟩=>step I q λt v H1 _ s1 r1 I1 q1=>by
  have r1' :=r1;subst r1';cases v with
  | true=>exact⟨_,I1,q1⟩
  | false=>exact⟨_,I1,q1⟩
end
end PV
namespace PV
open PySem PySem.Spec PyProof.Rows L2
section
variable {X:Cx}{Y:Fx}{a b c d:Expr}{fa fb fc fd:En->R T}{pos p:Pos}
def ap1 (g:T->R T)(fa:En->R T):En->R T:=λρ=>(fa ρ).bind g
noncomputable abbrev St1 (X:Cx)(a:Expr):Prop:=starEach [a] X.env=[(false,eval a X.env)]
theorem Wz {id:String}{x:Str}{r:List V->Hp->VK->Prop}{g:T->R T}(hc:Zt X (.builtin id) r)(hr:∀v t B H Q,Rep H v t->zu B H->Po Y rC B H (g t) Q->r [v] H Q)
  (gl:Gl X x) (mg:X.mg x=none) (bt:bootBuiltins x=some (.builtin id)) (ha:ZZ X Y a fa) (hs:St1 X a:=by exact st1 rfl) (hn:x ≠ "__name__":=by decide) (hd:(x == ("__debug__":Str))=false:=by decide):Snd X Y (.Call (.Name x p) [a] [] pos) (ap1 g fa):= .mk λρ=>
 PE.imp (jg hc gl mg bt (zy (ha ρ) zO hs) hn hd hs rfl) λσ H Q ⟨B,I,q⟩=>step I q λt v H1 _ s1 r1 I1 q1=>hr v t _ H1 Q r1 I1.sB q1
theorem Y7 {id:String}{x:Str}{r:List V->Hp->VK->Prop}{g:T->R T}(hc:Zt X (.type id) r)(hr:∀v t B H Q,Rep B v t->zu B H->Po Y rC B H (g t) Q->r [v] H Q)
  (gl:Gl X x) (mg:X.mg x=none) (bt:bootBuiltins x=some (.type id)) (ha:Snd X Y a fa) (hs:St1 X a:=by exact st1 rfl) (hn:x ≠ "__name__":=by decide) (hd:(x == ("__debug__":Str))=false:=by decide):Snd X Y (.Call (.Name x p) [a] [] pos) (ap1 g fa):= .mk λρ=>
 PE.imp (ZQ hc gl mg bt (zy (ha ρ) zO hs) hn hd hs rfl) λσ H Q ⟨B,I,q⟩=>step I q λt v H1 _ s1 r1 I1 q1=>hr v t _ H1 Q r1 I1.sB q1
def Zp:T->R T
 | .tup xs=> .ok (.int xs.length)
 | .lst xs=> .ok (.int xs.length)
 | .fz xs=> .ok (.int xs.length)
 | .str x=>if x.length<=bnd then .ok (.int x.length) else .bad
 | _=> .bad
theorem z0R (v:V)(t:T)(B H:Hp)(Q:VK)(r:Rep H v t)(sB:zu B H)(q:Po Y rC B H (Zp t) Q):
  (∃p ys,[v]=[V.ref p]/\(SqL X.K H p ys\/SqT X.K H p ys)/\Q (V.int ys.length) H)\/(∃z,[v]=[V.str z]/\z.length<=sizeLine/\Q (V.int z.length) H):=by
 cases r with
 | tup h r=>exact .inl ⟨_,_,rfl,.inr (SqT.of h),po0 sB q rfl (by rw[r.length];exact .int _)⟩
 | lst h r=>exact .inl ⟨_,_,rfl,.inl (SqL.of h),po0 sB q rfl (by rw[r.length];exact .int _)⟩
 | fz h r=>exact .inl ⟨_,_,rfl,.inl (.inl (.inr ⟨_,h⟩)),po0 sB q rfl (by rw[r.length];exact .int _)⟩
 | str x=>
  by_cases hb:x.length<=bnd
  ·exact .inr ⟨x,rfl,Zg hb,po0 sB q (if_pos hb) (.int _)⟩
  ·rw[show Zp (.str x)= .bad from if_neg hb]at q;exact q.elim
 | _=>exact q.elim
theorem z0S (gl:Gl X "len")(mg:X.mg "len"=none)(ha:ZZ X Y a fa)(hs:St1 X a:=by exact st1 rfl):Snd X Y (.Call (.Name "len" p) [a] [] pos) (ap1 Zp fa):=
 Wz (Wu.or Wv) z0R gl mg PySem.boot_len ha hs
noncomputable def GF:T->R T
 | .tup xs=> .ok (.tup xs)
 | .lst xs=> .ok (.tup xs)
 | _=> .bad
theorem z0T (v:V)(t:T)(B H:Hp)(Q:VK)(r:Rep B v t)(sB:zu B H)(q:Po Y rC B H (GF t) Q):
  ∃p ys,[v]=[V.ref p]/\((SqL X.K H p ys/\∀l,H l=none->Q (.ref l) (upd H l (.tup ys)))\/(SqT X.K H p ys/\Q (.ref p) H)):=by
 cases r with
 | tup h r=>exact⟨_,_,rfl,.inr ⟨SqT.of (sB _ _ h),po0 sB q rfl (.tup h r)⟩⟩
 | lst h r=>exact⟨_,_,rfl,.inl ⟨SqL.of (sB _ _ h),λl hl=>kJ sB q rfl r hl⟩⟩
 | _=>exact q.elim
theorem xk (gl:Gl X "tuple")(mg:X.mg "tuple"=none)(ha:Snd X Y a fa)(hs:St1 X a:=by exact st1 rfl):Snd X Y (.Call (.Name "tuple" p) [a] [] pos) (ap1 GF fa):=
 Y7 wK z0T gl mg (PyProof.Rows.Boot.«tuple») ha hs
noncomputable def tyN:T->String
 | .non=>"NoneType"
 | .bl _=>"bool"
 | .int _=>"int"
 | .str _=>"str"
 | .tup _=>"tuple"
 | .lst _=>"list"
 | .fz _=>"list"
def isT (n:String)(t:T):Bool:=tyN t == n || (n == "int" && tyN t == "bool")
theorem z0U (K:a8)(r:Rep H v t):UG K H v (.type (tyN t)):=by
 cases r with
 | non=>exact .non
 | bl b=>exact .bl b
 | int b=>exact .int b
 | str b=>exact .str b
 | tup h _=>exact .tup h
 | lst h _=>exact .lst h
 | fz h _=>exact .frz h
theorem QA:Zt X (.builtin "isinstance") (λxs H Q=>∃v n t,xs=[v,.ty n]/\Rep H v t/\aO X.K (.type (tyN t)) (.type n)=some (isT n t)/\Q (.bl (isT n t)) H):=by
 intro pins s σ H xs us Q I rv h;obtain⟨v,n,t,rfl,r,hk,q⟩:=h;obtain⟨u,w,rfl,ru,rw'⟩:=yG rv;obtain rfl:w=Value.type n:=rw';exact yM I ru (z0U X.K r) hk λtk=>⟨.bl _,H,I.tok tk,rfl,q⟩
def Wj (n:String)(t:T):R T:= .ok (.bl (isT n t))
theorem xl (K:a8)(t:T):aO K (.type (tyN t)) (.type "int")=some (isT "int" t):=by cases t <;> rfl
theorem QB (K:a8)(t:T):aO K (.type (tyN t)) (.type "bool")=some (isT "bool" t):=by cases t <;> rfl
theorem xm (K:a8)(t:T):aO K (.type (tyN t)) (.type "str")=some (isT "str" t):=by cases t <;> rfl
theorem Y8 (K:a8)(t:T):aO K (.type (tyN t)) (.type "tuple")=some (isT "tuple" t):=by cases t <;> rfl
theorem QC (hk:∀t,aO X.K (.type (tyN t)) (.type n)=some (isT n t))(gl:Gl X "isinstance")(mg:X.mg "isinstance"=none)(gl' :Gl X (bj n))(mg' :X.mg (bj n)=none)(bt:bootBuiltins (bj n)=some (.type n))(ha:ZZ X Y a fa)
  (hs:starEach [a,.Name (bj n) p'] X.env=[(false,eval a X.env),(false,eval (.Name (bj n) p') X.env)]:=by exact st2 rfl rfl) (hs2:starEach [.Name (bj n) p'] X.env=[(false,eval (.Name (bj n) p') X.env)]:=by exact st1 rfl)
  (hn:bj n ≠ "__name__":=by decide) (hd:(bj n == ("__debug__":Str))=false:=by decide) (hz:((backTo pos (starEach [.Name (bj n) p'] X.env)).any λx=>x.fst)=false:=by exact Zd rfl):
  Snd X Y (.Call (.Name "isinstance" p) [a,.Name (bj n) p'] [] pos) (ap1 (Wj n) fa):= .mk λρ=>
 PE.imp (jg QA gl mg PyProof.Rows.Boot.«isinstance» (zy (ha ρ) (zy (yx (v:= .ty n) gl' mg' bt rfl hn hd) zO hs2) (by rw[hs,hs2])) (by decide) (by decide) (by rw[hs,hs2]) hz) λσ H Q ⟨B,I,q⟩=>
  step I q λt v H1 _ s1 r1 I1 q1=>⟨v,n,t,rfl,r1,hk t,po0 I1.sB q1 rfl (.bl _)⟩
def atT (xs:List T)(i:Int):R T:=match atI xs i with
 | some t=> .ok t
 | none=> .bad
def ixT:T->T->R T
 | .tup xs,.int i=>atT xs i
 | .lst xs,.int i=>atT xs i
 | .fz xs,.int i=>atT xs i
 | .str z,.int i=>if z.length<=bnd then match atI z.cps.toList i with | some c=> .ok (.str ⟨#[c]⟩) | none=> .bad else .bad
 | _,_=> .bad
theorem wo (r:zE H xs ts)(h:atI ts i=some t):∃v,atI xs i=some v/\Rep H v t:=by
 unfold atI at h ⊢;rw[r.length];cases e:ixN _ i with
 | none=>rw[e]at h;cases h
 | some j=>
  rw[e]at h;obtain⟨v,h1,h2⟩:=r.get (h);exact⟨v,h1,h2⟩
theorem s_ix (ha:Snd X Y a fa)(hb:Snd X Y b fb)(hs:Jx b:=by exact λ_ _=>rfl):Snd X Y (.Subscript a b pos) (zd ixT fa fb):= .mk λρ=>
 PE.imp (Qu uS (ha ρ) (hb ρ) hs) λσ H Q ⟨B,I,q⟩=>step I q λt v H1 _ s1 r1 I1 q1=>step I1 q1 λt' v' H2 _ s2 r2 I2 q2=>by
  have r1:=r1.mono (zM.ge I1.sB s2);cases r2 with
  | int i=>
   cases r1 with
   | @tup _ xs ts h r=>
    have q2:Po Y rC _ H2 (atT ts i) Q:=q2;unfold atT at q2;split at q2
    ·rename_i t' e;obtain⟨w,e1,e2⟩:=wo r e;exact .inr (.inl ⟨_,xs,i,w,rfl,rfl,SqT.of (I2.sB _ _ h),e1,po0 I2.sB q2 rfl e2⟩)
    ·exact q2.elim
   | @lst _ xs ts h r=>
    have q2:Po Y rC _ H2 (atT ts i) Q:=q2;unfold atT at q2;split at q2
    ·rename_i t' e;obtain⟨w,e1,e2⟩:=wo r e;exact .inl ⟨_,xs,i,w,rfl,rfl,SqL.of (I2.sB _ _ h),e1,po0 I2.sB q2 rfl e2⟩
    ·exact q2.elim
   | @fz _ _ xs ts h r=>
    have q2:Po Y rC _ H2 (atT ts i) Q:=q2;unfold atT at q2;split at q2
    ·rename_i t' e;obtain⟨w,e1,e2⟩:=wo r e;exact .inl ⟨_,xs,i,w,rfl,rfl,.inl (.inr ⟨_,I2.sB _ _ h⟩),e1,po0 I2.sB q2 rfl e2⟩
    ·exact q2.elim
   | str z=>
    have q2:Po Y rC _ H2 (if z.length<=bnd then match atI z.cps.toList i with | some c=> .ok _ | none=> .bad else .bad) Q:=q2
    split at q2
    ·rename_i hb;split at q2
     ·rename_i c e;exact .inr (.inr ⟨z,i,c,rfl,rfl,Zg hb,e,po0 I2.sB q2 rfl (.str _)⟩)
     ·exact q2.elim
    ·exact q2.elim
   | _=>exact q2.elim
  | _=>cases r1 <;> exact q2.elim
structure xn (X:Cx) (Y:Fx) (e:Option Expr) (f:En->R (Option Int)):Prop where
 mk ::
 go:∀ρ,PO X e (tS Y rE f ρ)
instance {X:Cx}{Y:Fx}{e:Option Expr}{f:En->R (Option Int)}:CoeFun (xn X Y e f) λ_=>∀ρ,PO X e (tS Y rE f ρ):=⟨xn.go⟩
def noO:En->R (Option Int):=λ_=> .ok none
def Je (fa:En->R T):En->R (Option Int):=λρ=>(fa ρ).bind λt=>match t with
 | .int i=> .ok (some i)
 | _=> .bad
theorem PO.imp {e:Option Expr}{t t' :TO}(h:PO X e t)(i:∀σ H Q,t' σ H Q->t σ H Q):PO X e t' :=λpins s σ H Q I q=>h _ s σ H Q I (i σ H Q q)
theorem kW:xn X Y none noO:= .mk λρ=>PO.imp VO λσ H Q ⟨B,I,q⟩=>ZB I q rfl
theorem kX (ha:Snd X Y a fa):xn X Y (some a) (Je fa):= .mk λρ=>PO.imp (VP (ha ρ)) λσ H Q ⟨B,I,q⟩=>step I q λt v H1 _ s1 r1 I1 q1=>by
 cases r1 with
 | int i=>exact⟨i,rfl,ZB I1 q1 rfl⟩
 | _=>exact q1.elim
noncomputable def cut (xs:List T)(lo hi:Option Int):List T:=(xs.drop (HT.sIx xs.length 0 lo)).take (HT.sIx xs.length xs.length hi - HT.sIx xs.length 0 lo)
def slT (t:T)(lo hi:Option Int):R T:=match t with
 | .tup xs=> .ok (.tup (cut xs lo hi))
 | .lst xs=> .ok (.lst (cut xs lo hi))
 | _=> .bad
def slE (fa:En->R T)(fl fh:En->R (Option Int)):En->R T:=λρ=>(fa ρ).bind λt=>(fl ρ).bind λlo=>(fh ρ).bind λhi=>slT t lo hi
theorem Y9 {lo hi:Option Int}(r:zE H xs ts):zE H (XN xs lo hi) (cut ts lo hi):=by
 unfold XN cut;rw[r.length];exact(r.drop _).take _
theorem jT {lo hi:Option Int}(ht:IsTup s.heap t items)(hs:s.heap.IsSliceOf sl vl vu .none)(pl:IsPart vl lo)(pu:IsPart vu hi)
  (hw:HT.sIx items.size 0 lo=0/\HT.sIx items.size items.size hi=items.size) (h:Q (.ref t) s):wpAny (model prog w) A (getItem (.ref t) (.ref sl)) Q E s:=by
 obtain⟨os,hos,hcs,hds⟩:=id hs;have hTs:s.TypeIs (.ref sl) _:=⟨os,hos,hcs⟩;unfold getItem
 try with_reducible refine cB ?_
 refine a7 (wpAny_sequenceKey ht.typeIs (by decide) ?_)
 refine a7 (bw ht.typeIs bi
  (bN bi ht.typeIs entry_tuple_getitem ?_ (args_tuple_getitem _ _)))
 show wpAny _ _ (dJ _ >>= _) _ _ s;refine a7 (tupleItemsOf_ ht ?_);refine a7 (wpAny_typeOf hTs ?_);refine a7 (HT.sliceApplied_gen hs pl pu ?_);have hyes:(((HT.sIx items.size 0 lo):Int) == 0 && (1:Int) == 1 && (HT.sIx items.size items.size hi - HT.sIx items.size 0 lo) == items.size)=true:=by
  rw[hw.1,hw.2];simp
 show wpAny _ _ (if (((HT.sIx _ 0 lo:Nat):Int) == 0 && (1) == 1 && (HT.sIx _ _ hi - HT.sIx _ 0 lo) == items.size)=true then _ else _) _ _ s
 rw[if_pos hyes];refine a7 (a7 (wpAny_typeOf ht.typeIs (ao ?_)));exact a7 (dF (ao ⟨_,rfl,ao h⟩))
theorem US:SlR X (λx lo hi H Q=>∃a xs,x= .ref a/\SqT X.K H a xs/\(HT.sIx xs.length 0 lo=0/\HT.sIx xs.length xs.length hi=xs.length)/\Q (.ref a) H):=by
 intro pins s σ H x v vl vu lo hi sl Q I rx hs pl pu h;obtain⟨a,xs,rfl,hx,hw,q⟩:=h;obtain rfl:v=Value.ref a:=rx;obtain⟨its,r,ht,hz⟩:=I.tuple hx;have hlen:its.toArray.size=xs.length:=by exact r.length.symm
 refine⟨"tuple",_,bi.lookup,ht.typeIs, ?_⟩;exact jT ht hs pl pu (by rw[hlen];exact hw) ⟨.ref a,H,I,rfl,q⟩
theorem xo {lo hi:Option Int}(h1:HT.sIx xs.length 0 lo=0)(h2:HT.sIx xs.length xs.length hi=xs.length):cut xs lo hi=xs:=by
 unfold cut;rw[h1,h2];simp
theorem xp {lo hi:Option Expr}{fl fh:En->R (Option Int)}(ha:Snd X Y a fa)(hl:xn X Y lo fl)(hh:xn X Y hi fh):Snd X Y (.Subscript a (.Slice lo hi none p2) pos) (slE fa fl fh):= .mk λρ=>
 PE.imp (Qt (kx.or (US.or VT)) (ha ρ) (hl ρ) (hh ρ)) λσ H Q ⟨B,I,q⟩=>step I q λt v H1 _ s1 r1 I1 q1=>step I1 q1 λl l' H2 _ s2 el I2 q2=>step I2 q2 λh h' H3 _ s3 eh I3 q3=>by
  have el' :=el;have eh' :=eh;subst el' eh';have r1:=r1.mono ((zM.ge I1.sB s2).trans (zM.ge I2.sB s3));cases r1 with
  | @tup _ xs ts hx r=>
   by_cases hw:HT.sIx xs.length 0 l' =0/\HT.sIx xs.length xs.length h' =xs.length
   ·refine .inr (.inl ⟨_,xs,rfl,SqT.of (I3.sB _ _ hx),hw,po0 I3.sB q3 rfl ?_⟩);rw[r.length]at hw;rw[xo hw.1 hw.2];exact .tup hx r
   ·exact .inl ⟨_,xs,rfl,SqT.of (I3.sB _ _ hx),hw,λp hp=>kJ I3.sB q3 rfl (Y9 r) hp⟩
  | @lst _ xs ts hx r=>
   exact .inr (.inr ⟨_,xs,rfl,SqL.of (I3.sB _ _ hx),λp hp=>kK I3.sB q3 rfl (Y9 r) hp⟩)
  | _=>exact q3.elim
noncomputable def Ya (t t' :T):R T:=match t,t' with
 | .int i,.int j=> .ok (.int (if j < i then j else i))
 | _,_=> .bad
theorem kY (hc:X.calm=true)(gl:Gl X "min")(mg:X.mg "min"=none)(ha:Snd X Y a fa)(hb:Snd X Y b fb)
  (hs:starEach [a,b] X.env=[(false,eval a X.env),(false,eval b X.env)]:=by exact st2 rfl rfl) (hs2:starEach [b] X.env=[(false,eval b X.env)]:=by exact st1 rfl):
  Snd X Y (.Call (.Name "min" p) [a,b] [] pos) (zd Ya fa fb):= .mk λρ=>
 PE.imp (jg (yH hc) gl mg PyProof.Rows.Boot.«min» (zy (ha ρ) (zy (hb ρ) zO hs2) (by rw[hs,hs2])) (by decide) (by decide) (by rw[hs,hs2]) (by rw[hs2];rfl)) λσ H Q ⟨B,I,q⟩=>
  step I q λt v H1 _ s1 r1 I1 q1=>step I1 q1 λt' v' H2 _ s2 r2 I2 q2=>by
   cases r1 with
   | int i=>
    cases r2 with
    | int j=>exact⟨i,j,rfl,po0 I2.sB q2 rfl (.int _)⟩
    | _=>exact q2.elim
   | _=>cases r2 <;> exact q2.elim
noncomputable def uf:List T->Option Bool
 | []=>some true
 | .bl k :: r=>match uf r with | some j=>some (k && j) | none=>none
 | _ :: _=>none
def xr:T->R T
 | .lst ts=>match uf ts with | some k=> .ok (.bl k) | none=> .bad
 | _=> .bad
theorem Yb:∀{H:Hp} {xs:List V} {ts:List T} {its:List Value} {k:Bool},zE H xs ts->zT xs its->uf ts=some k->∃tr:Nat->Bool,(∀i v,its[i]? =some v->v=Value.bool (tr i))/\(ba its.length).all tr=k
 | _,_,_,_,k,.nil,.nil,h=>by
  have h' :=h;cases h';exact⟨λ_=>true,λi v e=>by simp at e,rfl⟩
 | H,_,_,_,k,.cons r rs,.cons (b:=u) rv vs,h=>by
  cases r with
  | bl b=>
   unfold uf at h;split at h
   ·rename_i j e;cases h;obtain⟨tr,h1,h2⟩:=Yb rs vs e;obtain rfl:u=Value.bool b:=rv;refine⟨λi=>match i with | 0=>b | i+1=>tr i,λi v e=> ?_, ?_⟩
    ·cases i with
     | zero=>simp at e;exact e.symm
     | succ i=>exact h1 i v (by simpa using e)
    ·rw[ag,cq,cY,fY,← h2];rfl
   ·cases h
  | _=>cases h
theorem Yc (hh:X.A.handled=none):Zt X (.builtin "all") (λvs H Q=>∃l xs ts k,vs=[.ref l]/\H l=some (.lst xs)/\zE H xs ts/\uf ts=some k/\Q (.bl k) H):=by
 intro pins s σ H vs us Q I rv h;obtain⟨l,xs,ts,k,rfl,hl,r,hk,q⟩:=h;obtain⟨u,rfl,ru⟩:=ZP rv;obtain rfl:u=Value.ref l:=ru;obtain⟨its,rv,p,_⟩:=zU I (.inl hl) r;obtain⟨tr,h1,h2⟩:=Yb r rv hk;refine call_all_walk (c8 p ?_);have hlt:=I.hok.lt hl;have old:∀b o,s.heap.get? b=some o->(s.heap.push { cls:= .type "list_iterator",data:= .fields #[.ref l,.int 0 0] }).get? b=some o:=λb o e=>a9 _ e;refine⟨s.heap.objs.size,_,_,_,_,_,tr,rfl,iF (A:=X.A.in1) hh _ l (aC hlt) its.toArray, ?_, ?_,λh' tk hk' => ?_⟩
 ·refine⟨?_,p.at λo e=>old _ o e⟩;exact⟨_,af _ rfl,rfl,rfl⟩
 ·intro i v s' Q' E' hi hq;rw[h1 i v (by simpa using hi)]
  exact bc hq
 ·rw[az,h2];refine⟨.bl k,H,I.kept (λb o e=>hk' b o ?_ (old b o e)),rfl,q⟩;simp;exact aC (aq e)
theorem z0V (hh:X.A.handled=none)(gl:Gl X "all")(mg:X.mg "all"=none)(ha:ZZ X Y a fa)(hs:St1 X a:=by exact st1 rfl):Snd X Y (.Call (.Name "all" p) [a] [] pos) (ap1 xr fa):=
 Wz (Yc hh) (λv t B H Q r sB q=>by
  cases r with
  | @lst l xs ts h r=>
   have q:Po Y rC B H (match uf ts with | some k=> .ok _ | none=> .bad) Q:=q
   split at q
   ·rename_i k e;exact⟨l,xs,ts,k,rfl,h,r,e,po0 sB q rfl (.bl k)⟩
   ·exact q.elim
  | _=>exact q.elim) gl mg PyProof.Rows.Boot.«all» ha hs
end
inductive RS where
 | nx (ρ:En) | rt (t:T) | bk (ρ:En) | ct (ρ:En) | ex (c:Nat) | bad | rf (ts:List T)
noncomputable def R.s {α:Type}(r:R α)(k:α->RS):RS:=match r with
 | .ok a=>k a
 | .ex c=> .ex c
 | .bad=> .bad
def PoS (Y:Fx)(B:Hp)(r:RS)(D:yj):Prop:=match r with
 | .nx ρ' =>∀σ' H' B',zu B B' ->SI Y B' ρ' σ' H' ->D.nx σ' H'
 | .rt t=>∀v H',zu Y.H0 H' ->Rep (zM Y.B0 Y.H0 H') v t->D.rt v H'
 | .bk ρ' =>∀σ' H' B',zu B B' ->SI Y B' ρ' σ' H' ->D.bk σ' H'
 | .ct ρ' =>∀σ' H' B',zu B B' ->SI Y B' ρ' σ' H' ->D.ct σ' H'
 | .ex c=>XP Y B c
 | .bad=>False
 | .rf ts=>∀a xs H' B',zu Y.H0 H' ->Y.H0 a=none->H' a=some (.lst xs)->zE B' xs ts->B' a=none->zu B' (zM Y.B0 Y.H0 H')->D.rt (.ref a) H'
theorem PoS.up {r:RS}{D:yj}(s:zu B B')(h:PoS Y B r D):PoS Y B' r D:=by
 cases r with
 | nx ρ=>exact λσ' H' B2 s2 I=>h σ' H' B2 (s.trans s2) I
 | bk ρ=>exact λσ' H' B2 s2 I=>h σ' H' B2 (s.trans s2) I
 | ct ρ=>exact λσ' H' B2 s2 I=>h σ' H' B2 (s.trans s2) I
 | rt t=>exact h
 | rf t=>exact h
 | ex c=>exact λd H' s0 sB=>h d H' s0 (s.trans sB)
 | bad=>exact h
def tSS (Y:Fx)(f:En->RS)(ρ:En):TS:=λD σ H=>∃B,SI Y B ρ σ H/\PoS Y B (f ρ) D
structure jm (X:Cx) (Y:Fx) (e:Stmt) (f:En->RS):Prop where
 mk ::
 go:∀ρ,PS X e (tSS Y f ρ)
instance {X:Cx}{Y:Fx}{e:Stmt}{f:En->RS}:CoeFun (jm X Y e f) λ_=>∀ρ,PS X e (tSS Y f ρ):=⟨jm.go⟩
structure JV (X:Cx) (Y:Fx) (e:List Stmt) (f:En->RS):Prop where
 mk ::
 go:∀ρ,PSs X e (tSS Y f ρ)
instance {X:Cx}{Y:Fx}{e:List Stmt}{f:En->RS}:CoeFun (JV X Y e f) λ_=>∀ρ,PSs X e (tSS Y f ρ):=⟨JV.go⟩
theorem j7 {α β:Type}{rel:Hp->Hp->β->α->Prop}{f:En->R α}{k:α->RS}{D:yj}{K:β->Hp->Prop}
  (I:SI Y B ρ σ H) (h:PoS Y B ((f ρ).s k) D)
  (n:∀a b H1,f ρ= .ok a->zu H H1->rel (zM B H H1) H1 b a->SI Y (zM B H H1) ρ σ H1->PoS Y (zM B H H1) (k a) D->K b H1):tS Y rel f ρ σ H K:=by
 refine⟨B,I, ?_⟩;cases e:f ρ with
 | bad=>rw[e]at h;exact h
 | ex c=>rw[e]at h;exact h
 | ok a=>
  rw[e]at h;exact λb H1 s r=>n a b H1 e s r (I.grow s) (PoS.up (zM.ge I.sB s) h)
theorem zq {α:Type}{xs:List α}{x y:α}(h:(xs.set i x)[j]? =some y):(j=i/\y=x)\/(j ≠ i/\xs[j]? =some y):=by
 by_cases e:j=i
 ·subst e
  by_cases hl:j < xs.length
  ·rw[aL hl]at h;exact .inl ⟨rfl,(aB h).symm⟩
  ·rw[a_ (by rw[aE];omega)]at h;cases h
 ·rw[aw (aZ e)]at h;exact .inr ⟨e,h⟩
theorem wp {α:Type}{xs:List α}{x y:α}(h:(xs.set i x)[i]? =some y):i < xs.length:=by
 by_cases hl:i < xs.length
 ·exact hl
 ·rw[a_ (by rw[aE];omega)]at h;cases h
theorem StI.set {O:Addr->Option (Nat×Nat)}(x:StI Y B ρ σ H as O)(i:Nat)(s:Sl)(v:Option V)(h1:s.isO=false)(h3:∀ts,s ≠ .ow ts):StI Y B (ρ.set i s) (σ.set i v) H as O:=
 x.on (λj y hy h=>by
  rcases zq h with ⟨_,e⟩ | ⟨hj,h'⟩
  ·rw[e,h1]at hy;cases hy
  ·exact⟨h',aw (aZ hj)⟩) (zu.refl _) rfl rfl (zu.refl _) λb o hb b0 h0 _=>⟨hb,b0,h0,λok j us h=>by
  rcases zq h with ⟨_,e⟩ | ⟨hj,h'⟩
  ·exact absurd e.symm (h3 us)
  ·rw[aw (aZ hj)];exact ok j us h'⟩
theorem SI.setV (I:SI Y B ρ σ H)(i:Nat)(r:Rep B v t):SI Y B (ρ.set i (.vl t)) (σ.set i (some v)) H where
 s0:=I.s0
 sH:=I.sH
 sB:=I.sB
 old:=I.old
 len:=by rw[aE,aE];exact I.len
 vl:=λj u h=>by
  rcases zq h with ⟨rfl,e⟩ | ⟨hj,h'⟩
  ·cases e;exact⟨v,aL (by rw[← I.len];exact wp h),r⟩
  ·obtain⟨w,e,rr⟩:=I.vl j u h';exact⟨w,by rw[aw (aZ hj)];exact e,rr⟩
 ow:=λj us h=>by
  rcases zq h with ⟨rfl,e⟩ | ⟨hj,h'⟩
  ·cases e
  ·obtain⟨a,xs,e,b0,h0,hh,rr,d⟩:=I.ow j us h';refine⟨a,xs,by rw[aw (aZ hj)];exact e,b0,h0,hh,rr,λk ws hk hw=> ?_⟩
   rcases zq hw with ⟨rfl,e'⟩ | ⟨hk',hw'⟩
   ·cases e'
   ·rw[aw (aZ hk')];exact d k ws hk hw'
 xc:=λj c h=>by
  rcases zq h with ⟨rfl,e⟩ | ⟨hj,h'⟩
  ·cases e
  ·obtain⟨a,e,r⟩:=I.xc j c h';exact⟨a,by rw[aw (aZ hj)];exact e,r⟩
 st:=let ⟨as,O,x⟩:=I.st;⟨as,O,x.set i _ _ rfl (λ_=>Sl.noConfusion)⟩
theorem SI.newO (I:SI Y B ρ σ H)(i:Nat)(hp:H p=none)(r:zE B xs ts):SI Y B (ρ.set i (.ow ts)) (σ.set i (some (.ref p))) (upd H p (.lst xs)) where
 s0:=I.s0
 sH:=I.sH.trans (zu.new hp _)
 sB:=I.sB.trans (zu.new hp _)
 old:=I.old
 len:=by rw[aE,aE];exact I.len
 vl:=λj u h=>by
  rcases zq h with ⟨rfl,e⟩ | ⟨hj,h'⟩
  ·cases e
  ·obtain⟨w,e,rr⟩:=I.vl j u h';exact⟨w,by rw[aw (aZ hj)];exact e,rr⟩
 ow:=λj us h=>by
  have op:∀k ws a,ρ[k]? =some (Sl.ow ws)->σ[k]? =some (some (V.ref a))->a ≠ p:=λk ws a h1 h2=>by
   obtain⟨a',xs',e,_,_,hh,_⟩:=I.ow k ws h1;rw[e]at h2;cases h2;exact zL hh hp
  rcases zq h with ⟨rfl,e⟩ | ⟨hj,h'⟩
  ·cases e;refine⟨p,xs,aL (by rw[← I.len];exact wp h),I.sB.free hp,I.sH.free hp,zx,r,λk ws hk hw=> ?_⟩
   rcases zq hw with ⟨rfl,e'⟩ | ⟨hk',hw'⟩
   ·exact absurd rfl hk
   ·rw[aw (aZ hk')];exact λz=>op k ws p hw' z rfl
  ·obtain⟨a,xs',e,b0,h0,hh,rr,d⟩:=I.ow j us h';refine⟨a,xs',by rw[aw (aZ hj)];exact e,b0,h0,by rw[zt (op j us a h' e)];exact hh,rr,λk ws hk hw=> ?_⟩
   rcases zq hw with ⟨rfl,e'⟩ | ⟨hk',hw'⟩
   ·rw[aL (by rw[← I.len];exact wp hw)]
    intro z;exact op j us a h' e (by injection z with z;injection z with z;injection z with z;exact z.symm)
   ·rw[aw (aZ hk')];exact d k ws hk hw'
 xc:=λj c h=>by
  rcases zq h with ⟨rfl,e⟩ | ⟨hj,h'⟩
  ·cases e
  ·obtain⟨a,e,r⟩:=I.xc j c h';exact⟨a,by rw[aw (aZ hj)];exact e,r⟩
 st:=by
  obtain⟨as,O,x⟩:=I.st;refine⟨as,O,x.on (λj y hy h=> ?_) (zu.refl _) rfl rfl (zu.refl _) λb o hb b0 h0 _=> ?_⟩
  ·rcases zq h with ⟨_,e⟩ | ⟨hj,h'⟩
   ·subst e;cases hy
   ·exact⟨h',aw (aZ hj)⟩
  ·have hne:b ≠ p:=zL hb hp;refine⟨by rw[zt hne];exact hb,b0,h0,λok j us h=> ?_⟩
   rcases zq h with ⟨rfl,e⟩ | ⟨hj,h'⟩
   ·rw[aL (by rw[← I.len];exact wp h)]
    intro z;injection z with z;injection z with z;injection z with z;exact hne z.symm
   ·rw[aw (aZ hj)];exact ok j us h'
theorem SI.chg (I:SI Y B ρ σ H)(i:Nat)(hi:ρ[i]? =some (.ow ts))(he:σ[i]? =some (some (.ref p)))(r:zE B ys us):SI Y B (ρ.set i (.ow us)) σ (upd H p (.lst ys)):=by
 obtain⟨p',xs,e,b0,h0,hh,rr,d⟩:=I.ow i ts hi;rw[he]at e;cases e;have nb:∀b o,B b=some o->b ≠ p:=λb o h z=>by subst z;rw[b0]at h;cases h
 have n0:∀b o,Y.H0 b=some o->b ≠ p:=λb o h z=>by subst z;rw[h0]at h;cases h
 refine⟨I.s0,λb o h=>by rw[zt (n0 b o h)];exact I.sH b o h,λb o h=>by rw[zt (nb b o h)];exact I.sB b o h,I.old,by rw[aE];exact I.len,λj u h=> ?_,λj ws h=> ?_,λj c h=> ?_, ?_⟩
 rotate_right
 ·obtain⟨as,O,x⟩:=I.st;refine⟨as,O,x.on (λj y hy h=> ?_) (zu.refl _) rfl rfl (zu.refl _) λb o hb b0' h0' cs=> ?_⟩
  ·rcases zq h with ⟨_,e⟩ | ⟨hj,h'⟩
   ·subst e;cases hy
   ·exact⟨h',rfl⟩
  ·have hne:b ≠ p:=λz=>by
    subst z;rcases cs with ⟨C,dx,vs,ez⟩ | ok
    ·rw[hh]at hb;cases hb;cases ez
    ·exact ok i ts hi he
   refine⟨by rw[zt hne];exact hb,b0',h0',λok j us h=> ?_⟩
   rcases zq h with ⟨rfl,e⟩ | ⟨hj,h'⟩
   ·rw[he];intro z;injection z with z;injection z with z;injection z with z;exact hne z.symm
   ·exact ok j us h'
 rotate_right
 ·rcases zq h with ⟨rfl,z⟩ | ⟨hj,h'⟩
  ·cases z
  ·exact I.xc j c h'
 ·rcases zq h with ⟨rfl,z⟩ | ⟨hj,h'⟩
  ·cases z
  ·exact I.vl j u h'
 ·rcases zq h with ⟨rfl,z⟩ | ⟨hj,h'⟩
  ·cases z;refine⟨p,ys,he,b0,h0,zx,r,λk vs hk hw=> ?_⟩;rcases zq hw with ⟨rfl,e'⟩ | ⟨hk',hw'⟩
   ·exact absurd rfl hk
   ·exact d k vs hk hw'
  ·obtain⟨a,xs',e,c0,g0,gg,ss,d'⟩:=I.ow j ws h';have hne:a ≠ p:=λz=>by subst z;exact d j ws hj h' e
   refine⟨a,xs',e,c0,g0,by rw[zt hne];exact gg,ss,λk vs hk hw=> ?_⟩
   rcases zq hw with ⟨rfl,e'⟩ | ⟨hk',hw'⟩
   ·rw[he];intro z;injection z with z;injection z with z;injection z with z;exact hne z.symm
   ·exact d' k vs hk hw'
noncomputable def frz1:Sl->Sl
 | .ow ts=> .vl (.lst ts)
 | .ob _ _=> .un
 | .st _=> .un
 | x=>x
def frz (ρ:En):En:=ρ.map frz1
theorem SI.up (I:SI Y B ρ σ H):zu B (zM B Y.H0 H):=λb o h=>by
 cases q:Y.H0 b with
 | none=>rw[zY q];exact I.sB b o h
 | some u=>rw[Z7 q];exact h
theorem SI.frz (I:SI Y B ρ σ H):SI Y (zM B Y.H0 H) (PV.frz ρ) σ H:=by
 have up:zu B (zM B _ H):=λb o h=>by
  cases q:Y.H0 b with
  | none=>rw[zY q];exact I.sB b o h
  | some u=>rw[Z7 q];exact h
 refine⟨I.s0,I.sH,λb o h=> ?_,λb o h=>by rw[Z7 h];exact I.old b o h,by unfold PV.frz;rw[aa];exact I.len,λj t h=> ?_,λj ts h=> ?_,λj c h=> ?_, ?_⟩
 rotate_right
 ·have no:∀(j:Nat) (y:Sl),y.isS=true->(PV.frz ρ)[j]? ≠ some y:=λj y hy h=>by
   unfold PV.frz at h;rw[ay]at h;cases e:ρ[j]? with
   | none=>rw[e]at h;cases h
   | some x=>rw[e]at h;cases x <;> (cases h;cases hy)
  obtain⟨as,O,x⟩:=I.st;refine⟨Y.as,λ_=>none,bO _,λi os e=>(no i _ rfl e).elim,λi j os os' e=>(no i _ rfl e).elim,λi k n e=>(no i _ rfl e).elim,λi k fs h=> ?_,λi os e=>(no i _ rfl e).elim⟩;have h' :ρ[i]? =some (Sl.oc k fs):=by
   unfold PV.frz at h;rw[ay]at h;cases e:ρ[i]? with
   | none=>rw[e]at h;cases h
   | some x=>rw[e]at h;cases x <;> (cases h;try rfl)
  obtain⟨a,C,dx,vs,e1,e2,e3,e4,e5⟩:=x.oc i k fs h';exact⟨a,C,dx,vs,e1,e2,e3,e4,e5.mono up (zu.refl _)⟩
 rotate_right
 ·unfold PV.frz at h;rw[ay]at h;cases e:ρ[j]? with
  | none=>rw[e]at h;cases h
  | some x=>
   rw[e]at h;cases x with
   | xc d=>
    cases h;obtain⟨a,e1,r⟩:=I.xc j _ e;exact⟨a,e1,up a _ r⟩
   | un=>cases h
   | vl _=>cases h
   | ow _=>cases h
   | ob _ _=>cases h
   | oc _ _=>cases h
   | st _=>cases h
 ·cases q:Y.H0 b with
  | none=>rw[zY q]at h;exact h
  | some u=>rw[Z7 q]at h;exact I.sB b o h
 ·unfold PV.frz at h;rw[ay]at h;cases e:ρ[j]? with
  | none=>rw[e]at h;cases h
  | some x=>
   rw[e]at h;cases x with
   | un=>cases h
   | vl u=>
    cases h;obtain⟨v,e1,r⟩:=I.vl j _ e;exact⟨v,e1,r.mono up⟩
   | ow us=>
    cases h;obtain⟨a,xs,e1,b0,h0,hh,rr,_⟩:=I.ow j us e;exact⟨.ref a,e1,.lst (by rw[zY h0];exact hh) (rr.mono up)⟩
   | xc _=>cases h
   | ob _ _=>cases h
   | oc _ _=>cases h
   | st _=>cases h
 ·unfold PV.frz at h;rw[ay]at h;cases e:ρ[j]? with
  | none=>rw[e]at h;cases h
  | some x=>
   rw[e]at h;cases x with
   | un=>cases h
   | vl u=>cases h
   | ow us=>cases h
   | xc _=>cases h
   | ob _ _=>cases h
   | oc _ _=>cases h
   | st _=>cases h
theorem vX {Y:Fx}{B H H' :Hp}(s0:zu Y.H0 H)(old:∀b o,Y.H0 b=some o->B b=Y.B0 b)(s:zu H H')(sB:zu B H):zu (zM B H H') (zM Y.B0 Y.H0 H'):=λb o h=>by
 cases q:H b with
 | none=>
  rw[zY q]at h;rw[zY (s0.free q)];exact h
 | some u=>
  rw[Z7 q]at h;cases z:Y.H0 b with
  | none=>rw[zY z];exact s b o (sB b o h)
  | some w=>rw[Z7 z,← old b w z];exact h
section
variable {X:Cx}{Y:Fx}{a b c d:Expr}{fa fb fc fd:En->R T}{pos p:Pos}{st:Stmt}{sts sts' :List Stmt}{f g:En->RS}
def nxS:En->RS:=λρ=> .nx ρ
def zB (f g:En->RS):En->RS:=λρ=>match f ρ with
 | .nx ρ' =>g ρ'
 | r=>r
theorem z0W:JV X Y [] nxS:= .mk λρ=>PSs.imp yy λD σ H ⟨B,I,q⟩=>q σ H B (zu.refl B) I
theorem z0X (h:jm X Y st f):JV X Y [st] f:= .mk λρ=>jN (h ρ)
theorem kZ (h1:jm X Y st f)(h2:JV X Y sts g):JV X Y (st :: sts) (zB f g):= .mk λρ=>by
 refine PSs.imp (wG (u:=λD σ H=>∃ρ',tSS Y g ρ' D σ H) (h1 ρ) ?_) ?_
 ·intro pins s σ H D I ⟨ρ',q⟩;exact h2 ρ' _ s σ H D I q
 ·intro D σ H ⟨B,I,q⟩;refine⟨B,I, ?_⟩;unfold zB at q;cases e:f ρ with
  | nx ρ' =>
   rw[e]at q;intro σ' H' B' s' I';exact⟨ρ',B',I',PoS.up s' q⟩
  | rt t=>rw[e]at q;exact q
  | rf t=>rw[e]at q;exact q
  | bk ρ' =>rw[e]at q;exact q
  | ct ρ' =>rw[e]at q;exact q
  | ex c=>rw[e]at q;exact q
  | bad=>rw[e]at q;exact q
def zP (i:Nat)(fa:En->R T):En->RS:=λρ=>(fa ρ).s λt=> .nx (ρ.set i (.vl t))
theorem K0 (hN:X.N.Nodup)(hi:X.N[i]? =some x)(hx:L2.Loc X.env.scope x)(ha:Snd X Y a fa)(hs:swapsWith a (some (.Name x p')) pos.line X.env=pure false:=by rfl)
  (hf:X.fn x=true\/X.env.scope.names.lookup x=some .local:=by first | exact .inl rfl | exact .inr rfl | assumption):jm X Y (.Assign [.Name x p'] a pos) (zP i fa):= .mk λρ=>
 PS.imp (wj hN hi hx (ha ρ) hs hf) λD σ H ⟨B,I,q⟩=>j7 I q λt v H1 _ s1 r1 I1 q1=>q1 _ _ _ (zu.refl _) (I1.setV i r1)
def ym (i:Nat)(ga:En->R (List T)):En->RS:=λρ=>(ga ρ).s λts=>if ts.length<=bnd then .nx (ρ.set i (.ow ts)) else .bad
theorem K1 (hN:X.N.Nodup)(hi:X.N[i]? =some x)(hx:L2.Loc X.env.scope x)(ha:wn X Y es ga)(hs:swapsWith (.List es p) (some (.Name x p')) pos.line X.env=pure false:=by rfl)
  (hf:X.fn x=true\/X.env.scope.names.lookup x=some .local:=by first | exact .inl rfl | exact .inr rfl | assumption):jm X Y (.Assign [.Name x p'] (.List es p) pos) (ym i ga):= .mk λρ=>
 PS.imp (wj hN hi hx (uP (ha ρ)) hs hf) λD σ H ⟨B,I,q⟩=>j7 I q λts vs H1 _ s1 r1 I1 q1=>by
  split at q1
  ·rename_i hb;exact⟨by rw[r1.length];exact Zg hb,λp hp=>q1 _ _ _ (zu.refl _) (I1.newO i hp r1)⟩
  ·exact q1.elim
def zF (fa:En->R T):En->RS:=λρ=>(fa (frz ρ)).s λt=> .rt t
theorem z0Y (ha:Snd X Y a fa):jm X Y (.Return (some a) pos) (zF fa):= .mk λρ=>
 PS.imp (wg (ha _)) λD σ H ⟨B,I,q⟩=>by
  refine⟨_,I.frz, ?_⟩;unfold zF at q;cases e:fa _ with
  | bad=>rw[e]at q;exact q
  | ex c=>
   rw[e]at q;exact λd H' s0 sG=>q d H' s0 (I.up.trans sG)
  | ok t=>
   rw[e]at q;intro v H' s r;have J:=I.frz;exact q v H' (I.sH.trans s) (r.mono (vX J.sH J.old s J.sB))
def ifS (g:En->R Bool)(f1 f2:En->RS):En->RS:=λρ=>(g ρ).s λk=>if k=true then f1 ρ else f2 ρ
theorem z0Z (hc:wL X Y c ga)(h1:JV X Y sts f)(h2:JV X Y sts' g):jm X Y (.If c sts sts' pos) (ifS ga f g):= .mk λρ=>
 PS.imp (kd (hc ρ) (h1 ρ) (h2 ρ)) λD σ H ⟨B,I,q⟩=>j7 I q λt v H1 _ s1 r1 I1 q1=>by
  have r1' :=r1;subst r1';cases v with
  | true=>exact⟨_,I1,q1⟩
  | false=>exact⟨_,I1,q1⟩
def UT (fa:En->R T):En->RS:=λρ=>(fa ρ).s λ_=> .nx ρ
theorem K2 (ha:Snd X Y a fa)(hs:swapsWith a none pos.line X.env=pure false:=by rfl):jm X Y (.Expr a pos) (UT fa):= .mk λρ=>
 PS.imp (Jt (ha ρ) hs) λD σ H ⟨B,I,q⟩=>j7 I q λt v H1 _ s1 r1 I1 q1=>q1 _ _ _ (zu.refl _) I1
def yn (i:Nat)(fa:En->R T):En->RS:=λρ=>match ρ[i]? with
 | some (.ow ts)=>(fa ρ).s λt=>if ts.length < bnd then .nx (ρ.set i (.ow (ts++[t]))) else .bad
 | _=> .bad
def Qa (i:Nat)(fa:En->R T):En->RS:=λρ=>match ρ[i]? with
 | some (.ow ts)=>(fa ρ).s λt=>match t with
  | .lst us=>if ts.length+us.length<=bnd then .nx (ρ.set i (.ow (ts++us))) else .bad
  | _=> .bad
 | _=> .bad
theorem vY (h:n < bnd):n < sizeLine:=by exact h
theorem z10 (hv:PE X (.Name x px) (jk i))(ha:Snd X Y a fa)(hb:attributeBase (.Name x px) "append" X.env (eval (.Name x px) X.env)=eval (.Name x px) X.env:=by rfl)(hs:St1 X a:=by exact st1 rfl)
  (hz:(pa.endLine == p.line)=true:=by rfl) (hw:swapsWith (.Call (.Attribute (.Name x px) "append" pa) [a] [] p) none pos.line X.env=pure false:=by rfl):jm X Y (.Expr (.Call (.Attribute (.Name x px) "append" pa) [a] [] p) pos) (yn i fa):= .mk λρ=>by
 have e1:(((((backTo p (starEach [a] X.env)).all λx=> !x.fst) && (backToKw p (keywordEach [] X.env)).all λx=>x.fst.isSome) && decide (([a].length+([]:List Keyword).length+if ([]:List Keyword).isEmpty=true then 0 else 1) < 30))=true):=by rw[hs];rfl
 refine PS.imp (Jt (UL bH dZ d_ Jy hv (zy (ha ρ) zO hs) hb e1 hz hs rfl) hw) λD σ H ⟨B,I,q⟩=> ?_;unfold yn at q;split at q
 ·rename_i ts e;obtain⟨l,xs,e1,b0,h0,hh,rr,d⟩:=I.ow i ts e;refine⟨.ref l,e1,.inl ⟨rfl,_,SqL.of hh⟩, ?_⟩;refine j7 I q λt v H1 _ s1 r1 I1 q1=> ?_;split at q1
  ·rename_i hb;refine⟨l,xs,v,rfl,rfl,s1 _ _ hh,by rw[rr.length];exact vY hb, ?_⟩
   exact q1 _ _ _ (zu.refl _) (I1.chg i e e1 ((rr.mono (zM.ge I.sB s1)).append (.cons r1 .nil)))
  ·exact q1.elim
 ·exact q.elim
theorem z11 (hv:PE X (.Name x px) (jk i))(ha:Snd X Y a fa)(hb:attributeBase (.Name x px) "extend" X.env (eval (.Name x px) X.env)=eval (.Name x px) X.env:=by rfl)(hs:St1 X a:=by exact st1 rfl)
  (hz:(pa.endLine == p.line)=true:=by rfl) (hw:swapsWith (.Call (.Attribute (.Name x px) "extend" pa) [a] [] p) none pos.line X.env=pure false:=by rfl):jm X Y (.Expr (.Call (.Attribute (.Name x px) "extend" pa) [a] [] p) pos) (Qa i fa):= .mk λρ=>by
 have e1:(((((backTo p (starEach [a] X.env)).all λx=> !x.fst) && (backToKw p (keywordEach [] X.env)).all λx=>x.fst.isSome) && decide (([a].length+([]:List Keyword).length+if ([]:List Keyword).isEmpty=true then 0 else 1) < 30))=true):=by rw[hs];rfl
 refine PS.imp (Jt (UL bH PySem.F.slot_list_extend PySem.F.type_list_extend yS hv (zy (ha ρ) zO hs) hb e1 hz hs rfl) hw) λD σ H ⟨B,I,q⟩=> ?_;unfold Qa at q;split at q
 ·rename_i ts e;obtain⟨l,xs,e1,b0,h0,hh,rr,d⟩:=I.ow i ts e;refine⟨.ref l,e1,.inl ⟨rfl,_,SqL.of hh⟩, ?_⟩;refine j7 I q λt v H1 _ s1 r1 I1 q1=> ?_;cases r1 with
  | @lst b zs us hb r=>
   have q1:PoS Y _ (if ts.length+us.length<=bnd then .nx _ else .bad) D:=q1
   split at q1
   ·rename_i hl;refine⟨l,b,xs,zs,rfl,rfl,s1 _ _ hh,I1.sB _ _ hb,by rw[rr.length,r.length];exact Zg hl, ?_⟩
    exact q1 _ _ _ (zu.refl _) (I1.chg i e e1 ((rr.mono (zM.ge I.sB s1)).append r))
   ·exact q1.elim
  | _=>exact q1.elim
 ·exact q.elim
end
def spP (cl:Nat->Value)(n:Nat)(g:List T->R T):Sp:=λvs H Q E=>∃B ts,ts.length=n/\zu B H/\zE B vs ts/\Po ⟨B,H,E,cl,[]⟩ rC B H (g ts) Q
theorem spP.len (vs:List V)(H:Hp)(Q:VK)(E:XK)(h:spP cl n g vs H Q E):vs.length=n:=by
 obtain⟨B,ts,hl,_,r,_⟩:=h;rw[r.length,hl]
def za (n:Nat)(g:List T->R T)(ga:En->R (List T)):En->R T:=λρ=>(ga ρ).bind λts=>if ts.length=n then g ts else .bad
section
theorem K3 (F:ZW X.prog X.w X.K X.mg X.base CX k f fd ps (spP Y.cl n g))(hr:Zu k X.A)(gl:Gl X x)(mg:X.mg x=some (.ref f))
  (kp:bJ X.K (.ref f)=true) (bd:L2.Binds X.K fd ps []) (hx:zX CX X Y.E) (ha:wn X Y (a :: es) ga) (hd:(x == ("__debug__":Str))=false:=by decide)
  (hs:starEach (a :: es) X.env=(false,eval a X.env) :: starEach es X.env:=by exact zC rfl) (hz:((backTo pos (starEach es X.env)).any λx=>x.fst)=false:=by exact Zd rfl):Snd X Y (.Call (.Name x p) (a :: es) [] pos) (za n g ga):= .mk λρ=>
 PE.imp (yO F hr gl mg kp bd .nil hx (ha ρ) hd hs hz) λσ H Q ⟨B,I,q⟩=>step I q λts vs H1 _ s1 r1 I1 q1=>by
  split at q1
  ·rename_i hn;rw[aP];refine⟨_,ts,hn,I1.sB,r1, ?_⟩;revert q1;cases g ts with
   | bad=>exact λq1=>q1
   | ex c=>exact λq1 d H' s sB=>q1 d H' (I1.sH.trans s) sB
   | ok t=>exact λq1=>q1
  ·exact q1.elim
end
noncomputable def zA:RS->R T
 | .rt t=> .ok t
 | .rf ts=> .ok (.lst ts)
 | .nx _=> .ok .non
 | .ex c=> .ex c
 | _=> .bad
def en0 (n:Nat)(ts:List T):En:=ts.map Sl.vl++aj (n - ts.length) Sl.un
theorem zE.vl {H:Hp}:∀{vs:List V} {ts:List T} {i:Nat} {t:T} {n m:Nat},zE H vs ts->(ts.map Sl.vl++aj n Sl.un)[i]? =some (Sl.vl t)->∃v:V,(vs.map some++aj m none)[i]? =some (some v)/\Rep H v t
 | _,_,i,t,n,m,.nil,h=>by
  simp only[cN,bM]at h;rw[aG]at h;split at h
  ·cases h
  ·cases h
 | _,_,0,t,n,m,.cons r _,h=>by
  simp at h;subst h;exact⟨_,rfl,r⟩
 | _,_,i+1,t,n,m,.cons _ q,h=>by
  obtain⟨v,h1,h2⟩:=zE.vl q (by simpa using h)
  exact⟨v,by simpa using h1,h2⟩
theorem vZ {n:Nat}:∀{ts:List T} {i:Nat} {us:List T},(ts.map Sl.vl++aj n Sl.un)[i]? =some (Sl.ow us)->False
 | [],i,us,h=>by
  simp only[cN,bM]at h;rw[aG]at h;split at h
  ·cases h
  ·cases h
 | t :: ts,0,us,h=>by simp at h
 | t :: ts,i+1,us,h=>vZ (by simpa using h)
theorem V0 {n:Nat}:∀{ts:List T} {i:Nat} {c:Nat},(ts.map Sl.vl++aj n Sl.un)[i]? =some (Sl.xc c)->False
 | [],i,us,h=>by
  simp only[cN,bM]at h;rw[aG]at h;split at h
  ·cases h
  ·cases h
 | t :: ts,0,us,h=>by simp at h
 | t :: ts,i+1,us,h=>V0 (by simpa using h)
theorem um {n:Nat}{x:Sl}(h1:∀t,x ≠ .vl t)(h2:x ≠ .un):∀{ts:List T} {i:Nat},(ts.map Sl.vl++aj n Sl.un)[i]? =some x->False
 | [],i,h=>by
  simp only[cN,bM]at h;rw[aG]at h;split at h
  ·exact h2 (aB h).symm
  ·cases h
 | t :: ts,0,h=>h1 t (aB (by simpa using h)).symm
 | t :: ts,i+1,h=>um h1 h2 (by simpa using h)
theorem SI.start {Y:Fx}{N:List Str}{vs:List V}{ts:List T}(s:zu Y.B0 Y.H0)(r:zE Y.B0 vs ts):SI Y Y.B0 (en0 N.length ts) (L2.start N vs) Y.H0 where
 s0:=s
 sH:=zu.refl _
 sB:=s
 old:=λ_ _ _=>rfl
 len:=by unfold en0 L2.start;simp[r.length]
 vl:=λi t h=>r.vl h
 ow:=λi ts h=>(vZ h).elim
 xc:=λi c h=>(V0 h).elim
 st:=StI.no λi s hs h=>um (λt z=>by rw[z]at hs;cases hs) (λz=>by rw[z]at hs;cases hs) h
section
variable {P:Program}{w:World}{K:a8}{mg:Str->Option Value}{base:Heap}
theorem z12 {cl:Nat->Value}{x qual:Str}{st:Stmt}{f:Addr}{fd:FuncData}{N ps:List Str}{k n:Nat}{fb:En->RS}{g:List T->R T}(F:Fun K x qual st f fd)(S:ZA N ps (zr st))(hn:n=ps.length)
  (hb:∀(cdv:Value) (A:Around) (outer:List Env) (s:Shared) (H:Hp) (E:XK) (Y:Fx),Y.cl=cl->Zu k (A.deeper (envOfC qual (zr st) s.heap.objs.size f cdv))->
   JV (jL CX0 P w K mg base N qual (zr st) f cdv A outer s H E).nox Y (zI st) fb)
  (hg:∀ts,ts.length=n->g ts=zA (fb (en0 N.length ts))):ZW P w K mg base CX0 (k+1) f fd ps (spP cl n g):=by
 subst hn;refine F.ok S spP.len λcdv A outer s H vs Q E hr ⟨B,ts,hl,sB,r,q⟩=> ?_;refine⟨_,hb cdv A _ s H E ⟨B,H,E,cl,[]⟩ rfl hr _,B,SI.start sB r, ?_⟩;rw[hg ts hl]at q;revert q;cases fb _ with
 | rt t=>exact λq v H' s r=>q v H' s r
 | rf t=>exact λq a xs H' B' s0 n e r _ l=>q _ H' s0 (.lst (by rw[zY n];exact e) (r.mono l))
 | nx ρ=>exact λq σ' H' B' _ I=>q _ H' I.sH .non
 | ex c=>exact λq=>q
 | bk ρ=>exact λq=>q.elim
 | ct ρ=>exact λq=>q.elim
 | bad=>exact λq=>q
end
abbrev rI:Hp->Hp->It->List T->Prop:=λB1 _ J ts=>∀B2 H2,zu B1 B2->zu B2 H2->(∀i,i < ts.length->J.go i H2)/\(∀(i:Nat) t x H3,ts[i]? =some t->J.yld i H2 x H3->zu H2 H3/\Rep (zM B2 H2 H3) x t)/\(∀i,ts.length<=i->J.stop i H2)
structure uo (X:Cx) (Y:Fx) (tg iter:Expr) (f:En->R (List T)):Prop where
 mk ::
 go:∀ρ,PI X tg iter (tS Y rI f ρ)
instance {X:Cx}{Y:Fx}{tg iter:Expr}{f:En->R (List T)}:CoeFun (uo X Y tg iter f) λ_=>∀ρ,PI X tg iter (tS Y rI f ρ):=⟨uo.go⟩
section
theorem PI.imp (h:PI X tg e t)(i:∀σ H Q,t' σ H Q->t σ H Q):PI X tg e t' :=λpins s σ H Q I q=>h _ s σ H Q I (i σ H Q q)
theorem K4 (hl:PE X l tl):PI X tg l (λσ H R=>tl σ H λx H1=>∃a,x= .ref a/\(((∃xs,SqL X.K H1 a xs)/\R (Itl X.K a) H1)\/((∃xs,SqT X.K H1 a xs)/\R (Itt X.K a) H1))):=by
 intro pins s σ H R I h;refine thn (hl _ s σ H _ I h) λv s1 ⟨x,H1,I1,r1,q1⟩=> ?_;obtain⟨a,e,q⟩:=q1;subst e;obtain rfl:v=Value.ref a:=r1;have ok:∀b∈[s1.heap.objs.size],Wh X _ H1 b:=λb hb=>by
  have e:=by simpa using hb
  subst e;exact I1.fpOk (ai _) (I1.hok.fresh (ai _))
 rcases q with ⟨⟨xs,hq⟩,q⟩ | ⟨⟨xs,hq⟩,q⟩
 ·obtain⟨its,rv,p,hz⟩:=I1.list hq;exact c8 p.isList ⟨s1.heap.objs.size,[s1.heap.objs.size],_,_,H1,rfl,I1.kept λb o e=>a9 _ e,Wm a _,⟨_,af _ rfl,rfl,rfl⟩,ok,q⟩
 ·obtain⟨its,rv,p,hz⟩:=I1.tuple hq;exact wpAny_pyIter_tuple (show s1.heap.IsTuple a _ from p) ⟨s1.heap.objs.size,[s1.heap.objs.size],_,_,H1,rfl,I1.kept λb o e=>a9 _ e,wk a _,⟨_,af _ rfl,rfl,rfl⟩,ok,q⟩
theorem K5 {K:a8}{B1 H1:Hp}{a:Addr}{xs:List V}{ts:List T}(h:B1 a=some (.tup xs))(r:zE B1 xs ts):rI B1 H1 (Itt K a) ts:=λB2 H2 s1 s2=>by
 have h2:=s2 _ _ (s1 _ _ h);refine⟨λi hi=> ?_,λi t x H3 e y=> ?_,λi hi=>⟨xs,SqT.of h2,by rw[r.length];exact hi⟩⟩
 ·obtain⟨v,e,_⟩:=r.get (ah hi);exact⟨xs,v,SqT.of h2,e⟩
 ·obtain⟨rfl,y⟩:=y;obtain⟨v,e1,r1⟩:=r.get e;have:=y xs (SqT.of h2);rw[e1]at this;cases this;refine⟨zu.refl _, ?_⟩;rw[zM.self B2 _ s2];exact r1.mono s1
theorem K6 {K:a8}{B1 H1:Hp}{a:Addr}{xs:List V}{ts:List T}(h:B1 a=some (.lst xs))(r:zE B1 xs ts):rI B1 H1 (Itl K a) ts:=λB2 H2 s1 s2=>by
 have h2:=s2 _ _ (s1 _ _ h);refine⟨λi hi=> ?_,λi t x H3 e y=> ?_,λi hi=>⟨xs,SqL.of h2,by rw[r.length];exact hi⟩⟩
 ·obtain⟨v,e,_⟩:=r.get (ah hi);exact⟨xs,v,SqL.of h2,e⟩
 ·obtain⟨rfl,y⟩:=y;obtain⟨v,e1,r1⟩:=r.get e;have:=y xs (SqL.of h2);rw[e1]at this;cases this;refine⟨zu.refl _, ?_⟩;rw[zM.self B2 _ s2];exact r1.mono s1
noncomputable def rng (lo:Int)(n:Nat):List T:=(ba n).map λ(i:Nat)=>T.int (lo+(i:Int))
theorem V1 {B1 H1:Hp}{lo:Int}{n:Nat}:rI B1 H1 (Itr lo n) (rng lo n):=λB2 H2 s1 s2=>by
 have hl:(rng lo n).length=n:=by unfold rng;simp
 refine⟨λi hi=>by rw[hl]at hi;exact hi,λi t x H3 e y=> ?_,λi hi=>by rw[hl]at hi;exact hi⟩
 obtain⟨rfl,rfl⟩:=y;refine⟨zu.refl _, ?_⟩;unfold rng at e;rw[ay]at e
 by_cases hi:i < n
 ·rw[cT hi]at e;cases e;exact .int _
 ·rw[a_ (by simp;omega)]at e;cases e
def Za (fa:En->R T):En->R (List T):=λρ=>(fa ρ).bind λt=>match t with
 | .int j=>if -1000000 < j/\j < 1000000 then .ok (rng 0 j.toNat) else .bad
 | _=> .bad
def Jf (fa fb:En->R T):En->R (List T):=λρ=>(fa ρ).bind λt=>(fb ρ).bind λt' =>match t,t' with
 | .int i,.int j=>if -1000000 < i/\i < 1000000/\ -1000000 < j/\j < 1000000 then .ok (rng i (j - i).toNat) else .bad
 | _,_=> .bad
theorem K7 (gl:Gl X "range")(mg:X.mg "range"=none)(ha:Snd X Y a fa)(hs:St1 X a:=by exact st1 rfl):uo X Y tg (.Call (.Name "range" p) [a] [] pos) (Za fa):= .mk λρ=>PI.imp (yB gl mg (zy (ha ρ) zO hs) hs) λσ H R ⟨B,I,q⟩=>step I q λt v H1 _ s1 r1 I1 q1=>by
 cases r1 with
 | int j=>
  have q1:Po Y rI _ H1 (if -1000000 < j/\j < 1000000 then .ok _ else .bad) R:=q1
  split at q1
  ·exact⟨j,rfl,by omega,by omega,ZB I1 q1 V1⟩
  ·exact q1.elim
 | _=>exact q1.elim
theorem K8 (gl:Gl X "range")(mg:X.mg "range"=none)(ha:Snd X Y a fa)(hb:Snd X Y b fb)(hs:starEach [a,b] X.env=[(false,eval a X.env),(false,eval b X.env)]:=by exact st2 rfl rfl)(hs2:St1 X b:=by exact st1 rfl):uo X Y tg (.Call (.Name "range" p) [a,b] [] pos) (Jf fa fb):= .mk λρ=>
 PI.imp (yC gl mg (zy (ha ρ) (zy (hb ρ) zO hs2) (by rw[hs,hs2])) hs hs2) λσ H R ⟨B,I,q⟩=>step I q λt v H1 _ s1 r1 I1 q1=>step I1 q1 λt' v' H2 _ s2 r2 I2 q2=>by
  cases r1 with
  | int i=>
   cases r2 with
   | int j=>
    have q2:Po Y rI _ H2 (if -1000000 < i/\i < 1000000/\ -1000000 < j/\j < 1000000 then .ok _ else .bad) R:=q2
    split at q2
    ·exact⟨i,j,rfl,⟨by omega,by omega,by omega,by omega⟩,ZB I2 q2 V1⟩
    ·exact q2.elim
   | _=>exact q2.elim
  | _=>cases r2 <;> exact q2.elim
def z13 (X:Cx)(Y:Fx)(tg:Expr)(g:T->En->R En):Prop:=∃t:TG,PG X tg t/\∀B ρ σ H v x Q,SI Y B ρ σ H->Rep B v x->(match g x ρ with | .ok ρ' =>∀σ',SI Y B ρ' σ' H->Q σ' H | _=>False)->t v σ H Q
def zJ (i:Nat):T->En->R En:=λt ρ=> .ok (ρ.set i (.vl t))
theorem V2 (hN:X.N.Nodup)(hi:X.N[i]? =some x)(hx:L2.Loc X.env.scope x)(hf:X.fn x=true\/X.env.scope.names.lookup x=some .local:=by first | exact .inl rfl | exact .inr rfl | assumption):z13 X Y (.Name x pos) (zJ i):=
 ⟨wH i,jO hN hi hx hf,λB ρ σ H v x Q I r q=>q _ (I.setV i r)⟩
def ZC (i j:Nat):T->En->R En:=λt ρ=>match t with
 | .tup [x,y]=> .ok ((ρ.set i (.vl x)).set j (.vl y))
 | _=> .bad
def Zx (g:T->En->R En)(fb:En->RS):List T->En->RS
 | [],ρ=> .nx ρ
 | t :: ts,ρ=>match g t ρ with
  | .ok ρ1=>match fb ρ1 with
   | .nx ρ2=>Zx g fb ts ρ2
   | .ct ρ2=>Zx g fb ts ρ2
   | .bk ρ2=> .nx ρ2
   | r=>r
  | .ex c=> .bad
  | .bad=> .bad
def ZT (fi:En->R (List T))(g:T->En->R En)(fb:En->RS):En->RS:=λρ=>(fi ρ).s λts=>Zx g fb ts ρ
theorem K9 {g:T->En->R En}(hp:PassesOwn (model X.prog X.w) X.A X.env X.xe)(hc:X.calm=true)(hi:uo X Y tg iter fi)(hg:z13 X Y tg g)(hb:JV X Y sts fb)
  (hs:∀x,foldedSetIterable iter X.env x=pure x:=by intro _;rfl):jm X Y (.For tg iter sts [] pos) (ZT fi g fb):= .mk λρ=>by
 obtain⟨tG,hG,hG'⟩:=hg;refine PS.imp (vQ (tb:=λD σ H=>∃ρ',tSS Y fb ρ' D σ H) hp hc (hi ρ) hG (λpins s σ H D I ⟨ρ',q⟩=>hb ρ' _ s σ H D I q) hs) λD σ H ⟨B,I,q⟩=> ?_;refine j7 I q λts J H1 _ s1 r1 I1 q1=> ?_;refine⟨λi m σ' H' =>m=ts.length - i/\i<=ts.length/\∃ρ' B',SI Y B' ρ' σ' H' /\zu _ B' /\PoS Y B' (Zx g fb (ts.drop i) ρ') D,⟨ts.length,by simp,bu _,ρ,_,I1,zu.refl _,q1⟩, ?_⟩
 rintro i m σ' H' ⟨rfl,hi,ρ',B',I',sB',q'⟩
 obtain⟨hgo,hyld,hstop⟩:=r1 B' H' sB' I'.sB
 by_cases hlt:i < ts.length
 ·refine .inr ⟨hgo i hlt,λσ2 H2=>∃ρ2 B2,SI Y B2 ρ2 σ2 H2/\zu _ B2/\PoS Y B2 _ D,λσ2 H2 ⟨ρ2,B2,I2,s2,q2⟩=>⟨ts.length - (i+1),by omega,rfl,hlt,ρ2,B2,I2,s2,q2⟩,λx H2 y=> ?_⟩
  obtain⟨s2,r2⟩:=hyld i _ x H2 (ah hlt) y;rw[dS hlt]at q';unfold Zx at q';refine hG' _ ρ' σ' H2 x _ _ (I'.grow s2) r2 ?_;cases eg:g _ ρ' with
  | bad=>rw[eg]at q';exact q'
  | ex c=>rw[eg]at q';exact q'
  | ok ρ1=>
   rw[eg]at q';intro σ1 J1;refine⟨ρ1,_,J1, ?_⟩;have q2:=PoS.up (zM.ge I'.sB s2) q';dsimp only at q2;have s3:=sB'.trans (zM.ge I'.sB s2);revert q2;cases fb ρ1 with
   | nx ρ2=>exact λq2 σ3 H3 B3 s4 I3=>⟨ρ2,B3,I3,s3.trans s4,PoS.up s4 q2⟩
   | ct ρ2=>exact λq2 σ3 H3 B3 s4 I3=>⟨ρ2,B3,I3,s3.trans s4,PoS.up s4 q2⟩
   | bk ρ2=>exact λq2=>q2
   | rt t=>exact λq2=>q2
   | rf t=>exact λq2=>q2
   | ex c=>exact λq2=>q2
   | bad=>exact λq2=>q2
 ·have e:i=ts.length:=by omega
  subst e;rw[i7]at q';exact .inl ⟨hstop _ (ai _),q' σ' H' B' (zu.refl _) I'⟩
def jn (g:En->R Bool)(fb:En->RS):Nat->En->RS
 | 0,_=> .bad
 | n+1,ρ=>(g ρ).s λk=>if k=true then match fb ρ with
   | .nx ρ2=>jn g fb n ρ2
   | .ct ρ2=>jn g fb n ρ2
   | .bk ρ2=> .nx ρ2
   | r=>r
  else .nx ρ
theorem xt (hp:PassesOwn (model X.prog X.w) X.A X.env X.xe)(hc:wL X Y c ga)(hb:JV X Y sts fb):jm X Y (.While c sts [] pos) (jn ga fb n):= .mk λρ=>by
 refine PS.imp (Ql (tc:=λσ H Q=>∃ρ',tS Y rE ga ρ' σ H Q) (tb:=λD σ H=>∃ρ',tSS Y fb ρ' D σ H) hp (λpins s σ H D I ⟨ρ',q⟩=>hc ρ' _ s σ H D I q) (λpins s σ H D I ⟨ρ',q⟩=>hb ρ' _ s σ H D I q)) λD σ H ⟨B,I,q⟩=> ?_;refine⟨λm σ' H' =>∃ρ' B',SI Y B' ρ' σ' H' /\PoS Y B' (jn ga fb m ρ') D,⟨n,ρ,B,I,q⟩, ?_⟩
 rintro m σ' H' ⟨ρ',B',I',q'⟩
 cases m with
 | zero=>exact q'.elim
 | succ m=>
  unfold jn at q';refine⟨ρ',j7 I' q' λt v H1 _ s1 r1 I1 q1=> ?_⟩;have r1' :=r1;subst r1';cases v with
  | false=>exact q1 _ _ _ (zu.refl _) I1
  | true=>
   refine⟨λσ2 H2=>∃ρ2 B2,SI Y B2 ρ2 σ2 H2/\PoS Y B2 _ D,λσ2 H2 h=>⟨m,cL m,h⟩,ρ',_,I1, ?_⟩;revert q1;cases fb ρ' with
   | nx ρ2=>exact λq2 σ3 H3 B3 s4 I3=>⟨ρ2,B3,I3,PoS.up s4 q2⟩
   | ct ρ2=>exact λq2 σ3 H3 B3 s4 I3=>⟨ρ2,B3,I3,PoS.up s4 q2⟩
   | bk ρ2=>exact λq2=>q2
   | rt t=>exact λq2=>q2
   | rf t=>exact λq2=>q2
   | ex c=>exact λq2=>q2
   | bad=>exact λq2=>q2
end
theorem JA:∀(ns:List (Str×NameKind)) (acc:List (Str×Addr)),(∀x∈ns,x.2=NameKind.free->∃c,env.cells.lookup x.1=some c)->(∀x c,acc.lookup x=some c->env.cells.lookup x=some c)->
  ∃cl,(forIn ns acc (λ(x:Str×NameKind) (r:List (Str×Addr))=>if (x.2 == NameKind.free)=true then (do let c ← cellOf env x.1;pure (ForInStep.yield ((x.1,c) :: r))) else pure (ForInStep.yield r)):Sem _)=pure cl/\
   (∀x c,cl.lookup x=some c->env.cells.lookup x=some c)/\(∀x c,acc.lookup x=some c->∃c',cl.lookup x=some c')/\(∀x∈ns,x.2=NameKind.free->∃c,cl.lookup x.1=some c)
 | [],acc,_,h=>⟨acc,rfl,h,λx c e=>⟨c,e⟩,λx hx=>by simp at hx⟩
 | (n,k) :: ns,acc,hf,h=>by
  by_cases hk:k=NameKind.free
  ·obtain⟨c,hc⟩:=hf _ am hk;have h' :∀x d,((n,c) :: acc).lookup x=some d->env.cells.lookup x=some d:=λx d e=>by
    by_cases hx:x=n
    ·subst hx;have e' :=by simpa[aJ] using e
     cases e';exact hc
    ·have e' :=by
      rw[aJ,(beq_eq_false_iff_ne.mpr hx)]at e;exact e
     exact h x d e'
   obtain⟨cl,e,h1,h2,h3⟩:=JA ns _ (λx hx=>hf x (ac _ hx)) h';refine⟨cl, ?_,h1,λx d ed=> ?_,λx hx hxf=> ?_⟩
   ·rw[iz];subst hk;have q:cellOf env n=pure c:=by unfold cellOf;rw[hc]
    simp only[beq_self_eq_true,if_true,q];exact e
   ·by_cases hx:x=n
    ·subst hx;exact h2 x c (by simp[aJ])
    ·exact h2 x d (by rw[aJ,(beq_eq_false_iff_ne.mpr hx)];exact ed)
   ·rcases ak.mp hx with rfl | hx
    ·exact h2 n c (by simp[aJ])
    ·exact h3 x hx hxf
  ·obtain⟨cl,e,h1,h2,h3⟩:=JA ns acc (λx hx=>hf x (ac _ hx)) h;refine⟨cl, ?_,h1,h2,λx hx hxf=> ?_⟩
   ·rw[iz];have q:(k == NameKind.free)=false:=by simpa using hk
    simp only[q,aW,if_false];exact e
   ·rcases ak.mp hx with rfl | hx
    ·exact absurd hxf hk
    ·exact h3 x hx hxf
theorem Yd (hf:∀x∈scope.names,x.2=NameKind.free->∃c,env.cells.lookup x.1=some c):
  ∃cl,closureFor scope env=pure cl/\(∀x c,cl.lookup x=some c->env.cells.lookup x=some c)/\(∀x∈scope.names,x.2=NameKind.free->∃c,cl.lookup x.1=some c):=by
 obtain⟨cl,e,h1,_,h3⟩:=JA _ [] hf (λx c e=>by simp at e)
 refine⟨cl, ?_,h1,h3⟩;unfold closureFor;exact(by simpa using e)
def cxC (X:Cx)(scope:Scope)(N' :List Str)(cl:List (Str×Addr))(C:Addr)(s3:Shared)(H3:Hp)(fp:List Addr)(pins:List (Addr×Obj)):Cx:=
 { X with N:=N',s₀:=s3,H₀:=H3,env:=compEnvC scope cl C X.env,outer:=X.stack,stack:=X.stack,ex:=fp,fn:=λ_=>false,pn:=X.pn++pins,xe:=λ_ _=>False }
structure CSc (X:Cx) (scope:Scope):Prop where
 kind:scope.kind= .function
 nocell:∀x∈scope.names,x.2 ≠ .cell
 loc:∀x∈scope.names,x.2= .local->scope.names.lookup x.1=some .local
 fre:∀x∈scope.names,x.2= .free->X.env.kindOf x.1=some .cell\/X.env.kindOf x.1=some .free
theorem jG (h:(relabel scope env).names.lookup x=some k)(hk:k= .cell\/k= .free)(hn:∀x∈scope.names,x.2 ≠ NameKind.cell):∃y∈scope.names,y.1=x/\y.2= .free:=by
 have go:∀ns:List (Str×NameKind),(∀x∈ns,x.2 ≠ NameKind.cell)->(ns.map λ(n,k)=>if (k == NameKind.free && env.scope.kind == .function && env.kindOf n == some .cell) then (n,NameKind.cell) else (n,k)).lookup x=some k->∃y∈ns,y.1=x/\y.2= .free:=by
  intro ns
  induction ns with
  | nil=>intro _ h;simp at h
  | cons y ns ih=>
   intro hn h;obtain⟨n,k'⟩:=y
   by_cases hx:x=n
   ·subst hx;refine⟨(x,k'),am,rfl, ?_⟩;rw[aI]at h
    by_cases hc:(k' == NameKind.free && env.scope.kind == .function && env.kindOf x == some .cell)=true
    ·rw[ae,ae]at hc;exact eq_of_beq hc.1.1
    ·simp only[if_neg hc,aJ,beq_self_eq_true]at h;cases h;rcases hk with rfl | rfl
     ·exact absurd rfl (hn _ am)
     ·rfl
   ·obtain⟨z,hz,h1,h2⟩:=ih (λz hz=>hn z (ac _ hz)) (by
     rw[aI]at h
     by_cases hc:(k' == NameKind.free && env.scope.kind == .function && env.kindOf n == some .cell)=true
     ·simp only[if_pos hc,aJ,(beq_eq_false_iff_ne.mpr hx)]at h;exact h
     ·simp only[if_neg hc,aJ,(beq_eq_false_iff_ne.mpr hx)]at h;exact h)
    exact⟨z,ac _ hz,h1,h2⟩
 exact go _ hn h
section
theorem Ye (I:L2.Inv X pins σ H s)(S:CSc X scope)(hc:X.calm=true)
  (hcl:∀x c,cl.lookup x=some c->X.env.cells.lookup x=some c) (hcf:∀x∈scope.names,x.2=NameKind.free->∃c,cl.lookup x.1=some c)
  (hfp:∀b∈fp,Wh X pins H b) (hfo:∀b∈fp,∃o,s.heap.get? b=some o)
  (hns:h'.Ns s.heap.objs.size (λ_=>none)) (hk:∀b o,s.heap.get? b=some o->h'.get? b=some o)
  (hl:σ'.length=N'.length) (hσ:∀(i:Nat) (x:Str) (v:V),N'[i]? =some x->σ'[i]? =some (some v)->∃j:Nat,X.N[j]? =some x/\σ[j]? =some (some v)/\Vis X.env.scope x/\(scope.names.lookup x=some .free)/\(X.env.kindOf x=some .cell\/X.env.kindOf x=some .free)):
  L2.Inv (cxC X scope N' cl s.heap.objs.size s H fp pins) [] σ' H { s with heap:=h',toks:=tk }:=by
 have stk:=I.stkSub;have hlt:=λb hb=>let ⟨o,e⟩:=hfo b hb;aq e;have fresh:=I.hok.fresh (ai _);refine⟨⟨I.ok.mod,S.kind,I.ok.glob,I.ok.blt,ai _,λx y c h1 h2=>I.ok.inj x y c (hcl _ _ h1) (hcl _ _ h2),λx hx=> ?_,λx c h _=>(aA h).elim,λ_=>I.ok.hd hc,I.ok.frames,.inl rfl,λb hb=> ?_,I.bs,
   aD I.ok.bsz I.sz,λb o e hb=> ?_,λb hb hb' => ?_,I.stack,I.stkFree⟩,rfl,I.bare,Un.kept hk,⟨_,hns,λi x v h1 h2 h3=> ?_⟩,λx c e=> ?_,fresh,λx c e=>I.freeC x c (hcl _ _ e),λp hp=> ?_,I.hok.kept hk,hl⟩
 ·have hx' :=hx;obtain⟨y,hy,rfl,hyf⟩:∃y∈scope.names,y.1=x/\y.2= .free:=by
   rcases hx' with h | h
   ·exact jG h (.inl rfl) S.nocell
   ·exact jG h (.inr rfl) S.nocell
  exact hcf y hy hyf
 ·refine⟨aC (hlt b hb),λx c e=>(hfp b hb).2.2.2.2.1 x c (hcl _ _ e)⟩
 ·rcases(hfp b hb).2.2.2.1 with h | h
  ·exact I.ok.noex b o e h
  ·exact absurd (aH (aq e) (aD I.ok.bsz h)) (bF _)
 ·have q:=hfp b hb;rcases ak.mp (stk b hb') with z | z
  ·exact q.2.1 z
  ·exact q.2.2.1 z
 ·obtain⟨j,e1,e2,e3,e4,e5⟩:=hσ i x v h1 h2;obtain⟨m,hn,hloc⟩:=I.loc;obtain⟨u,ru,lk⟩:=hloc j x v e1 e2 e3;refine⟨u,ru,.inr ⟨?_, ?_⟩⟩
  ·rcases h3 with h | h | h
   ·exfalso;have:∀ns:List _,ns.lookup x=some .free->(ns.map λ(n,k)=>if (k == NameKind.free && X.env.scope.kind == .function && X.env.kindOf n == some .cell) then (n,NameKind.cell) else (n,k)).lookup x ≠ some .local:=by
     intro ns
     induction ns with
     | nil=>intro z;simp at z
     | cons y ns ih=>
      obtain⟨n,k⟩:=y;intro z w;rw[aI]at w
      by_cases hx:x=n
      ·subst hx;have hkf:=by simpa[aJ] using z
       by_cases hcn:(k == NameKind.free && X.env.scope.kind == .function && X.env.kindOf x == some .cell)=true
       ·simp only[if_pos hcn,aJ,beq_self_eq_true]at w;cases w
       ·simp only[if_neg hcn,aJ,beq_self_eq_true]at w;rw[hkf]at w;cases w
      ·have z' :=by rw[aJ,(beq_eq_false_iff_ne.mpr hx)]at z;exact z
       refine ih z' ?_
       by_cases hcn:(k == NameKind.free && X.env.scope.kind == .function && X.env.kindOf n == some .cell)=true
       ·simp only[if_pos hcn,aJ,(beq_eq_false_iff_ne.mpr hx)]at w;exact w
       ·simp only[if_neg hcn,aJ,(beq_eq_false_iff_ne.mpr hx)]at w;exact w
    exact this _ e4 h
   ·exact .inl h
   ·exact .inr h
  ·rcases lk with ⟨hk',_⟩ | ⟨_,c,hc',hcell⟩
   ·rcases e5 with z | z <;> (rw[z]at hk';cases hk')
   ·obtain⟨c',hc2⟩:=hcf _ (bv e4) rfl;have:=hcl x c' hc2;rw[hc']at this;cases this;obtain⟨o,eo,ed⟩:=hcell;exact⟨c,hc2,o,hk _ _ eo,ed⟩
 ·obtain⟨v,o,eo,ed⟩:=I.cell x c (hcl _ _ e);exact⟨v,o,hk _ _ eo,ed⟩
 ·have hp' :=by
   have:=hp;rwa[aP]at this
  obtain⟨e,n,ne,nf,dc⟩:=I.pin p hp';refine⟨hk _ _ e,n,aC (aq e),λhb=> ?_,dc⟩;rcases ak.mp (stk _ hb) with z | z
  ·exact ne z
  ·exact nf z
end
def PIf (X:Cx)(ifs:List Expr)(t:TT):Prop:=
 ∀(pins:List (Addr×Obj)) (s:Shared) (σ:Sg) (H:Hp) (Q:Bool->Hp->Prop),L2.Inv X pins σ H s->t σ H Q->
  wpAny (model X.prog X.w) X.A (forIn ifs true λc r=>if r=true then do let ok ← isTrue c X.env (eval c X.env);pure (ForInStep.yield ok) else pure (ForInStep.yield r)) (TP X pins σ Q) X.xe s
theorem xu:PIf X [] (λ_ H Q=>Q true H):=λ_ _ σ H _ I h=>wpAny_tests_nil ⟨H,I,h⟩
theorem xv (h:PT X c t):PIf X [c] t:=λpins s σ H Q I q=>wpAny_tests_one (h _ s σ H Q I q)
noncomputable abbrev XE (X:Cx)(xe:Value->Shared->Prop):Cx:={ X with xe:=xe }
theorem uW (I:L2.Inv X pins σ H s):L2.Inv (XE X xe) pins σ H s:=
 ⟨⟨I.ok.mod,I.ok.kind,I.ok.glob,I.ok.blt,I.ok.above,I.ok.inj,I.ok.has,I.ok.cab,I.ok.hd,I.ok.frames,I.ok.stk,I.ok.exf,I.ok.bs,I.ok.bsz,I.ok.noex,I.ok.exfs,I.ok.funs,I.ok.frf⟩,I.os,I.bare,I.base,I.loc,I.cell,I.free,I.freeC,I.pin,I.hok,I.len⟩
theorem Yf (I:L2.Inv (XE X xe) pins σ H s):L2.Inv X pins σ H s:=(uW I:L2.Inv _ _ σ H s)
theorem z14 (hx:X.xe=λ_ _=>False)(h:PG X e t):PG (XE X xe) e t:=λpins s σ H v u Q I r q=>bI (h _ s σ H v u Q (Yf I) r q) (λ_ s' ⟨σ',H',I',q'⟩=>⟨σ',H',uW I',q'⟩) λe s' z=>by rw[hx]at z;exact z.elim
theorem Ka (hx:X.xe=λ_ _=>False)(h:PIf X e t):PIf (XE X xe) e t:=λpins s σ H Q I q=>bI (h _ s σ H Q (Yf I) q) (λ_ s' ⟨H',I',q'⟩=>⟨H',uW I',q'⟩) λe s' z=>by rw[hx]at z;exact z.elim
theorem uX {α:Type}{m:Sem α}{Q:α->Shared->Prop}(hE:∀e s',E' e s' ->E e s')(h:wpAny M A m Q E' s):wpAny M A m Q E s:=bI h (λ_ _ q=>q) hE
def QE (J:It)(D:Addr)(g:TG)(tt:TT)(te:TE)(fin:Sg->Hp->Prop)(W:Nat->Nat->List V->Sg->Hp->Prop):Prop:=
 ∀i m ys σ H,W i m ys σ H->H D=some (.lst ys)/\((J.stop i H/\fin σ H)\/(J.go i H/\∀x H2,J.yld i H x H2->g x σ H2 λσ3 H3=>tt σ3 H3 λk H4=>
  if k=true then te σ3 H4 λv H5=>H5 D=some (.lst ys)/\ys.length < sizeLine/\∃m',m' < m/\W (i+1) m' (ys++[v]) σ3 (upd H5 D (.lst (ys++[v]))) else ∃m',m' < m/\W (i+1) m' ys σ3 H4))
theorem Yg {X:Cx}{R:Result->Shared->Prop}(hx:∀e s',X.xe e s' ->notedBy (model X.prog X.w) X.A X.env (λe s' =>R (.error e) s') e s')(hc:X.calm=true){tg iter elt:Expr}{ifs:List Expr}{scope:Scope}{pos:Pos}{J:It}{fp:List Addr}{it:Addr}{tn:Nat->Heap->Prop}(TJ:yk X.prog X.w X.K tg J fp it tn)
  {g:TG} {tt:TT} {te:TE} (hg:PG X tg g) (ht:PIf X ifs tt) (he:PE X elt te) {D:Addr} {fin:Sg->Hp->Prop} (W:Nat->Nat->List V->Sg->Hp->Prop) (turn:QE J D g tt te fin W)
  (hR:∀s σ H,L2.Inv X [] σ H s->fin σ H->R (.ok .next) s) {m0:Nat} {σ0:Sg} {H0:Hp} {s0:Shared} (w0:W 0 m0 [] σ0 H0) (I0:L2.Inv X [] σ0 H0 s0) (t0:tn 0 s0.heap) (f0:∀b∈fp,Wh X [] H0 b):
  codeAny (model X.prog X.w) X.A (.compLoop (.ListComp elt [⟨tg,iter,ifs,0⟩] scope pos) 0 (.ref it) (.ref D) X.env) R s0:=by
 have stat:∀{H' :Hp},(∀b∈fp,H' b=none)->∀b∈fp,Wh X [] H' b:=λhn b hb=>⟨hn b hb,(f0 b hb).2⟩;refine codeAny_loop rfl (λn s' =>∃i ys σ' H',L2.Inv X [] σ' H' s' /\tn i s'.heap/\(∀b∈fp,H' b=none)/\W i n ys σ' H') (λn s3 h3=> ?_) m0 ⟨0,[],σ0,H0,I0,t0,λb hb=>(f0 b hb).1,w0⟩;obtain⟨i,ys,σ3,H3,I3,st3,fr3,w3⟩:=h3;show wpAny _ X.A ((compTurn _ 0 _ _ _).onRaise (λx=>do noteFrame x _;theTreesLotGoes x)) _ _ s3
 refine wpAny_noted ?_;obtain⟨hD,h⟩:=turn i n ys σ3 H3 w3;rcases h with ⟨stop,qn⟩ | ⟨go,next⟩
 ·refine a7 (wpAny_standAt (a7 (thn (TJ.done X rfl rfl rfl hc i [] s3 σ3 H3 _ I3 (stat fr3) st3 stop) λr s4 ⟨hr,I4⟩=> ?_)));subst hr;exact ao (hR s4 σ3 H3 I4 qn)
 ·refine a7 (wpAny_standAt (a7 (thn (TJ.item X rfl rfl rfl hc i [] s3 σ3 H3 _ I3 (stat fr3) st3 go) λr s4 ⟨u,hr,h4⟩=> ?_)));subst hr;refine a7 (thn h4 λ_ s5 ⟨x,H5,I5,r5,y5,st5,fr5⟩=> ?_);have I5' :=I5.pinned (stat fr5) (TJ.obj _ _ st5);refine a7 (uX hx (thn (hg _ s5 σ3 H5 x u _ I5' r5 (next x H5 y5)) λ_ s6 ⟨σ6,H6,I6,q6⟩=> ?_));have again:∀{σ7:Sg} {H7:Hp} {s7:Shared} {ys' :List V},L2.Inv X _ σ7 H7 s7->(∃m',m' < n/\W (i+1) m' ys' σ7 H7)->∃m,m < n/\∃i ys σ' H',L2.Inv X [] σ' H' s7/\tn i _/\(∀b∈fp,H' b=none)/\W i m ys σ' H' :=λ{σ7 H7 s7 ys'} I7 ⟨m',hm,w7⟩=>by
   refine⟨m',hm,i+1,ys',σ7,H7,I7.unpinned,TJ.keep _ _ _ st5 λb hb o e=>(I7.pin _ (aY _ (aY _ (jf hb e)))).1,λb hb=> ?_,w7⟩;obtain⟨o,e,d⟩:=TJ.obj _ _ st5 b hb;exact(I7.pin _ (aY _ (aY _ (jf hb e)))).2.1
  refine a7 (uX hx (thn (ht _ s6 σ6 H6 _ I6 q6) λk s7 ⟨H7,I7,q7⟩=> ?_));cases k with
  | false=>exact ao ⟨rfl,again I7 q7⟩
  | true=>
   refine a7 (a7 (uX hx (thn (he _ s7 σ6 H7 _ I7 q7) λv s8 ⟨y,H8,I8,r8,hD8,hlen,q8⟩=> ?_)));refine a7 (uX hx (thn (Jy _ s8 σ6 H8 (.ref D) [y] _ [v] (λ_ H9=>∃m',m' < n/\W _ m' _ σ6 H9) I8 rfl (.cons r8 .nil) ⟨D,ys,y,rfl,rfl,hD8,hlen,q8⟩) λw s9 ⟨_,H9,I9,_,q9⟩=> ?_));exact ao (ao ⟨rfl,again I9 q9⟩)
def WA (k:Nat)(js:List Nat)(σ:Sg):Sg:=aj k none++js.map λj=>(σ[j]?).getD none
section
abbrev V3 (X:Cx)(scope:Scope)(N' :List Str)(P:Cx->Prop):Prop:=∀cl C s3 H3 fp pins,P (cxC X scope N' cl C s3 H3 fp pins)
abbrev Kb (X:Cx)(scope:Scope)(N' :List Str)(E:XK)(P:Cx->Prop):Prop:=∀cl C s3 H3 fp pins xe,zX (CX1 X.prog X.w) (XE (cxC X scope N' cl C s3 H3 fp pins) xe) E->P (XE (cxC X scope N' cl C s3 H3 fp pins) xe)
structure GG (X:Cx) (scope:Scope) (N' :List Str) (k:Nat) (js:List Nat):Prop where
 len:N'.length=k+js.length
 cap:∀(i j:Nat),js[i]? =some j->∃x,N'[k+i]? =some x/\X.N[j]? =some x/\Vis X.env.scope x/\scope.names.lookup x=some .free/\(X.env.kindOf x=some .cell\/X.env.kindOf x=some .free)
theorem wQ (hp:kF X E){js:List Nat}{use:Option (Value->Sem Unit)}(S:CSc X scope)(CP:GG X scope N' k js)(hc:X.calm=true)
  (hi:PI X tg iter wi) (hg:V3 X scope N' λXC=>PG XC tg g) (ht:V3 X scope N' λXC=>PIf XC ifs tt) (he:Kb X scope N' E λXC=>PE XC elt te) {pins:List (Addr×Obj)} {σ:Sg} {H:Hp} {s:Shared} {Q:Value->Shared->Prop} {F:Addr->Hp->Prop} (I:L2.Inv X pins σ H s)
  (h:wi σ H λJ H1=>∀D,H1 D=none->∃W,(∃m,W 0 m [] (WA k js σ) (upd H1 D (.lst [])))/\QE J D g tt te (λ_ H' =>F D H') W)
  (hQ:∀D C H' s',L2.Inv X pins σ H' s' ->F D H' ->H' C=none->(X.s₀.heap.objs.size<=C)->C ≠ X.env.locals->(∀x c,X.env.cells.lookup x=some c->c ≠ C)->(∀p∈X.pn++pins,p.1 ≠ C)->(∃m,s'.heap.Ns C m)->compPost (model X.prog X.w) X.A X.xe use Q (.ref D) C (.ok .next) s')
  (hs:∀x,foldedSetIterable iter X.env x=pure x:=by intro _;rfl):
  wpAny (model X.prog X.w) X.A (comprehension (.ListComp elt [⟨tg,iter,ifs,0⟩] scope pos) scope X.env pos' (newList []) false (eval iter X.env) use) Q X.xe s:=by
 obtain⟨cl,ecl,hcl,hcf⟩:=Yd (scope:=scope) (env:=X.env) λx hx hf=>I.ok.has x.1 (S.fre x hx hf);refine wpAny_comprehension_free rfl hs ecl S.kind S.loc ?_;refine thn (hi pins s σ H _ I h) λv s1 h1=>thn h1 λitv s2 h2=> ?_;obtain⟨it,fp,tn,J,H2,e,I2,TJ,st2,f2,q2⟩:=h2;subst e;refine bq ?_;have hD:=I2.hok.fresh (ai _);have I3:L2.Inv X pins σ (upd H2 s2.heap.objs.size (.lst [])) { s2 with heap:=s2.heap.push { cls:= .type "list",data:= .seq _ } }:=
  I2.laid (t' :=s2.toks) (λb u e=>a9 _ e) (ai _) ⟨bu _,[],_,.nil,af _ rfl⟩
 obtain⟨W,⟨m0,w0⟩,turn⟩:=q2 s2.heap.objs.size hD;have f3:∀b∈fp,Wh X pins (upd H2 s2.heap.objs.size (.lst [])) b:=λb hb=>by
  obtain⟨o,eo,_⟩:=TJ.obj _ _ st2 b hb;exact⟨by rw[zt (aC (aq eo))];exact(f2 b hb).1,(f2 b hb).2⟩
 have o3:∀b∈fp,∃o,(s2.heap.push { cls:= .type "list",data:= .seq ([]:List Value).toArray }).get? b=some o:=λb hb=>by
  obtain⟨o,eo,_⟩:=TJ.obj _ _ st2 b hb;exact⟨o,a9 _ eo⟩
 refine wpAny_newFunctionEnv S.nocell (by intro y hy;simp at hy) (λh4 hns4 hsb4=> ?_) S.kind
 generalize hG:s2.heap.push _=G3 at I3 o3 hns4 hsb4 ⊢;have s3e:∃s3:Shared,s3={ s2 with heap:=G3 }:=⟨_,rfl⟩;obtain⟨s3,es3⟩:=s3e;have hh3:s3.heap=s2.heap.push { cls:= .type "list",data:= .seq ([]:List Value).toArray }:=by rw[es3,hG]
 have hg3:G3=s3.heap:=by rw[es3]
 rw[← es3]at I3;rw[hg3]at hns4 hsb4 o3;have k4:=λb o e=>hsb4.extBut b o (aC (aq e)) (a9 _ e);have IC:=Ye (N' :=N') (cl:=cl) (fp:=fp) (σ' :=WA k js σ) (tk:=s3.toks+([]:List (Str×Value)).length) I3 S hc hcl hcf f3 o3 hns4 k4 (by unfold WA;simp[CP.len]) (λi x v h1 h2=>by
  unfold WA at h2
  by_cases hik:i < k
  ·rw[ax (by simpa using hik),aG,if_pos hik]at h2
   cases h2
  ·have hk' :k<=i:=by omega
   rw[au (by simpa using hk'),aS,ay]at h2
   cases ej:js[i - k]? with
   | none=>rw[ej]at h2;cases h2
   | some j=>
    rw[ej]at h2;obtain⟨y,e1,e2,e3,e4,e5⟩:=CP.cap (i - k) j ej;have:k+(i - k)=i:=by omega
    rw[this,h1]at e1;cases e1;refine⟨j,e2, ?_,e3,e4,e5⟩;have h2' :some ((σ[j]?).getD none)=some (some v):=h2;cases ez:σ[j]? with
    | none=>rw[ez]at h2';cases h2'
    | some z=>rw[ez]at h2';exact congrArg some (aB h2'))
 have TC:yk _ _ _ tg J fp it tn:=TJ;have t4:tn 0 h4:=TJ.keep _ _ _ st2 λb hb o e=>k4 b o (by rw[hh3];exact a9 _ e)
 have fC:∀b∈fp,Wh (cxC X scope N' cl s3.heap.objs.size s3 (upd H2 s2.heap.objs.size (.lst [])) fp pins) [] _ b:=λb hb=>by
  obtain⟨q0,q1,q2,q3,q4,q5⟩:=f3 b hb;obtain⟨o,eo⟩:=o3 b hb;refine⟨q0,aC (aq eo),λhb' => ?_,.inl hb,λx c e=>q4 x c (hcl _ _ e),λp hp=> ?_⟩
  ·rcases ak.mp (I3.stkSub b hb') with z | z
   ·exact q1 z
   ·exact q2 z
  ·exact q5 p (by
    have:=hp;rwa[aP]at this)
 have fin:∀(s5:Shared) (σ5:Sg) (H5:Hp),L2.Inv (cxC X scope N' cl s3.heap.objs.size s3 (upd H2 s2.heap.objs.size (.lst [])) fp pins) [] σ5 H5 s5->F s2.heap.objs.size H5->compPost (model X.prog X.w) X.A X.xe use Q _ s3.heap.objs.size (.ok .next) s5:=λs5 σ5 H5 I5 q5=>by
  have J5:=I3.call' (ch:=fp) I5.os I5.base I5.hok I5.bare λb hb=>by
   obtain⟨q0,q1,q2,q3,q4,q5⟩:=f3 b hb;exact⟨q3,q1,q4,q5⟩
  refine hQ _ _ H5 s5 J5 q5 I5.free I3.sz (da I3.lt) (λx c e z=> ?_) (λp hp z=> ?_) (let ⟨m,hm,_⟩:=I5.loc;⟨m,hm⟩)
  ·obtain⟨v',o,eo,_⟩:=I3.cell x c e;exact absurd (aq eo) (by rw[z];exact bF _)
  ·exact absurd (aq (I3.pin p hp).1) (by rw[z];exact bF _)
 have pass:zX (CX1 X.prog X.w) (XE (cxC X scope N' cl s3.heap.objs.size s3 (upd H2 s2.heap.objs.size (.lst [])) fp pins) (notedBy (model X.prog X.w) X.A (compEnvC scope cl s3.heap.objs.size X.env) λe s' =>compPost (model X.prog X.w) X.A X.xe use Q (.ref s2.heap.objs.size) s3.heap.objs.size (.error e) s')) E:=by
  intro pins1 σ1 H1 s1 e s' I1 c1;have J1:=I3.call' I1.os I1.base I1.hok I1.bare λb hb=>by
   obtain⟨q0,q1,q2,q3,q4,q5⟩:=f3 b hb;exact⟨q3,q1,q4,q5⟩
  obtain⟨m1,hm1,_⟩:=I1.loc;refine thn (hp pins σ H1 s1 e s' _ m1 _ _ J1 hm1 I1.free I3.sz (λz=> ?_) rfl c1) λ_ s'' q=> ?_
  ·obtain⟨_,o,eo,_⟩:=I3.stack.mem z;exact absurd (aq eo) (bF _)
  ·cases use <;> exact q
 have loop:=Yg (X:=XE (cxC X scope N' cl _ s3 _ fp _) (notedBy _ X.A _ λe s' =>compPost _ X.A _ use Q _ _ _ s')) (iter:=iter) (scope:=scope) (pos:=pos) (λ_ _ z=>z) hc TC (z14 rfl (hg _ _ _ _ _ _)) (Ka rfl (ht _ _ _ _ _ _)) (he _ _ _ _ _ _ _ pass) W turn (λs5 σ5 H5 I5=>fin s5 σ5 H5 (Yf I5)) w0 (uW IC) t4 fC;rw[es3]at loop;exact codeAny_compStart_list loop (TJ.self _ _ _ _ _ t4 loop)
end
def zQ (g:T->En->R En)(ft:En->R Bool)(fe:En->R T):List T->En->R (List T)
 | [],_=> .ok []
 | t :: ts,ρ=>(g t ρ).bind λρ1=>(ft ρ1).bind λk=>if k=true then (fe ρ1).bind λv=>(zQ g ft fe ts ρ1).bind λvs=> .ok (v :: vs) else zQ g ft fe ts ρ1
noncomputable def uq:Option Sl->Sl
 | some (.vl t)=> .vl t
 | some (.ob k _)=> .oc k []
 | some (.oc k fs)=> .oc k fs
 | _=> .un
def WB (k:Nat)(js:List Nat)(ρ:En):En:=aj k .un++js.map λj=>uq ρ[j]?
noncomputable def quiet {α:Type}:R α->R α
 | .ok a=> .ok a
 | _=> .bad
def zH (g:T->En->R En)(ft:En->R Bool)(fe:En->R T)(k:Nat)(js:List Nat)(ρ:En)(ts:List T):R (List T):=if ts.length<=bnd then quiet (zQ g ft fe ts (WB k js ρ)) else .bad
def Z1 (fi:En->R (List T))(g:T->En->R En)(ft:En->R Bool)(fe:En->R T)(k:Nat)(js:List Nat):En->R T:=λρ=>(fi ρ).bind λts=>(zH g ft fe k js ρ ts).bind λvs=> .ok (.lst vs)
def GOk (tG:TG)(g:T->En->R En):Prop:=∀Y B ρ σ H v x Q,SI Y B ρ σ H->Rep B v x->(match g x ρ with | .ok ρ' =>∀σ',SI Y B ρ' σ' H->Q σ' H | _=>False)->tG v σ H Q
theorem QF (i:Nat):GOk (wH i) (zJ i):=λY B ρ σ H v x Q I r q=>q _ (I.setV i r)
theorem QG (K:a8)(i j:Nat):GOk (z0i K 2 (yz (wH i) (yz (wH j) z0h))) (ZC i j):=λY B ρ σ H v t Q I r q=>by
 cases r with
 | @tup l xs ts h r=>
  cases r with
  | nil=>exact q.elim
  | cons r1 rr=>
   cases rr with
   | nil=>exact q.elim
   | cons r2 rr=>
    cases rr with
    | cons _ _=>exact q.elim
    | nil=>exact⟨l,_,rfl,SqT.of (I.sB _ _ h),rfl,_,_,rfl,_,_,rfl,rfl,q _ ((I.setV i r1).setV j r2)⟩
 | _=>exact q.elim
theorem SI.blockS (I:SI Y B ρ σ H)(k:Nat)(js:List Nat)(E:XK)(s:zu H H'):SI ⟨B,H,E,Y.cl,[]⟩ B (WB k js ρ) (WA k js σ) H' where
 s0:=I.sB
 sH:=s
 sB:=I.sB.trans s
 old:=λ_ _ _=>rfl
 len:=by unfold WB WA;simp
 vl:=λi t h=>by
  unfold WB at h;unfold WA
  by_cases hik:i < k
  ·rw[ax (by simpa using hik),aG,if_pos hik]at h;cases h
  ·have hk' :k<=i:=by omega
   rw[au (by simpa using hk'),aS,ay]at h ⊢
   cases ej:js[i - k]? with
   | none=>rw[ej]at h;cases h
   | some j=>
    rw[ej]at h;have h' :uq ρ[j]? = .vl t:=aB h;unfold uq at h';split at h'
    ·rename_i u e;cases h';obtain⟨v,e1,r⟩:=I.vl j _ e;exact⟨v,by show some ((σ[j]?).getD none)=_;rw[e1];rfl,r⟩
    all_goals cases h'
 ow:=λi ts h=>by
  exfalso;unfold WB at h
  by_cases hik:i < k
  ·rw[ax (by simpa using hik),aG,if_pos hik]at h;cases h
  ·have hk' :k<=i:=by omega
   rw[au (by simpa using hk'),aS,ay]at h
   cases ej:js[i - k]? with
   | none=>rw[ej]at h;cases h
   | some j=>
    rw[ej]at h;have h' :uq ρ[j]? = .ow ts:=aB h;unfold uq at h';split at h' <;> cases h'
 xc:=λi c h=>by
  exfalso;unfold WB at h
  by_cases hik:i < k
  ·rw[ax (by simpa using hik),aG,if_pos hik]at h;cases h
  ·have hk' :k<=i:=by omega
   rw[au (by simpa using hk'),aS,ay]at h
   cases ej:js[i - k]? with
   | none=>rw[ej]at h;cases h
   | some j=>
    rw[ej]at h;have h' :uq ρ[j]? = .xc c:=aB h;unfold uq at h';split at h' <;> cases h'
 st:=by
  have get:∀(i:Nat) (x:Sl),x.isO=true->(WB k js ρ)[i]? =some x->∃j,js[i - k]? =some j/\k<=i/\uq ρ[j]? =x:=λi x hx h=>by
   unfold WB at h
   by_cases hik:i < k
   ·rw[ax (by simpa using hik),aG,if_pos hik]at h
    cases h;cases hx
   ·have hk' :k<=i:=by omega
    rw[au (by simpa using hk'),aS,ay]at h
    cases ej:js[i - k]? with
    | none=>rw[ej]at h;cases h
    | some j=>
     rw[ej]at h;exact⟨j,rfl,hk',aB h⟩
  refine⟨[],λ_=>none,bO _,λi os h=> ?_,λi _ os _ h=> ?_,λi k' n h=> ?_,λi k' fs h=> ?_,λi os h=> ?_⟩
  ·obtain⟨j,_,_,e⟩:=get i _ rfl h;unfold uq at e;split at e <;> cases e
  ·obtain⟨j,_,_,e⟩:=get i _ rfl h;unfold uq at e;split at e <;> cases e
  ·obtain⟨j,_,_,e⟩:=get i _ rfl h;unfold uq at e;split at e <;> cases e
  ·obtain⟨j,ej,hk',e⟩:=get i _ rfl h;have sg:(WA k js σ)[i]? =some ((σ[j]?).getD none):=by
    unfold WA;rw[au (by simpa using hk'),aS,ay,ej];rfl
   obtain⟨as,O,x⟩:=I.st;unfold uq at e;split at e
   ·cases e
   ·rename_i k2 n2 e2;cases e;obtain⟨a,C,dx,vs,_,e3,e4,e5,_,_,e6⟩:=x.ob j _ _ e2;exact⟨a,C,dx,vs,by rw[sg,e3];rfl,e4,e5,e6,λm f d z=>by cases z⟩
   ·rename_i k2 fs2 e2;cases e;obtain⟨a,C,dx,vs,e3,e4,e5,e6,e7⟩:=x.oc j _ _ e2;exact⟨a,C,dx,vs,by rw[sg,e3];rfl,e4,I.sH _ _ e5,e6,e7.mono (zu.refl _) I.sH⟩
   ·cases e
  ·obtain⟨j,_,_,e⟩:=get i _ rfl h;unfold uq at e;split at e <;> cases e
theorem SI.block {Y:Fx}{B:Hp}{ρ:En}{σ:Sg}{H H3:Hp}{D:Addr}(I:SI Y B ρ σ H)(k:Nat)(js:List Nat)(E:XK)(hD:H D=none)(o:HO):SI ⟨B,H,E,Y.cl,[]⟩ B (WB k js ρ) (WA k js σ) (upd H D o):=I.blockS k js E (zu.new hD _)
theorem SI.acc {Y:Fx}{B:Hp}{ρ:En}{σ:Sg}{H:Hp}{D:Addr}(I:SI Y B ρ σ H)(hb:B D=none)(h0:Y.H0 D=none)(ho:∀(i:Nat) (ts:List T),ρ[i]? =some (Sl.ow ts)->σ[i]? ≠ some (some (V.ref D)))(hso:∀(i:Nat) (x:Sl),ρ[i]? =some x->Sl.isS x=true->False)(o:HO):SI Y B ρ σ (upd H D o) where
 s0:=I.s0
 sH:=λb u h=>by
  rw[zt (λz=>by subst z;rw[h0]at h;cases h)];exact I.sH b u h
 sB:=λb u h=>by
  rw[zt (λz=>by subst z;rw[hb]at h;cases h)];exact I.sB b u h
 old:=I.old
 len:=I.len
 vl:=I.vl
 ow:=λi ts h=>by
  obtain⟨a,xs,e,b0,h0',hh,r,d⟩:=I.ow i ts h;refine⟨a,xs,e,b0,h0', ?_,r,d⟩;rw[zt (λz=>ho i ts h (by rw[e,z]))];exact hh
 xc:=I.xc
 st:=let ⟨as,O,x⟩:=I.st;⟨as,O,x.pre,λi os h=>hso i _ h rfl |>.elim,λi j os os' h=>hso i _ h rfl |>.elim,λi k n h=>hso i _ h rfl |>.elim,x.oc,λi os h=>hso i _ h rfl |>.elim⟩
def XO (ρ:En):Prop:=∀(i:Nat) (x:Sl),ρ[i]? =some x->(∀ts,x ≠ Sl.ow ts)/\(x.isS=true->False)
theorem QH (k:Nat)(js:List Nat)(ρ:En):XO (WB k js ρ):=λi x h=>by
 unfold WB at h
 by_cases hik:i < k
 ·rw[ax (by simpa using hik),aG,if_pos hik]at h
  cases h;exact⟨λ_=>Sl.noConfusion,aA⟩
 ·have hk' :=by omega
  rw[au (by simpa using hk'),aS,ay]at h
  cases ej:js[i - k]? with
  | none=>rw[ej]at h;cases h
  | some j=>
   rw[ej]at h;have h' :uq _=x:=aB h;unfold uq at h';split at h' <;> (subst h';exact⟨λ_=>Sl.noConfusion,aA⟩)
theorem wR {ρ:En}{i:Nat}{t:T}(h:XO ρ):XO (ρ.set i (.vl t)):=λj x e=>by
 rcases zq e with ⟨_,z⟩ | ⟨_,z⟩
 ·subst z;exact⟨λ_=>Sl.noConfusion,aA⟩
 ·exact h j x z
def GNo (g:T->En->R En):Prop:=(∀t ρ ρ',XO ρ->g t ρ= .ok ρ' ->XO ρ')/\∀t ρ c,g t ρ ≠ .ex c
theorem QJ (i:Nat):GNo (zJ i):=⟨λt ρ ρ' h e=>by
 cases e;exact wR h,λt ρ c e=>by cases e⟩
theorem QK (i j:Nat):GNo (ZC i j):=⟨λt ρ ρ' h e=>(by
 unfold ZC at e;split at e
 ·cases e;exact wR (wR h)
 ·cases e),λt ρ c e=>by unfold ZC at e;split at e <;> cases e⟩
section
variable {X:Cx}{Y:Fx}{tg iter elt:Expr}{ifs:List Expr}{scope:Scope}{pos pos' :Pos}{N' :List Str}{k:Nat}{js:List Nat}{fi:En->R (List T)}{tG:TG}{g:T->En->R En}{ft:En->R Bool}{fe:En->R T}
structure wS (X:Cx) (Y:Fx) (ifs:List Expr) (f:En->R Bool):Prop where
 mk ::
 go:∀ρ,PIf X ifs (tS Y rE f ρ)
instance {X:Cx}{Y:Fx}{ifs:List Expr}{f:En->R Bool}:CoeFun (wS X Y ifs f) λ_=>∀ρ,PIf X ifs (tS Y rE f ρ):=⟨wS.go⟩
theorem PIf.imp {X:Cx}{e:List Expr}{t t' :TT}(h:PIf X e t)(i:∀σ H Q,t' σ H Q->t σ H Q):PIf X e t' :=λpins s σ H Q I q=>h _ s σ H Q I (i σ H Q q)
def Zk:En->R Bool:=λ_=> .ok true
theorem Kc {X:Cx}:wS X Y [] Zk:= .mk λρ=>PIf.imp xu λσ H Q ⟨B,I,q⟩=>ZB I q rfl
theorem Ke {X:Cx}{c:Expr}(h:wL X Y c ft):wS X Y [c] ft:= .mk λρ=>xv (h ρ)
noncomputable def CEnd (r:R (List T))(P:List T->Prop)(Z:Nat->Prop):Prop:=match r with
 | .ok vs=>P vs
 | .ex c=>Z c
 | .bad=>False
theorem UU {B1 H1:Hp}{σ:Sg}{ρ:En}{J:It}{ts:List T}{r:R (List T)}{D:Addr}{E0:XK}(hG:GOk tG g)(hN:GNo g)(I:SI Y B1 ρ σ H1)(rI' :rI B1 H1 J ts)(hl:ts.length<=bnd)(ev:zQ g ft fe ts (WB k js ρ)=r)(hD:H1 D=none){F:Hp->Prop}
  (hF:CEnd r (λvs=>∀H' xs B',zu H1 H' ->H' D=some (.lst xs)->zE B' xs vs->zu B' (zM B1 H1 H')->B' D=none->zu B1 B' ->F H') λc=>∀d H',zu H1 H' ->zu B1 H' ->E0 (Y.cl c) d H'):
  ∃W,(∃m,W 0 m [] (WA k js σ) (upd H1 D (.lst [])))/\QE J D tG (λσ H Q=>∃Y' ρ',Y'.cl=Y.cl/\tS Y' rE ft ρ' σ H Q) (λσ H Q=>∃Y' ρ',Y'.cl=Y.cl/\Y'.E=E0/\tS Y' rC fe ρ' σ H Q) (λ_ H' =>F H') W:=by
 refine⟨λi m ys σ' H' =>m=ts.length - i/\i<=ts.length/\ys.length<=i/\H' D=some (.lst ys)/\∃ρ' B' us,SI ⟨B1,H1,E0,Y.cl,[]⟩ B' ρ' σ' H' /\XO ρ' /\zu B1 B' /\B' D=none/\zE B' ys us/\((zQ g ft fe (ts.drop i) ρ').bind λws=> .ok (us++ws))=r,
  ⟨ts.length,by simp,bu _,bu _,zx,_,B1,[],I.block (H3:=H1) k js _ hD _,QH k js ρ,zu.refl _,I.sB.free hD,.nil,by rw[dN,ev];cases r <;> rfl⟩, ?_⟩
 rintro i m ys σ' H' ⟨rfl,hi,hyl,hDl,ρ',B',us,I',no',s1',bD,r',ew⟩
 refine⟨hDl, ?_⟩;obtain⟨hgo,hyld,hstop⟩:=rI' B' H' s1' I'.sB;have tD:∀H2,zu H' H2->zM B' H' H2 D=none:=λH2 s=>by rw[Z7 hDl];exact bD
 by_cases hlt:i < ts.length
 ·refine .inr ⟨hgo i hlt,λx H2 y=> ?_⟩;obtain⟨s2,r2⟩:=hyld i _ x H2 (ah hlt) y;rw[dS hlt]at ew;unfold zQ at ew;have I2:=I'.grow s2;refine hG _ _ ρ' σ' H2 x _ _ I2 r2 ?_;cases eg:g ts[i] ρ' with
  | bad=>rw[eg]at ew;subst ew;exact hF
  | ex c=>exact(hN.2 _ _ _ eg).elim
  | ok ρ1=>
   rw[eg]at ew;have no1:=hN.1 _ _ _ no' eg;intro σ1 J1;refine⟨⟨B1,H1,E0,Y.cl,[]⟩,ρ1,rfl,_,J1, ?_⟩;have ew1:((ft ρ1).bind (λk=>if k=true then (fe ρ1).bind λv=>(zQ g ft fe (ts.drop (i+1)) ρ1).bind λvs=> .ok (v :: vs) else zQ g ft fe (ts.drop _) ρ1)).bind (λws=> .ok _)=r:=ew
   cases ef:ft ρ1 with
   | bad=>rw[ef]at ew1;subst ew1;exact hF
   | ex c=>
    rw[ef]at ew1;subst ew1;exact λd H' a b=>hF d H' a ((s1'.trans (zM.ge I'.sB s2)).trans b)
   | ok kk=>
    rw[ef]at ew1;intro b H3 s3 eb;have eb' :=eb;subst eb';have ew2:=ew1;have J2:=J1.grow s3;have hD3:H3 D=some _:=s3 _ _ (s2 _ _ hDl);have bD3:zM (zM B' H' H2) H2 H3 D=none:=by rw[Z7 (s2 _ _ hDl)];exact tD H2 s2
    have sB3:=(zM.ge I'.sB s2).trans (zM.ge I2.sB s3);cases b with
    | false=>exact⟨ts.length - (i+1),by omega,rfl,hlt,by omega,hD3,ρ1,_,us,J2,no1,s1'.trans sB3,bD3,r'.mono sB3,ew2⟩
    | true=>
     refine⟨⟨B1,H1,E0,Y.cl,[]⟩,ρ1,rfl,rfl,_,J2, ?_⟩;have ew3:=ew2;cases ee:fe ρ1 with
     | bad=>rw[ee]at ew3;subst ew3;exact hF
     | ex c=>
      rw[ee]at ew3;subst ew3;exact λd H' a b=>hF d H' a ((s1'.trans sB3).trans b)
     | ok v=>
      rw[ee]at ew3;have ew4:=ew3;have ew5:(zQ g ft fe (ts.drop (i+1)) ρ1).bind (λws=> .ok ((us++[v])++ws))=r:=by
       rw[← ew4];cases zQ g ft fe _ ρ1 with
       | ok ws=>show R.ok _=R.ok _;rw[aX];rfl
       | _=>rfl
      intro w H4 s4 rw4;have hD4:=s4 _ _ hD3;have J3:=J2.grow s4;have bD4:zM (zM (zM B' H' H2) H2 H3) H3 H4 D=none:=by rw[Z7 hD3];exact bD3
      have sB4:=sB3.trans (zM.ge J2.sB s4);refine⟨hD4,aH (bU hyl hlt) (Zg hl),ts.length - (i+1),by omega,rfl,hlt,by rw[av,aF];omega,zx,ρ1,_,us++[v], ?_,no1,s1'.trans sB4,bD4,(r'.mono sB4).append (.cons rw4 .nil),ew5⟩
      exact J3.acc bD4 hD (λj ts' e=>((no1 j _ e).1 ts' rfl).elim) (λj x e=>(no1 j x e).2) _
 ·have e:i=ts.length:=by omega
  subst e;refine .inl ⟨hstop _ (ai _), ?_⟩;rw[i7]at ew;have ew' :R.ok _=r:=ew;rw[aP]at ew';subst ew';refine hF H' ys B' I'.sH hDl r' (λb o h=> ?_) bD s1';cases q:H1 b with
  | none=>rw[zY q];exact I'.sB b o h
  | some u=>
   rw[Z7 q];have z:B' b=B1 b:=I'.old b u q;rw[← z];exact h
theorem JB {J:It}(hG:GOk tG g)(hN:GNo g)(I:SI Y B1 ρ σ H1)(rI' :rI B1 H1 J ts)(hl:ts.length<=bnd)(ev:zQ g ft fe ts (WB k js ρ)= .ok vs)(hD:H1 D=none){F:Hp->Prop}
  (hF:∀H' xs B',zu H1 H' ->H' D=some (.lst xs)->zE B' xs vs->zu B' (zM B1 H1 H')->B' D=none->zu B1 B' ->F H'):
  ∃W,(∃m,W 0 m [] (WA k js σ) (upd H1 D (.lst [])))/\QE J D tG (λσ H Q=>∃Y' ρ',Y'.cl=Y.cl/\tS Y' rE ft ρ' σ H Q) (λσ H Q=>∃Y' ρ',Y'.cl=Y.cl/\(Y'.E=λ_ _ _=>False)/\tS Y' rC fe ρ' σ H Q) (λ_ H' =>F H') W:=UU hG hN I rI' hl ev hD hF
structure wq (X:Cx) (Y:Fx) (tg iter elt:Expr) (ifs:List Expr) (scope:Scope) (N' :List Str) (k:Nat) (js:List Nat) (fi:En->R (List T)) (tG:TG) (g:T->En->R En) (ft:En->R Bool) (fe:En->R T):Prop where
 sc:CSc X scope
 cp:GG X scope N' k js
 cm:X.calm=true
 it:uo X Y tg iter fi
 gt:V3 X scope N' λXC=>PG XC tg tG
 gk:GOk tG g
 gn:GNo g
 tt:∀Y',Y'.cl=Y.cl->V3 X scope N' λXC=>wS XC Y' ifs ft
 el:∀Y',Y'.cl=Y.cl->Kb X scope N' Y'.E λXC=>Snd XC Y' elt fe
 hs:∀x,foldedSetIterable iter X.env x=pure x
theorem V4 (C:wq X Y tg iter elt ifs scope N' k js fi tG g ft fe):Snd X Y (.ListComp elt [⟨tg,iter,ifs,0⟩] scope pos) (Z1 fi g ft fe k js):= .mk λρ=>by
 intro pins s σ H Q I ⟨B,J,q⟩;refine wQ (jR rfl) (F:=λD H' =>Q (.ref D) H') (te:=λσ H Q=>∃Y' ρ',Y'.cl=Y.cl/\(Y'.E=λ_ _ _=>False)/\tS Y' rC fe ρ' σ H Q) (tt:=λσ H Q=>∃Y' ρ',Y'.cl=Y.cl/\tS Y' rE ft ρ' σ H Q) C.sc C.cp C.cm (C.it ρ) C.gt
  (λcl Cx' s3 H3 fp pins pins' s σ H Q I ⟨Y',ρ',ey,q⟩=>C.tt Y' ey cl Cx' s3 H3 fp _ ρ' _ s σ H Q I q) (λcl Cx' s3 H3 fp pins xe hp pins' s σ H Q I ⟨Y',ρ',ey,eE,q⟩=>C.el Y' ey cl Cx' s3 H3 fp _ xe (eE ▸ hp) ρ' _ s σ H Q I q) I ?_ ?_ C.hs
 ·refine step J q λts it' H1 _ s1 r1 J1 q1=> ?_;intro D hD;unfold zH at q1;split at q1
  ·rename_i hl;cases ev:zQ g ft fe ts _ with
   | bad=>rw[ev]at q1;exact q1.elim
   | ex c=>rw[ev]at q1;exact q1.elim
   | ok vs=>
    rw[ev]at q1;refine JB C.gk C.gn J1 r1 hl ev hD λH' xs B' s' e' r' l' b' sb' => ?_;refine(show Po Y rC _ H1 _ Q from q1) _ H' s' ?_;exact .lst (by rw[zY hD];exact e') (r'.mono l')
  ·exact q1.elim
 ·intro D Cc H' s' I' q' hC h0 hL hcell hpin hns;obtain⟨m,hm⟩:=hns;refine⟨m,hm,λh' hsb=>⟨.ref D,H', ?_,rfl,q'⟩⟩;exact I'.turned (λb o hb e=>hsb.extBut b o hb e) hC (aZ hL).symm (.inr h0) hcell hpin
end
section
variable {js:List Nat}{g:T->En->R En}
theorem Kf (C:wq X Y tg iter elt ifs scope N' k js fi tG g ft fe)(hN:X.N.Nodup)(hi:X.N[i]? =some x)(hx:L2.Loc X.env.scope x)
  (hsw:swapsWith (.ListComp elt [⟨tg,iter,ifs,0⟩] scope pc) (some (.Name x p')) pos.line X.env=pure true) (hf:X.fn x=true\/X.env.scope.names.lookup x=some .local:=by first | exact .inl rfl | exact .inr rfl | assumption):
  jm X Y (.Assign [.Name x p'] (.ListComp elt [⟨tg,iter,ifs,0⟩] scope pc) pos) (zP i (Z1 fi g ft fe k js)):= .mk λρ=>by
 intro pins s σ H D I ⟨B,J,q⟩;rw[exec_Assign_Name_used _ _ _ _ hsw];refine a7 (wpAny_standAt (a7 ?_));refine a7 (thn (wQ (jR rfl) (F:=λD' H' =>D.nx (σ.set i (some (.ref D'))) H') (te:=λσ H Q=>∃Y' ρ',Y'.cl=Y.cl/\(Y'.E=λ_ _ _=>False)/\tS Y' rC fe ρ' σ H Q) (tt:=λσ H Q=>∃Y' ρ',Y'.cl=Y.cl/\tS Y' rE ft ρ' σ H Q) C.sc C.cp C.cm (C.it ρ) C.gt
  (λcl Cx' s3 H3 fp pins pins' s σ H Q I ⟨Y',ρ',ey,q⟩=>C.tt Y' ey cl Cx' s3 H3 fp _ ρ' _ s σ H Q I q) (λcl Cx' s3 H3 fp pins xe hp pins' s σ H Q I ⟨Y',ρ',ey,eE,q⟩=>C.el Y' ey cl Cx' s3 H3 fp _ xe (eE ▸ hp) ρ' _ s σ H Q I q) I ?_ ?_ C.hs) λ_ s' hq=>ao (ao hq))
 ·have q' :PoS Y B (((fi ρ).s λts=>(zH g ft fe k js ρ ts).s λvs=> .nx (ρ.set i (.vl (.lst vs))))) D:=by
   unfold zP Z1 at q;revert q;cases fi ρ with
   | bad=>exact λq=>q
   | ex c=>exact λq=>q
   | ok ts=>
    intro q;have q2:PoS Y B (((zH g ft fe k js ρ ts).bind λvs=>R.ok _).s λt=>RS.nx _) D:=q;show PoS Y B ((zH g ft fe k js ρ ts).s λvs=>RS.nx _) D;revert q2;cases zH g ft fe k js ρ ts with
    | bad=>exact λq=>q
    | ex c=>exact λq=>q
    | ok vs=>exact λq=>q
  refine j7 J q' λts it' H1 _ s1 r1 J1 q1=> ?_;intro D' hD;unfold zH at q1;split at q1
  ·rename_i hl;cases ev:zQ g ft fe ts _ with
   | bad=>rw[ev]at q1;exact q1.elim
   | ex c=>rw[ev]at q1;exact q1.elim
   | ok vs=>
    rw[ev]at q1;refine JB C.gk C.gn J1 r1 hl ev hD λH' xs B' s' e' r' l' b' sb' => ?_;have rr:Rep _ _ _:= .lst (by rw[zY hD];exact e') (r'.mono l')
    exact q1 _ _ _ (zM.ge J1.sB s') ((J1.grow s').setV i rr)
  ·exact q1.elim
 ·intro D' Cc H' s' I' q' hC h0 hL hcell hpin hns;obtain⟨m,hm⟩:=hns;refine wpAny_assign_Name (Wl (v:= .ref D') I' hN hi hx rfl (λs'' I'' ⟨a,hsb,ha⟩=> ?_) hf);have hne:Cc ≠ a:=by
   rcases ha with rfl | ha
   ·exact hL
   ·exact(hcell x a ha).symm
  refine⟨m,hm.sameBut hsb hne,λh' hsb' =>⟨_,H', ?_,q'⟩⟩;exact I''.turned (λb o hb e=>hsb'.extBut b o hb e) hC hL (.inr h0) hcell hpin
end
noncomputable def Itc (x:Str):It:=⟨λi _=>i < x.cps.size,λi H v H' =>H' =H/\∃c,x.cps[i]? =some c/\v= .str ⟨#[c]⟩,λi _=>x.cps.size<=i⟩
theorem wt {P:Program}{w:World}{K:a8}{tg:Expr}{x:Str}{t:Tok}{ty:String}(it:Addr)(hty:ty="str_ascii_iterator"\/ty="str_iterator"):yk P w K tg (Itc x) [it] it (λi h=>h.IsStrIter it ty x t i):=by
 have W:∀A:Around,A.handled=none->Walks P w A it [it] [it] x.cps.size (SignAt x) (λi h=>h.IsStrIter it ty x t i):=λA hA=>by
  rcases hty with rfl | rfl
  ·exact Walks.strAscii hA it x t
  ·exact Walks.strWide hA it x t
 have hn:["enumerate","zip","dict_itemiterator","dict_reverseitemiterator","odict_iterator","itertools.zip_longest","itertools.pairwise"].contains ty=false:=by rcases hty with rfl | rfl <;> decide
 refine⟨by simp,λi h st b hb=> ?_,λi h h' st k=> ?_, ?_, ?_,λA i s Q E st h=> ?_⟩
 ·have e:b=it:=by simpa using hb
  subst e;obtain⟨o,e,c,d⟩:=st;exact⟨o,e,λv z=>by rw[d]at z;cases z⟩
 ·obtain⟨o,e,r⟩:=st;exact⟨o,k it (by simp) o e,r⟩
 ·intro X hP hw hK hc i pins s σ H E I hf st hg;obtain⟨f0,f1,f2,f3,f4,f5⟩:=hf it (by simp)
  refine(W X.A (I.ok.hd hc)).item i s _ _ hg st λv h' tk hv st' kk=> ?_;obtain⟨c,u,hc',rfl⟩:=hv;have I1:L2.Inv X _ σ H { s with heap:=h',toks:=tk }:=I.turned (λb o hb e=>kk b o (by simpa using hb) e) f0 f1 f3 f4 f5
  obtain⟨o,e,cl,d⟩:=id st';exact⟨_,rfl,UA e cl d hn ⟨.str _,H,I1,⟨u,rfl⟩,⟨rfl,c,hc',rfl⟩,st',λb hb=>(hf b hb).1⟩⟩
 ·intro X hP hw hK hc i pins s σ H E I hf st hg;obtain⟨f0,f1,f2,f3,f4,f5⟩:=hf it (by simp)
  have hx:=cu hg;rcases hty with rfl | rfl
  ·exact wpAny_pyNext_ascii_end (I.ok.hd hc) st hx λh' eb=>⟨rfl,I.turned (λb o hb e=>eb b o hb e) f0 f1 f3 f4 f5⟩
  ·exact wpAny_pyNext_wide_end (I.ok.hd hc) st hx λh' eb=>⟨rfl,I.turned (λb o hb e=>eb b o hb e) f0 f1 f3 f4 f5⟩
 ·rcases hty with rfl | rfl
  ·exact wpAny_pyIter_striter_ascii st h
  ·exact wpAny_pyIter_striter_wide st h
noncomputable def JC (x:Str):List T:=x.cps.toList.map λc=>T.str ⟨#[c]⟩
theorem QL:rI B1 H1 (Itc x) (JC x):=λB2 H2 s1 s2=>by
 have hl:(JC x).length=x.cps.size:=by unfold JC;simp
 refine⟨λi hi=>by rw[hl]at hi;exact hi,λi t v H3 e y=> ?_,λi hi=>by rw[hl]at hi;exact hi⟩
 obtain⟨rfl,c,hc,rfl⟩:=y;refine⟨zu.refl _, ?_⟩;unfold JC at e;rw[ay]at e;have hc' :x.cps.toList[i]? =some c:=by simpa using hc
 rw[hc']at e;cases e;exact .str _
section
theorem Kg {l:Expr}{tl:TE}(hl:PE X l tl):PI X tg l (λσ H R=>tl σ H λx H1=>(∃a,x= .ref a/\(((∃xs,SqL X.K H1 a xs)/\R (Itl X.K a) H1)\/((∃xs,SqT X.K H1 a xs)/\R (Itt X.K a) H1)))\/(∃z,x= .str z/\R (Itc z) H1)):=by
 intro pins s σ H R I h;refine thn (hl _ s σ H _ I h) λv s1 ⟨x,H1,I1,r1,q1⟩=> ?_;have ok:∀b∈[s1.heap.objs.size],Wh X _ H1 b:=λb hb=>by
  have e:=by simpa using hb
  subst e;exact I1.fpOk (ai _) (I1.hok.fresh (ai _))
 rcases q1 with ⟨a,e,q⟩ | ⟨z,e,q⟩
 ·subst e;obtain rfl:v=Value.ref a:=r1;rcases q with ⟨⟨xs,hq⟩,q⟩ | ⟨⟨xs,hq⟩,q⟩
  ·obtain⟨its,rv,p,hz⟩:=I1.list hq;exact c8 p.isList ⟨s1.heap.objs.size,[s1.heap.objs.size],_,_,H1,rfl,I1.kept λb o e=>a9 _ e,Wm a _,⟨_,af _ rfl,rfl,rfl⟩,ok,q⟩
  ·obtain⟨its,rv,p,hz⟩:=I1.tuple hq;exact wpAny_pyIter_tuple (show s1.heap.IsTuple a _ from p) ⟨s1.heap.objs.size,[s1.heap.objs.size],_,_,H1,rfl,I1.kept λb o e=>a9 _ e,wk a _,⟨_,af _ rfl,rfl,rfl⟩,ok,q⟩
 ·subst e;obtain⟨t,rfl⟩:=r1;cases ha:z.cps.all _
  ·exact wpAny_pyIter_wide ha ⟨s1.heap.objs.size,[s1.heap.objs.size],_,_,H1,rfl,I1.kept λb o e=>a9 _ e,wt _ (.inr rfl),⟨_,af _ rfl,rfl,rfl⟩,ok,q⟩
  ·exact wpAny_pyIter_ascii ha ⟨s1.heap.objs.size,[s1.heap.objs.size],_,_,H1,rfl,I1.kept λb o e=>a9 _ e,wt _ (.inl rfl),⟨_,af _ rfl,rfl,rfl⟩,ok,q⟩
def JD:T->R (List T)
 | .lst xs=> .ok xs
 | .tup xs=> .ok xs
 | .str x=> .ok (JC x)
 | _=> .bad
def ZU (fa:En->R T):En->R (List T):=λρ=>(fa ρ).bind JD
theorem z15 (ha:Snd X Y a fa):uo X Y tg a (ZU fa):= .mk λρ=>PI.imp (Kg (ha ρ)) λσ H R ⟨B,I,q⟩=>step I q λt v H1 _ s1 r1 I1 q1=>by
 cases r1 with
 | @tup l xs ts h r=>
  exact .inl ⟨l,rfl,.inr ⟨⟨xs,SqT.of (I1.sB _ _ h)⟩,ZB I1 (show Po Y rI _ H1 _ R from q1) (K5 h r)⟩⟩
 | @lst l xs ts h r=>
  exact .inl ⟨l,rfl,.inl ⟨⟨xs,SqL.of (I1.sB _ _ h)⟩,ZB I1 (show Po Y rI _ H1 _ R from q1) (K6 h r)⟩⟩
 | str z=>exact .inr ⟨z,rfl,ZB I1 (show Po Y rI _ H1 _ R from q1) QL⟩
 | _=>exact q1.elim
end
theorem Inv.laidT {X:Cx}{pins:List (Addr×Obj)}{σ:Sg}{H:Hp}{s:Shared}{h' :Heap}{tk:Nat}{ch:List Addr}{a:Addr}{xs:List V}(I:L2.Inv X pins σ H s)(hf:∀b∈ch,Wh X pins H b)(k:∀b o,b ∉ ch->s.heap.get? b=some o->h'.get? b=some o)
  (th:∀b o,b∈ch->s.heap.get? b=some o->∃o',h'.get? b=some o') (ha:s.heap.objs.size<=a) (new:Z9 X.prog X.w (upd H a (.tup xs)) h' a (.tup xs)):L2.Inv X pins σ (upd H a (.tup xs)) { s with heap:=h',toks:=tk }:=by
 have hn:=I.hok.fresh ha;have nch:∀b u,H b=some u->b ∉ ch:=λb u e hb=>by rw[(hf b hb).1]at e;cases e
 refine I.call' rfl ⟨λb o e n _ hc=>k b o hc e,λb o e n _ hc=>⟨o.slots,k b o hc e⟩,λb o e n _=>by rw[zt (aC (aH (aq e) ha))];exact n,λb o e hc=>⟨o,k b o hc e⟩,
  λb ys e=>by rw[zt (zL e hn)];exact e,λb o u e=>by rw[zt (zL e hn)];exact e,λb ps q e=>by rw[zt (zL e hn)];exact e⟩ (λb u e=> ?_) I.bare λb hb=> ?_
 ·by_cases hb:b=a
  ·subst hb;rw[zx]at e;cases e;exact new
  ·rw[zt hb]at e;refine(I.hok b u e).stay (λc v hc q=> ?_) (λc q=>by rw[zt (zL q hn)];exact q) (λc ys q=>by rw[zt (zL q hn)];exact q) λc o u q=>by rw[zt (zL q hn)];exact q
   rcases hc with rfl | hc
   ·exact k c v (nch c u e) q
   ·exact k c v (nch c _ hc) q
 ·obtain⟨f0,f1,f2,f3,f4,f5⟩:=hf b hb;exact⟨f3,f1,f4,f5⟩
def Ite (K:a8)(l:Addr):It:=
 ⟨λi H=>∃xs x,SqL K H l xs/\xs[i]? =some x,λi H v H' =>∃p x,H p=none/\v= .ref p/\(∀xs,SqL K H l xs->xs[i]? =some x)/\H' =upd H p (.tup [.int i,x]),λi H=>∃xs,SqL K H l xs/\xs.length<=i⟩
theorem Yh {P:Program}{w:World}{K:a8}{elts:List Expr}{kk:Nat}{pt:Pos}(e it l:Addr)(hei:e ≠ it)(hle:l ≠ e)(hli:l ≠ it):
  yk P w K (.Tuple elts kk pt) (Ite K l) [e,it] e (λi h=>(∃old,IsEnum h e it i old)/\h.IsListIter it l i) where
 mem:=by simp
 obj:=λi h st b hb=>by
  obtain⟨⟨old,he⟩,o,e1,c,d⟩:=st;rcases ak.mp hb with rfl | hb
  ·exact⟨_,he,λv z=>nomatch z⟩
  ·have z:b=it:=by simpa using hb
   subst z;exact⟨o,e1,λv z=>by rw[d]at z;cases z⟩
 keep:=λi h h' st k=>by
  obtain⟨⟨old,he⟩,hit⟩:=st;exact⟨⟨old,k e (by simp) _ he⟩,hit.at λo x=>k it (by simp) o x⟩
 item:=by
  intro X hP hw hK hc i pins s σ H E I hf st hg;subst hP hw hK;obtain⟨xs,x,hq,hx⟩:=hg;obtain⟨its,rv,p,hz⟩:=I.list hq;obtain⟨u,hu,ru⟩:=rv.get hx;obtain⟨⟨old,he⟩,hit⟩:=st;have hi:i < its.toArray.size:=by
   have:=(ar.mp hu).1;simpa using this
  refine(i8 (prog:=X.prog) (w:=X.w) (I.ok.hd hc) e it l hei hle hli its.toArray).item i s _ _ hi ⟨⟨old,he⟩,hit,p.isList⟩ λT vals h' tk hP hT hTup hM hk=> ?_;obtain⟨t,y,hy,rfl⟩:=hP;have hyu:y=u:=by
   have:its[i]? =some y:=by simpa using hy
   rw[hu]at this;exact(aB this).symm
  subst hyu;refine⟨.ref T,rfl, ?_⟩;refine(i8 (prog:=X.prog) (w:=X.w) (I.ok.hd hc) e it l hei hle hli its.toArray).go elts kk pt i T _ _ _ hM λh2 hst2 hk2=> ?_;have hTn:H T=none:=I.hok.fresh hT;have hTne:∀b∈[e,it],b ≠ T:=λb hb z=>by
   obtain⟨_,_,_,h3,h4⟩:=hM;rcases ak.mp hb with rfl | hb
   ·exact h3 z.symm
   ·have:b=it:=by simpa using hb
    subst this;exact h4 z.symm
  have Qg:IsTup h2 T #[.int i t,y]:=by
   obtain⟨o,eo,r⟩:=hTup;exact⟨o,hk2 T o (λhb=>hTne T hb rfl) eo,r⟩
  refine⟨.ref T,upd H T (.tup [.int i,x]),Inv.laidT (s:=s) (h' :=h2) (ch:=[e,it]) (tk:=tk) I hf (λb o hb e=>hk2 b o hb (hk b o hb e)) (λb o hb _=> ?_) hT ⟨by rw[bT];show 2<=16777216;decide,[.int i t,y],.cons ⟨t,rfl⟩ (.cons ru .nil),Qg,.inl ⟨_,_,rfl⟩⟩,rfl,⟨T,x,hTn,rfl,λys hy=>by rw[I.list_inj hy hq];exact hx,rfl⟩,⟨hst2.1,hst2.2.1⟩,λb hb=> ?_⟩
  ·obtain⟨⟨old2,he2⟩,⟨o2,eo2,_⟩,_⟩:=hst2;rcases ak.mp hb with rfl | hb
   ·exact⟨_,he2⟩
   ·have:b=it:=by simpa using hb
    subst this;exact⟨o2,eo2⟩
  ·rw[zt (hTne b hb)];exact(hf b hb).1
 done:=by
  intro X hP hw hK hc i pins s σ H E I hf st hg;subst hP hw hK;obtain⟨xs,hq,hx⟩:=hg;obtain⟨its,rv,p,hz⟩:=I.list hq;obtain⟨⟨old,he⟩,hit⟩:=st;have hl:=rv.length;refine wpAny_pyNext_enum_end (I.ok.hd hc) he hit p.isList (cu (by simp;omega)) λh' hk=>⟨rfl, ?_⟩
  obtain⟨f0,f1,f2,f3,f4,f5⟩:=hf it (by simp)
  exact I.turned (t' :=s.toks) (λb o hb e=>hk b o hb e) f0 f1 f3 f4 f5
 self:=λ_ _ _ _ _ st h=>let ⟨⟨_,he⟩,_⟩:=st;wpAny_pyIter_enum he h
noncomputable def jH (xs:List T):List T:=(xs.zipIdx).map λp=>T.tup [.int (p.2:Nat),p.1]
theorem WC {xs:List T}{i:Nat}{t:T}(h:(jH xs)[i]? =some t):∃x,xs[i]? =some x/\t= .tup [.int (i:Nat),x]:=by
 unfold jH at h;rw[ay,List.getElem?_zipIdx]at h;cases e:xs[i]? with
 | none=>rw[e]at h;cases h
 | some x=>rw[e]at h;cases h;exact⟨x,rfl,by simp⟩
theorem J7 (xs:List T):(jH xs).length=xs.length:=by unfold jH;simp
theorem xw {K:a8}{B1 H1:Hp}{a:Addr}{xs:List V}{ts:List T}(h:B1 a=some (.lst xs))(r:zE B1 xs ts):rI B1 H1 (Ite K a) (jH ts):=λB2 H2 s1 s2=>by
 have h2:=s2 _ _ (s1 _ _ h);rw[J7];refine⟨λi hi=> ?_,λi t x H3 e y=> ?_,λi hi=>⟨xs,SqL.of h2,by rw[r.length];exact hi⟩⟩
 ·obtain⟨v,e,_⟩:=r.get (ah hi);exact⟨xs,v,SqL.of h2,e⟩
 ·obtain⟨p,v,hp,rfl,y,rfl⟩:=y;obtain⟨t',et,rfl⟩:=WC e;obtain⟨v',e1,r1⟩:=r.get et;have:=y xs (SqL.of h2);rw[e1]at this;cases this;refine⟨zu.new hp _,.tup (j5 hp _) (.cons (.int _) (.cons ?_ .nil))⟩;exact(r1.mono s1).mono (zM.ge s2 (zu.new hp _))
section
variable {X:Cx}{Y:Fx}{a:Expr}{fa:En->R T}{pos p pt:Pos}{elts:List Expr}{kk:Nat}
theorem xx {ta:TA}(hg:Gl X "enumerate")(hm:X.mg "enumerate"=none)(ha:PA X [a] ta)(hs:St1 X a:=by exact st1 rfl):
  PI X (.Tuple elts kk pt) (.Call (.Name "enumerate" p) [a] [] pos) (λσ H R=>ta σ H λvs H1=>∃l xs,vs=[.ref l]/\H1 l=some (.lst xs)/\R (Ite X.K l) H1):=by
 intro pins s σ H R I h;refine Call_ (j0 I hg hm PyProof.Rows.Boot.«enumerate» (aU (thn (ha pos _ s σ H _ I h) λus s1 ⟨vs,H1,I1,r1,q1⟩=> ?_) hs rfl));obtain⟨l,xs,e,hl,q⟩:=q1;subst e;obtain⟨u,rfl,ru⟩:=ZP r1;obtain rfl:u=Value.ref l:=ru;obtain⟨_,its,n,rv,eo⟩:=(show Z9 _ X.w H1 _ l _ from I1.hok l _ hl);have hlt:=aq eo;refine call_enumerate_1 eo λh' he hit hsz hk=>wpAny_pyIter_enum he ?_;have f:∀b∈[s1.heap.objs.size+1,s1.heap.objs.size],Wh X _ H1 b:=λb hb=>by
  rcases ak.mp hb with rfl | hb
  ·exact I1.fpOk (du _) (I1.hok.fresh (du _))
  ·have z:=by simpa using hb
   subst z;exact I1.fpOk (ai _) (I1.hok.fresh (ai _))
 exact⟨s1.heap.objs.size+1,[s1.heap.objs.size+1,s1.heap.objs.size],_,_,H1,rfl,I1.kept hk,Yh _ _ l (i9 _) (aC (cH hlt)) (aC hlt),⟨⟨_,he⟩,hit⟩,f,q⟩
def xy (fa:En->R T):En->R (List T):=λρ=>(fa ρ).bind λt=>match t with
 | .lst xs=> .ok (jH xs)
 | _=> .bad
theorem Kh (hg:Gl X "enumerate")(hm:X.mg "enumerate"=none)(ha:Snd X Y a fa)(hs:St1 X a:=by exact st1 rfl):uo X Y (.Tuple elts kk pt) (.Call (.Name "enumerate" p) [a] [] pos) (xy fa):= .mk λρ=>
 PI.imp (xx hg hm (zy (ha ρ) zO hs) hs) λσ H R ⟨B,I,q⟩=>step I q λt v H1 _ s1 r1 I1 q1=>by
  cases r1 with
  | @lst l xs ts h r=>exact⟨l,xs,rfl,I1.sB _ _ h,ZB I1 (show Po Y rI _ H1 _ R from q1) (xw h r)⟩
  | _=>exact q1.elim
noncomputable def yo:List T->Option (List Str)
 | []=>some []
 | .str x :: r=>match yo r with | some ys=>some (x :: ys) | none=>none
 | _ :: _=>none
def Ki (sep:Str):T->R T
 | .lst ts=>match yo ts with
  | some ys=>if (ys.map (·.length)).sum+ys.length*sep.length<=16777216 then .ok (.str (Txt.join sep ys)) else .bad
  | none=> .bad
 | _=> .bad
theorem wT {H:Hp}:∀{xs:List V} {ts:List T} {its:List Value} {ys:List Str},zE H xs ts->zT xs its->yo ts=some ys->StrsAre its ys
 | _,_,_,ys,.nil,.nil,h=>by
  have h' :=h;cases h';exact .nil
 | _,_,_,ys,.cons r rs,.cons rv vs,h=>by
  cases r with
  | str x=>
   unfold yo at h;split at h
   ·rename_i zs e;cases h;obtain⟨tk,rfl⟩:=rv;exact .cons x tk (wT rs vs e)
   ·cases h
  | _=>cases h
theorem xz:MtR X "str.join" (λx xs H Q=>∃z l zs ts ys,x= .str z/\xs=[.ref l]/\H l=some (.lst zs)/\zE H zs ts/\yo ts=some ys/\(ys.map (·.length)).sum+ys.length*z.length<=16777216/\Q (.str (Txt.join z ys)) H):=by
 intro pins s σ H x xs v us Q I rx rv h;obtain⟨z,l,zs,ts,ys,rfl,rfl,hl,r,e,hb,q⟩:=h;obtain⟨t,rfl⟩:=rx;obtain⟨u,rfl,ru⟩:=ZP rv;obtain rfl:u=Value.ref l:=ru;obtain⟨its,rv,p,_⟩:=zU I (.inl hl) r;exact join_list p (by simpa using wT r rv e) hb λt' k=>⟨.str _,H,I.tok k,⟨t',rfl⟩,q⟩
theorem Kj (ha:ZZ X Y a fa)(hb:attributeBase (.Constant (.str z) kc pz) "join" X.env (eval (.Constant (.str z) kc pz) X.env)=eval (.Constant (.str z) kc pz) X.env:=by rfl)(hs:St1 X a:=by exact st1 rfl)
  (hz:(pa.endLine == p.line)=true:=by rfl):Snd X Y (.Call (.Attribute (.Constant (.str z) kc pz) "join" pa) [a] [] p) (ap1 (Ki z) fa):= .mk λρ=>by
 have e1:(((((backTo p (starEach [a] X.env)).all λx=> !x.fst) && (backToKw p (keywordEach [] X.env)).all λx=>x.fst.isSome) && decide (([a].length+([]:List Keyword).length+if ([]:List Keyword).isEmpty=true then 0 else 1) < 30))=true):=by rw[hs];rfl
 refine PE.imp (UL PySem.F.plainAttrs_str PySem.F.slot_str_join PySem.F.type_str_join xz vN (zy (ha ρ) zO hs) hb e1 hz hs rfl) λσ H Q ⟨B,I,q⟩=> ?_;refine⟨rfl,step I q λt v H1 _ s1 r1 I1 q1=> ?_⟩;cases r1 with
 | @lst l xs ts h r=>
  have q1:Po Y rC _ H1 (match yo ts with | some ys=>if (ys.map _).sum+ys.length*z.length<=16777216 then .ok _ else .bad | none=> .bad) Q:=q1
  split at q1
  ·rename_i ys e;split at q1
   ·rename_i hl;exact⟨z,l,xs,ts,ys,rfl,rfl,h,r,e,hl,po0 I1.sB q1 rfl (.str _)⟩
   ·exact q1.elim
  ·exact q1.elim
 | _=>exact q1.elim
end
noncomputable def dd:List Str->List Str->List Str
 | acc,[]=>acc
 | acc,x :: r=>dd (if x∈acc then acc else acc++[x]) r
section
variable {prog:Program}{w:World}{A:Around}{R:Result->Shared->Prop}{I:Addr}{fp wr:List Addr}{n:Nat}{P:Nat->Value->Prop}{St:Nat->Heap->Prop}
theorem jh {h h' :Heap}{S:Addr}{f g:Str->Bool}{m k:Nat}(x:h.SetOf (strKind prog w) S f m)(e:∀o,h.get? S=some o->h'.get? S=some o)(ef:f=g)(em:m=k):h'.SetOf (strKind prog w) S g k:=by
 subst ef em;obtain⟨o,es,ep,t,ho,r⟩:=x;exact⟨o,es,ep,t,e o ho,r⟩
theorem QN (W:Walks prog w A.in1 I fp wr n P St)(S:Addr)(hSf:S ∉ fp)(val:Nat->Str)(hval:∀i v,P i v->∃t,v=Value.str (val i) t)(hb:n+1 < scanBound):
  ∀(k i:Nat) (acc:List Str) (s:Shared),n - i=k->i<=n->acc.length<=i->St i s.heap->s.heap.SetOf (strKind prog w) S (λx=>decide (x∈acc)) acc.length->
   (∀h' tk,(∀b o,b ∉ S :: wr->s.heap.get? b=some o->h'.get? b=some o)->h'.SetOf (strKind prog w) S (λx=>decide (x∈dd acc ((im i k).map val))) (dd acc ((im i k).map val)).length->
    R (.ok (.ret .none)) { s with heap:=h',toks:=tk })->codeAny (model prog w) A (.builtin "set.update.loop" ⟨[.ref S,.ref I],[]⟩) R s:=by
 intro k
 induction k with
 | zero=>
  intro i acc s hk hi hal hst hS hR;obtain rfl:i=n:=by omega
  refine bX eK ?_;refine a7 (W.done s _ _ hst λh' tk hk' =>ao ?_);exact hR h' tk (λb o hb e=>hk' b o (λz=>hb (ac _ z)) e) (jh hS (λo e=>hk' S o (λz=>hSf (W.sub _ z)) e) rfl rfl)
 | succ k ih=>
  intro i acc s hk hi hal hst hS hR;refine bX eK ?_;refine a7 (W.item i s _ _ (by omega) hst λv h1 tk1 hP hst1 hk1=> ?_)
  obtain⟨t,rfl⟩:=hval i v hP;have hS1:=jh hS (λo e=>hk1 S o (λz=>hSf (W.sub _ z)) e) rfl rfl;refine a7 (m:=holding _ _) (cB ?_);unfold setAdd;have isk:(strKind prog w).is (val i) (.str (val i) t)=true:=strKind_is _ _ _ _;refine cB (a7 ((strKind _ w).pyHash isk ?_));refine wpAny_setAddHashed_of isk rfl hS1 (by omega) λh2 hsb hS2=> ?_
  have e2:(if decide (val i∈acc)=true then acc.length else acc.length+1)=(if val i∈acc then acc else acc++[val i]).length:=by
   by_cases hm:val i∈acc
   ·simp[hm]
   ·simp[hm]
  have e1:(λx=>decide (x∈acc) || decide (x=val i))=(λx=>decide (x∈(if val i∈acc then acc else acc++[val i]))):=by
   funext x
   by_cases hm:val i∈acc
   ·simp only[if_pos hm]
    by_cases hx:x=val i
    ·subst hx;simp[hm]
    ·simp[hx]
   ·simp[hm,Bool.decide_or]
  have hS3:=jh hS2 (λo e=>e) e1 e2;refine ao ⟨plainId_quiet F.plain_set_update_loop _,ih _ _ _ (by omega) (by omega) ?_ (W.frame _ h1 _ hst1 λb hb o e=> ?_) hS3 λh3 tk3 hk3 hS4=> ?_⟩
  ·split
   ·omega
   ·rw[av,aF];omega
  ·exact(hsb.2 b (λz=>hSf (z ▸ hb))).trans e
  ·refine hR h3 tk3 (λb o hb e=>hk3 b o hb ?_) hS4;exact(hsb.2 b (λz=>hb (z ▸ am))).trans (hk1 b o (λz=>hb (ac _ z)) e)
end
section
set_option maxRecDepth 100000 in
set_option maxHeartbeats 3200000 in
theorem Yi {l:Addr}{its:List Value}{ys:List Str}{Q:Value->Shared->Prop}(hh:A.handled=none)(hl:s.heap.IsList l its.toArray)(hi:StrsAre its ys)(hb:its.length+1 < scanBound)
  (h:∀(h' :Heap) (tk:Nat),h'.SetOf (strKind prog w) s.heap.objs.size (λx=>decide (x∈dd [] ys)) (dd [] ys).length->(∀b o,b < s.heap.objs.size->s.heap.get? b=some o->h'.get? b=some o)->
   Q (.ref s.heap.objs.size) { s with heap:=h',toks:=tk }):wpAny (model prog w) A (call (.type "set") [.ref l]) Q E s:=by
 have getv:∀{its:List Value} {ys:List Str},StrsAre its ys->its.length=ys.length/\∀(i:Nat) (v:Value),its[i]? =some v->∃t,v=Value.str (ys.getD i ⟨#[]⟩) t:=λ{its ys} hi=>by
  induction hi with
  | nil=>exact⟨rfl,λi v e=>by simp at e⟩
  | cons y t _ ih=>
   refine⟨by simp[ih.1],λi v e=> ?_⟩
   cases i with
   | zero=>exact⟨t,by simpa using e.symm⟩
   | succ i=>exact ih.2 i v (by simpa using e)
 obtain⟨hlen,hget⟩:=getv hi;have hys:(im 0 its.length).map (λi=>ys.getD i ⟨#[]⟩)=ys:=by
  rw[hlen];refine dX λi=> ?_;rw[ay]
  by_cases hi' :i < ys.length
  ·rw[List.getElem?_range' hi',ah hi'];simp[ah hi']
  ·rw[a_ (by simp;omega),a_ (by omega)]
   rfl
 obtain⟨c,tl,hmro⟩:=cy.mro;have hmade:=cy.made;have hsub:=cy.sub;have h1:=cy.notType;have h2:=cy.canCreate;have hct:=F.typeCall_set_1 (.ref l);refine d7 (codeAny_of_tree (show wpAny _ _ (callAny (.type "set") _) _ _ _ from ?_));refine ao ⟨fL _ (by decide+kernel),bX F.entry_type_call ?_⟩
 rw[Around.under_plain (weight_type_call_type "set" [.ref l] []) rfl]
 repeat any_goals (first | assumption | wp_step)
 refine b_ (code_set_new_1 (.ref l) (E:=E) (Q₁:=λobj s₁=>∃led:Bool,obj= .ref s.heap.objs.size/\s₁={ s with heap:=s.heap.push { cls:= .type "set",dict:=none,data:= .set #[] 0 (.fresh 0 0 led) } }) λled=>⟨led,rfl,rfl⟩) λr s₁ hr=> ?_;cases r with
 | error e=>exact hr
 | ok fl=>
  cases fl with
  | ret obj=>
   obtain⟨led,rfl,rfl⟩:=hr;generalize hG:s.heap.push { cls:= .type "set",dict:=none,data:= .set #[] 0 (.fresh 0 0 led) }=G;have hS:G.get? s.heap.objs.size=some { cls:= .type "set",dict:=none,data:= .set #[] 0 (.fresh 0 0 led) }:=by rw[← hG];exact af _ rfl
   have hGs:G.objs.size=s.heap.objs.size+1:=by rw[← hG,bK]
   have hGk:∀b o,s.heap.get? b=some o->G.get? b=some o:=λb o e=>by rw[← hG];exact a9 _ e
   have hT:Shared.TypeIs { s with heap:=G } (.ref s.heap.objs.size) "set":=⟨_,hS,rfl⟩;have hli:=cy.init.lookup;have hbi:=cy.init.bind (.ref s.heap.objs.size)
   repeat any_goals (first | assumption | wp_step)
   refine b_ (codeAny_call_builtin (R:=wants (λr s₂=>r= .none/\∃h' tk,s₂={ s with heap:=h',toks:=tk }/\h'.SetOf (strKind prog w) s.heap.objs.size (λx=>decide (x∈dd [] ys)) (dd [] ys).length/\
     (∀b o,b < s.heap.objs.size->s.heap.get? b=some o->h'.get? b=some o)) E) cy.init.plain F.entry_set_init (check_set_init_1 hT ?_)) λr₂ s₂ hr₂=> ?_
   ·obtain⟨⟨ocls,odict,odata,oslots⟩,hol,hcl,nl,hdl⟩:=hl;simp only at hcl hdl;subst hcl;subst hdl;have hol' :=hGk _ _ hol;have hsls:=F.sub_list_set;have hslf:=F.sub_list_frozenset;have hne:(Value.type "list" == Value.type "dict")=false:=by decide
    have hl1:G.IsList l its.toArray:=⟨_,hol',rfl,nl,rfl⟩;have hlS:l < s.heap.objs.size:=aq hol;unfold Builtin.«set.__init__» noKeywords Builtin.Frozenset.updateFrom;generalize hPI:pyIter=PI
    wp_walk
    subst hPI;refine c8 hl1 (a7 (wpAny_runValue ?_));have hSf:s.heap.objs.size ∉ [G.objs.size,l]:=by
     rw[hGs];intro z;rcases ak.mp z with z | z
     ·exact absurd z (aC (cL _))
     ·exact absurd (aQ.mp z) (da hlS)
    refine QN (iF (A:=A.in1.in1.in1) (by simp[hh]) G.objs.size l (by rw[hGs];exact aC (cH hlS)) its.toArray) s.heap.objs.size hSf (λi=>ys.getD i ⟨#[]⟩) (λi v e=>hget i v (by simpa using e)) (by simpa using hb) its.length 0 [] _ (by simp) (bu _) (ai _)
     ⟨⟨_,af _ rfl,rfl,rfl⟩,hl1.push _⟩ ?_ ?_
    ·have hget' :(G.push { cls:= .type "list_iterator",data:= .fields #[.ref l,.int 0 0] }).get? s.heap.objs.size=some { cls:= .type "set",dict:=none,data:= .set #[] 0 (.fresh 0 0 led) }:=a9 _ hS;exact jh ((PyProof.Rows.setObjOf_fresh (knd:=strKind prog w) led).setOf hget' (by unfold scanBound;omega)) (λo e=>e) (by funext x;simp) rfl
    ·intro h' tk' hm hS';rw[hys]at hS';refine ao (show wpAny _ _ (ret Value.none) _ _ _ from ao ⟨rfl,h',tk',rfl,hS',λb o hb e=> ?_⟩);refine hm b o (λz=> ?_) (a9 _ (hGk b o e));rcases ak.mp z with z | z
     ·exact absurd z (aC hb)
     ·have z' :b=G.objs.size:=aQ.mp z;rw[hGs]at z';exact absurd z' (aC (cH hb))
   ·cases r₂ with
    | error e=>exact hr₂
    | ok fl₂=>
     cases fl₂ with
     | ret r=>
      obtain⟨rfl,h',tk,rfl,hS',hk'⟩:=hr₂
      repeat any_goals (first | assumption | wp_step)
      exact h _ _ hS' hk'
     | _=>exact hr₂.elim
  | _=>exact hr.elim
end
section
theorem Yj (hh:X.A.handled=none):Zt X (.type "set") (λvs H Q=>∃l xs ts ys,vs=[.ref l]/\H l=some (.lst xs)/\zE H xs ts/\yo ts=some ys/\ts.length+1 < 4096/\
  ∀q,H q=none->Q (.ref q) (upd H q (.ext λh=>h.SetOf (strKind X.prog X.w) q (λx=>decide (x∈dd [] ys)) (dd [] ys).length))):=by
 intro pins s σ H vs us Q I rv h;obtain⟨l,xs,ts,ys,rfl,hl,r,ey,hb,q⟩:=h;obtain⟨u,rfl,ru⟩:=ZP rv;obtain rfl:u=Value.ref l:=ru;obtain⟨its,rv,pl,hln,_⟩:=zU I (.inl hl) r;refine Yi hh pl (wT r rv ey) (by unfold scanBound;omega) λh' tk hS hk=> ?_
 refine⟨.ref _,_,I.laid (λb u e=>hk b u (aq e) e) (ai _) ?_,rfl,q _ (I.hok.fresh (ai _))⟩;obtain⟨o,es,ep,t,ho,rr⟩:=id hS;exact⟨hS,⟨o,ho⟩,λh1 h2 ⟨o1,es1,ep1,t1,ho1,rr1⟩ e=>⟨o1,es1,ep1,t1,e _ ho1,rr1⟩⟩
theorem Yk:Zt X (.builtin "len") (λvs H Q=>∃q φ f n,vs=[.ref q]/\H q=some (.ext φ)/\(∀h:Heap,φ h->h.SetOf (strKind X.prog X.w) q f n)/\Q (.int n) H):=by
 intro pins s σ H vs us Q I rv h;obtain⟨l,φ,f,n,rfl,hl,hφ,q⟩:=h;obtain⟨u,rfl,ru⟩:=ZP rv;obtain rfl:u=Value.ref l:=ru;obtain⟨h1,_,_⟩:=(show Z9 _ X.w H _ l _ from I.hok l _ hl);obtain⟨o,es,ep,t,ho,hex,hd,_,_,hb,hf,hn⟩:=hφ _ h1;refine call_len_set ho hex hd hf ?_ ⟨.int _,H,I.tok _,⟨_,rfl⟩,by rw[hn];exact q⟩
 have:es.size < 4096:=hb;omega
def QO:T->R T
 | .lst ts=>match yo ts with
  | some ys=>if ts.length+1 < 4096 then .ok (.int (dd [] ys).length) else .bad
  | none=> .bad
 | _=> .bad
theorem Kk (hh:X.A.handled=none)(gl:Gl X "len")(mg:X.mg "len"=none)(gl' :Gl X "set")(mg' :X.mg "set"=none)(ha:ZZ X Y a fa)(hs:St1 X a:=by exact st1 rfl)(hs' :St1 X (.Call (.Name "set" p') [a] [] pos'):=by exact st1 rfl):
  Snd X Y (.Call (.Name "len" p) [.Call (.Name "set" p') [a] [] pos'] [] pos) (ap1 QO fa):= .mk λρ=>
 PE.imp (jg Yk gl mg PySem.boot_len (zy (ZQ (Yj hh) gl' mg' PyProof.Rows.Boot.«set» (zy (ha ρ) zO hs) (by decide) (by decide) hs rfl) zO hs') (by decide) (by decide) hs' rfl) λσ H Q ⟨B,I,q⟩=>
  step I q λt v H1 _ s1 r1 I1 q1=>by
   cases r1 with
   | @lst l xs ts h r=>
    have q1:Po Y rC _ H1 (match yo ts with | some ys=>if ts.length+1 < 4096 then .ok _ else .bad | none=> .bad) Q:=q1
    split at q1
    ·rename_i ys e;split at q1
     ·rename_i hl;refine⟨l,xs,ts,ys,rfl,h,r,e,hl,λz hz=>⟨z,_,_,_,rfl,zx,λh hh=>hh, ?_⟩⟩;exact q1 _ _ (zu.new hz _) (.int _)
     ·exact q1.elim
    ·exact q1.elim
   | _=>exact q1.elim
end
theorem Kl:zX CX0 X E:=λ_ _ _ _ _ _ _ h=>h.elim
section
theorem xA (hy:Y.cl=cl)(F:ZW X.prog X.w X.K X.mg X.base CX0 j f fd ps (spP cl n g))(hr:Zu k X.A)(hj:j<=k)(gl:Gl X x)
  (mg:X.mg x=some (.ref f)) (kp:bJ X.K (.ref f)=true) (bd:L2.Binds X.K fd ps []) (ha:wn X Y (a :: es) ga) (hd:(x == ("__debug__":Str))=false:=by decide)
  (hs:starEach (a :: es) X.env=(false,eval a X.env) :: starEach es X.env:=by exact zC rfl) (hz:((backTo pos (starEach es X.env)).any λx=>x.fst)=false:=by exact Zd rfl):Snd X Y (.Call (.Name x p) (a :: es) [] pos) (za n g ga):=by
 subst hy;exact K3 F (hr.mono hj) gl mg kp bd Kl ha hd hs hz
theorem wU (gl:Gl X x)(mg:X.mg x=some u)(hu:∃t,u=Value.int i t)(hd:(x == ("__debug__":Str))=false:=by decide):Snd X Y (.Name x pos) (cE (.int i)):= .mk λρ=>
 PE.imp (yw (v:= .int i) gl mg hu hd) λσ H Q ⟨B,I,q⟩=>ZB I q (.int i)
end
noncomputable def GH (scope sc0:Scope):Bool:=(scope.kind == .function) && scope.names.all (λx=>x.2 != .cell) && scope.names.all (λx=>x.2 != .local || scope.names.lookup x.1 == some .local) &&
 scope.names.all (λx=>x.2 != .free || sc0.names.lookup x.1 == some .cell || sc0.names.lookup x.1 == some .free)
theorem V5 (sc0:Scope)(h0:X.env.scope=sc0)(h:GH scope sc0=true):CSc X scope:=by
 unfold GH at h;simp only[ae,aT]at h;obtain⟨⟨⟨h1,h2⟩,h3⟩,h4⟩:=h;refine⟨eq_of_beq h1,λx hx=>by simpa using h2 x hx,λx hx hl=> ?_,λx hx hf=> ?_⟩
 ·have:=h3 x hx;rw[hl]at this;simpa using this
 ·have:=h4 x hx;rw[hf]at this;show X.env.scope.names.lookup x.1=_\/X.env.scope.names.lookup x.1=_;rw[h0];simpa using this
noncomputable def GI (N N' :List Str)(scope sc0:Scope)(k:Nat)(js:List Nat):Bool:=(N'.length == k+js.length) && (ba js.length).all λi=>match js[i]? with
 | none=>true
 | some j=>match N'[k+i]?,N[j]? with
  | some x,some y=>(x == y) && (sc0.names.lookup x == some .cell || sc0.names.lookup x == some .free) && (scope.names.lookup x == some .free)
  | _,_=>false
theorem Yl {js:List Nat}(N:List Str)(sc0:Scope)(hN:X.N=N)(h0:X.env.scope=sc0)(h:GI N N' scope sc0 k js=true):GG X scope N' k js:=by
 unfold GI at h;simp only[ae,aT]at h;obtain⟨h1,h2⟩:=h;refine⟨eq_of_beq h1,λi j e=> ?_⟩;have hi:=(ar.mp e).1;have q:=h2 i (bn.mpr hi);rw[e]at q;dsimp only at q;split at q
 ·rename_i x y e1 e2;simp only[ae,Bool.or_eq_true,beq_iff_eq]at q;obtain⟨⟨rfl,q2⟩,q3⟩:=q;refine⟨x,e1,by rw[hN];exact e2, ?_,q3, ?_⟩
  ·rw[h0];exact .inr q2
  ·show X.env.scope.names.lookup x=_\/X.env.scope.names.lookup x=_;rw[h0];exact q2
 ·cases q
theorem V6 {js:List Nat}{g:T->En->R En}(N' :List Str)(N:List Str)(sc0:Scope)(hN:X.N=N)(h0:X.env.scope=sc0)
  (h:(GH scope sc0 && GI N N' scope sc0 k js)=true) (cm:X.calm=true) (it:uo X Y tg iter fi) (gt:V3 X scope N' λXC=>PG XC tg tG) (gk:GOk tG g) (gn:GNo g) (tt:∀Y',Y'.cl=Y.cl->V3 X scope N' λXC=>wS XC Y' ifs ft)
  (el:∀Y',Y'.cl=Y.cl->Kb X scope N' Y'.E λXC=>Snd XC Y' elt fe) (hs:∀x,foldedSetIterable iter X.env x=pure x:=by intro _;rfl):wq X Y tg iter elt ifs scope N' k js fi tG g ft fe:=by
 rw[ae]at h;exact⟨V5 sc0 h0 h.1,Yl N sc0 hN h0 h.2,cm,it,gt,gk,gn,tt,el,hs⟩
end PV
namespace PV
open PySem PySem.Spec PyProof.Rows L2 PySem.W
section
end
def V7 (c:Nat):En->RS:=λ_=> .ex c
section
variable {P:Program}{w:World}{K:a8}{mg:Str->Option Value}{base:Heap}{N:List Str}{qual:Str}{scope:Scope}{f:Addr}{cd:Value}{A:Around}{outer:List Env}{s:Shared}{H:Hp}{E:XK}{Y:Fx}
theorem xB {x m:Str}{C:Addr}{bm bmN:List Value}{Bn Bb newId nid initId inN:String}{np cpos pos ap:Pos}{j c:Nat}(O:OwnCls x C bm newId mg base)(Fn:ExcBaseFacts Bn newId inN bmN)(hBn:bm.contains (.type Bn)=true)(FB:ExcBaseFacts Bb nid initId bm)
  (hY:Y.E=E) (hc:Y.cl c= .ref C) (hg:Gl (jL (CX1 P w) P w K mg base N qual scope f cd A outer s H E) x) (hd:(x == ("__debug__":Str))=false:=by decide):
  jm (jL (CX1 P w) P w K mg base N qual scope f cd A outer s H E) Y (.Raise (some (.Call (.Name x np) [.Constant (.str m) j ap] [] cpos)) none pos) (V7 c):= .mk λρ=>by
 subst hY;refine PS.imp (yV O Fn hBn FB hg ((vU kH kI:wn _ Y _ _) ρ) (zC rfl) hd) λD σ H1 ⟨B,I,q⟩=>⟨B,I,λvs H2 s2 r2=> ?_⟩;refine⟨?_, ?_⟩
 ·rw[r2.length];exact(by decide:1<=sizeLine)
 ·have:=q none H2 (I.sH.trans s2) (I.sB.trans s2);rw[hc]at this;exact this
theorem Fun.okX {x qual:Str}{st:Stmt}{f:Addr}{fd:FuncData}{N ps:List Str}{k:Nat}{sp:Sp}(F:Fun K x qual st f fd)(S:ZA N ps (zr st))(len:∀vs H Q E,sp vs H Q E->vs.length=ps.length)
  (hbody:∀(cdv:Value) (A:Around) (outer:List Env) (s:Shared) (H:Hp) (vs:List V) (Q:VK) (E:XK),Zu k (A.deeper (envOfC qual (zr st) s.heap.objs.size f cdv))->sp vs H Q E->
   ∃t,PSs (jL (CX1 P w) P w K mg base N qual (zr st) f cdv A outer s H E) (zI st) t/\t { nx:=λ_ H' =>Q .non H',rt:=Q } (start N vs) H):ZW P w K mg base (CX1 P w) (k+1) f fd ps sp:=by
 obtain⟨oc,od,kV,doc,pm,an,cdv,ct,osl,rfl,lk,hcd⟩:=F.ex;exact VM lk hcd S len λA outer s H vs Q E hr hsp=>hbody cdv A _ s H vs Q E hr hsp
end
end PV
namespace PySem.W
open PySem PySem.Calls PyProof.Rows PySem.Spec Builtin Builtin.ObjectAttr Builtin.Getset_descriptor
section
variable {prog:Program}{w:World}{A:Around}{E:Value->Shared->Prop}{s:Shared}{K:Frag}{x C:Addr}
theorem WD {tp:Value}{R:Result->Shared->Prop}(X:K.In s.heap)(L0:Looks (model prog w) s.heap (typeOf (.ref x)) (.ref C))(hm:mroIn K C (.type "object")=some true)
  (h:R (.ok (.ret (.ref C))) s):codeAny (model prog w) A (.call (.builtin "getset_descriptor.__get__") ⟨[.builtin "object.__class__",.ref x,tp],[]⟩) R s:=by
 have L1:=looks_mroIn (M:=model prog w) X hm;refine codeAny_call_builtin KF.slot_gs.plain KF.entry_gs (KF.slot_gs.check _ _ _ _ _ _ _ _ KF.type_class (KF.args_gs _ _ _) ?_);refine a7 (ao ?_);unfold descrGetter descrCheckInstance descrNameAndClass isInstance;simp only[KF.owner_class]
 repeat lk
 refine⟨fL _ (by decide+kernel),bX KF.entry_class ?_⟩
 repeat lk
 exact h
theorem xC {M:Model}{h:Heap}(X:K.In h)(ha:findIn K (.ref C) "__class__"=some (some (.builtin "object.__class__")))(hn:specialIn K (.builtin "object.__class__") "__get__"=some (some (.builtin "getset_descriptor.__get__")))
  (htk:takesIn K (.builtin "object.__class__")=some true):Looks M h (find (.ref x) (.ref C) "__class__") (.bind (.builtin "getset_descriptor.__get__") (.builtin "object.__class__")):=by
 have L1:=looks_findIn (M:=M) X ha;have L2:Looks M h _ _:=looks_specialIn X hn;have L3:=looks_takesIn (M:=M) X htk;refine L1.andThen (L2.andThen ?_);exact(show Looks M h (dataDescriptor? (some _) (some _)) _ from L3.andThen .now).andThen (Looks.tag .now)
theorem QP {Q:Unit->Shared->Prop}(L0:Looks M s.heap (typeOf (.ref x)) (.ref C))(L1:Looks M s.heap (isSubtype (.ref C) (.type "BaseException")) true)(hq:Q () s):wpAny M A (checkBuiltinCall "BaseException.__getattribute__" ⟨[.ref x,nameV],[]⟩) Q E s:=by
 have hk:builtinKind "BaseException.__getattribute__"=some .slot:=by decide+kernel
 have hsplit:splitId "BaseException.__getattribute__"=some ("BaseException","__getattribute__"):=by decide+kernel
 simp only[checkBuiltinCall,hk,hsplit]
 repeat (first | lk | wp_step)
 exact hq
end
end PySem.W
namespace PySem.W
open PySem PySem.Calls PyProof.Rows PySem.Spec Builtin Builtin.ObjectAttr Builtin.Getset_descriptor
section
variable {prog:Program}{w:World}{A:Around}{E:Value->Shared->Prop}{s:Shared}{K:Frag}{x C:Addr}
structure XCls (K:Frag) (C:Addr):Prop where
 ga:findIn K (.ref C) "__getattribute__"=some (some (.builtin "BaseException.__getattribute__"))
 gt:findIn K (.ref C) "__getattr__"=some none
 ca:findIn K (.ref C) "__class__"=some (some (.builtin "object.__class__"))
 sp:specialIn K (.builtin "object.__class__") "__get__"=some (some (.builtin "getset_descriptor.__get__"))
 tk:takesIn K (.builtin "object.__class__")=some true
 ob:mroIn K C (.type "object")=some true
 be:mroIn K C (.type "BaseException")=some true
 cl:(clsIn K C).isSome=true
theorem QR {tk:Tok}{Q:Fin->Shared->Prop}(X:K.In s.heap)(c:XCls K C)(L0:Looks (model prog w) s.heap (typeOf (.ref x)) (.ref C))(hq:Q (.done (.ret (.ref C))) s):
  wpAny (model prog w) A (Builtin.«object.__getattribute__» ⟨[.ref x,.str "__class__" tk],[]⟩) Q E s:=by
 have L1:=xC (M:=model prog w) (x:=x) X c.ca c.sp c.tk;refine a7 (ao (a7 (ao (a7 (L0.at (a7 (L1.at ?_)))))));refine a7 (d7 (WD X L0 c.ob ?_));exact ao hq
end
end PySem.W
namespace PySem.W
open PySem PySem.Calls PyProof.Rows PySem.Spec Builtin Builtin.ObjectAttr Builtin.Getset_descriptor
section
variable {prog:Program}{w:World}{A:Around}{E:Value->Shared->Prop}{s:Shared}{K:Frag}{x C:Addr}
theorem QS {Q:Option Value->Shared->Prop}(X:K.In s.heap)(c:XCls K C)(L0:Looks (model prog w) s.heap (typeOf (.ref x)) (.ref C))(h:Q (some (.ref C)) { s with toks:=s.toks+1 }):wpAny (model prog w) A (getAttr? (.ref x) "__class__") Q E s:=by
 have L1:=looks_findIn (M:=model prog w) X c.ga;have L2:=looks_findIn (M:=model prog w) X c.gt;have L3:=looks_mroIn (M:=model prog w) X c.be;have fb:=eL.ga.bind (.ref x);refine a7 (wpAny_mkText (a7 (cC (cB (a7 (L0.at (a7 (L1.at ?_))))))));refine a7 ?_;refine L2.at ?_;refine a7 (cC (cB ?_));unfold callGetattribute;unfold boundAndCalled;rw[fb];refine d7 (codeAny_call_builtin eL.ga.plain PySem.F.entry_bexc_ga (QP L0 L3 (QR X c L0 ?_)));exact handed_on rfl (ao h)
theorem xD (c:XCls K C):KitX K (.ref x) (.ref C) (λh=>∃o,h.get? x=some o/\o.cls= .ref C) where
 ty:=λM h _ ⟨o,h1,h2⟩=>h2 ▸ (Looks.ld h1).andThen .now
 it:=λ_ _ X _=>by
  obtain⟨cdD,hcD⟩:=cV.mp c.cl;unfold clsIn at hcD;split at hcD
  ·rename_i c' d' cd' sl' ho;intro A' Q' E' s' k q;unfold isType loadHead;exact a7 (wpAny_loadPart (k _ _ (X _ _ ho)) (ao q))
  ·cases hcD
 ne:=λh tp dd its n sl X htp=>by
  obtain⟨cdD,hcD⟩:=cV.mp c.cl;refine Bool.eq_false_iff.mpr λq=> ?_;have e:C=tp:=Value.ref.inj (beq_iff_eq.mp q);subst e;unfold clsIn at hcD;split at hcD
  ·rename_i c' d' cd' sl' ho;have z:=(X _ _ ho).symm.trans htp;cases z
  ·cases hcD
 ca:=λ{prog w A E Q s} X ⟨o,h1,h2⟩ k=>QS X c (h2 ▸ (Looks.ld h1).andThen .now) k
end
end PySem.W
namespace PV
open PySem PySem.Spec PyProof.Rows L2 PySem.W
section
def Jg (i:Nat)(ok tab:Nat->Bool):En->R T:=λρ=>match ρ[i]? with
 | some (.xc c)=>if ok c=true then .ok (.bl (tab c)) else .bad
 | _=> .bad
theorem WF:Zt X (.builtin "isinstance") (λxs H Q=>∃a C v b,xs=[.ref a,v]/\H a=some (.ext (yW (.ref C) a))/\XCls X.K C/\(∀u,Zb v u->kitOne X.K (.ref C) u=some b)/\Q (.bl b) H):=by
 intro pins s σ H xs us Q I rv h;obtain⟨a,C,v,b,rfl,e,c,hk,q⟩:=h;obtain⟨u,w,rfl,ru,rw'⟩:=yG rv;obtain rfl:u=Value.ref a:=ru;obtain⟨hx,_,_⟩:=(show Z9 _ X.w H _ a _ from I.hok a _ e);exact kia_one (xD c) I.kIn hx (hk w rw') (λz=>nomatch z) λtk=>⟨.bl _,H,I.tok tk,rfl,q⟩
structure XK1 (K:Frag) (cl:Nat->Value) (ok:Nat->Bool):Prop where
 at_:∀c,ok c=true->∃C,cl c= .ref C/\XCls K C
theorem jt {ok tab:Nat->Bool}(hK:XK1 X.K Y.cl ok)(ht:∀c,ok c=true->kitOne X.K (Y.cl c) (.ref C)=some (tab c))(gl:Gl X "isinstance")(mg:X.mg "isinstance"=none)(hv:PE X (.Name y yp) (jk i))(gl' :Gl X cn)(mg' :X.mg cn=some (.ref C))
  (hd:(cn == ("__debug__":Str))=false:=by decide):Snd X Y (.Call (.Name "isinstance" p) [.Name y yp,.Name cn cp] [] pos) (Jg i ok tab):= .mk λρ=>
 PE.imp (jg WF gl mg PyProof.Rows.Boot.«isinstance» (zy hv (zy (yw (v:= .ref C) gl' mg' rfl hd) zO (st1 rfl)) (st2 rfl rfl)) (by decide) (by decide) (by rw[st2 rfl rfl,st1 rfl]) (Zd rfl)) λσ H Q ⟨B,I,q⟩=>by
  unfold Jg at q;split at q
  ·rename_i c e;split at q
   ·rename_i hc;obtain⟨a,e1,r⟩:=I.xc i c e;obtain⟨Cc,e2,xc⟩:=hK.at_ c hc;have ht' :=ht c hc;rw[e2]at r ht';exact⟨_,e1,a,Cc,_,_,rfl,I.sB a _ r,xc,λu ru=>by obtain rfl:u=Value.ref C:=ru;exact ht',ZB I q (.bl _)⟩
   ·exact q.elim
  ·exact q.elim
theorem xE {ok tab:Nat->Bool}(hK:XK1 X.K Y.cl ok)(ht:∀c,ok c=true->kitOne X.K (Y.cl c) (.type n)=some (tab c))(gl:Gl X "isinstance")(mg:X.mg "isinstance"=none)(hv:PE X (.Name y yp) (jk i))(gl' :Gl X (bj n))(mg' :X.mg (bj n)=none)
  (bt:bootBuiltins (bj n)=some (.type n)) (hn:bj n ≠ "__name__":=by decide) (hd:(bj n == ("__debug__":Str))=false:=by decide):Snd X Y (.Call (.Name "isinstance" p) [.Name y yp,.Name (bj n) cp] [] pos) (Jg i ok tab):= .mk λρ=>
 PE.imp (jg WF gl mg PyProof.Rows.Boot.«isinstance» (zy hv (zy (yx (v:= .ty n) gl' mg' bt rfl hn hd) zO (st1 rfl)) (st2 rfl rfl)) (by decide) (by decide) (by rw[st2 rfl rfl,st1 rfl]) (Zd rfl)) λσ H Q ⟨B,I,q⟩=>by
  unfold Jg at q;split at q
  ·rename_i c e;split at q
   ·rename_i hc;obtain⟨a,e1,r⟩:=I.xc i c e;obtain⟨Cc,e2,xc⟩:=hK.at_ c hc;have ht' :=ht c hc;rw[e2]at r ht';exact⟨_,e1,a,Cc,_,_,rfl,I.sB a _ r,xc,λu ru=>by obtain rfl:u=Value.type n:=ru;exact ht',ZB I q (.bl _)⟩
   ·exact q.elim
  ·exact q.elim
def spC (cl:Nat->Value)(gx:Nat->R T):Sp:=λvs H Q E=>∃B a c,vs=[V.ref a]/\zu B H/\B a=some (.ext (yW (cl c) a))/\Po ⟨B,H,E,cl,[]⟩ rC B H (gx c) Q
end
section
variable {P:Program}{w:World}{K:a8}{mg:Str->Option Value}{base:Heap}
def enC (n c:Nat):En:= .xc c :: aj (n - 1) .un
theorem SI.startC (s:zu Y.B0 Y.H0)(hN:1<=N.length)(r:Y.B0 a=some (.ext (yW (Y.cl c) a))):SI Y Y.B0 (enC N.length c) (L2.start N [V.ref a]) Y.H0 where
 s0:=s
 sH:=zu.refl _
 sB:=s
 old:=λ_ _ _=>rfl
 len:=by unfold enC L2.start;simp
 vl:=λi t h=>by
  unfold enC at h;cases i with
  | zero=>cases h
  | succ i=>rw[bp,aG]at h;split at h <;> cases h
 ow:=λi t h=>by
  unfold enC at h;cases i with
  | zero=>cases h
  | succ i=>rw[bp,aG]at h;split at h <;> cases h
 xc:=λi d h=>by
  unfold enC at h;cases i with
  | zero=>
   cases h;exact⟨a,by unfold L2.start;rfl,r⟩
  | succ i=>rw[bp,aG]at h;split at h <;> cases h
 st:=StI.no λi y hy h=>by
  unfold enC at h;cases i with
  | zero=>cases h;cases hy
  | succ i=>
   rw[bp,aG]at h;split at h
   ·cases h;cases hy
   ·cases h
end
end PV
namespace PySem.ZG
open PySem PySem.Spec PySem.Builtin.SmallTypes
structure ur (i:Addr) (fp:List Addr) (v:Nat->Option Value) (St:Nat->Heap->Prop):Prop where
 mem:i∈fp
 item:∀{prog:Program} {w:World} {A:Around} {E:Value->Shared->Prop} {s:Shared} {Q:Value->Shared->Prop} {k:Nat} {x:Value},St k s.heap->v k=some x->(∀h',St (k+1) h' ->bZ i s.heap h' ->Q x { s with heap:=h' })->wpAny (model prog w) A (nextOf (.ref i)) Q E s
 stop:∀{prog:Program} {w:World} {A:Around} {E:Value->Shared->Prop} {s:Shared} {Q:Value->Shared->Prop} {k:Nat},A.handled=none->St k s.heap->v k=none->(∀h' e,fu i s.heap h' ->(∃o,h'.get? e=some o/\o.cls= .type "StopIteration")->E (.ref e) { s with heap:=h' })->wpAny (model prog w) A (nextOf (.ref i)) Q E s
 keep:∀{k:Nat} {h h' :Heap},St k h->(∀b∈fp,∀o,h.get? b=some o->h'.get? b=some o)->St k h'
 there:∀{k:Nat} {h:Heap},St k h->∀b∈fp,∃o,h.get? b=some o
theorem ur.but {v:Nat->Option Value}{St:Nat->Heap->Prop}(N:ur i fp v St)(x:St k h)(e:fu b h h')(n:b ∉ fp):St k h' :=
 N.keep x λc hc o q=>e c o (λz=>n (z ▸ hc)) q
theorem xF (hil:l ≠ i)(xs:Array Value):ur i [i,l] (λk=>xs[k]?) (λk h=>h.IsListIter i l k/\h.IsList l xs) where
 mem:= .head _
 item:=λst hx h=>wpAny_nextOf_list_item st.1 st.2 hx λh' a b=>h h' ⟨a,st.2.extBut b.extBut hil⟩ b
 stop:=λhh st hx h=>wpAny_nextOf_list_end hh st.1 st.2 hx h
 keep:=λst k=>⟨st.1.at λo e=>k i (.head _) o e,st.2.at λo e=>k l (.tail _ (.head _)) o e⟩
 there:=λst b hb=>by
  obtain⟨⟨o,e,_⟩,o2,e2,_⟩:=st;rcases ak.mp hb with z | hb
  ·exact⟨o,z ▸ e⟩
  ·exact⟨o2,(aQ.mp hb) ▸ e2⟩
end PySem.ZG
namespace PySem.ZG
open PySem PySem.Spec PySem.Builtin.SmallTypes
section
theorem uY (hit:s.heap.IsTupleIter it l k)(h:wpAny (model prog w) A.in1 (Builtin.«tuple_iterator.__next__» ⟨[.ref it],[]⟩) (λfin s' =>∃v,fin= .done (.ret v)/\Q v s') E s):wpAny (model prog w) A (nextOf (.ref it)) Q E s:=by
 exact a7 (bw hit.typeIs dh (bN dh hit.typeIs PySem.F.entry_tuple_iterator_next
  (bI h (λfin s' ⟨v,e,q⟩=>⟨v,e,ao q⟩) λ_ _ z=>z) (PySem.F.args_tuple_iterator_next_1 _)))
theorem tup_item (hit:s.heap.IsTupleIter it l k)(ht:s.heap.IsTuple l xs)(hx:xs[k]? =some x)(h:∀h',h'.IsTupleIter it l (k+1)->bZ it s.heap h' ->Q x { s with heap:=h' }):wpAny (model prog w) A (nextOf (.ref it)) Q E s:=by
 refine uY hit ?_;obtain⟨o,ho,hc,hd⟩:=id hit;obtain⟨ol,hol,_,nl,hdl⟩:=ht;refine a7 (m:=field _ 0) (bg ho hd rfl ?_);refine a7 (bg ho hd rfl (a7 (bV hol hdl ?_)));simp only[bC,hx];have g:=Heap.get?_update_self (Obj.mapFields (·.setIfInBounds 1 (rawInt (k+1)))) ho (Obj.isFreed_of_fields (fM hd _));refine a7 (wpAny_setField ho hd (by simp) (ao ⟨x,rfl,h _ ⟨_,g,(Obj.cls_mapFields ..).trans hc, ?_⟩ (fB ..)⟩))
 rw[fM hd];simp[rawInt]
theorem tup_stop (hh:A.handled=none)(hit:s.heap.IsTupleIter it l k)(ht:s.heap.IsTuple l xs)(hx:xs[k]? =none)
  (h:∀h' e,fu it s.heap h' ->(∃o,h'.get? e=some o/\o.cls= .type "StopIteration")->E (.ref e) { s with heap:=h' }):wpAny (model prog w) A (nextOf (.ref it)) Q E s:=by
 refine uY hit ?_;obtain⟨o,ho,hc,hd⟩:=id hit;obtain⟨ol,hol,_,nl,hdl⟩:=ht;refine a7 (m:=field _ 0) (bg ho hd rfl ?_);refine a7 (bg ho hd rfl (a7 (bV hol hdl ?_)));simp only[bC,hx];refine a7 (dF (a7 (wpAny_setField ho hd (by simp) (a7 ?_))))
 refine a7 (bq (a7 (ck (by first | rfl | (simp only[firstArgMember])) (bq ?_ (by size_fits)))) (by size_fits))
 refine a7 (wpAny_handled ?_);rw[hh];exact a7 (ao (wpAny_throw (h _ _ (((fB ..).extBut.push _).push _) ⟨_,af _ rfl,rfl⟩)))
end
theorem nx_tup (hil:l ≠ i)(xs:Array Value):ur i [i,l] (λk=>xs[k]?) (λk h=>h.IsTupleIter i l k/\h.IsTuple l xs) where
 mem:= .head _
 item:=λst hx h=>tup_item st.1 st.2 hx λh' a b=>h h' ⟨a,st.2.extBut b.extBut hil⟩ b
 stop:=λhh st hx h=>tup_stop hh st.1 st.2 hx h
 keep:=λst k=>by
  obtain⟨⟨o,e,r⟩,o2,e2,r2⟩:=st;exact⟨⟨o,k i (.head _) o e,r⟩,o2,k l (.tail _ (.head _)) o2 e2,r2⟩
 there:=λst b hb=>by
  obtain⟨⟨o,e,_⟩,o2,e2,_⟩:=st;rcases ak.mp hb with z | hb
  ·exact⟨o,z ▸ e⟩
  ·exact⟨o2,(aQ.mp hb) ▸ e2⟩
end PySem.ZG
namespace PySem.ZG
open PySem PySem.Spec PySem.Builtin.SmallTypes
structure Ap (z TI TO i1 i2:Addr) (fp1 fp2:List Addr):Prop where
 Iz:TI ≠ z
 Oz:TO ≠ z
 IO:TI ≠ TO
 I1:TI ≠ i1
 I2:TI ≠ i2
 z1:z ∉ fp1
 z2:z ∉ fp2
 O1:TO ∉ fp1
 O2:TO ∉ fp2
 a:i1 ∉ fp2
 b:i2 ∉ fp1
section
variable {v1 v2:Nat->Option Value}{S1 S2:Nat->Heap->Prop}
theorem Ap.ne1 (D:Ap z TI TO i1 i2 fp1 fp2)(N1:ur i1 fp1 v1 S1):i1 ≠ z/\i1 ≠ TO:=⟨λe=>D.z1 (e ▸ N1.mem),λe=>D.O1 (e ▸ N1.mem)⟩
theorem Ap.ne2 (D:Ap z TI TO i1 i2 fp1 fp2)(N2:ur i2 fp2 v2 S2):i2 ≠ z/\i2 ≠ TO:=⟨λe=>D.z2 (e ▸ N2.mem),λe=>D.O2 (e ▸ N2.mem)⟩
theorem xG {Q:Value->Shared->Prop}(N1:ur i1 fp1 v1 S1)(N2:ur i2 fp2 v2 S2)(D:Ap z TI TO i1 i2 fp1 fp2)(hz:IsZip s.heap z TI TO .none)(hTI:IsPair s.heap TI (.ref i1) (.ref i2))(hTO:IsPair s.heap TO a b)(p1:S1 k s.heap)(p2:S2 k s.heap)(hx:v1 k=some x)(hy:v2 k=some y)
  (hQ:∀h',IsZip h' z TI TO (rawInt s.heap.objs.size)->IsPair h' TO x y->S1 (k+1) h' ->S2 (k+1) h' ->IsPair h' s.heap.objs.size x y->
   (∀c o,c ≠ z->c ≠ TO->c ≠ i1->c ≠ i2->s.heap.get? c=some o->h'.get? c=some o)->Q (.ref s.heap.objs.size) { s with heap:=h' }):
  wpAny (model prog w) A (Builtin.«zip.__next__» ⟨[.ref z],[]⟩) (λfin s' =>∃v,fin= .done (.ret v)/\Q v s') E s:=by
 refine a7 (m:=field (.ref z) 2) (bg hz rfl (x:= .bool false) rfl (a7 (bg hz rfl (x:= .ref TI) rfl (a7 (bV hTI rfl ?_)))));refine a7 ?_;refine a7 (bg hz rfl (x:= .none) rfl (ao ?_));refine a7 (dF (a7 (bg hz rfl (x:= .ref TO) rfl (a7 (bz hz (by simp) λg1 z1 e1=> ?_)))))
 replace z1:=z1
 refine a7 ?_;refine a7 (a7 (wpAny_onRaise (a7 (N1.item (N1.but p1 e1.extBut D.z1) hx λg2 q1 e2=>ao ?_))));have t2:IsPair g2 TO a b:=e2.extBut _ _ (D.ne1 N1).2.symm (e1.extBut _ _ D.Oz hTO);refine a7 (bV t2 rfl (a7 (wpAny_updateSeq_pair t2 λg3 t3 e3=> ?_)));refine a7 (wpAny_letGo (ao ?_));refine a7 (a7 (wpAny_onRaise (a7 (N2.item (N2.but (N2.but (N2.but p2 e1.extBut D.z2) e2.extBut D.a) e3.extBut D.O2) hy λg4 q2 e4=>ao ?_))));have t4:IsPair g4 TO x b:=e4.extBut _ _ (D.ne2 N2).2.symm t3;refine a7 (bV t4 rfl (a7 (wpAny_updateSeq_pair t4 λg5 t5 e5=> ?_)))
 replace t5:IsPair g5 TO x y:=t5
 refine a7 (wpAny_letGo (ao (ao ?_)));refine a7 (bV t5 rfl (a7 (wpAny_newTuple ?_)));have sz:g5.objs.size=s.heap.objs.size:=by rw[e5.1,e4.1,e3.1,e2.1,e1.1]
 have z5:=e5.extBut _ _ D.Oz.symm (e4.extBut _ _ (D.ne2 N2).1.symm (e3.extBut _ _ D.Oz.symm (e2.extBut _ _ (D.ne1 N1).1.symm z1)));have k5:∀c o,c ≠ z->c ≠ TO->c ≠ i1->c ≠ i2->s.heap.get? c=some o->g5.get? c=some o:=λc o c1 c2 c3 c4 e=>
  e5.extBut _ _ c2 (e4.extBut _ _ c4 (e3.extBut _ _ c2 (e2.extBut _ _ c3 (e1.extBut _ _ c1 e))))
 have r1:S1 (k+1) g5:=N1.but (N1.but (N1.but q1 e3.extBut D.O1) e4.extBut D.b) e5.extBut D.O1;have r2:S2 (k+1) g5:=N2.but q2 e5.extBut D.O2;refine a7 ?_;have z6:IsZip (g5.push { cls:= .type "tuple",data:= .seq #[x,y] }) z TI TO _:=a9 _ z5;refine a7 (bz z6 (by simp) λg7 z7 e7=> ?_)
 refine bz z7 (by simp) λg8 z8 e8=> ?_
 have up:∀c o,c ≠ z->g5.get? c=some o->g8.get? c=some o:=λc o c1 e=>e8.extBut _ _ c1 (e7.extBut _ _ c1 (a9 _ e));have hn:g5.objs.size ≠ z:=da (aq z5);have t8:=e8.extBut _ _ hn (e7.extBut _ _ hn (af _ rfl));rw[sz]at z8 t8;refine ao ⟨_,rfl, ?_⟩;rw[sz];exact hQ g8 z8 (up _ _ D.Oz t5) (N1.keep r1 λc hc o e=>up c o (λq=>D.z1 (q ▸ hc)) e) (N2.keep r2 λc hc o e=>up c o (λq=>D.z2 (q ▸ hc)) e) t8 λc o c1 c2 c3 c4 e=>up c o c1 (k5 c o c1 c2 c3 c4 e)
theorem xH {Q:Fin->Shared->Prop}(hh:A.handled=none)(N1:ur i1 fp1 v1 S1)(N2:ur i2 fp2 v2 S2)(D:Ap z TI TO i1 i2 fp1 fp2)(hz:IsZip s.heap z TI TO .none)(hTI:IsPair s.heap TI (.ref i1) (.ref i2))(hTO:IsPair s.heap TO a b)(p1:S1 k s.heap)(p2:S2 k s.heap)(hend:v1 k=none\/v2 k=none)
  (hE:∀h' e,(∀c o,c ≠ z->c ≠ TO->c ≠ i1->c ≠ i2->s.heap.get? c=some o->h'.get? c=some o)->(∃o,h'.get? e=some o/\o.cls= .type "StopIteration")->E (.ref e) { s with heap:=h' }):
  wpAny (model prog w) A (Builtin.«zip.__next__» ⟨[.ref z],[]⟩) Q E s:=by
 refine a7 (m:=field (.ref z) 2) (bg hz rfl (x:= .bool false) rfl (a7 (bg hz rfl (x:= .ref TI) rfl (a7 (bV hTI rfl ?_)))));refine a7 ?_;refine a7 (bg hz rfl (x:= .none) rfl (ao ?_));simp only[if_true];refine a7 (dF (a7 (bg hz rfl (x:= .ref TO) rfl (a7 (bz hz (by simp) λg1 z1 e1=> ?_)))))
 replace z1:=z1
 refine a7 ?_;have off:∀{g:Heap} {e:Addr} {oe:Obj},IsZip g z TI TO .ellipsis->g.get? e=some oe->oe.cls= .type "StopIteration"->e ≠ z:=λhg he hc q=>by
  subst q;rw[hg]at he;cases he;simp at hc
 cases hx:v1 k with
 | none=>
  refine a7 (a7 (wpAny_onRaise (a7 (N1.stop hh (N1.but p1 e1.extBut D.z1) hx λg2 e e2 he=> ?_))));obtain⟨oe,ho,hc⟩:=he;have z2:=e2 _ _ (D.ne1 N1).1.symm z1;exact bz z2 (by simp) λg3 _ e3=>hE g3 e (λc o c1 _ c3 _ q=>e3.extBut _ _ c1 (e2 _ _ c3 (e1.extBut _ _ c1 q))) ⟨oe,e3.extBut _ _ (off z2 ho hc) ho,hc⟩
 | some x=>
  have hy:v2 k=none:=by
   rcases hend with q | q
   ·rw[hx]at q;cases q
   ·exact q
  refine a7 (a7 (wpAny_onRaise (a7 (N1.item (N1.but p1 e1.extBut D.z1) hx λg2 q1 e2=>ao ?_))));have t2:=e2.extBut _ _ (D.ne1 N1).2.symm (e1.extBut _ _ D.Oz hTO);refine a7 (bV t2 rfl (a7 (wpAny_updateSeq_pair t2 λg3 t3 e3=>a7 (wpAny_letGo (ao ?_)))));refine a7 (a7 (wpAny_onRaise (a7 (N2.stop hh (N2.but (N2.but (N2.but p2 e1.extBut D.z2) e2.extBut D.a) e3.extBut D.O2) hy λg4 e e4 he=> ?_))));obtain⟨oe,ho,hc⟩:=he;have z4:=e4 _ _ (D.ne2 N2).1.symm (e3.extBut _ _ D.Oz.symm (e2.extBut _ _ (D.ne1 N1).1.symm z1));exact bz z4 (by simp) λg5 _ e5=>hE g5 e (λc o c1 c2 c3 c4 q=>e5.extBut _ _ c1 (e4 _ _ c4 (e3.extBut _ _ c2 (e2.extBut _ _ c3 (e1.extBut _ _ c1 q))))) ⟨oe,e5.extBut _ _ (off z4 ho hc) ho,hc⟩
theorem xI {Q:Option Value->Shared->Prop}(N1:ur i1 fp1 v1 S1)(N2:ur i2 fp2 v2 S2)(D:Ap z TI TO i1 i2 fp1 fp2)(hz:IsZip s.heap z TI TO .none)(hTI:IsPair s.heap TI (.ref i1) (.ref i2))(hTO:IsPair s.heap TO a b)(p1:S1 k s.heap)(p2:S2 k s.heap)(hx:v1 k=some x)(hy:v2 k=some y)
  (hQ:∀h',IsZip h' z TI TO (rawInt s.heap.objs.size)->IsPair h' TO x y->S1 (k+1) h' ->S2 (k+1) h' ->IsPair h' s.heap.objs.size x y->
   (∀c o,c ≠ z->c ≠ TO->c ≠ i1->c ≠ i2->s.heap.get? c=some o->h'.get? c=some o)->Q (some (.ref s.heap.objs.size)) { s with heap:=h' }):wpAny (model prog w) A (pyNext (.ref z)) Q E s:=by
 have ty:s.TypeIs (.ref z) _:=⟨_,hz,rfl⟩;exact a7 (cC (bw ty cF (bN cF ty eY
  (xG N1 N2 D hz hTI hTO p1 p2 hx hy λh' a1 a2 a3 a4 a5 a6=>ao (hQ h' a1 a2 a3 a4 a5 a6)) (eM _))))
theorem xJ {Q:Option Value->Shared->Prop}(hh:A.handled=none)(N1:ur i1 fp1 v1 S1)(N2:ur i2 fp2 v2 S2)(D:Ap z TI TO i1 i2 fp1 fp2)(hz:IsZip s.heap z TI TO .none)(hTI:IsPair s.heap TI (.ref i1) (.ref i2))(hTO:IsPair s.heap TO a b)(p1:S1 k s.heap)(p2:S2 k s.heap)(hend:v1 k=none\/v2 k=none)
  (hQ:∀h',(∀c o,c ≠ z->c ≠ TO->c ≠ i1->c ≠ i2->s.heap.get? c=some o->h'.get? c=some o)->Q none { s with heap:=h' }):wpAny (model prog w) A (pyNext (.ref z)) Q E s:=by
 have ty:s.TypeIs (.ref z) _:=⟨_,hz,rfl⟩;refine a7 (cC (bw ty cF (bN cF ty eY
  (xH hh N1 N2 D hz hTI hTO p1 p2 hend λh' e kp he=> ?_) (eM _))))
 obtain⟨o,ho,hc⟩:=he;exact a7 (wpAny_isInstance ⟨o,ho,hc⟩ isSubtype_stop (ao (hQ _ kp)))
end
end PySem.ZG
namespace PySem.ZG
open PySem PySem.Spec PySem.Builtin.SmallTypes
structure xK (l:Addr) (o:Obj) (P:Heap->Prop):Prop where
 go:∀{prog:Program} {w:World} {A:Around} {E:Value->Shared->Prop} {s:Shared} {Q:Value->Shared->Prop},P s.heap->Q (.ref s.heap.objs.size) { s with heap:=s.heap.push o }->wpAny (model prog w) A (pyIter (.ref l)) Q E s
 push:∀{h:Heap} (o' :Obj),P h->P (h.push o')
 fresh:o.isFreed=false
noncomputable abbrev oL (l:Addr):Obj:={ cls:= .type "list_iterator",data:= .fields #[.ref l,.int 0 0] }
noncomputable abbrev oT (l:Addr):Obj:={ cls:= .type "tuple_iterator",data:= .fields #[.ref l,.int 0 0] }
theorem xL (l:Addr)(xs:Array Value):xK l (oL l) (λh=>h.IsList l xs):=⟨λp q=>c8 p q,λo p=>Heap.IsList.push p o,rfl⟩
theorem Km (l:Addr)(xs:Array Value):xK l (oT l) (λh=>h.IsTuple l xs):=⟨λp q=>wpAny_pyIter_tuple p q,λo p=>Heap.IsTuple.push p o,rfl⟩
noncomputable abbrev zh2 (h:Heap)(o1 o2:Obj):Heap:=(h.push o1).push o2
abbrev zh3 (h:Heap)(o1 o2:Obj):Heap:=(zh2 h o1 o2).push { cls:= .type "tuple",data:= .seq #[.ref h.objs.size,.ref (h.push o1).objs.size] }
abbrev zh4 (h:Heap)(o1 o2:Obj):Heap:=(zh3 h o1 o2).push { cls:= .type "tuple",data:= .seq #[.none,.none] }
abbrev zh5 (h:Heap)(o1 o2:Obj):Heap:=(zh4 h o1 o2).push { cls:= .type "zip",data:= .fields #[.none,.bool false,.bool false,.ref (zh2 h o1 o2).objs.size,.ref (zh3 h o1 o2).objs.size] }
theorem Kn {P1 P2:Heap->Prop}(J1:xK l1 o1 P1)(J2:xK l2 o2 P2):
  Meets (Builtin.«zip.__new__» ⟨[.type "zip",.ref l1,.ref l2],[]⟩) (λ_ R s=>P1 s.heap/\P2 s.heap/\R (.ok (.ret (.ref (zh4 s.heap o1 o2).objs.size))) { s with heap:=zh5 s.heap o1 o2 }):=
 .of_wp λprog w A R s h=>by
  obtain⟨hp,g,d,tk,os⟩:=s;obtain⟨q1,q2,h⟩:=h;have hsub:=sub_zip;have c1:P1 (ip ⟨hp,g,d,tk,os⟩):=q1;have c2:P2 (ip ⟨hp.push o1,g,d,tk,os⟩):=J2.push o1 q2
  wp_walk using J1.go c1,J2.go c2
  exact⟨_,rfl,h⟩
end PySem.ZG
namespace PySem.ZG
open PySem PySem.Spec PySem.Builtin.SmallTypes
theorem xM {P1 P2:Heap->Prop}(J1:xK l1 o1 P1)(J2:xK l2 o2 P2)(q1:P1 s.heap)(q2:P2 s.heap)
  (h:∀h' n,n=s.heap.objs.size->IsZip h' (n+4) (n+2) (n+3) .none->IsPair h' (n+2) (.ref n) (.ref (n+1))->IsPair h' (n+3) .none .none->h'.get? n=some o1->h'.get? (n+1)=some o2->
   (∀c o,s.heap.get? c=some o->h'.get? c=some o)->Q (.ref (n+4)) { s with heap:=h' }):wpAny (model prog w) A (call (.type "zip") [.ref l1,.ref l2]) Q E s:=by
 refine callType_new PySem.F.called_zip (by decide) (PySem.F.typeCall_zip_2 _ _) (PySem.F.newCall_zip_2 _ _) (λobj=>PySem.F.args_object_init_3 obj _ _) PySem.F.entry_zip_new (Kn J1 J2) ⟨q1,q2, ?_⟩
 have n1:(s.heap.push o1).objs.size=s.heap.objs.size+1:=bK ..;have n2:(zh2 s.heap o1 o2).objs.size=s.heap.objs.size+2:=by rw[bK,n1]
 have n3:(zh3 s.heap o1 o2).objs.size=s.heap.objs.size+3:=by rw[bK,n2]
 have n4:(zh4 s.heap o1 o2).objs.size=s.heap.objs.size+4:=by rw[bK,n3]
 have up:∀{h:Heap} {c:Addr} {o:Obj} (o' :Obj),h.get? c=some o->(h.push o').get? c=some o:=λo' e=>a9 o' e;have e5:(zh5 s.heap o1 o2).get? _=some _:=af _ rfl;have e4:(zh5 s.heap o1 o2).get? _=some _:=up _ (af _ rfl);have e3:(zh5 s.heap o1 o2).get? _=some _:=up _ (up _ (af _ rfl));have e2:(zh5 s.heap o1 o2).get? _=some _:=up _ (up _ (up _ (af _ J2.fresh)));have e1:(zh5 s.heap o1 o2).get? _=some _:=up _ (up _ (up _ (up _ (af _ J1.fresh))));rw[n2,n3,n4]at e5;rw[n1,n2]at e3;rw[n3]at e4;rw[n1]at e2;rw[n4];exact⟨⟨_,e5,rfl⟩,h _ _ rfl e5 e3 e4 e1 e2 λc o q=>up _ (up _ (up _ (up _ (up _ q))))⟩
end PySem.ZG
namespace PV
open PySem PySem.Spec PyProof.Rows L2 PySem.ZG
inductive SK where
 | l | t
noncomputable def SK.it:SK->Heap->Addr->Addr->Nat->Prop
 | .l=>λh i l k=>h.IsListIter i l k
 | .t=>λh i l k=>h.IsTupleIter i l k
noncomputable def SK.has:SK->Heap->Addr->Array Value->Prop
 | .l=>λh l xs=>h.IsList l xs
 | .t=>λh l xs=>h.IsTuple l xs
def SK.sq (K:a8):SK->Hp->Addr->List V->Prop
 | .l=>λH a xs=>SqL K H a xs
 | .t=>λH a xs=>SqT K H a xs
noncomputable def SK.tr:SK->List V->HO
 | .l=> .lst
 | .t=> .tup
def SK.ob:SK->Addr->Obj
 | .l=>oL
 | .t=>oT
theorem SK.nx (k:SK){i l:Addr}(h:l ≠ i)(xs:Array Value):ur i [i,l] (λn=>xs[n]?) (λn hp=>k.it hp i l n/\k.has hp l xs):=by
 cases k with
 | l=>exact xF h xs
 | t=>exact nx_tup h xs
theorem SK.of (k:SK)(l:Addr)(xs:Array Value):xK l (k.ob l) (λh=>k.has h l xs):=by
 cases k with
 | l=>exact xL l xs
 | t=>exact Km l xs
theorem SK.start (k:SK){h:Heap}{i l:Addr}(e:h.get? i=some (k.ob l)):k.it h i l 0:=by
 cases k with
 | l=>exact⟨_,e,rfl,rfl⟩
 | t=>exact⟨_,e,rfl,rfl⟩
theorem SK.obj {k:SK}{h:Heap}{i l:Addr}{n:Nat}(x:k.it h i l n):∃o,h.get? i=some o/\∀v,o.data ≠ .cell v:=by
 cases k with
 | l=>obtain⟨o,e,_,d⟩:=x;exact⟨o,e,λv z=>by rw[d]at z;cases z⟩
 | t=>obtain⟨o,e,_,d⟩:=x;exact⟨o,e,λv z=>by rw[d]at z;cases z⟩
theorem SK.at_ {k:SK}{h h' :Heap}{i l:Addr}{n:Nat}(x:k.it h i l n)(q:∀o,h.get? i=some o->h'.get? i=some o):k.it h' i l n:=by
 cases k with
 | l=>obtain⟨o,e,r⟩:=x;exact⟨o,q o e,r⟩
 | t=>obtain⟨o,e,r⟩:=x;exact⟨o,q o e,r⟩
theorem SK.sqOf {K:a8}(k:SK){H:Hp}{a:Addr}{xs:List V}(e:H a=some (k.tr xs)):k.sq K H a xs:=by
 cases k with
 | l=>exact SqL.of e
 | t=>exact SqT.of e
theorem Inv.seq (I:L2.Inv X pins σ H s)(k:SK)(h:k.sq X.K H a xs):∃its:List Value,zT xs its/\k.has s.heap a its.toArray/\∃o,s.heap.get? a=some o:=by
 cases k with
 | l=>
  obtain⟨its,r,p,_⟩:=I.list h;obtain⟨o,_,e,_⟩:=id p;exact⟨its,r,p.isList,o,e⟩
 | t=>
  obtain⟨its,r,p,_⟩:=I.tuple h;obtain⟨o,e,_⟩:=id p;exact⟨its,r,p,o,e⟩
def Itz (K:a8)(k1 k2:SK)(l1 l2:Addr):It:=
 ⟨λi H=>∃xs ys x y,k1.sq K H l1 xs/\k2.sq K H l2 ys/\xs[i]? =some x/\ys[i]? =some y,λi H v H' =>∃p x y,H p=none/\v= .ref p/\(∀xs,k1.sq K H l1 xs->xs[i]? =some x)/\(∀ys,k2.sq K H l2 ys->ys[i]? =some y)/\H' =upd H p (.tup [x,y]),
  λi H=>∃xs ys,k1.sq K H l1 xs/\k2.sq K H l2 ys/\(xs.length<=i\/ys.length<=i)⟩
theorem Inv.seq_inj (I:L2.Inv X pins σ H s)(k:SK)(h:k.sq X.K H a xs)(h' :k.sq X.K H a ys):xs=ys:=by
 cases k with
 | l=>exact I.list_inj h h'
 | t=>exact I.tuple_inj h h'
theorem nN {a b:Nat}(h:a ≠ b): @Ne Addr a b:=h
theorem nM {a b c:Nat}(h:a ≠ b)(h' :a ≠ c):¬ @Membership.mem Addr (List Addr) _ [b,c] a:=λq=>by
 rcases ak.mp q with z | z
 ·exact h z
 ·exact h' (aQ.mp z)
theorem QT {P:Program}{w:World}{K:a8}{elts:List Expr}{kk:Nat}{pt:Pos}(k1 k2:SK){n l1 l2:Nat}(h1:l1 < n)(h2:l2 < n):
  yk P w K (.Tuple elts kk pt) (Itz K k1 k2 l1 l2) [n+4,n+2,n+3,n,n+1] (n+4)
   (λi h=>IsZip h (n+4) (n+2) (n+3) .none/\IsPair h (n+2) (.ref n) (.ref (n+1))/\(∃a b,IsPair h (n+3) a b)/\k1.it h n l1 i/\k2.it h (n+1) l2 i):=by
 have D:Ap (n+4) (n+2) (n+3) n (n+1) [n,l1] [n+1,l2]:=by
  refine⟨nN (by omega),nN (by omega),nN (by omega),nN (by omega),nN (by omega),nM (by omega) (by omega),nM (by omega) (by omega),nM (by omega) (by omega),nM (by omega) (by omega),nM (by omega) (by omega),nM (by omega) (by omega)⟩
 refine⟨by simp,λi h st b hb=> ?_,λi h h' st k=> ?_, ?_, ?_, ?_⟩
 ·obtain⟨hz,hI,⟨a,c,hO⟩,p1,p2⟩:=st;simp only[ak,aM,or_false]at hb;rcases hb with rfl | rfl | rfl | rfl | rfl
  ·exact⟨_,hz,λv z=>nomatch z⟩
  ·exact⟨_,hI,λv z=>nomatch z⟩
  ·exact⟨_,hO,λv z=>nomatch z⟩
  ·exact SK.obj p1
  ·exact SK.obj p2
 ·obtain⟨hz,hI,⟨a,c,hO⟩,p1,p2⟩:=st;exact⟨k _ (by simp) _ hz,k _ (by simp) _ hI,⟨a,c,k _ (by simp) _ hO⟩,SK.at_ p1 λo e=>k n (by simp) o e,SK.at_ p2 λo e=>k (n+1) (by simp) o e⟩
 ·intro X hP hw hK hc i pins s σ H E I hf st hg;subst hP hw hK;obtain⟨xs,ys,x,y,s1,s2,hx,hy⟩:=hg;obtain⟨hz,hI,⟨a,c,hO⟩,p1,p2⟩:=st;obtain⟨its1,r1,b1,_⟩:=Inv.seq I k1 s1;obtain⟨its2,r2,b2,_⟩:=Inv.seq I k2 s2;obtain⟨u,hu,ru⟩:=r1.get hx;obtain⟨v,hv,rv⟩:=r2.get hy;refine xI (k1.nx (aC h1) its1.toArray) (k2.nx (i:=n+1) (nN (by omega)) its2.toArray) D hz hI hO ⟨p1,b1⟩ ⟨p2,b2⟩ (x:=u) (y:=v) (by simpa using hu) (by simpa using hv) λg a1 a2 a3 a4 a5 kp=>⟨_,rfl, ?_⟩
  refine wpAny_letOwnedTupleGo_zip a1 λg2 z2 e2=> ?_;have hlt:n+4 < s.heap.objs.size:=aq hz;have ne:∀b:Nat,b<=n+4->s.heap.objs.size ≠ b:=λb hb=>by
   omega
  have kp2:∀b o,b ∉ [n+4,n+2,n+3,n,n+1]->s.heap.get? b=some o->g2.get? b=some o:=λb o hb e=>by
   simp only[ak,aM,or_false,not_or]at hb;exact e2.extBut _ _ hb.1 (kp b o hb.1 hb.2.2.1 hb.2.2.2.1 hb.2.2.2.2 e)
  have g2P:=e2.extBut _ _ (ne _ (ai _)) a5;have g2I:=e2.extBut _ _ D.Iz (kp _ _ D.Iz D.IO D.I1 D.I2 hI);have g2O:=e2.extBut _ _ D.Oz a2;have q1:=SK.at_ a3.1 λo e=>e2.extBut _ _ (nN (by omega)) e
  have q2:=SK.at_ a4.1 λo e=>e2.extBut _ _ (nN (by omega)) e
  have hfr:=I.hok.fresh (ai _);refine⟨.ref s.heap.objs.size,upd H s.heap.objs.size (.tup [x,y]),Inv.laidT (s:=s) (h' :=g2) (tk:=s.toks) I hf kp2 (λb o hb _=> ?_) (ai _)
   ⟨by rw[bT];show 2<=16777216;decide,[u,v],.cons ru (.cons rv .nil),⟨_,g2P,rfl,_,rfl⟩,.inr ⟨_,g2P,rfl⟩⟩,rfl,⟨_,x,y,hfr,rfl,λzs hq=>by rw[← Inv.seq_inj I k1 s1 hq];exact hx,λzs hq=>by rw[← Inv.seq_inj I k2 s2 hq];exact hy,rfl⟩,⟨z2,g2I,⟨u,v,g2O⟩,q1,q2⟩,λb hb=> ?_⟩
  ·simp only[ak,aM,or_false]at hb;rcases hb with rfl | rfl | rfl | rfl | rfl
   ·exact⟨_,z2⟩
   ·exact⟨_,g2I⟩
   ·exact⟨_,g2O⟩
   ·obtain⟨o',e',_⟩:=SK.obj q1;exact⟨o',e'⟩
   ·obtain⟨o',e',_⟩:=SK.obj q2;exact⟨o',e'⟩
  ·have hb2:(b:Nat)<=n+4:=by
    have hb:=by simpa using hb
    rcases hb with rfl | rfl | rfl | rfl | rfl
    ·exact ai _
    ·exact dD (by decide) n
    ·exact dD (by decide) n
    ·exact aK _ _
    ·exact dD (by decide) n
   rw[zt λz=>ne b hb2 z.symm];exact(hf b hb).1
 ·intro X hP hw hK hc i pins s σ H E I hf st hg;subst hP hw hK;obtain⟨xs,ys,s1,s2,hend⟩:=hg;obtain⟨hz,hI,⟨a,c,hO⟩,p1,p2⟩:=st;obtain⟨its1,r1,b1,_⟩:=Inv.seq I k1 s1;obtain⟨its2,r2,b2,_⟩:=Inv.seq I k2 s2;have l1' :=r1.length;have l2' :=r2.length;refine xJ (I.ok.hd hc) (k1.nx (aC h1) its1.toArray) (k2.nx (nN (by omega)) _) D hz hI hO ⟨p1,b1⟩ ⟨p2,b2⟩ ?_ λg kp=>⟨rfl, ?_⟩
  ·rcases hend with q | q
   ·exact .inl (cu (by rw[az,← l1'];exact q))
   ·exact .inr (cu (by rw[az,← l2'];exact q))
  ·have kp2:∀b o,b ∉ [n+4,n+3,n,n+1]->s.heap.get? b=some o->g.get? b=some o:=λb o hb e=>by
    simp only[ak,aM,or_false,not_or]at hb;exact kp b o hb.1 hb.2.1 hb.2.2.1 hb.2.2.2 e
   have nch:∀b u,H b=some u->b ∉ [n+4,n+3,n,n+1]:=λb u e hb=>by
    have hb' :b∈[n+4,n+2,n+3,n,n+1]:=by
     simp only[ak,aM,or_false]at hb ⊢;rcases hb with q | q | q | q
     ·exact .inl q
     ·exact .inr (.inr (.inl q))
     ·exact .inr (.inr (.inr (.inl q)))
     ·exact .inr (.inr (.inr (.inr q)))
    rw[(hf b hb').1]at e;cases e
   refine I.call' rfl ⟨λb o e _ _ hc=>kp2 b o hc e,λb o e _ _ hc=>⟨o.slots,kp2 b o hc e⟩,λb o e q _=>q,λb o e hc=>⟨o,kp2 b o hc e⟩,λb ys e=>e,λb o u e=>e,λ_ _ _ e=>e⟩ (λb u e=> ?_) I.bare λb hb=> ?_
   ·refine(I.hok b u e).stay (λc v hc q=>kp2 c v ?_ q) (λ_ q=>q) λ_ _ q=>q;rcases hc with rfl | hc
    ·exact nch c u e
    ·exact nch c _ hc
   ·have hb' :b∈[n+4,n+2,n+3,n,n+1]:=by
     simp only[ak,aM,or_false]at hb ⊢;rcases hb with q | q | q | q
     ·exact .inl q
     ·exact .inr (.inr (.inl q))
     ·exact .inr (.inr (.inr (.inl q)))
     ·exact .inr (.inr (.inr (.inr q)))
    obtain⟨f0,f1,f2,f3,f4,f5⟩:=hf b hb';exact⟨f3,f1,f4,f5⟩
 ·intro A i s Q E st h;exact wpAny_pyIter_zip st.1 h
noncomputable def V8 (xs ys:List T):List T:=(xs.zip ys).map λp=>T.tup [p.1,p.2]
theorem QU {xs ys:List T}{i:Nat}{t:T}(h:(V8 xs ys)[i]? =some t):∃x y,xs[i]? =some x/\ys[i]? =some y/\t= .tup [x,y]:=by
 unfold V8 at h;rw[ay]at h;cases e:(xs.zip ys)[i]? with
 | none=>rw[e]at h;cases h
 | some p=>
  rw[e]at h;cases h;have:=List.getElem?_zip_eq_some.mp e;exact⟨p.1,p.2,this.1,this.2,rfl⟩
theorem ut (xs ys:List T):(V8 xs ys).length=min xs.length ys.length:=by unfold V8;simp
theorem Ko {K:a8}{B1 H1:Hp}{k1 k2:SK}{a b:Addr}{xs ys:List V}{ts us:List T}(ha:B1 a=some (k1.tr xs))(hb:B1 b=some (k2.tr ys))(ra:zE B1 xs ts)(rb:zE B1 ys us):rI B1 H1 (Itz K k1 k2 a b) (V8 ts us):=λB2 H2 s1 s2=>by
 have a2:=k1.sqOf (K:=K) (s2 _ _ (s1 _ _ ha));have b2:=k2.sqOf (K:=K) (s2 _ _ (s1 _ _ hb));rw[ut];refine⟨λi hi=> ?_,λi t x H3 e y=> ?_,λi hi=>⟨xs,ys,a2,b2, ?_⟩⟩
 ·obtain⟨v,e1,_⟩:=ra.get (ah (show i < ts.length by omega))
  obtain⟨u,e2,_⟩:=rb.get (ah (show i < us.length by omega))
  exact⟨xs,ys,v,u,a2,b2,e1,e2⟩
 ·obtain⟨p,v,u,hp,rfl,y1,y2,rfl⟩:=y;obtain⟨t1,t2,et,eu,rfl⟩:=QU e;obtain⟨v',e1,r1⟩:=ra.get et;obtain⟨u',e2,r2⟩:=rb.get eu;have q1:=y1 xs a2;have q2:=y2 ys b2;rw[e1]at q1;cases q1;rw[e2]at q2;cases q2;have up:=zM.ge s2 (zu.new hp (.tup [v,u]));exact⟨zu.new hp _,.tup (j5 hp _) (.cons ((r1.mono s1).mono up) (.cons ((r2.mono s1).mono up) .nil))⟩
 ·rw[ra.length,rb.length];omega
section
theorem Kp {ta:TA}(hg:Gl X "zip")(hm:X.mg "zip"=none)(ha:PA X [a,b] ta)(hs:starEach [a,b] X.env=[(false,eval a X.env),(false,eval b X.env)])(hs2:starEach [b] X.env=[(false,eval b X.env)]):
  PI X (.Tuple elts kk pt) (.Call (.Name "zip" p) [a,b] [] pos) (λσ H R=>ta σ H λvs H1=>∃k1 k2 l1 l2 xs ys,vs=[.ref l1,.ref l2]/\H1 l1=some (SK.tr k1 xs)/\H1 l2=some (SK.tr k2 ys)/\R (Itz X.K k1 k2 l1 l2) H1):=by
 intro pins s σ H R I h;refine Call_ (j0 I hg hm PyProof.Rows.Boot.«zip» (aU (thn (ha pos _ s σ H _ I h) λus s1 ⟨vs,H1,I1,r1,q1⟩=> ?_) (by rw[hs,hs2]) (by rw[hs2];rfl)))
 obtain⟨k1,k2,l1,l2,xs,ys,e,h1,h2,q⟩:=q1;subst e;obtain⟨u,v,rfl,ru,rv⟩:=yG r1;obtain rfl:u=Value.ref l1:=ru;obtain rfl:v=Value.ref l2:=rv;obtain⟨its1,_,b1,o1,e1⟩:=Inv.seq I1 k1 (k1.sqOf h1);obtain⟨its2,_,b2,o2,e2⟩:=Inv.seq I1 k2 (k2.sqOf h2);refine xM (k1.of l1 _) (k2.of l2 _) b1 b2 λg n hn z1 z2 z3 z4 z5 kp=>wpAny_pyIter_zip z1 ?_;subst hn;have f:∀b∈[s1.heap.objs.size+4,s1.heap.objs.size+2,s1.heap.objs.size+3,s1.heap.objs.size,s1.heap.objs.size+1],Wh X _ H1 b:=λb hb=>by
  have hb' :s1.heap.objs.size<=b:=by
   simp only[ak,aM,or_false]at hb;rcases hb with rfl | rfl | rfl | rfl | rfl
   ·exact aK _ _
   ·exact aK _ _
   ·exact aK _ _
   ·exact ai _
   ·exact aK _ _
  exact I1.fpOk hb' (I1.hok.fresh hb')
 exact⟨s1.heap.objs.size+4,_,_,_,H1,rfl,I1.kept kp,QT k1 k2 (aq e1) (aq e2),⟨z1,z2,⟨_,_,z3⟩,SK.start k1 z4,SK.start k2 z5⟩,f,q⟩
noncomputable def wV:T->R (List T)
 | .lst xs=> .ok xs
 | .tup xs=> .ok xs
 | _=> .bad
def z16 (fa fb:En->R T):En->R (List T):=λρ=>(fa ρ).bind λt=>(fb ρ).bind λu=>(wV t).bind λxs=>(wV u).bind λys=> .ok (V8 xs ys)
theorem Ym (r:Rep B v t)(e:wV t= .ok xs):∃(k:SK) (a:Addr) (vs:List V),v= .ref a/\B a=some (k.tr vs)/\zE B vs xs:=by
 cases r with
 | lst h r=>cases e;exact⟨.l,_,_,rfl,h,r⟩
 | tup h r=>cases e;exact⟨.t,_,_,rfl,h,r⟩
 | _=>cases e
theorem uZ (t:T)(c:Nat):wV t ≠ .ex c:=by cases t <;> exact λz=>nomatch z
theorem z17 (hg:Gl X "zip")(hm:X.mg "zip"=none)(ha:Snd X Y a fa)(hb:Snd X Y b fb)(hs:starEach [a,b] X.env=[(false,eval a X.env),(false,eval b X.env)]:=by exact st2 rfl rfl)(hs2:starEach [b] X.env=[(false,eval b X.env)]:=by exact st1 rfl):
  uo X Y (.Tuple elts kk pt) (.Call (.Name "zip" p) [a,b] [] pos) (z16 fa fb):= .mk λρ=>
 PI.imp (Kp hg hm (zy (ha ρ) (zy (hb ρ) zO hs2) (by rw[hs,hs2])) hs hs2) λσ H R ⟨B,I,q⟩=>step I q λt v H1 _ s1 r1 I1 q1=>step I1 q1 λu v' H2 _ s2 r2 I2 q2=>by
  cases e1:wV t with
  | bad=>rw[e1]at q2;exact q2.elim
  | ex c=>exact absurd e1 (uZ _ _)
  | ok xs=>
   rw[e1]at q2;cases e2:wV u with
   | bad=>rw[e2]at q2;exact q2.elim
   | ex c=>exact absurd e2 (uZ _ _)
   | ok ys=>
    rw[e2]at q2;obtain⟨k1,a1,vs1,rfl,h1,w1⟩:=Ym (r1.mono (zM.ge I1.sB s2)) e1;obtain⟨k2,a2,vs2,rfl,h2,w2⟩:=Ym r2 e2;exact⟨k1,k2,a1,a2,vs1,vs2,rfl,I2.sB _ _ h1,I2.sB _ _ h2,ZB I2 (show Po Y rI _ H2 _ R from q2) (Ko h1 h2 w1 w2)⟩
end
end PV
namespace PV
open PySem PySem.Spec PyProof.Rows L2
section
def Yn:T->R T
 | .bl b=> .ok (.int (b2 b))
 | .int i=> .ok (.int i)
 | _=> .bad
theorem z18 (v:V)(t:T)(B H:Hp)(Q:VK)(r:Rep B v t)(sB:zu B H)(q:Po Y rC B H (Yn t) Q):
  (∃i,[v]=[V.int i]/\Q (.int i) H)\/∃k,[v]=[V.bl k]/\Q (.int (if k then 1 else 0)) H:=by
 cases r with
 | int i=>exact .inl ⟨i,rfl,po0 sB q rfl (.int i)⟩
 | bl k=>exact .inr ⟨k,rfl,po0 sB q rfl (by cases k <;> exact .int _)⟩
 | _=>exact q.elim
theorem Kq (gl:Gl X "int")(mg:X.mg "int"=none)(ha:Snd X Y a fa)(hs:St1 X a:=by exact st1 rfl):Snd X Y (.Call (.Name "int" p) [a] [] pos) (ap1 Yn fa):=
 Y7 yI z18 gl mg (PyProof.Rows.Boot.«int») ha hs
theorem Yo:Zt X (.type "range") (λxs H Q=>∃i j,xs=[.int i,.int j]/\∀r,H r=none->Q (.ref r) (upd H r (.rng i j))):=by
 intro pins s σ H xs us Q I r h;obtain⟨i,j,rfl,q⟩:=h;obtain⟨u,v,rfl,ru,rv⟩:=yG r;obtain⟨t,rfl⟩:=ru;obtain⟨t',rfl⟩:=rv;exact call_range_2 ⟨.ref _,_,I.laid (λb o e=>a9 _ e) (ai _) (show Z9 _ X.w _ _ _ (.rng i j) from ⟨_,_,_,af _ rfl⟩),rfl,q _ (I.hok.fresh (ai _))⟩
noncomputable def Qb (lo:Int)(n:Nat):List V:=(ba n).map λ(i:Nat)=>V.int (lo+(i:Int))
theorem wW (hh:X.A.handled=none):Zt X (.type "list") (λxs H Q=>∃r lo hi,xs=[.ref r]/\H r=some (.rng lo hi)/\(-1000000 < lo/\lo < 1000000/\ -1000000 < hi/\hi < 1000000)/\∀l,H l=none->Q (.ref l) (upd H l (.lst (Qb lo (hi - lo).toNat)))):=by
 intro pins s σ H xs us Q I rv h;obtain⟨r,lo,hi,rfl,e,⟨c1,c2,c3,c4⟩,q⟩:=h;obtain⟨u,rfl,ru⟩:=ZP rv;obtain rfl:u=Value.ref r:=ru;obtain⟨t,v,v',eo⟩:=(show Z9 _ X.w H _ r _ from I.hok r _ e);have hn:eF lo hi 1=((hi - lo).toNat):=by rw[rangeSize_one];split <;> omega
 refine call_list_range hh eo (small_one (by omega) (by omega) (by omega) (by omega)) hn (by omega) λh' tk acc c kp eo' hacc=> ?_
 have hv:zT (Qb lo (hi - lo).toNat) acc.toList:=by
  have key:∀(n:Nat) (lo:Int) (vs:List _),vs.length=n->(∀(j:Nat) (v:Value),vs[j]? =some v->∃t,v=Value.int (lo+(j)) t)->zT (Qb lo n) vs:=by
   intro n
   induction n with
   | zero=>
    intro lo vs hl _;rw[List.eq_nil_of_length_eq_zero hl];exact .nil
   | succ n ih=>
    intro lo vs hl hv;cases vs with
    | nil=>cases hl
    | cons v vs=>
     have e:Qb lo (n+1)=V.int (lo+0) :: Qb (lo+1) n:=by
      unfold Qb;rw[cq,aI,bG];refine congrArg _ (cU λj _=> ?_);show V.int _=V.int _;congr 1;omega
     rw[e];refine .cons (hv 0 v rfl) (ih _ vs (by simpa using hl) λj x hx=> ?_)
     obtain⟨t,z⟩:=hv (j+1) x (by simpa using hx)
     exact⟨t,by rw[z];congr 1;omega⟩
  refine key _ lo _ (by simpa using hacc.1) λj v hj=> ?_
  obtain⟨t,z⟩:=hacc.2 j v (by simpa using hj)
  exact⟨t,by rw[z];congr 1;omega⟩
 have hz:(Qb lo (hi - lo).toNat).length<=sizeLine:=by
  rw[bT];unfold Qb;rw[aa,bE];omega
 exact⟨.ref _,_,I.laid kp (ai _) (show Z9 _ X.w _ h' _ (.lst _) from ⟨hz,acc.toList,c,hv,by simpa using eo'⟩),rfl,q _ (I.hok.fresh (ai _))⟩
def GJ (fi:En->R (List T)):En->R T:=λρ=>(fi ρ).bind λts=> .ok (.lst ts)
theorem Yp (lo:Int)(n:Nat):zE B (Qb lo n) (rng lo n):=by
 unfold Qb rng
 induction ba n with
 | nil=>exact .nil
 | cons i is ih=>exact .cons (.int _) ih
theorem xN (hh:X.A.handled=none)(gl:Gl X "list")(mg:X.mg "list"=none)(gl' :Gl X "range")(mg' :X.mg "range"=none)(ha:Snd X Y a fa)(hb:Snd X Y b fb)
  (hs:starEach [a,b] X.env=[(false,eval a X.env),(false,eval b X.env)]:=by exact st2 rfl rfl) (hs2:St1 X b:=by exact st1 rfl):Snd X Y (.Call (.Name "list" p) [.Call (.Name "range" p') [a,b] [] pos'] [] pos) (GJ (Jf fa fb)):= .mk λρ=>
 PE.imp (ZQ (wW hh) gl mg PyProof.Rows.Boot.«list» (zy (ZQ Yo gl' mg' boot_range (zy (ha ρ) (zy (hb ρ) zO hs2) (by rw[hs,hs2])) (by decide) (by decide) (by rw[hs,hs2]) (by rw[hs2];rfl)) zO (st1 rfl)) (by decide) (by decide) (st1 rfl) rfl) λσ H Q ⟨B,I,q⟩=>by
  have q:Po Y rC B H ((fa ρ).bind λt=>(fb ρ).bind λt' =>(match t,t' with | .int i,.int j=>if -1000000 < i/\i < 1000000/\ -1000000 < j/\j < 1000000 then R.ok (rng i (j - i).toNat) else .bad | _,_=> .bad).bind λts=> .ok (.lst ts)) Q:=by
   revert q;unfold GJ Jf;cases fa ρ with
   | ok t=>cases fb ρ <;> exact λq=>q
   | ex c=>exact λq=>q
   | bad=>exact λq=>q
  refine step I q λt v H1 _ s1 r1 I1 q1=>step I1 q1 λt' v' H2 _ s2 r2 I2 q2=> ?_;cases r1 with
  | int i=>
   cases r2 with
   | int j=>
    by_cases c: -1000000 < i/\i < 1000000/\ -1000000 < j/\j < 1000000
    ·dsimp only at q2;rw[if_pos c]at q2;refine⟨i,j,rfl,λr hr=>⟨r,i,j,rfl,zx,c,λl hl=> ?_⟩⟩;have hlr:l ≠ r:=λz=>by rw[z,zx]at hl;cases hl
     have hl2:=by rw[zt hlr]at hl;exact hl
     refine q2 _ _ (zu.new hr _ |>.trans (zu.new hl _)) (.lst ?_ (Yp _ _))
     rw[zY hl2,zx]
    ·dsimp only at q2;rw[if_neg c]at q2;exact q2.elim
   | _=>exact q2.elim
  | _=>cases r2 <;> exact q2.elim
def mvS (i j:Nat):En->RS:=λρ=>match ρ[j]? with
 | some (.ow ts)=> .nx ((ρ.set j (.vl (.lst ts))).set i (.vl (.lst ts)))
 | _=> .bad
theorem SI.give (I:SI Y B ρ σ H)(hj:ρ[j]? =some (.ow ts)):∃(a:Addr) (B' :Hp),σ[j]? =some (some (V.ref a))/\zu B B' /\Rep B' (.ref a) (.lst ts)/\SI Y B' (ρ.set j (.vl (.lst ts))) σ H:=by
 obtain⟨a,xs,e,b0,h0,hh,rr,d⟩:=I.ow j ts hj;have s1:zu B (upd B a (.lst xs)):=zu.new b0 _;have rp:Rep _ _ _:= .lst zx (rr.mono s1);refine⟨a,_,e,s1,rp,⟨I.s0,I.sH,λb o q=> ?_,λb o q=> ?_,by rw[aE];exact I.len,λk t q=> ?_,λk us q=> ?_,λk c q=> ?_, ?_⟩⟩
 ·by_cases hb:b=a
  ·subst hb;rw[zx]at q;cases q;exact hh
  ·rw[zt hb]at q;exact I.sB b o q
 ·rw[zt λz=>by rw[z,h0]at q;cases q];exact I.old b o q
 ·rcases zq q with ⟨rfl,z⟩ | ⟨_,z⟩
  ·cases z;exact⟨_,e,rp⟩
  ·obtain⟨v,e1,r⟩:=I.vl k t z;exact⟨v,e1,r.mono s1⟩
 ·rcases zq q with ⟨rfl,z⟩ | ⟨hk,z⟩
  ·cases z
  ·obtain⟨a',xs',e',b0',h0',hh',rr',d'⟩:=I.ow k us z;have hne:a' ≠ a:=λw=>by subst w;exact d k us hk z e'
   refine⟨a',xs',e',by rw[zt hne];exact b0',h0',hh',rr'.mono s1,λm ws hm hw=> ?_⟩
   rcases zq hw with ⟨rfl,w⟩ | ⟨_,w⟩
   ·cases w
   ·exact d' m ws hm w
 ·rcases zq q with ⟨rfl,z⟩ | ⟨_,z⟩
  ·cases z
  ·obtain⟨a',e',r⟩:=I.xc k c z;exact⟨a',e',s1 _ _ r⟩
 ·obtain⟨as,O,x⟩:=I.st;refine⟨as,O,x.on (λk y hy h=> ?_) s1 rfl rfl (zu.refl _) λb o hb b0' h0' cs=> ?_⟩
  ·rcases zq h with ⟨_,z⟩ | ⟨_,z⟩
   ·subst z;cases hy
   ·exact⟨z,rfl⟩
  ·have hne:b ≠ a:=λz=>by
    subst z;rcases cs with ⟨C,dx,vs,ez⟩ | ok
    ·rw[hh]at hb;cases hb;cases ez
    ·exact ok j ts hj e
   refine⟨hb,by rw[zt hne];exact b0',h0',λok k us h=> ?_⟩
   rcases zq h with ⟨_,z⟩ | ⟨_,z⟩
   ·cases z
   ·exact ok k us z
theorem s_mv (hv:PE X (.Name y yp) (jk j))(hN:X.N.Nodup)(hi:X.N[i]? =some x)(hx:L2.Loc X.env.scope x)(hs:swapsWith (.Name y yp) (some (.Name x p')) pos.line X.env=pure false:=by rfl)
  (hf:X.fn x=true\/X.env.scope.names.lookup x=some .local:=by first | exact .inl rfl | exact .inr rfl | assumption):jm X Y (.Assign [.Name x p'] (.Name y yp) pos) (mvS i j):= .mk λρ=>
 PS.imp (wj hN hi hx hv hs hf) λD σ H ⟨B,I,q⟩=>by
  unfold mvS at q;split at q
  ·rename_i ts e;obtain⟨a,B',e1,s1,r,J⟩:=I.give e;exact⟨_,e1,q _ _ B' s1 (J.setV i r)⟩
  ·exact q.elim
end
def eqs (y:T):List T->Option (List Bool)
 | []=>some []
 | t :: ts=>match eqF 30 t y with
  | none=>none
  | some b=>match eqs y ts with
   | none=>none
   | some bs=>some (b :: bs)
def z19 (y:T)(ts:List T):R T:=match eqs y ts with
 | some bs=> .ok (.int (bs.count true))
 | none=> .bad
def z1a (y:T)(ts:List T):R T:=match eqs y ts with
 | some bs=>if true∈bs then .ok (.int (bs.idxOf true)) else .bad
 | none=> .bad
def GK (g:T->List T->R T)(fa fb:En->R T):En->R T:=λρ=>(fa ρ).bind λt=>match t with
 | .lst ts=>(fb ρ).bind λu=>g u ts
 | _=> .bad
theorem Yq {H:Hp}{y:T}{e:Value->Bool}(he:∀(v:V) (t:T) (u:Value) (b:Bool),Zb v u->Rep H v t->eqF 30 t y=some b->e u=b):∀{xs:List V} {ts:List T} {its:List Value} {bs:List Bool},
  zT xs its->zE H xs ts->eqs y ts=some bs->its.map e=bs/\∀u∈its,∃v t k,Zb v u/\Rep H v t/\eqF 30 t y=some k
 | _,_,_,_,.nil,.nil,h=>by
  cases h;exact⟨rfl,λu hu=>by simp at hu⟩
 | _,_,_,_,.cons rv vs,.cons r rs,h=>by
  rename_i v u vals us t ts;unfold eqs at h;cases q:eqF 30 t y with
  | none=>rw[q]at h;cases h
  | some k=>
   rw[q]at h;cases q' :eqs y ts with
   | none=>rw[q']at h;cases h
   | some k' =>
    rw[q']at h;cases h;obtain⟨h1,h2⟩:=Yq he vs rs q';refine⟨by rw[aI,h1,he v t u k rv r q],λw hw=> ?_⟩
    rcases ak.mp hw with z | hw
    ·exact⟨v,t,k,z ▸ rv,r,q⟩
    ·exact h2 w hw
section
theorem Yr {e:Value->Bool}:∀its:List Value,List.countP e its=(its.map e).count true
 | []=>rfl
 | u :: us=>by
  rw[List.countP_cons,aI,List.count_cons,Yr us];cases e u <;> rfl
theorem QV (hu:X.A.units+64 < cLine):MtR X "list.count" (λx xs H Q=>∃l ys ts v t bs,x= .ref l/\xs=[v]/\H l=some (.lst ys)/\zE H ys ts/\Rep H v t/\eqs t ts=some bs/\Q (.int (bs.count true)) H):=by
 intro pins s σ H x xs v0 us Q I rx rv h;obtain⟨l,ys,ts,v,t,bs,rfl,rfl,hl,r,rt,e,q⟩:=h;obtain rfl:v0=Value.ref l:=rx;obtain⟨u,rfl,ru⟩:=ZP rv;obtain⟨hz,its,n,ri,eo⟩:=(show Z9 _ X.w H _ l _ from I.hok l _ hl);obtain⟨f,hf⟩:=ul λz=>eqF 30 z t;obtain⟨h2,h3⟩:=Yq hf ri r e;refine cJ eN ⟨_,eo,rfl⟩ PySem.F.entry_list_count (PySem.F.args_list_count_2 _ _) (SeqAt.list_countAt l _ n _ #[] u f) ⟨eo,λw hw=> ?_, ?_⟩
 ·obtain⟨v',t',k,rv',rr,ee⟩:=h3 w (by simpa using hw)
  rw[hf v' t' w k rv' rr ee];exact(Y0 I 30 _ (by rw[jE];omega) t' t k v' v w u ee rr rt rv' ru).1
 ·rw[Yr,h2];exact⟨.int _,H,I.tok _,⟨_,rfl⟩,q⟩
theorem QW (hu:X.A.units+64 < cLine):MtR X "list.index" (λx xs H Q=>∃l ys ts v t bs,x= .ref l/\xs=[v]/\H l=some (.lst ys)/\zE H ys ts/\Rep H v t/\eqs t ts=some bs/\true∈bs/\Q (.int (bs.idxOf true)) H):=by
 intro pins s σ H x xs v0 us Q I rx rv h;obtain⟨l,ys,ts,v,t,bs,rfl,rfl,hl,r,rt,e,hm,q⟩:=h;obtain rfl:v0=Value.ref l:=rx;obtain⟨u,rfl,ru⟩:=ZP rv;obtain⟨hz,its,n,ri,eo⟩:=(show Z9 _ X.w H _ l _ from I.hok l _ hl);obtain⟨f,hf⟩:=ul λz=>eqF 30 z t;obtain⟨h2,h3⟩:=Yq hf ri r e;have hj:=List.idxOf_lt_length_iff.mpr hm;have hlen:bs.length=its.length:=by rw[← h2,aa]
 have hri:=ri.length;rw[bT]at hz;have hat:∀m (hm:m < its.length),f its[m]=bs[m]'(by rw[hlen];exact hm):=λm hm=>by
  have:(its.map f)[m]'(by rw[aa];exact hm)=bs[m]'(by rw[hlen];exact hm):=by simp only[h2]
  rw[← this,List.getElem_map]
 refine cJ eO ⟨_,eo,rfl⟩ PySem.F.entry_list_index (PySem.F.args_list_index_2 _ _) (SeqAt.list_indexAt l _ n _ #[] u f _ (by rw[az,← hlen];exact hj) (by omega) ?_ ?_) ⟨eo,λw hw=> ?_, ?_⟩
 ·rw[fw,hat];exact List.getElem_idxOf hj
 ·intro m hm hlt;rw[fw,hat m (by simpa using hm)]
  have:=List.not_of_lt_findIdx hlt;simpa using this
 ·obtain⟨v',t',k,rv',rr,ee⟩:=h3 w (by simpa using hw)
  rw[hf v' t' w k rv' rr ee];exact(Y0 I 30 _ (by rw[jE];omega) t' t k v' v w u ee rr rt rv' ru).1
 ·exact⟨.int _,H,I.tok _,⟨_,rfl⟩,q⟩
theorem xO (hu:X.A.units+64 < cLine)(ha:ZZ X Y a fa)(hb:ZZ X Y b fb)(hb1:attributeBase a "count" X.env (eval a X.env)=eval a X.env:=by rfl)(hs:St1 X b:=by exact st1 rfl)(hz:(pa.endLine == p.line)=true:=by rfl):
  Snd X Y (.Call (.Attribute a "count" pa) [b] [] p) (GK z19 fa fb):= .mk λρ=>by
 have e1:(((((backTo p (starEach [b] X.env)).all λx=> !x.fst) && (backToKw p (keywordEach [] X.env)).all λx=>x.fst.isSome) && decide (([b].length+([]:List Keyword).length+if ([]:List Keyword).isEmpty=true then 0 else 1) < 30))=true):=by rw[hs];rfl
 refine PE.imp (UL bH eN PySem.F.type_list_count (QV hu) (ha ρ) (zy (hb ρ) zO hs) hb1 e1 hz hs rfl) λσ H Q ⟨B,I,q⟩=>step I q λt v H1 _ s1 r1 I1 q1=> ?_;cases t with
 | lst ts=>
  cases r1 with
  | @lst l xs _ h r=>
   refine⟨.inl ⟨rfl,_,SqL.of h⟩,step I1 q1 λu v' H2 _ s2 r2 I2 q2=> ?_⟩;unfold z19 at q2;split at q2
   ·rename_i bs e;exact⟨l,xs,ts,v',u,bs,rfl,rfl,s2 _ _ h,r.mono s2,r2,e,ZB I2 q2 (.int _)⟩
   ·exact q2.elim
 | _=>exact q1.elim
theorem xP (hu:X.A.units+64 < cLine)(ha:ZZ X Y a fa)(hb:ZZ X Y b fb)(hb1:attributeBase a "index" X.env (eval a X.env)=eval a X.env:=by rfl)(hs:St1 X b:=by exact st1 rfl)(hz:(pa.endLine == p.line)=true:=by rfl):
  Snd X Y (.Call (.Attribute a "index" pa) [b] [] p) (GK z1a fa fb):= .mk λρ=>by
 have e1:(((((backTo p (starEach [b] X.env)).all λx=> !x.fst) && (backToKw p (keywordEach [] X.env)).all λx=>x.fst.isSome) && decide (([b].length+([]:List Keyword).length+if ([]:List Keyword).isEmpty=true then 0 else 1) < 30))=true):=by rw[hs];rfl
 refine PE.imp (UL bH eO PySem.F.type_list_index (QW hu) (ha ρ) (zy (hb ρ) zO hs) hb1 e1 hz hs rfl) λσ H Q ⟨B,I,q⟩=>step I q λt v H1 _ s1 r1 I1 q1=> ?_;cases t with
 | lst ts=>
  cases r1 with
  | @lst l xs _ h r=>
   refine⟨.inl ⟨rfl,_,SqL.of h⟩,step I1 q1 λu v' H2 _ s2 r2 I2 q2=> ?_⟩;unfold z1a at q2;split at q2
   ·rename_i bs e;split at q2
    ·rename_i hm;exact⟨l,xs,ts,v',u,bs,rfl,rfl,s2 _ _ h,r.mono s2,r2,e,hm,ZB I2 q2 (.int _)⟩
    ·exact q2.elim
   ·exact q2.elim
 | _=>exact q1.elim
end
noncomputable def ZE:List T->Option (List Int)
 | []=>some []
 | .int i :: r=>match ZE r with | some l=>some (i :: l) | none=>none
 | _ :: _=>none
def xQ:T->R T
 | .lst ts=>match ZE ts with | some l=> .ok (.int l.sum) | none=> .bad
 | _=> .bad
def GL (fi:En->R (List T))(g:T->En->R En)(ft:En->R Bool)(fe:En->R T)(k:Nat)(js:List Nat):En->RS:=λρ=>(fi (frz ρ)).s λts=>(zH g ft fe k js (frz ρ) ts).s λvs=> .rf vs
def yq:En->RS:=λ_=> .bad
theorem z1b {X:Cx}{Y:Fx}{st:Stmt}:jm X Y st yq:= .mk λρ=>λpins s σ H D I ⟨B,J,q⟩=>q.elim
theorem uu:∀{H:Hp} {xs:List V} {ts:List T} {its:List Value} {is:List Int},zE H xs ts->zT xs its->ZE ts=some is->∃ps:List (Int×Tok),its=ps.map (λp=>Value.int p.1 p.2)/\ps.map (·.1)=is
 | _,_,_,_,is,.nil,.nil,h=>by
  have h' :=h;cases h';exact⟨[],rfl,rfl⟩
 | H,_,_,_,is,.cons r rs,.cons rv vs,h=>by
  cases r with
  | int i=>
   unfold ZE at h;split at h
   ·rename_i l e;cases h;obtain⟨ps,h1,h2⟩:=uu rs vs e;obtain⟨tk,rfl⟩:=rv;exact⟨(i,tk) :: ps,by rw[h1];rfl,by rw[aI,h2]⟩
   ·cases h
  | _=>cases h
section
variable {X:Cx}{Y:Fx}{a b:Expr}{fa fb:En->R T}{pos p p' pos' :Pos}
theorem Ys (hh:X.A.handled=none):Zt X (.builtin "sum") (λvs H Q=>∃l xs ts is,vs=[.ref l]/\H l=some (.lst xs)/\zE H xs ts/\ZE ts=some is/\Q (.int is.sum) H):=by
 intro pins s σ H vs us Q I rv h;obtain⟨l,xs,ts,is,rfl,hl,r,hk,q⟩:=h;obtain⟨u,rfl,ru⟩:=ZP rv;obtain rfl:u=Value.ref l:=ru;obtain⟨its,rv,p,_⟩:=zU I (.inl hl) r;obtain⟨ps,h1,h2⟩:=uu r rv hk;have e:its.toArray=intItems ps.toArray:=by rw[h1];simp[intItems]
 rw[e]at p;refine sum_intListG hh p λh' tk t' kp=> ?_;have e2:preSum (numAt ps.toArray) ps.toArray.size=is.sum:=by
  rw[preSum_eq,eZ (by simp),← h2]
 rw[e2];exact⟨.int _,H,I.kept kp,⟨t',rfl⟩,q⟩
theorem z1c (hh:X.A.handled=none)(gl:Gl X "sum")(mg:X.mg "sum"=none)(ha:ZZ X Y a fa)(hs:St1 X a:=by exact st1 rfl):Snd X Y (.Call (.Name "sum" p) [a] [] pos) (ap1 xQ fa):=
 Wz (Ys hh) (λv t B H Q r sB q=>by
  cases r with
  | @lst l xs ts h r=>
   have q:Po Y rC B H (match ZE ts with | some k=> .ok _ | none=> .bad) Q:=q
   split at q
   ·rename_i k e;exact⟨l,xs,ts,k,rfl,h,r,e,po0 sB q rfl (.int _)⟩
   ·exact q.elim
  | _=>exact q.elim) gl mg boot_sum ha hs
end
section
variable {X:Cx}{Y:Fx}{tg iter elt:Expr}{ifs:List Expr}{scope:Scope}{pos pos' :Pos}{N' :List Str}{k:Nat}{js:List Nat}{fi:En->R (List T)}{tG:TG}{g:T->En->R En}{ft:En->R Bool}{fe:En->R T}
theorem Kr (C:wq X Y tg iter elt ifs scope N' k js fi tG g ft fe):jm X Y (.Return (some (.ListComp elt [⟨tg,iter,ifs,0⟩] scope pos)) pos') (GL fi g ft fe k js):= .mk λρ=>by
 have pe:PE X (.ListComp elt [⟨tg,iter,ifs,0⟩] scope pos) (λσ H Q=>∃B,SI Y B (frz ρ) σ H/\PoS Y B ((fi (frz ρ)).s λts=>(zH g ft fe k js (frz ρ) ts).s λvs=> .rf vs) { nx:=λ_ _=>False,rt:=Q }):=by
  intro pins s σ H Q I ⟨B,J,q⟩;refine wQ (jR rfl) (F:=λD H' =>Q (.ref D) H') (te:=λσ H Q=>∃Y' ρ',Y'.cl=Y.cl/\(Y'.E=λ_ _ _=>False)/\tS Y' rC fe ρ' σ H Q) (tt:=λσ H Q=>∃Y' ρ',Y'.cl=Y.cl/\tS Y' rE ft ρ' σ H Q) C.sc C.cp C.cm (C.it (frz ρ)) C.gt
   (λcl Cx' s3 H3 fp pins pins' s σ H Q I ⟨Y',ρ',ey,q⟩=>C.tt Y' ey cl Cx' s3 H3 fp _ ρ' _ s σ H Q I q) (λcl Cx' s3 H3 fp pins xe hp pins' s σ H Q I ⟨Y',ρ',ey,eE,q⟩=>C.el Y' ey cl Cx' s3 H3 fp _ xe (eE ▸ hp) ρ' _ s σ H Q I q) I ?_ ?_ C.hs
  ·refine j7 J q λts it' H1 _ s1 r1 J1 q1=> ?_;intro D hD;unfold zH at q1;split at q1
   ·rename_i hl;cases ev:zQ g ft fe ts _ with
    | bad=>rw[ev]at q1;exact q1.elim
    | ex c=>rw[ev]at q1;exact q1.elim
    | ok vs=>
     rw[ev]at q1;refine JB C.gk C.gn J1 r1 hl ev hD λH' xs B' s' e' r' l' b' sb' => ?_;exact(show PoS Y _ _ _ from q1) D xs H' B' (J1.sH.trans s') (J1.sH.free hD) e' r' b' (l'.trans (vX J1.sH J1.old s' J1.sB))
   ·exact q1.elim
  ·intro D Cc H' s' I' q' hC h0 hL hcell hpin hns;obtain⟨m,hm⟩:=hns;refine⟨m,hm,λh' hsb=>⟨.ref D,H', ?_,rfl,q'⟩⟩;exact I'.turned (λb o hb e=>hsb.extBut b o hb e) hC (aZ hL).symm (.inr h0) hcell hpin
 refine PS.imp (wg pe) λD σ H ⟨B,I,q⟩=>⟨_,I.frz, ?_⟩;have q:=PoS.up I.up q;unfold GL at q;revert q;cases fi _ with
 | bad=>exact λq=>q
 | ex c=>exact λq=>q
 | ok ts=>
  show PoS Y _ ((zH g ft fe k js _ ts).s λvs=> .rf vs) D->PoS Y _ ((zH g ft fe k js _ ts).s λvs=> .rf vs) _;cases zH g ft fe k js _ ts with
  | bad=>exact λq=>q
  | ex c=>exact λq=>q
  | ok vs=>exact λq=>q
end
end PV
namespace PySem.RV
open PySem PySem.Spec PyProof.Rows PySem.Builtin.SmallTypes
theorem U0:Manifest.owners.lookup (String.ofList "desrever".toList.reverse)=some Manifest.sig_reversed:=by kernel_rfl
theorem j8:Slot "reversed" "__next__" "reversed.__next__":=
 .of (owner:="reversed") (n:="__next__") (by kernel_rfl) (by decide+kernel) (by decide+kernel) (by decide+kernel)
  (by first | exact .inl (by decide+kernel) | exact .inr (by decide+kernel)) (by kernel_rfl)
theorem wu:entryFor table "reversed.__next__"=some Builtin.«reversed.__next__»:=entryFor_of_tree (by kernel_rfl)
theorem WG (a:Value):argsOk "reversed.__next__" ⟨[a],[]⟩:=by
 unfold argsOk;rw[signature?_of (n:="__txen__".toList) (by kernel_rfl) U0];kernel_rfl
theorem WH:Slot "reversed" "__iter__" "reversed.__iter__":=
 .of (owner:="reversed") (n:="__iter__") (by kernel_rfl) (by decide+kernel) (by decide+kernel) (by decide+kernel)
  (by first | exact .inl (by decide+kernel) | exact .inr (by decide+kernel)) (by kernel_rfl)
theorem Yt (a:Value):argsOk "reversed.__iter__" ⟨[a],[]⟩:=by
 unfold argsOk;rw[signature?_of (n:="__reti__".toList) (by kernel_rfl) U0];kernel_rfl
theorem UV:entryFor table "reversed.__iter__"=some Builtin.«dict_keyiterator.__iter__»:=
 entryFor_alias (id' :="dict_keyiterator.__iter__") (by kernel_rfl) (by first | rfl | decide+kernel | (unfold String.splitOn;simp+decide [String.splitOnAux])) (by decide+kernel) (by kernel_rfl)
theorem Ks:typeLookup (.type "tuple") "__reversed__"=pure none:=by rw[typeLookup_type,builtinLookup_eq_fast];kernel_rfl
theorem Kt:isSubtype (.type "tuple") (.type "dict")=pure false:=by rw[isSubtype_type];kernel_rfl
noncomputable abbrev IsRv (h:Heap)(it:Addr)(v:Value)(i:Int):Prop:=h.get? it=some { cls:= .type "reversed",data:= .fields #[v,rawInt i] }
section
variable {prog:Program}{w:World}{A:Around}{E:Value->Shared->Prop}{s:Shared}{it l:Addr}{xs:Array Value}
theorem uv {v:Value}{i:Int}(x:IsRv s.heap it v i):s.TypeIs (.ref it) "reversed":=⟨_,x,rfl⟩
theorem next_item {i:Nat}{x:Value}{Q:Option Value->Shared->Prop}(hit:IsRv s.heap it (.ref l) (i:Int))(ht:IsTup s.heap l xs)(hf:(xs.size:Int) < 2 ^ 63)(hx:xs[i]? =some x)
  (hQ:∀h' tk,IsRv h' it (.ref l) ((i:Int) - 1)->bZ it s.heap h' ->Q (some x) { s with heap:=h',toks:=tk }):wpAny (model prog w) A (pyNext (.ref it)) Q E s:=by
 refine a7 (cC (bw (uv hit) j8 (bN j8 (uv hit) wu ?_ (WG _))));refine a7 (ck rfl ?_);refine a7 (bg hit rfl rfl ?_);refine a7 (bg hit rfl rfl ?_);have hi:=(Array.getElem?_eq_some_iff.mp hx).1;have hT:=ht.typeIs;refine a7 (wpAny_specialOf hT slot_tuple_getitem.lookup ?_);refine a7 (wpAny_mkInt ?_);refine a7 (cC (getItem_tuple ht (by omega) (by omega) (seqIndex_of (by omega) (by omega)) (by simpa using hx) ?_))
 refine a7 (bg hit rfl rfl ?_);refine a7 (bz hit (by simp) λg1 z1 e1=> ?_)
 exact ao ⟨x,rfl,ao (hQ g1 _ z1 e1)⟩
theorem next_end {Q:Option Value->Shared->Prop}(hh:A.handled=none)(hit:IsRv s.heap it (.ref l) (-1))
  (hQ:∀h',fu it s.heap h' ->Q none { s with heap:=h' }):wpAny (model prog w) A (pyNext (.ref it)) Q E s:=by
 refine a7 (cC (bw (uv hit) j8 (bN j8 (uv hit) wu ?_ (WG _))));refine a7 (ck rfl ?_);refine a7 (bg hit rfl rfl ?_);refine a7 (bg hit rfl rfl ?_);refine a7 (dF ?_);refine a7 (show wpAny _ _ _ _ _ _ from ?_);refine a7 (bz hit (by simp) λg1 z1 e1=> ?_)
 refine bz z1 (by simp) λg2 z2 e2=> ?_
 refine a7 (show wpAny _ _ (newExc _ [] >>= λe=>raiseNew e) _ _ _ from ?_);refine a7 ?_;refine a7 (bq (a7 (ck (by first | rfl | (simp only[firstArgMember])) (bq ?_ (by size_fits)))) (by size_fits))
 refine a7 (wpAny_handled ?_);rw[hh];refine a7 (ao (wpAny_throw ?_));refine a7 (wpAny_isInstance ⟨_,af _ rfl,rfl⟩ isSubtype_stop ?_);exact ao (hQ _ (((e1.extBut.trans e2.extBut).push _).push _))
theorem iter_rv {v:Value}{i:Int}{Q:Value->Shared->Prop}(hit:IsRv s.heap it v i)(h:Q (.ref it) s):wpAny (model prog w) A (pyIter (.ref it)) Q E s:=by
 refine wpAny_pyIter_slot (uv hit) WH (bN WH (uv hit) UV ?_ (Yt _));exact ao ⟨_,rfl,"reversed",_,uv hit,j8.lookup,h⟩
theorem V9:mroOf (.type "reversed")=pure [.type "reversed",.type "object"]:=by rw[mroOf_type];kernel_rfl
theorem Ku:typeLookup (.type "reversed") "__new__"=pure (some (.builtin "reversed.__new__")):=by kernel_rfl
theorem xR:Bind.madeBy (.type "reversed")=pure (some "reversed.__new__"):=madeBy_type V9 Ku (by decide+kernel)
theorem Kv:isSubtype (.type "reversed") (.type "reversed")=pure true:=by rw[isSubtype_type];kernel_rfl
theorem Kw (a:Value):newClass "reversed" ⟨[.type "reversed",a],[]⟩=pure (.type "reversed",[a]):=by
 unfold newClass;simp only[isType,Kv,pure_bind,eA,aW,if_false]
theorem Yu:entryFor table "reversed.__new__"=some Builtin.«reversed.__new__»:=entryFor_of_tree (by kernel_rfl)
theorem QX {Q:Fin->Shared->Prop}(ht:IsTup s.heap l xs)(hf:(xs.size:Int) < 2 ^ 63)
  (h:∀tk,Q (.done (.ret (.ref s.heap.objs.size))) { s with heap:=s.heap.push { cls:= .type "reversed",data:= .fields #[.ref l,rawInt ((xs.size:Int) - 1)] },toks:=tk }):
  wpAny (model prog w) A (Builtin.«reversed.__new__» ⟨[.type "reversed",.ref l],[]⟩) Q E s:=by
 have hT:=ht.typeIs;refine a7 (ck (Kw _) ?_);refine a7 (ck (by first | rfl | kernel_rfl) ?_)
 refine a7 (ck (by first | rfl | kernel_rfl) ?_)
 refine a7 (wpAny_specialOf hT Ks ?_);refine a7 ?_;refine a7 (wpAny_isInstance hT Kt ?_);refine a7 (wpAny_specialOf hT slot_tuple_getitem.lookup ?_);refine ao ?_;refine a7 (len_tuple ht hf ?_);refine a7 (ck rfl ?_);refine a7 (show wpAny _ _ (newObj _ (.fields #[.ref l,rawInt _])) _ _ _ from ?_);exact bq (ao (h _)) (by size_fits)
theorem Yv:Slot "reversed" "__init__" "object.__init__":=
 .of (owner:="object") (n:="__init__") (by kernel_rfl) (by decide+kernel) (by decide+kernel) (by decide+kernel)
  (by first | exact .inl (by decide+kernel) | exact .inr (by decide+kernel)) (by kernel_rfl)
theorem Yw:TypeCalled "reversed" "reversed.__new__" "object.__init__":=
 ⟨by decide+kernel,by decide+kernel,⟨_,_,V9⟩,xR,by decide+kernel,by kernel_rfl,Yv⟩
theorem QY (a:Value):checkTypeCall "reversed" ⟨[a],[]⟩=pure ():=by kernel_rfl
theorem QZ (a:Value):checkBuiltinCall "reversed.__new__" ⟨[.type "reversed",a],[]⟩=pure ():=by kernel_rfl
theorem call_rvT (ht:IsTup s.heap l xs)(hf:(xs.size:Int) < 2 ^ 63)
  (h:∀tk,Q (.ref s.heap.objs.size) { s with heap:=s.heap.push { cls:= .type "reversed",data:= .fields #[.ref l,rawInt ((xs.size:Int) - 1)] },toks:=tk }):wpAny (model prog w) A (call (.type "reversed") [.ref l]) Q E s:=by
 refine callType_new (S:=λ_ R s=>(∃xs,IsTup s.heap l xs/\(xs.size:Int) < 2 ^ 63/\∀tk,R (.ok (.ret (.ref s.heap.objs.size))) { s with heap:=s.heap.push { cls:= .type "reversed",data:= .fields #[.ref l,rawInt ((xs.size) - 1)] },toks:=tk })) Yw (by decide) (QY _) (QZ _) (λobj=>PySem.F.args_object_init_2 obj _) Yu (.of_wp λprog w A R s h=> ?_) ⟨xs,ht,hf,λtk=> ?_⟩
 ·obtain⟨xs,h1,h2,h3⟩:=h;exact QX h1 h2 λtk=>⟨_,rfl,h3 tk⟩
 ·exact⟨⟨_,af _ rfl,rfl⟩,h tk⟩
end
end PySem.RV
namespace PySem.RV
open PySem PySem.Spec PyProof.Rows
theorem v6:typeLookup (.type "list_reverseiterator") "__len__"=pure none:=by rw[typeLookup_type,builtinLookup_eq_fast];kernel_rfl
theorem xS:typeLookup (.type "list_reverseiterator") "__length_hint__"=pure (some (.builtin "list_reverseiterator.__length_hint__")):=by rw[typeLookup_type];kernel_rfl
section
variable {G:Array GenState->Array GenState->Prop}{P:Nat->Value->Prop}{St:Nat->Shared->Prop}
theorem UW {Q:List Value->Shared->Prop}(W:WalksS prog w A.in1 I fp wr G n P St)(hT:∀i s,St i s->s.TypeIs (.ref I) "list_reverseiterator")(hst:St 0 s)(hfp:∀b∈fp,b < s.heap.objs.size)(hI:I∈fp)
  (hQ:∀s' acc,Moved wr G s s' ->ItemsOf P acc n->Q acc.toList s') (hn:n<=sizeLine):wpAny (model prog w) A (collect (.ref I)) Q E s:=by
 have nf:=λz=>bF _ (hfp _ z);have nI:s.heap.objs.size ≠ I:=λz=>nf (z ▸ hI);unfold collect;refine a7 (wpAny_runValue (bX F.entry_proto_collect ?_));refine a7 (bq (ao ⟨plainId_quiet F.plain_list_iadd _,bX F.entry_list_iadd ?_⟩));have g0:=W.frame 0 s (s.heap.push { cls:= .type "list",data:= .seq ([]:List _).toArray }) _ hst (ai _) λb _ o e=>a9 _ e;have g1:(s.heap.push { cls:= .type "list",data:= .seq ([]:List _).toArray }).get? _=some _:=af _ rfl;have g2:eB (.ref s.heap.objs.size) (.ref I)=false:=by simp[eB,nI]
 refine(show wpAny _ _ (Builtin.List.listExtendWith _ _ _) _ _ _ from ?_);refine a7 (wpAny_typeOf (hT 0 _ g0) ?_);rw[if_neg (by rw[g2];decide)]
 refine a7 (W.self 0 _ _ _ g0 (a7 (cB ?_)));refine a7 (wpAny_specialOf (hT 0 _ g0) v6 ?_);refine a7 (wpAny_specialOf (hT 0 _ g0) xS ?_);generalize hid:("list_reverseiterator.__length_hint__")=id0;subst hid;refine a7 (wpAny_isInstance (b:=true) (hT 0 _ g0) (by kernel_rfl) ?_)
 refine ao ?_;refine ao ⟨plainId_quiet F.plain_extend_loop _,codeAny_extend_loopS W hn _ nf _ n 0 _ _ _ rfl (bu _) g0 g1 (ItemsOf.nil P) λs' acc' c' hm hS' hacc=> ?_⟩;exact a7 (wpAny_load hS' (ao (hQ s' _ (Moved.drop_new hm (ai _)) hacc)))
theorem Kx (W:WalksS prog w A.in1.in1 I fp wr G n P St)(hT:∀i s,St i s->s.TypeIs (.ref I) "list_reverseiterator")(hst:St 0 s)(hfp:∀b∈fp,b < s.heap.objs.size)(hI:I∈fp)
  (h:∀s' acc,Moved wr G s s' ->ItemsOf P acc n->Q₁ (.ref s'.heap.objs.size) { s' with heap:=s'.heap.push { cls:= .type "tuple",data:= .seq acc } }) (hsz:n<=sizeLine):
  codeAny (model prog w) A (.call (.builtin "tuple.__new__") ⟨[.type "tuple",.ref I],[]⟩) (wants Q₁ E) s:=by
 refine codeAny_of_tree ?_;refine(show wpAny _ A.in1 (do checkBuiltinCall "tuple.__new__" ⟨[.type "tuple",.ref I],[]⟩;again (.builtin "tuple.__new__" ⟨[.type "tuple",.ref I],[]⟩)) _ _ s from ?_)
 refine a7 (ck (F.newCall_tuple_1 _) (ao ⟨plainId_quiet f_ _,bX F.entry_tuple_new ?_⟩));rw[Around.under_plainId f_ _];have hsub:=sub_tuple_self;have hinit:=init_tuple_lookup;have hmh:=madeHere_tuple;have ty:=hT 0 s hst
 wp_walk using wpAny_typeOf ty,UW (hn:=hsz) W hT hst hfp hI
 intro s' acc hm hacc;have e:acc.toList.toArray=acc:=by simp
 refine(show wpAny _ _ (eC acc.toList.toArray >>= λv=>ret v) _ _ _ from ?_);unfold eC;refine a7 (bq (ao ?_) (by rw[e];show acc.size<=sizeLine;rw[hacc.1];exact hsz))
 rw[e];exact h s' acc hm hacc
theorem tuple_lr (W:WalksS prog w A.in1.in1.in1 I fp wr G n P St)(hT:∀i s,St i s->s.TypeIs (.ref I) "list_reverseiterator")(hst:St 0 s)(hfp:∀b∈fp,b < s.heap.objs.size)(hI:I∈fp)
  (hQ:∀s' acc,Moved wr G s s' ->ItemsOf P acc n->Q (.ref s'.heap.objs.size) { s' with heap:=s'.heap.push { cls:= .type "tuple",data:= .seq acc } }) (hsz:n<=sizeLine):
  wpAny (model prog w) A (call (.type "tuple") [.ref I]) Q E s:=
 callType_codes (Q₁:=λobj s₁=>s₁.TypeIs obj _/\Q obj _) fx (F.typeCall_tuple_1 _) F.entry_object_init
  (Kx (hsz:=hsz) W hT hst hfp hI λs' acc hm hacc=>⟨⟨_,af _ rfl,rfl⟩,hQ s' acc hm hacc⟩) λobj s₁ h₁=>
   ⟨h₁.1,fy obj _,object_init_meets fx.init.lookup fx.made (by decide) _ w _ _ _ ⟨h₁.1,rfl,h₁.2⟩⟩
end
end PySem.RV
namespace PV
open PySem PySem.Spec PyProof.Rows L2
def z1d (K:a8)(a:Addr)(n:Nat):It:=
 ⟨λi H=>∃xs x,SqT K H a xs/\xs.length=n/\xs.reverse[i]? =some x,λi H x H' =>H' =H/\∀xs,SqT K H a xs->xs.reverse[i]? =some x,λi H=>∃xs,SqT K H a xs/\xs.length=n/\n<=i⟩
def z1e (K:a8)(a:Addr)(n:Nat):It:=
 ⟨λi H=>∃xs x,SqL K H a xs/\xs.length=n/\xs.reverse[i]? =some x,λi H x H' =>H' =H/\∀xs,SqL K H a xs->xs.reverse[i]? =some x,λi H=>∃xs,SqL K H a xs/\xs.length=n/\n<=i⟩
theorem Va {α:Type}{xs:List α}{x:α}(h:xs.reverse[i]? =some x):i < xs.length/\xs[xs.length - 1 - i]? =some x:=by
 have hi:=(ar.mp h).1;rw[aR]at hi;rw[fj hi]at h;exact⟨hi,h⟩
theorem v7 {P:Program}{w:World}{K:a8}{tg:Expr}(a it:Addr)(n:Nat):yk P w K tg (z1d K a n) [it] it (λi h=>i<=n/\RV.IsRv h it (.ref a) ((n:Int) - 1 - (i:Int))) where
 mem:=by simp
 obj:=λi h st b hb=>by
  have e:b=it:=by simpa using hb
  subst e;exact⟨_,st.2,λv z=>nomatch z⟩
 keep:=λi h h' st k=>⟨st.1,k it (by simp) _ st.2⟩
 item:=by
  intro X hP hw hK hc i pins s σ H E I hf st hg;subst hP hw hK;obtain⟨xs,x,hq,hn,hx⟩:=hg;obtain⟨its,rv,p,hz⟩:=I.tuple hq;obtain⟨hi,hx'⟩:=Va hx;obtain⟨u,hu,ru⟩:=rv.get hx';obtain⟨f0,f1,f2,f3,f4,f5⟩:=hf it (by simp)
  have hl:=rv.length;have e:(n:Int) - 1 - (i:Int)=((xs.length - 1 - i:Nat):Int):=by omega
  have hit:=st.2;rw[e]at hit;have hb:(its.toArray.size:Int) < 2 ^ 63:=by
   rw[bT]at hz;simp;omega
  refine RV.next_item hit p hb (x:=u) (by simpa using hu) λh' tk st' sb=> ?_
  have I1:Inv X pins σ H { s with heap:=h',toks:=tk }:=I.turned (t' :=tk) (λb o hb e=>(sb.2 b hb).trans e) f0 f1 f3 f4 f5;have e2:((xs.length - 1 - i:Nat):Int) - 1=(n:Int) - 1 - ((i+1:Nat):Int):=by omega
  rw[e2]at st';exact⟨u,rfl,UA (s:={ s with heap:=h',toks:=tk }) st' rfl rfl (by decide) ⟨x,H,I1,ru,⟨rfl,λys hy=>by rw[I.tuple_inj hy hq];exact hx⟩,⟨by omega,st'⟩,λb hb=>(hf b hb).1⟩⟩
 done:=by
  intro X hP hw hK hc i pins s σ H E I hf st hg;subst hP hw hK;obtain⟨xs,hq,hn,hx⟩:=hg;obtain⟨f0,f1,f2,f3,f4,f5⟩:=hf it (by simp)
  have hit:=st.2;have h1:=st.1;rw[show (n:Int) - 1 - (i:Int)= -1 by omega]at hit
  exact RV.next_end (I.ok.hd hc) hit λh' eb=>⟨rfl,I.turned (t' :=s.toks) (λb o hb e=>eb b o hb e) f0 f1 f3 f4 f5⟩
 self:=λ_ _ _ _ _ st h=>RV.iter_rv st.2 h
theorem v8 {P:Program}{w:World}{K:a8}{tg:Expr}(a it:Addr)(n:Nat):yk P w K tg (z1e K a n) [it] it (λi h=>i<=n/\h.IsRevIter it a ((n:Int) - 1 - (i:Int))) where
 mem:=by simp
 obj:=λi h st b hb=>by
  have e:b=it:=by simpa using hb
  subst e;obtain⟨o,e,c,d⟩:=st.2;exact⟨o,e,λv z=>by rw[d]at z;cases z⟩
 keep:=λi h h' st k=>⟨st.1,st.2.at λo e=>k it (by simp) o e⟩
 item:=by
  intro X hP hw hK hc i pins s σ H E I hf st hg;subst hP hw hK;obtain⟨xs,x,hq,hn,hx⟩:=hg;obtain⟨its,rv,p,hz⟩:=I.list hq;obtain⟨hi,hx'⟩:=Va hx;obtain⟨u,hu,ru⟩:=rv.get hx';obtain⟨f0,f1,f2,f3,f4,f5⟩:=hf it (by simp)
  have e:(n:Int) - 1 - (i:Int)=((xs.length - 1 - i:Nat):Int):=by omega
  have hit:=st.2;rw[e]at hit;refine wpAny_pyNext_rev_item hit p.isList (x:=u) (by simpa using hu) λh' st' sb=> ?_
  have I1:Inv X pins σ H { s with heap:=h' }:=I.turned (t' :=s.toks) (λb o hb e=>(sb.2 b hb).trans e) f0 f1 f3 f4 f5;have e2:((xs.length - 1 - i:Nat):Int) - 1=(n:Int) - 1 - ((i+1:Nat):Int):=by omega
  rw[e2]at st';obtain⟨o,e,c,d⟩:=id st';exact⟨u,rfl,UA (s:={ s with heap:=h' }) e c d (by decide) ⟨x,H,I1,ru,⟨rfl,λys hy=>by rw[I.list_inj hy hq];exact hx⟩,⟨by omega,st'⟩,λb hb=>(hf b hb).1⟩⟩
 done:=by
  intro X hP hw hK hc i pins s σ H E I hf st hg;subst hP hw hK;obtain⟨xs,hq,hn,hx⟩:=hg;obtain⟨f0,f1,f2,f3,f4,f5⟩:=hf it (by simp)
  have hit:=st.2;have h1:=st.1;rw[show (n:Int) - 1 - (i:Int)= -1 by omega]at hit
  exact wpAny_pyNext_rev_end (I.ok.hd hc) hit λh' eb=>⟨rfl,I.turned (t' :=s.toks) (λb o hb e=>eb b o hb e) f0 f1 f3 f4 f5⟩
 self:=λ_ _ _ _ _ st h=>wpAny_pyIter_revIter st.2 h
theorem zE.rev {H:Hp}:∀{vs:List V} {ts:List T},zE H vs ts->zE H vs.reverse ts.reverse
 | _,_,.nil=> .nil
 | _,_,.cons r t=>by rw[aV,aV];exact(zE.rev t).append (.cons r .nil)
theorem Ky {K:a8}{B1 H1:Hp}{a:Addr}{xs:List V}{ts:List T}(h:B1 a=some (.tup xs))(r:zE B1 xs ts):rI B1 H1 (z1d K a xs.length) ts.reverse:=λB2 H2 s1 s2=>by
 have h2:=s2 _ _ (s1 _ _ h);have hr:=r.rev;refine⟨λi hi=> ?_,λi t x H3 e y=> ?_,λi hi=>⟨xs,SqT.of h2,rfl,by rw[aR]at hi;rw[r.length];exact hi⟩⟩
 ·obtain⟨v,e,_⟩:=hr.get (ah hi);exact⟨xs,v,SqT.of h2,rfl,e⟩
 ·obtain⟨rfl,y⟩:=y;obtain⟨v,e1,r1⟩:=hr.get e;have:=y xs (SqT.of h2);rw[e1]at this;cases this;refine⟨zu.refl _, ?_⟩;rw[zM.self B2 _ s2];exact r1.mono s1
theorem Kz {K:a8}{B1 H1:Hp}{a:Addr}{xs:List V}{ts:List T}(h:B1 a=some (.lst xs))(r:zE B1 xs ts):rI B1 H1 (z1e K a xs.length) ts.reverse:=λB2 H2 s1 s2=>by
 have h2:=s2 _ _ (s1 _ _ h);have hr:=r.rev;refine⟨λi hi=> ?_,λi t x H3 e y=> ?_,λi hi=>⟨xs,SqL.of h2,rfl,by rw[aR]at hi;rw[r.length];exact hi⟩⟩
 ·obtain⟨v,e,_⟩:=hr.get (ah hi);exact⟨xs,v,SqL.of h2,rfl,e⟩
 ·obtain⟨rfl,y⟩:=y;obtain⟨v,e1,r1⟩:=hr.get e;have:=y xs (SqL.of h2);rw[e1]at this;cases this;refine⟨zu.refl _, ?_⟩;rw[zM.self B2 _ s2];exact r1.mono s1
def z1f (fa:En->R T):En->R (List T):=λρ=>(fa ρ).bind λt=>(wV t).bind λxs=> .ok xs.reverse
def v9:T->R T
 | .lst xs=>if xs.length<=bnd then .ok (.tup xs.reverse) else .bad
 | _=> .bad
section
variable {X:Cx}{Y:Fx}{a b tg:Expr}{fa fb:En->R T}{pos p p' pos' :Pos}
theorem KA {ta:TA}(hg:Gl X "reversed")(hm:X.mg "reversed"=none)(ha:PA X [a] ta)(hs:St1 X a:=by exact st1 rfl):
  PI X tg (.Call (.Name "reversed" p) [a] [] pos) (λσ H R=>ta σ H λvs H1=>∃l xs,vs=[.ref l]/\((H1 l=some (.lst xs)/\R (z1e X.K l xs.length) H1)\/(H1 l=some (.tup xs)/\R (z1d X.K l xs.length) H1))):=by
 intro pins s σ H R I h;refine Call_ (j0 I hg hm boot_reversed (aU (thn (ha pos _ s σ H _ I h) λus s1 ⟨vs,H1,I1,r1,q1⟩=> ?_) hs rfl));obtain⟨l,xs,e,q⟩:=q1;subst e;obtain⟨u,rfl,ru⟩:=ZP r1;obtain rfl:u=Value.ref l:=ru;have ok:∀b∈[s1.heap.objs.size],Wh X _ H1 b:=λb hb=>by
  have e:=by simpa using hb
  subst e;exact I1.fpOk (ai _) (I1.hok.fresh (ai _))
 rcases q with ⟨hl,q⟩ | ⟨hl,q⟩
 ·obtain⟨its,rv,p,hz⟩:=I1.list (SqL.of hl);have e:((its.toArray.size):Int) - 1=(xs.length) - 1 - ((0):Int):=by have:=rv.length;simp;omega
  refine call_reversed_list p.isList ?_;rw[e];have st:(s1.heap.push (revObj l ((xs.length) - 1 - ((0):Int)))).IsRevIter _ l _:=⟨_,af _ rfl,rfl,rfl⟩;refine wpAny_pyIter_revIter st ?_;exact⟨s1.heap.objs.size,[s1.heap.objs.size],_,_,H1,rfl,I1.kept (λb o e=>a9 _ e),v8 l _ _,⟨bu _,st⟩,ok,q⟩
 ·obtain⟨its,rv,p,hz⟩:=I1.tuple (SqT.of hl);have hlen:=rv.length;have e:((its.toArray.size):Int) - 1=(xs.length) - 1 - ((0):Int):=by simp;omega
  refine RV.call_rvT p (by rw[bT]at hz;omega) λtk=> ?_
  rw[e];refine RV.iter_rv (af _ rfl) ?_;exact⟨s1.heap.objs.size,[s1.heap.objs.size],_,_,H1,rfl,I1.kept (λb o e=>a9 _ e),v7 l _ _,⟨bu _,af _ rfl⟩,ok,q⟩
theorem z1g (hg:Gl X "reversed")(hm:X.mg "reversed"=none)(ha:Snd X Y a fa)(hs:St1 X a:=by exact st1 rfl):uo X Y tg (.Call (.Name "reversed" p) [a] [] pos) (z1f fa):= .mk λρ=>
 PI.imp (KA hg hm (zy (ha ρ) zO hs) hs) λσ H R ⟨B,I,q⟩=>step I q λt v H1 _ s1 r1 I1 q1=>by
  cases r1 with
  | @tup l xs ts h r=>exact⟨l,xs,rfl,.inr ⟨I1.sB _ _ h,ZB I1 (show Po Y rI _ H1 _ R from q1) (Ky h r)⟩⟩
  | @lst l xs ts h r=>exact⟨l,xs,rfl,.inl ⟨I1.sB _ _ h,ZB I1 (show Po Y rI _ H1 _ R from q1) (Kz h r)⟩⟩
  | _=>exact q1.elim
theorem U1:∀{xs ys:List V} {us ws:List Value},zT xs us->zT ys ws->zT (xs++ys) (us++ws)
 | _,_,_,_,.nil,q=>q
 | _,_,_,_,.cons r t,q=> .cons r (U1 t q)
theorem U2:∀{xs:List V} {us:List Value},zT xs us->zT xs.reverse us.reverse
 | _,_,.nil=> .nil
 | _,_,.cons r t=>by rw[aV,aV];exact U1 (U2 t) (.cons r .nil)
theorem xT {its:List Value}{acc:Array Value}(h:ItemsOf (λi v=>its.toArray[its.toArray.size - 1 - i]? =some v) acc its.toArray.size):acc.toList=its.reverse:=by
 have h1:=by
  have:=h.1;simpa using this
 have h2:=h.2;refine dX λi=> ?_
 by_cases hi:i < its.length
 ·have hlt:i < acc.toList.length:=by simp;omega
  have e:=ah hlt;have:=h2 i _ (by rw[← fg];exact e)
  rw[fj hi,e,← this];simp
 ·rw[a_ (by simp;omega),a_ (by simp;omega)]
theorem KC (hh:X.A.handled=none)(gl:Gl X "tuple")(mg:X.mg "tuple"=none)(gl' :Gl X "reversed")(mg' :X.mg "reversed"=none)(ha:Snd X Y a fa)(hs:St1 X a:=by exact st1 rfl)(hs' :St1 X (.Call (.Name "reversed" p') [a] [] pos'):=by exact st1 rfl):
  Snd X Y (.Call (.Name "tuple" p) [.Call (.Name "reversed" p') [a] [] pos'] [] pos) (ap1 v9 fa):= .mk λρ=>by
 intro pins s σ H Q I ⟨B,J,q⟩;have hq:tS Y rC fa ρ σ H (λv H1=>∃l xs,v= .ref l/\H1 l=some (.lst xs)/\xs.length<=sizeLine/\∀t,H1 t=none->Q (.ref t) (upd H1 t (.tup xs.reverse))):=by
  refine step J q λt v H1 _ s1 r1 I1 q1=> ?_;cases r1 with
  | @lst l xs ts h r=>
   have q1:Po Y rC _ H1 (if ts.length<=bnd then .ok (.tup ts.reverse) else .bad) Q:=q1
   split at q1
   ·rename_i hb;exact⟨l,xs,rfl,I1.sB _ _ h,by rw[r.length];exact Zg hb,λt ht=>kJ I1.sB q1 rfl r.rev ht⟩
   ·exact q1.elim
  | _=>exact q1.elim
 refine bx (j0 I gl mg PyProof.Rows.Boot.«tuple» (aU (rest:=[]) ?_ hs' rfl));rw[hs'];refine dH (bx (j0 I gl' mg' boot_reversed (aU (e:=a) (rest:=[]) ?_ hs rfl)));refine thn ((zy (ha ρ) zO hs) pos' pins s σ H (λvs H1=>∃l xs,vs=[.ref l]/\H1 l=some (.lst xs)/\xs.length<=sizeLine/\∀t,H1 t=none->Q (.ref t) (upd H1 t (.tup xs.reverse))) I ?_) λus s1 ⟨vs,H1,I1,r1,l,xs,e,hl,hz,q1⟩=> ?_
 ·obtain⟨B',J',q'⟩:=hq;refine⟨B',J', ?_⟩;revert q';cases fa ρ with
  | bad=>exact λq' =>q'
  | ex c=>exact λq' =>q'
  | ok t=>
   intro q' v H1 s1 r1;obtain⟨l,xs,rfl,h⟩:=q' v H1 s1 r1;exact⟨l,xs,rfl,h⟩
 subst e;obtain⟨u,rfl,ru⟩:=ZP r1;obtain rfl:u=Value.ref l:=ru;obtain⟨its,rv,pl,_⟩:=I1.list (SqL.of hl);have hlt:=I1.hok.lt hl;refine call_reversed_list pl.isList (fW ?_);have e0:((its.toArray.size):Int) - 1 - ((0:Nat))=((its.toArray.size):Int) - 1:=by omega
 refine RV.tuple_lr (Walks.listRev (A:=X.A.in1.in1.in1) hh _ l (aC hlt) _).toS (λi s st=>st.2.1.typeIs) ⟨bu _,⟨_,af _ rfl,rfl,by rw[e0];rfl⟩,pl.isList.push _⟩ (λb hb=> ?_) (by simp) (λs' acc hm hacc=> ?_) (by rw[az,← rv.length];exact hz)
 ·have hb:=by simpa using hb
  rcases hb with rfl | rfl
  ·rw[bK];exact cL _
  ·rw[bK];exact cH hlt
 obtain⟨h',g',d',tk',os'⟩:=s';have e1:g' =s1.gens:=hm.gens;have e2:d' =s1.drawn:=hm.drawn;have e3:=hm.os;subst e1 e2 e3;have kp:∀b o,s1.heap.get? b=some o->h'.get? b=some o:=λb o e=>hm.heap b o (λz=>by
  have z:b=s1.heap.objs.size:=by simpa using z
  have:=aq e;rw[z]at this;exact bF _ this) (a9 _ e)
 have I2:=I1.kept (t' :=tk') kp;have ea:acc=its.reverse.toArray:=by rw[← xT hacc]
 rw[ea];refine⟨.ref h'.objs.size,upd H1 _ (.tup xs.reverse),I2.laid (λb u e=>a9 _ e) (ai _) ⟨by rw[aR];exact hz,its.reverse,U2 rv,⟨_,af _ rfl,rfl,_,rfl⟩,.inr ⟨_,af _ rfl,rfl⟩⟩,rfl,q1 _ (I2.hok.fresh (ai _))⟩
end
noncomputable def JZ:List T->Option Bool
 | []=>some false
 | .bl k :: r=>match JZ r with | some j=>some (k || j) | none=>none
 | _ :: _=>none
def z1h:T->R T
 | .lst ts=>match JZ ts with | some k=> .ok (.bl k) | none=> .bad
 | _=> .bad
theorem Yx:∀{H:Hp} {xs:List V} {ts:List T} {its:List Value} {k:Bool},zE H xs ts->zT xs its->JZ ts=some k->∃tr:Nat->Bool,(∀i v,its[i]? =some v->v=Value.bool (tr i))/\(ba its.length).any tr=k
 | _,_,_,_,k,.nil,.nil,h=>by
  have h' :=h;cases h';exact⟨λ_=>true,λi v e=>by simp at e,rfl⟩
 | H,_,_,_,k,.cons r rs,.cons (b:=u) rv vs,h=>by
  cases r with
  | bl b=>
   unfold JZ at h;split at h
   ·rename_i j e;cases h;obtain⟨tr,h1,h2⟩:=Yx rs vs e;obtain rfl:u=Value.bool b:=rv;refine⟨λi=>match i with | 0=>b | i+1=>tr i,λi v e=> ?_, ?_⟩
    ·cases i with
     | zero=>simp at e;exact e.symm
     | succ i=>exact h1 i v (by simpa using e)
    ·rw[ag,cq,fH,List.any_map,← h2];rfl
   ·cases h
  | _=>cases h
section
variable {X:Cx}{Y:Fx}{a b:Expr}{fa fb:En->R T}{pos p p' pos' pt:Pos}{elts:List Expr}{kk:Nat}
theorem Yy (hh:X.A.handled=none):Zt X (.builtin "any") (λvs H Q=>∃l xs ts k,vs=[.ref l]/\H l=some (.lst xs)/\zE H xs ts/\JZ ts=some k/\Q (.bl k) H):=by
 intro pins s σ H vs us Q I rv h;obtain⟨l,xs,ts,k,rfl,hl,r,hk,q⟩:=h;obtain⟨u,rfl,ru⟩:=ZP rv;obtain rfl:u=Value.ref l:=ru;obtain⟨its,rv,p,_⟩:=zU I (.inl hl) r;obtain⟨tr,h1,h2⟩:=Yx r rv hk;refine call_any_walk (c8 p ?_);have hlt:=I.hok.lt hl;have old:∀b o,s.heap.get? b=some o->(s.heap.push { cls:= .type "list_iterator",data:= .fields #[.ref l,.int 0 0] }).get? b=some o:=λb o e=>a9 _ e;refine⟨s.heap.objs.size,_,_,_,_,_,tr,rfl,iF (A:=X.A.in1) hh _ l (aC hlt) its.toArray, ?_, ?_,λh' tk hk' => ?_⟩
 ·refine⟨?_,p.at λo e=>old _ o e⟩;exact⟨_,af _ rfl,rfl,rfl⟩
 ·intro i v s' Q' E' hi hq;rw[h1 i v (by simpa using hi)]
  exact bc hq
 ·rw[az,h2];refine⟨.bl k,H,I.kept (λb o e=>hk' b o ?_ (old b o e)),rfl,q⟩;simp;exact aC (aq e)
theorem z1i (hh:X.A.handled=none)(gl:Gl X "any")(mg:X.mg "any"=none)(ha:ZZ X Y a fa)(hs:St1 X a:=by exact st1 rfl):Snd X Y (.Call (.Name "any" p) [a] [] pos) (ap1 z1h fa):=
 Wz (Yy hh) (λv t B H Q r sB q=>by
  cases r with
  | @lst l xs ts h r=>
   have q:Po Y rC B H (match JZ ts with | some k=> .ok _ | none=> .bad) Q:=q
   split at q
   ·rename_i k e;exact⟨l,xs,ts,k,rfl,h,r,e,po0 sB q rfl (.bl k)⟩
   ·exact q.elim
  | _=>exact q.elim) gl mg PyProof.Rows.Boot.«any» ha hs
end
noncomputable def U3 (x:Int):List Int->List Int
 | []=>[x]
 | y :: ys=>if x<=y then x :: y :: ys else y :: U3 x ys
def Yz:List Int->List Int
 | []=>[]
 | x :: xs=>U3 x (Yz xs)
def va:T->R T
 | .lst ts=>match ZE ts with | some l=>if ts.length < 64 then .ok (.lst ((Yz l).map T.int)) else .bad | none=> .bad
 | _=> .bad
theorem JE (x:Int):∀ys:List Int,(U3 x ys).Perm (x :: ys)
 | []=> .refl _
 | y :: ys=>by
  unfold U3;split
  ·exact .refl _
  ·exact((JE x ys).cons y).trans (.swap x y ys)
theorem WI:∀xs:List Int,(Yz xs).Perm xs
 | []=> .refl _
 | x :: xs=>(JE x _).trans ((WI xs).cons x)
theorem JF (x:Int):∀ys:List Int,ys.Pairwise (·<=·)->(U3 x ys).Pairwise (·<=·)
 | [],_=>by unfold U3;simp
 | y :: ys,h=>by
  unfold U3;rw[cz]at h;split
  ·rename_i hx;refine cz.mpr ⟨λz hz=> ?_,cz.mpr h⟩;rcases ak.mp hz with rfl | hz
   ·exact hx
   ·exact Int.le_trans hx (h.1 z hz)
  ·refine cz.mpr ⟨λz hz=> ?_,JF x ys h.2⟩;rcases ak.mp ((JE x ys).mem_iff.mp hz) with rfl | hz
   ·omega
   ·exact h.1 z hz
theorem JG:∀xs:List Int,(Yz xs).Pairwise (·<=·)
 | []=> .nil
 | x :: xs=>JF x _ (JG xs)
theorem WJ:∀(xs ys:List Int),xs.Perm ys->xs.Pairwise (·<=·)->ys.Pairwise (·<=·)->xs=ys
 | [],ys,p,_,_=>(List.nil_perm.mp p).symm
 | x :: xs,[],p,_,_=>by cases List.perm_nil.mp p
 | x :: xs,y :: ys,p,h1,h2=>by
  rw[cz]at h1 h2;have e:x=y:=by
   have a1:x<=y:=by
    rcases ak.mp (p.mem_iff.mpr (am)) with z | z
    ·omega
    ·exact h1.1 y z
   have a2:y<=x:=by
    rcases ak.mp (p.mem_iff.mp (am)) with z | z
    ·omega
    ·exact h2.1 x z
   omega
  subst e;rw[WJ xs ys (List.Perm.cons_inv p) h1.2 h2.2]
theorem jD:∀{its:List Value} {ns:List Int},IntsAre its ns->zT (ns.map V.int) its:=by
 intro its ns h
 induction h with
 | nil=>exact .nil
 | cons n t _ ih=>exact .cons ⟨_,rfl⟩ ih
theorem U4:∀(ps:List (Int×Tok)),IntsAre (ps.map λp=>Value.int p.1 p.2) (ps.map (·.1))
 | []=> .nil
 | p :: ps=> .cons _ _ (U4 ps)
theorem WK:∀ns:List Int,zE H (ns.map V.int) (ns.map T.int)
 | []=> .nil
 | n :: ns=> .cons (.int n) (WK ns)
section
theorem UX:Zt X (.builtin "sorted") (λvs H Q=>∃l xs ts is,vs=[.ref l]/\H l=some (.lst xs)/\zE H xs ts/\ZE ts=some is/\ts.length < 64/\∀r,H r=none->Q (.ref r) (upd H r (.lst ((Yz is).map V.int)))):=by
 intro pins s σ H vs us Q I rv h;obtain⟨l,xs,ts,is,rfl,hl,r,hk,h64,q⟩:=h;obtain⟨u,rfl,ru⟩:=ZP rv;obtain rfl:u=Value.ref l:=ru;obtain⟨its,rv,p,hlen,_⟩:=zU I (.inl hl) r;obtain⟨ps,h1,h2⟩:=uu r rv hk;refine sorted_ints p (h1 ▸ U4 ps) (by omega) λout ns' a1 a2 a3=> ?_
 have e:=WJ _ _ (a2.trans (by rw[h2];exact(WI is).symm)) a3 (JG is)
 obtain⟨n,he⟩:=sortedAll_at _ its out;have hle:s.heap.objs.size<=s.heap.objs.size+1:=du _;refine⟨.ref _,upd H _ _,I.laid (λb u e=>sortedAll_old e) hle ?_,rfl,by have:=q _ (I.hok.fresh hle);rw[← e]at this;exact this⟩
 have hl2:ns'.length=ts.length:=by
  have h3:=a2.length_eq;rw[aa]at h3;have h4:its.length=ps.length:=by rw[h1,aa]
  omega
 exact⟨by rw[aa,bT];omega,out.toList,n,jD a1,he⟩
theorem KD (gl:Gl X "sorted")(mg:X.mg "sorted"=none)(ha:ZZ X Y a fa)(hs:St1 X a:=by exact st1 rfl):Snd X Y (.Call (.Name "sorted" p) [a] [] pos) (ap1 va fa):=
 Wz UX (λv t B H Q r sB q=>by
  cases r with
  | @lst l xs ts h r=>
   have q:Po Y rC B H (match ZE ts with | some l=>if ts.length < 64 then .ok _ else .bad | none=> .bad) Q:=q
   split at q
   ·rename_i is e;split at q
    ·rename_i h64;refine⟨l,xs,ts,is,rfl,h,r,e,h64,λz hz=> ?_⟩;exact q _ _ (zu.new hz _) (.lst (j5 hz _) (WK _))
    ·exact q.elim
   ·exact q.elim
  | _=>exact q.elim) gl mg PyProof.Rows.Boot.«sorted» ha hs
end
end PV
namespace PySem.RV
open PySem PySem.Spec PyProof.Rows PySem.Builtin.SmallTypes
theorem draws_tup (hh:A.handled=none)(it l:Addr)(hne:l ≠ it)(items:Array Value):Draws prog w A it [it,l] items.size (λi v=>items[i]? =some v) (λi h=>h.IsTupleIter it l i/\h.IsTuple l items) where
 live:=λi h st=>(ZG.nx_tup hne items).there st it (.head _)
 frame:=λi h h' st hk=>(ZG.nx_tup hne items).keep st hk
 item:=λi s Q E hi st hQ=>ZG.tup_item st.1 st.2 (x:=items[i]) (by simp[hi]) λh' a b=>hQ _ h' s.toks (by simp[hi]) ⟨a,st.2.extBut b.extBut hne⟩ b
 done:=λs Q E st hE=>ZG.tup_stop hh st.1 st.2 (by simp) hE
noncomputable abbrev eOb (i:Addr):Obj:={ cls:= .type "enumerate",data:= .fields #[.none,.bool false,.ref i,rawInt 0,.none,.none] }
theorem YA (l:Addr)(items:Array Value)(n:Nat)(dct:Option Addr)(sl:Array (Option Value)):
  Meets (Builtin.«enumerate.__new__» ⟨[.type "enumerate",.ref l],[]⟩) (λ_ R s=>s.heap.get? l=some { cls:= .type "tuple",dict:=dct,data:= .seq items n,slots:=sl }/\
   R (.ok (.ret (.ref (s.heap.push (ZG.oT l)).objs.size))) { s with heap:=(s.heap.push (ZG.oT l)).push (eOb s.heap.objs.size) }):=
 .of_wp λprog w A R s h=>by
  obtain⟨hp,g,d,tk,os⟩:=s;obtain⟨hl,h⟩:=h;have hsub:=sub_enumerate;have hL:Heap.IsTuple (ip ⟨hp,g,d,tk,os⟩) l items:=⟨_,hl,rfl,n,rfl⟩
  wp_walk using cf hl
  refine wpAny_stack_any λst=>ao ?_;split
  ·rename_i c _ _ _ _ _;cases (c == Value.type "enumerate") <;> (wp_walk using cf hl,wpAny_pyIter_tuple hL;exact⟨_,rfl,h⟩)
  ·wp_walk using cf hl,wpAny_pyIter_tuple hL
   exact⟨_,rfl,h⟩
theorem enum_callT (hL:s.heap.IsTuple l items)
  (h:∀h',IsEnum h' (s.heap.objs.size+1) s.heap.objs.size 0 .none->h'.IsTupleIter s.heap.objs.size l 0->(∀b o,s.heap.get? b=some o->h'.get? b=some o)->Q (.ref (s.heap.objs.size+1)) { s with heap:=h' }):
  wpAny (model prog w) A (call (.type "enumerate") [.ref l]) Q E s:=by
 obtain⟨⟨c,dct,dt,sl⟩,hl,hc,n,hd⟩:=hL;obtain rfl:c= .type _:=hc;obtain rfl:dt= .seq _ n:=hd;refine callType_new F.called_enumerate (by decide) (F.typeCall_enumerate_1 _) (F.newCall_enumerate_1 _) (λobj=>fy obj _) F.entry_enumerate_new (YA l _ n dct sl) ⟨hl, ?_⟩
 have hz:(s.heap.push (ZG.oT l)).objs.size=s.heap.objs.size+1:=bK ..;have e1:((s.heap.push (ZG.oT l)).push (eOb s.heap.objs.size)).get? _=some _:=af _ rfl;rw[hz]at e1;rw[hz];exact⟨⟨_,e1,rfl⟩,h _ e1 ⟨_,a9 _ (af _ rfl),rfl,rfl⟩ λb o x=>a9 _ (a9 _ x)⟩
end PySem.RV
namespace PV
open PySem PySem.Spec PyProof.Rows L2
def z1j (K:a8)(l:Addr)(n:Nat):It:=
 ⟨λi H=>∃xs x,SqT K H l xs/\xs.length=n/\xs[i]? =some x,λi H v H' =>∃p x,H p=none/\v= .ref p/\(∀xs,SqT K H l xs->xs[i]? =some x)/\H' =upd H p (.tup [.int i,x]),λi H=>∃xs,SqT K H l xs/\xs.length=n/\n<=i⟩
theorem UY {P:Program}{w:World}{K:a8}{elts:List Expr}{kk:Nat}{pt:Pos}(e it l:Addr)(n:Nat)(hei:e ≠ it)(hle:l ≠ e)(hli:l ≠ it):
  yk P w K (.Tuple elts kk pt) (z1j K l n) [e,it] e (λi h=>i<=n/\(∃old,IsEnum h e it i old)/\h.IsTupleIter it l i) where
 mem:=by simp
 obj:=λi h st b hb=>by
  obtain⟨_,⟨old,he⟩,o,e1,c,d⟩:=st;rcases ak.mp hb with rfl | hb
  ·exact⟨_,he,λv z=>nomatch z⟩
  ·have z:b=it:=by simpa using hb
   subst z;exact⟨o,e1,λv z=>by rw[d]at z;cases z⟩
 keep:=λi h h' st k=>by
  obtain⟨hn,⟨old,he⟩,o,e1,r⟩:=st;exact⟨hn,⟨old,k e (by simp) _ he⟩,o,k it (by simp) o e1,r⟩
 item:=by
  intro X hP hw hK hc i pins s σ H E I hf st hg;subst hP hw hK;obtain⟨xs,x,hq,hxn,hx⟩:=hg;obtain⟨its,rv,p,hz⟩:=I.tuple hq;obtain⟨u,hu,ru⟩:=rv.get hx;obtain⟨hin,⟨old,he⟩,hit⟩:=st;have hi:i < its.toArray.size:=by
   have:=(ar.mp hu).1;simpa using this
  have D:=RV.draws_tup (prog:=X.prog) (w:=X.w) (A:=X.A.in1) (I.ok.hd hc) it l hli its.toArray;have hef:e ∉ [it,l]:=λz=>by
   rcases ak.mp z with z | z
   ·exact hei z
   ·exact hle (aQ.mp z).symm
  have WE:=WalksT.enumerateD D e hei hef (.head _);refine WE.item i s _ _ hi ⟨⟨old,he⟩,hit,p⟩ λT vals h' tk hP hT hTup hM hk=> ?_;obtain⟨t,y,hy,rfl⟩:=hP;have hyu:y=u:=by
   have:its[i]? =some y:=by simpa using hy
   rw[hu]at this;exact(aB this).symm
  subst hyu;refine⟨.ref T,rfl, ?_⟩;refine WE.go elts kk pt i T _ _ _ hM λh2 hst2 hk2=> ?_;have hTn:H T=none:=I.hok.fresh hT;have hTne:∀b∈[e,it],b ≠ T:=λb hb z=>by
   obtain⟨_,_,h3,h4⟩:=hM;rcases ak.mp hb with rfl | hb
   ·exact h3 z.symm
   ·have:b=it:=by simpa using hb
    subst this;exact h4 z.symm
  have Qg:IsTup h2 T #[.int i t,y]:=by
   obtain⟨o,eo,r⟩:=hTup;exact⟨o,hk2 T o (λhb=>hTne T hb rfl) eo,r⟩
  refine⟨.ref T,upd H T (.tup [.int i,x]),Inv.laidT (s:=s) (h' :=h2) (ch:=[e,it]) (tk:=tk) I hf (λb o hb e=>hk2 b o hb (hk b o hb e)) (λb o hb _=> ?_) hT ⟨by rw[bT];show 2<=16777216;decide,[.int i t,y],.cons ⟨t,rfl⟩ (.cons ru .nil),Qg,.inl ⟨_,_,rfl⟩⟩,rfl,⟨T,x,hTn,rfl,λys hy=>by rw[I.tuple_inj hy hq];exact hx,rfl⟩,⟨by have:=(ar.mp hx).1;omega,hst2.1,hst2.2.1⟩,λb hb=> ?_⟩
  ·obtain⟨⟨old2,he2⟩,⟨o2,eo2,_⟩,_⟩:=hst2;rcases ak.mp hb with rfl | hb
   ·exact⟨_,he2⟩
   ·have:b=it:=by simpa using hb
    subst this;exact⟨o2,eo2⟩
  ·rw[zt (hTne b hb)];exact(hf b hb).1
 done:=by
  intro X hP hw hK hc i pins s σ H E I hf st hg;subst hP hw hK;obtain⟨xs,hq,hxn,hx⟩:=hg;obtain⟨its,rv,p,hz⟩:=I.tuple hq;obtain⟨hin,⟨old,he⟩,hit⟩:=st;have hl:=rv.length;have D:=RV.draws_tup (prog:=X.prog) (w:=X.w) (A:=X.A.in1) (I.ok.hd hc) it l hli its.toArray;have hn:its.toArray.size=i:=by simp;omega
  refine wpAny_pyNext_enum_endD D he (by rw[hn];exact⟨hit,p⟩) λh' hk=>⟨rfl, ?_⟩
  obtain⟨f0,f1,f2,f3,f4,f5⟩:=hf it (by simp)
  exact I.turned (t' :=s.toks) (λb o hb e=>hk b o hb e) f0 f1 f3 f4 f5
 self:=λ_ _ _ _ _ st h=>let ⟨_,⟨_,he⟩,_⟩:=st;wpAny_pyIter_enum he h
theorem vb {K:a8}{B1 H1:Hp}{a:Addr}{xs:List V}{ts:List T}(h:B1 a=some (.tup xs))(r:zE B1 xs ts):rI B1 H1 (z1j K a xs.length) (jH ts):=λB2 H2 s1 s2=>by
 have h2:=s2 _ _ (s1 _ _ h);rw[J7];refine⟨λi hi=> ?_,λi t x H3 e y=> ?_,λi hi=>⟨xs,SqT.of h2,rfl,by rw[r.length];exact hi⟩⟩
 ·obtain⟨v,e,_⟩:=r.get (ah hi);exact⟨xs,v,SqT.of h2,rfl,e⟩
 ·obtain⟨p,v,hp,rfl,y,rfl⟩:=y;obtain⟨t',et,rfl⟩:=WC e;obtain⟨v',e1,r1⟩:=r.get et;have:=y xs (SqT.of h2);rw[e1]at this;cases this;refine⟨zu.new hp _,.tup (j5 hp _) (.cons (.int _) (.cons ?_ .nil))⟩;exact(r1.mono s1).mono (zM.ge s2 (zu.new hp _))
def U5 (fa:En->R T):En->R (List T):=λρ=>(fa ρ).bind λt=>match t with
 | .tup xs=> .ok (jH xs)
 | _=> .bad
section
theorem vc {ta:TA}(hg:Gl X "enumerate")(hm:X.mg "enumerate"=none)(ha:PA X [a] ta)(hs:St1 X a:=by exact st1 rfl):
  PI X (.Tuple elts kk pt) (.Call (.Name "enumerate" p) [a] [] pos) (λσ H R=>ta σ H λvs H1=>∃l xs,vs=[.ref l]/\H1 l=some (.tup xs)/\R (z1j X.K l xs.length) H1):=by
 intro pins s σ H R I h;refine Call_ (j0 I hg hm PyProof.Rows.Boot.«enumerate» (aU (thn (ha pos _ s σ H _ I h) λus s1 ⟨vs,H1,I1,r1,q1⟩=> ?_) hs rfl));obtain⟨l,xs,e,hl,q⟩:=q1;subst e;obtain⟨u,rfl,ru⟩:=ZP r1;obtain rfl:u=Value.ref l:=ru;obtain⟨its,rv,pl,hz⟩:=I1.tuple (SqT.of hl);have hlt:=I1.hok.lt hl;refine RV.enum_callT (show s1.heap.IsTuple l _ from pl) λh' he hit hk=>wpAny_pyIter_enum he ?_;have f:∀b∈[s1.heap.objs.size+1,s1.heap.objs.size],Wh X _ H1 b:=λb hb=>by
  rcases ak.mp hb with rfl | hb
  ·exact I1.fpOk (du _) (I1.hok.fresh (du _))
  ·have z:=by simpa using hb
   subst z;exact I1.fpOk (ai _) (I1.hok.fresh (ai _))
 exact⟨s1.heap.objs.size+1,[s1.heap.objs.size+1,s1.heap.objs.size],_,_,H1,rfl,I1.kept hk,UY _ _ l _ (i9 _) (aC (cH hlt)) (aC hlt),⟨bu _,⟨_,he⟩,hit⟩,f,q⟩
theorem xU (hg:Gl X "enumerate")(hm:X.mg "enumerate"=none)(ha:Snd X Y a fa)(hs:St1 X a:=by exact st1 rfl):uo X Y (.Tuple elts kk pt) (.Call (.Name "enumerate" p) [a] [] pos) (U5 fa):= .mk λρ=>
 PI.imp (vc hg hm (zy (ha ρ) zO hs) hs) λσ H R ⟨B,I,q⟩=>step I q λt v H1 _ s1 r1 I1 q1=>by
  cases r1 with
  | @tup l xs ts h r=>exact⟨l,xs,rfl,I1.sB _ _ h,ZB I1 (show Po Y rI _ H1 _ R from q1) (vb h r)⟩
  | _=>exact q1.elim
end
end PV
namespace PySem.RW37
open PySem PySem.Spec PyProof.Rows L2
section
end
end PySem.RW37
namespace PV
open PySem PySem.Spec PyProof.Rows L2 PySem.RW37
section
end
end PV
namespace PV
open PySem PySem.Spec PyProof.Rows L2
section
end
section
end
section
end
section
end
section
end
section
end
section
end
section
end
section
end
section
end
section
end
section
end
end PV
namespace PySem.RV
open PySem PySem.Spec PyProof.Rows PySem.Builtin.SmallTypes
section
end
end PySem.RV
namespace PV
open PySem PySem.Spec PyProof.Rows L2
section
end
section
section
end
end
section
end
section
end
end PV
namespace PV
open PySem PySem.W PyProof.Rows
section
variable {α β:Type}
noncomputable def Gd (lt:Nat->Nat->Bool)(n:Nat):KasT α->(α->Prop)->Prop
 | .ret a,P=>P a
 | .ask i j k,P=>(i < n/\j < n/\i ≠ j)/\Gd lt n (k (lt i j)) P
theorem Gd.mono {lt:Nat->Nat->Bool}{P P' :α->Prop}(h:∀a,P a->P' a):∀(t:KasT α),Gd lt n t P->Gd lt n t P'
 | .ret a,g=>h a g
 | .ask i j k,⟨h1,g⟩=>⟨h1,Gd.mono h _ g⟩
theorem Gd.bind {lt:Nat->Nat->Bool}{P:β->Prop}{f:α->KasT β}:∀(t:KasT α),Gd lt n t (λa=>Gd lt n (f a) P)->Gd lt n (t.bind f) P
 | .ret a,g=>g
 | .ask i j k,⟨h1,g⟩=>⟨h1,Gd.bind _ g⟩
end
section
variable {O:KeyOrd}{key:Nat->O.α}
noncomputable abbrev kp (key:Nat->O.α)(p:Array Nat)(i:Nat):O.α:=key (p.getD i 0)
structure Pm (n:Nat) (p:Array Nat):Prop where
 sz:p.size=n
 pm:p.toList.Perm (ba n)
theorem Pm.lt {p:Array Nat}(h:Pm n p)(hi:i < n):p.getD i 0 < n:=by
 have hs:i < p.size:=by rw[h.sz];exact hi
 have e:p.getD i 0=p[i]:=by simp[iG,hs]
 rw[e];exact bn.mp (h.pm.mem_iff.mp (Array.getElem_mem_toList hs))
theorem Pm.inj {p:Array Nat}(h:Pm n p)(hi:i < n)(hj:j < n)(e:p.getD i 0=p.getD j 0):i=j:=by
 have hs:i < p.size:=by rw[h.sz];exact hi
 have hs' :j < p.size:=by rw[h.sz];exact hj
 have e1:p.getD i 0=p[i]:=by simp[iG,hs]
 have e2:p.getD j 0=p[j]:=by simp[iG,hs']
 rw[e1,e2]at e;have nd:=h.pm.nodup_iff.mpr List.nodup_range;have:=(hV (h₀:=by simpa using hs) (h₁:=by simpa using hs') nd).mp (by simpa using e)
 exact this
def So (key:Nat->O.α)(p:Array Nat)(m:Nat):Prop:=∀i j,i < j->j < m->O.klt (kp key p i) (kp key p j)
theorem wX {p q:Array Nat}(h:p[i]? =q[j]?):p.getD i 0=q.getD j 0:=by
 have e:∀(a:Array Nat) (k:Nat),a.getD k 0=(a[k]?).getD 0:=λa k=>by simp
 rw[e,e,h]
variable (hk:∀i j,i < n->j < n->key i=key j->i=j)
include hk
theorem xV {p:Array Nat}(h:Pm n p)(hi:i < n)(hj:j < n)(hij:i ≠ j)(hf:O.blt (kp key p i) (kp key p j)=false):O.klt (kp key p j) (kp key p i):=by
 cases q:O.blt _ _ with
 | true=>exact q
 | false=>exact absurd (h.inj hi hj (hk _ _ (h.lt hi) (h.lt hj) (O.total _ _ hf q))) hij
omit hk in
theorem So.snoc {p:Array Nat}(h:So key p m)(h1:1<=m)(hl:O.klt (kp key p (m - 1)) (kp key p m)):So key p (m+1):=λi j hij hj=>by
 by_cases hjm:j=m
 ·subst hjm
  by_cases him:i=j - 1
  ·rw[him];exact hl
  ·exact cb (h i _ (by omega) (by omega)) (di hl)
 ·exact h i j hij (by omega)
theorem YB {p:Array Nat}(hp:Pm n p):∀(f m:Nat),1<=m->m+f=n->So key p m->Gd (λi j=>O.blt (key i) (key j)) n (kas_asc p f m) λr=>m<=r/\r<=n/\So key p r/\(r < n->O.klt (kp key p r) (kp key p (r - 1)))
 | 0,m,_,hm,h=>⟨ai _,by omega,h,λz=>by omega⟩
 | f+1,m,h1,hm,h=>by
  refine⟨⟨hp.lt (by omega),hp.lt (by omega),λz=>absurd (hp.inj (by omega) (by omega) z) (by omega)⟩, ?_⟩
  show Gd _ n (if O.blt _ _=true then .ret m else kas_asc p f _) _
  cases q:O.blt _ _ with
  | true=>exact⟨ai _,by omega,h,λ_=>q⟩
  | false=>
   exact Gd.mono (λr ⟨a,b,c⟩=>⟨by omega,b,c⟩) _ (YB hp f _ (by omega) (by omega) (h.snoc h1 (xV hk hp (by omega) (by omega) (by omega) q)))
def De (key:Nat->O.α)(p:Array Nat)(m:Nat):Prop:=∀i j,i < j->j < m->O.klt (kp key p j) (kp key p i)
theorem YC {p:Array Nat}(hp:Pm n p):∀(f m:Nat),2<=m->m+f=n->De key p m->Gd (λi j=>O.blt (key i) (key j)) n (kas_desc f p m 0) λr=>r.1=p/\r.2.2=0/\m<=r.2.1/\r.2.1<=n/\De key p r.2.1
 | 0,m,_,hm,h=>⟨rfl,rfl,ai _,by show m<=n;omega,h⟩
 | f+1,m,h1,hm,h=>by
  refine⟨⟨hp.lt (by omega),hp.lt (by omega),λz=>absurd (hp.inj (by omega) (by omega) z) (by omega)⟩, ?_⟩
  show Gd _ n (if O.blt _ _=true then (if 0 > 0 then kas_desc f _ _ 0 else kas_desc f p _ 0) else .ask _ _ λd=>if d=true then .ret _ else kas_desc f p _ _) _
  cases q:O.blt _ _ with
  | true=>
   refine Gd.mono (λr ⟨a,b,c,d⟩=>⟨a,b,by omega,d⟩) _ (YC hp f _ (by omega) (by omega) λi j hij hj=> ?_)
   by_cases hjm:j=m
   ·subst hjm
    by_cases him:i=j - 1
    ·rw[him];exact q
    ·exact cb (show O.klt _ _ from q) (di (h i _ (by omega) (by omega)))
   ·exact h i j hij (by omega)
  | false=>
   refine⟨⟨hp.lt (by omega),hp.lt (by omega),λz=>absurd (hp.inj (by omega) (by omega) z) (by omega)⟩, ?_⟩
   have q2:O.blt _ _=true:=xV hk hp (by omega) (by omega) (by omega) q
   show Gd _ n (if O.blt _ _=true then .ret _ else _) _
   rw[if_pos q2];exact⟨rfl,rfl,ai _,by show m<=n;omega,h⟩
omit hk in
theorem Vb {p:Array Nat}(hp:Pm n p)(i j:Nat):Pm n (kas_rev p i j):=⟨(mirror_size _ _ _ _).trans hp.sz,(dO.mp (mirror_perm p i j _)).trans hp.pm⟩
omit hk in
theorem YD {p:Array Nat}(hp:Pm n p)(hm:m<=n)(hk' :k < m):(kas_rev p 0 m).getD k 0=p.getD (m - 1 - k) 0:=by
 refine wX ?_;unfold kas_rev;rw[getElem?_mirror_all (by rw[hp.sz];exact hm),if_pos ⟨bu _,hk'⟩]
 congr 1
 omega
theorem jI {p:Array Nat}(hp:Pm n p)(h2:2<=n):Gd (λi j=>O.blt (key i) (key j)) n (kas_count n p) λr=>1<=r.1/\r.1<=n/\Pm n r.2/\So key r.2 r.1:=by
 refine Gd.bind _ (Gd.mono (λm ⟨a,b,c,d⟩=> ?_) _ (YB hk hp _ 1 (ai _) (by omega) λi j hij hj=>by omega))
 by_cases hmn:m=n
 ·rw[if_pos (by simpa using hmn)]
  exact⟨a,b,hp,c⟩
 ·rw[if_neg (by simpa using hmn)]
  by_cases hm1:m > 1
  ·rw[if_pos hm1];refine⟨⟨hp.lt (by omega),hp.lt (by omega),λz=>absurd (hp.inj (by omega) (by omega) z) (by omega)⟩, ?_⟩
   have q:O.blt _ (kp key p (m - 1))=true:=c 0 _ (by omega) (by omega)
   show Gd _ n (if O.blt _ _=true then .ret _ else _) _
   rw[if_pos q];exact⟨a,b,hp,c⟩
  ·have e:m=1:=by omega
   subst e;have d1:=d (by omega)
   refine Gd.bind _ (Gd.mono (λr ⟨r1,r2,r3,r4,r5⟩=> ?_) _ (YC hk hp _ _ (by omega) (by omega) λi j hij hj=>by
    have:i=0/\j=1:=by omega
    rw[this.1,this.2];exact d1))
   rw[r2,r1];refine Gd.bind _ (Gd.mono (λm' ⟨x1,x2,x3,_⟩=>⟨by omega,x2,Vb hp 0 _,x3⟩) _ (YB hk (Vb hp 0 _) _ _ (by omega) (by omega) λi j hij hj=> ?_))
   unfold kp;rw[YD hp r4 (by omega),YD hp r4 hj]
   exact r5 _ _ (by omega) (by omega)
theorem wY {p:Array Nat}(hp:Pm n p)(hkn:k < n)(hs:So key p k):∀(f l r:Nat),r<=k->l<=r->r - l<=f->(∀i,i < l->O.klt (kp key p i) (kp key p k))->(∀i,r<=i->i < k->O.klt (kp key p k) (kp key p i))->
  Gd (λi j=>O.blt (key i) (key j)) n (kas_place p k f l r) λm=>m<=k/\(∀i,i < m->O.klt (kp key p i) (kp key p k))/\∀i,m<=i->i < k->O.klt (kp key p k) (kp key p i)
 | 0,l,r,h1,h2,h3,h4,h5=>⟨by omega,h4,λi hi hik=>h5 i (by omega) hik⟩
 | f+1,l,r,h1,h2,h3,h4,h5=>by
  unfold kas_place
  by_cases hlr:l ≥ r
  ·rw[if_pos hlr];exact⟨by omega,h4,λi hi hik=>h5 i (by omega) hik⟩
  ·rw[if_neg hlr];refine⟨⟨hp.lt hkn,hp.lt (by omega),λz=>absurd (hp.inj hkn (by omega) z) (by omega)⟩, ?_⟩
   show Gd _ n (if O.blt _ _=true then kas_place p k f l _ else kas_place p k f _ r) _
   cases q:O.blt _ _ with
   | true=>
    refine wY hp hkn hs f l _ (by omega) (by omega) (by omega) h4 λi hi hik=> ?_
    by_cases e:i=(l+r) / 2
    ·rw[e];exact q
    ·exact cb (q) (di (hs _ _ (by omega) hik))
   | false=>
    refine wY hp hkn hs f _ r h1 (by omega) (by omega) (λi hi=> ?_) h5
    have ql:=xV hk hp hkn (by omega) (by omega) q
    by_cases e:i=(l+r) / 2
    ·rw[e];exact ql
    ·exact cb (hs _ _ (by omega) (by omega)) (di ql)
omit hk in
theorem YE {p:Array Nat}(hp:Pm n p)(hkn:k < n)(hl:l<=k):(bubble p k (k - l)).getD i 0=if i=l then p.getD k 0 else if l < i/\i<=k then p.getD (i - 1) 0 else p.getD i 0:=by
 have h:=getElem?_bubble (by rw[hp.sz];exact hkn) (k - l) (by omega) i
 rw[show k - (k - l)=l by omega]at h
 repeat' split at h
 all_goals first | (rw[if_pos (by assumption)];exact wX h) | (rw[if_neg (by assumption),if_pos (by assumption)];exact wX h) | (rw[if_neg (by assumption),if_neg (by assumption)];exact wX h)
theorem Vc:∀(f:Nat) (p:Array Nat) (k:Nat),Pm n p->k+f=n->So key p k->Gd (λi j=>O.blt (key i) (key j)) n (kas_bin f p k) λq=>Pm n q/\So key q n
 | 0,p,k,hp,hkf,h=>⟨hp,by rw[← hkf];exact h⟩
 | f+1,p,k,hp,hkf,h=>by
  unfold kas_bin;refine Gd.bind _ (Gd.mono (λl ⟨a,b,c⟩=> ?_) _ (wY hk hp (by omega) h k 0 k (ai _) (bu _) (by omega) (λi hi=>by omega) λi hi hik=>by omega))
  refine Vc f _ _ ⟨(bubble_size _ _ _).trans hp.sz,(dO.mp (bubble_perm p k _)).trans hp.pm⟩ (by omega) λi j hij hj=> ?_
  unfold kp;rw[YE hp (by omega) a,YE hp (by omega) a]
  by_cases hi:i=l
  ·rw[if_pos hi,if_neg (by omega),if_pos ⟨by omega,by omega⟩]
   exact c _ (by omega) (by omega)
  ·rw[if_neg hi]
   by_cases hj' :j=l
   ·rw[if_pos hj',if_neg (by omega)]
    exact b i (by omega)
   ·rw[if_neg hj']
    by_cases x:l < i/\i<=k
    ·rw[if_pos x,if_pos ⟨by omega,by omega⟩]
     exact h _ _ (by omega) (by omega)
    ·rw[if_neg x]
     by_cases y:l < j/\j<=k
     ·rw[if_pos y];exact h _ _ (by omega) (by omega)
     ·rw[if_neg y];exact h _ _ hij (by omega)
theorem YF (h2:2<=n):Gd (λi j=>O.blt (key i) (key j)) n (kas_sort n) λq=>Pm n q/\So key q n:=by
 refine Gd.bind _ (Gd.mono (λr ⟨a,b,c,d⟩=> ?_) _ (jI hk ⟨by simp,by simp⟩ h2))
 by_cases h:r.1 < n
 ·rw[if_pos h,show max r.1 1=r.1 by omega]
  exact Vc hk _ _ _ c (by omega) d
 ·rw[if_neg h];exact⟨c,by rw[show n=r.1 by omega];exact d⟩
end
end PV
namespace PV
open PySem PySem.Spec PyProof.Rows L2
section
end
section
end
section
open PySem.W PySem.Calls
variable {O:KeyOrd}{key:Nat->O.α}
end
section
open PySem.W PySem.Calls
end
end PV
namespace PV
open PySem PySem.Spec PyProof.Rows L2
section
end
section
open HT in
open HT in
end
section
end
end PV
namespace PV
open PySem PySem.Spec PyProof.Rows L2
end PV
namespace L2
open PySem PySem.Spec PyProof.Rows PySem.W
structure Lm (X:Cx) (c P:Addr) (q:Str):Prop where
 code:X.env.code= .ref c
 hd:codeHdIn X.K c P=true
 bt:X.base.BuiltinsAt X.mg P
 ql:X.env.qual++"<lambda>"=q
def w8 (H:Hp)(q:Str)(c:Addr):Prop:=∃oc vs t,H c=some (.frz oc (.own c))/\oc.data= .fields vs/\vs[1]? =some (.str q t)
theorem w8.mono (s:zu H H')(h:w8 H q c):w8 H' q c:=let ⟨oc,vs,t,e,r⟩:=h;⟨oc,vs,t,s _ _ e,r⟩
theorem w8.rec (x:w8 H q c)(ok:HOk P w H h):h.CodeRec (.ref c) q:=by
 obtain⟨oc,vs,t,e,d,v⟩:=x;exact⟨c,oc,vs,t,rfl,(ok c _ e).1,d,v⟩
theorem wv {p p' :Pos}{c cv:Value}:∀(l:List Value),TriplesOk l->codeAmong p (l++[rawInt p'.line,rawInt p'.col,c])=some cv->codeAmong p l=some cv\/cv=c
 | [],_,h=>by
  right
  simp only[bM,rawInt,codeAmong]at h;split at h
  ·exact(aB h).symm
  ·cases h
 | .int a t :: .int b u :: x :: r,ok,h=>by
  simp only[dq,codeAmong]at h ⊢;split at h
  ·rename_i z;rw[if_pos z];exact .inl h
  ·rename_i z;rw[if_neg z];exact wv r (by simpa only[TriplesOk] using ok) h
noncomputable abbrev Vd (q:Str)(params:Arguments)(body:Expr)(scope:Scope)(clos:List (Str×Addr))(pm ctv:Value)(c:Addr):Obj:=kla_obj "<lambda>" q params body scope clos pm c ctv
theorem KG (L:Lm X c P q)(hdef:defaultsOf params X.env=([],[]))(hcl:closureFor scope X.env=pure clos):
  PE X (.Lambda params body scope pos) (λσ H Q=>H P=some (.tbl #[] q)/\∀f c' pm ctv H',zu H H' ->H' f=some (.frz (Vd q params body scope clos pm ctv c') (.own f))->w8 H' q c' ->Q (.ref f) H'):=by
 intro pins s σ H Q I ⟨hP,h⟩;obtain⟨more,eP,tr,al⟩:=I.hok P _ hP;have C:=codeHd_of_K I.kIn L.hd;have hg:=I.ok.mod.glob.keeps I.bk;have hB:s.heap.BuiltinsAt X.mg P:=by
  obtain⟨bm,o,b1,b2,b3,b4,b5,b6⟩:=L.bt;exact⟨bm,o,b1,b2,b3,b4,I.bk _ _ b5,b6⟩
 have hgP:mainGlobals ≠ P:=λz=>by
  obtain⟨o,es,ep,e,hd,_⟩:=hg;rw[z,eP]at e;cases e;cases hd
 have fobj:∀{H2:Hp} {f:Addr} {o:Obj} {h2:Heap},h2.get? f=some o->Z9 X.prog X.w H2 h2 f (.frz o (.own f)):=λe=>⟨e,_,e⟩;refine kla_eval hdef ?_;rw[L.ql];cases hf:codeAmong pos _ with
 | some cv=>
  obtain⟨c',oc,vs,t,rfl,e2,e3,e4⟩:=al pos cv hf;refine kla_makeFunctionHit hcl I.ok.glob hg L.code C eP tr hf hB λctv h' tk hk hsz=> ?_;have hfr:=I.hok.fresh hsz;have e5:(h'.push (Vd q params body scope clos ((X.mg "__name__").getD .none) ctv c')).get? _=some _:=af _ rfl;refine⟨.ref _,_,I.laid (λb u e=>a9 _ (hk b u e)) hsz (fobj e5),rfl, ?_⟩;exact h _ c' _ ctv _ (PV.zu.new hfr _) zx (w8.mono (PV.zu.new hfr _) ⟨oc,vs,t,e2,e3,e4⟩)
 | none=>
  refine kla_makeFunction hcl I.ok.glob hg L.code C eP tr hf hgP hB λc' ctv h' tk hx hge hlt hrec htb=> ?_;obtain⟨c₂,oc,vs,t,e2,hoc,hd,hv⟩:=hrec;cases e2;have hc0:=I.hok.fresh hge;have neP:∀b,H b=none->b ≠ P:=λb n z=>by rw[z,hP]at n;cases n
  have neC:∀b o,s.heap.get? b=some o->b ≠ c' :=λb o e=>aC (aH (aq e) hge);have sm:zu H (upd H c' (.frz oc (.own c'))):=PV.zu.new hc0 _;have hl:(#[]++more++ #[rawInt pos.line,rawInt pos.col,Value.ref c']).toList=(#[]++more).toList++[rawInt pos.line,rawInt pos.col,Value.ref c']:=by simp
  have hok:HOk _ X.w (upd H c' _) h' :=λb u e=>by
   by_cases hb:b=c'
   ·subst hb;rw[zx]at e;cases e;exact fobj hoc
   ·rw[zt hb]at e
    by_cases hbP:b=P
    ·subst hbP;rw[hP]at e;cases e;refine⟨more++ #[rawInt _,rawInt _,Value.ref c'],by rw[← dP];exact htb,by rw[← dP,hl];exact TriplesOk_snoc _ _ _ _ tr,λp cv z=> ?_⟩
     rw[← dP,hl]at z;rcases wv _ tr z with z | rfl
     ·obtain⟨c2,oc2,vs2,t2,a1,a2,a3⟩:=al p cv z;exact⟨c2,oc2,vs2,t2,a1,sm _ _ a2,a3⟩
     ·exact⟨c',oc,vs,t,rfl,zx,hd,hv⟩
    ·refine(I.hok b u e).stay (λa v ha q' =>hx a v (λz=> ?_) q') (λ_ q' =>sm _ _ q') (λ_ _ q' =>sm _ _ q') λ_ _ _ q' =>sm _ _ q';subst z;rcases ha with z | z
     ·exact hbP z.symm
     ·rw[hP]at z;cases z
  have I1:Inv X pins σ (upd H c' (.frz oc (.own c'))) { s with heap:=h',toks:=s.toks }:=by
   refine I.step (ch:=[]) (λ_ z=>nomatch z) (λb o _ _ _ e n=>hx b o (neP b n) e) (λb o _ _ _ e n=>⟨o.slots,hx b o (neP b n) e⟩) (λb o _ e n=>by rw[zt (neC b o e)];exact n) (λb o _ e=> ?_) (λ_ _ e=>sm _ _ e) (λ_ _ _ e=>sm _ _ e) (λ_ _ _ e=>sm _ _ e) (λm hm=>hm.extBut hx (neP _ I.free)) hok I.bare
   by_cases hb:b=P
   ·exact⟨_,hb ▸ htb⟩
   ·exact⟨o,hx b o hb e⟩
  have hfr:upd H c' (.frz oc (.own c')) h'.objs.size=none:=by rw[zt (da hlt)];exact I1.hok.fresh (ai _) |> λz=>by rw[zt (da hlt)]at z;exact z
  have e5:(h'.push (Vd q params body scope clos ((X.mg "__name__").getD .none) ctv c')).get? _=some _:=af _ rfl;refine⟨.ref _,_,I1.laid (λb u e=>a9 _ e) (ai _) (fobj e5),rfl, ?_⟩;have s2:zu _ (upd _ _ (.frz (Vd q params body scope clos ((X.mg "__name__").getD .none) ctv c') (.own h'.objs.size))):=PV.zu.new hfr _;exact h _ c' _ ctv _ (sm.trans s2) zx (w8.mono s2 ⟨oc,vs,t,zx,hd,hv⟩)
end L2
namespace L2
open PySem PySem.Spec PyProof.Rows PySem.W
def vd (s:Shared)(H:Hp)(fr:List Addr):Heap:=hideAll s.heap (trk s.heap H++fr)
theorem U6 (e:s.heap.get? b=some o)(n:H b=none)(hb:b ∉ fr):(vd s H fr).get? b=some o:=
 hideAll_get _ e λhm=>by
  rcases d4.mp hm with z | z
  ·have q:=(c_.mp z).2;rw[n]at q;cases q
  ·exact hb z
theorem xW (e:(vd s H fr).get? b=some o):s.heap.get? b=some o/\H b=none:=by
 have e' :=of_hideAll _ e;refine⟨e', ?_⟩;cases q:H b with
 | none=>rfl
 | some x=>
  have hm:b∈trk _ H++fr:=bY _ (c_.mpr ⟨bn.mpr (aq e'),by simp[q]⟩)
  have z:(vd s H fr).get? b=none:=hideAll_none _ hm;rw[z]at e;cases e
theorem Mod.keeps {K:Frag}{mg:Str->Option Value}{b b' :Heap}(m:Mod K mg b)(k:∀a o,b.get? a=some o->b'.get? a=some o):Mod K mg b' :=
 ⟨m.kin.keeps k,m.glob.keeps k,let ⟨mb,h1,h2⟩:=m.blt;⟨mb,h1.keeps k,h2⟩,m.nolimit.keeps k⟩
section
theorem Inv.big_of (I:Inv X pins σ H s):∀b o,X.base.get? b=some o->(vd s H (frs X.stack)).get? b=some o:=λb o e=>by
 refine U6 (I.bs b o e).1 (I.bs b o e).2 λhb=> ?_;have:=(I.stack.mem hb).1;rw[e]at this;cases this
theorem Inv.big (I:Inv X pins σ H s):uQ X.prog X.w X.K X.mg (vd s H (frs X.stack)) X.A X.stack s H:=
 ⟨I.ok.frames,I.ok.mod.keeps I.big_of,λb o e=>xW e,fR (hideAll_size _ _),funFrames_hide I.stack λenv he a ha=>aY _ (d6.mpr ⟨env,he,ha⟩),I.stkFree,I.hok,I.bare⟩
theorem xX (I:Inv X pins σ H s)(F:ZW X.prog X.w X.K X.mg (vd s H (frs X.stack)) CX k f fd ps sp)(hr:Zu k X.A)(hb:Binds X.K fd ps [])(hx:zX CX X E)
  (r:zT vs us) (h:sp vs H Q E):wpAny (model X.prog X.w) X.A (call (.ref f) us) (EP X pins σ Q) X.xe s:=by
 have hl:us.length=ps.length:=by rw[← r.length];exact F.len _ _ _ _ h
 have hb' :=hb s us I.kIn (by rw[aP];exact hl)
 rw[aP]at hb';refine d7 (b_ (F.run X.A _ s H _ us vs Q E hr I.big hb' r h) λr s' hq=> ?_);cases r with
 | error e=>exact hx _ σ H s e s' I hq
 | ok fl=>
  cases fl with
  | ret u=>exact I.after hq
  | next=>exact bo hq
  | brk=>exact bo hq
  | cont=>exact bo hq
end
def cxL (P:Program)(w:World)(K:Frag)(mg:Str->Option Value)(base:Heap)(N:List Str)(q:Str)(scope:Scope)(f:Addr)(cd:Value)(clos:List (Str×Addr))(A:Around)(outer:List Env)(s:Shared)(H:Hp)(E:XK):Cx where
 prog:=P
 w:=w
 K:=K
 mg:=mg
 base:=base
 A:=A.deeper (envX q scope s.heap.objs.size f cd clos)
 N:=N
 s₀:=s
 H₀:=H
 env:=envX q scope s.heap.objs.size f cd clos
 outer:=outer
 stack:=envX q scope s.heap.objs.size f cd clos :: outer
 ex:=[]
 calm:=true
 fn:=λ_=>false
 pn:=[]
 xe:=λe s' =>wpAny (model P w) (A.deeper (envX q scope s.heap.objs.size f cd clos)) (leaving (envX q scope s.heap.objs.size f cd clos) e) (λ_ s'' =>CX1 P w outer H s E e s'') (λe' s'' =>CX1 P w outer H s E e' s'') s'
section
variable {P:Program}{w:World}{K:Frag}{mg:Str->Option Value}{base:Heap}{N:List Str}{q:Str}{scope:Scope}{f:Addr}{cd:Value}{clos:List (Str×Addr)}{A:Around}{outer:List Env}{s:Shared}{H:Hp}{E:XK}
theorem KH:zX (CX1 P w) (cxL P w K mg base N q scope f cd clos A outer s H E) E:=by
 intro pins σ H1 s1 e s' I ⟨ea,cls,a0,B,H',he,L,hE⟩;subst he;exact wpAny_leaves_onW I.ok.frames rfl L.fly λh' fl sl=>⟨ea,cls,a0,B,H',rfl,L.out I rfl rfl rfl fl sl,hE⟩
structure LSc (scope:Scope):Prop where
 kind:scope.kind= .function
 co:scope.isCoroutine=false
 gen:scope.isGenerator=false
 nocell:∀x∈scope.names,x.2 ≠ .cell
structure YG (base:Heap) (H:Hp) (scope:Scope) (clos:List (Str×Addr)) (N:List Str) (σ:St):Prop where
 inj:∀x y c,clos.lookup x=some c->clos.lookup y=some c->x=y
 has:∀x∈scope.names,x.2= .free->∃c,clos.lookup x.1=some c
 cell:∀x c,clos.lookup x=some c->(∃v,base.IsCell c v)/\H c=none
 loc:∀(i:Nat) (x:Str) (v:V),N[i]? =some x->σ[i]? =some (some v)->∃u c,Zb v u/\clos.lookup x=some c/\base.IsCell c (some u)/\scope.names.lookup x=some .free
 len:σ.length=N.length
theorem ww {h h' :Heap}{c:Addr}{v:Option Value}(k:∀a o,h.get? a=some o->h'.get? a=some o)(x:h.IsCell c v):h'.IsCell c v:=let ⟨o,e,d⟩:=x;⟨o,k _ _ e,d⟩
theorem xY {σ:St}{h1:Heap}{tk:Nat}(S:LSc scope)(hd:A.handled=none)(e0:uQ P w K mg base A outer s H)(C:YG base H scope clos N σ)(ns:h1.Ns s.heap.objs.size (λ_=>none))(hk:∀b o,s.heap.get? b=some o->h1.get? b=some o):
  Inv (cxL P w K mg base N q scope f cd clos A outer s H E) [] σ H { s with heap:=h1,toks:=tk }:=by
 have bk:=λb o e=>hk b o (e0.bs b o e).1;have noA:∀b,b ∉ (cxL P w K mg base N q scope f cd clos A outer s H E).ex:=λb z=>absurd (show b∈([]:List _) from z) (by simp)
 refine⟨⟨e0.mod,S.kind,rfl,rfl,ai _,C.inj,λy hy=> ?_,λy c h _=>(aA h).elim,λ_=>hd,dv e0.frames,.inr ⟨rfl,rfl⟩,λb z=>absurd z (noA b),e0.bs,e0.bsz,λb _ _=>noA b,λb z=>absurd z (noA b),e0.funs,e0.frf⟩,
  rfl,e0.bare,Un.kept hk,⟨_,ns,λi y v h1 h2 h3=> ?_⟩,λy c h=> ?_,e0.hok.fresh (ai _),λy c h=>(C.cell y c h).2,λp hp=>absurd (show p∈([]:List _) from hp) (by simp),e0.hok.kept hk,C.len⟩
 ·rcases hy with hy | hy
  ·exact absurd rfl (S.nocell _ (bv hy))
  ·exact C.has _ (bv hy) rfl
 ·obtain⟨u,c,r,e,ic,k⟩:=C.loc i y v h1 h2;exact⟨u,r,.inr ⟨.inr k,c,e,ww bk ic⟩⟩
 ·obtain⟨v,ic⟩:=(C.cell y c h).1;exact⟨v,ww bk ic⟩
theorem YH {k:Nat}{params:Arguments}{body:Expr}{pm ctv:Value}{c' :Addr}{σ:St}{Q:VK}{te:TE}(S:LSc scope)(hr:Zu (k+1) A)(e0:uQ P w K mg base A outer s H)(C:YG base H scope clos N σ)
  (hf:H f=some (.frz (Vd q params body scope clos pm ctv c') (.own f))) (hc:w8 H q c') (hp:bindArgs (kla_fn "<lambda>" q params body scope clos pm (.ref c') ctv) ⟨[],[]⟩=pure [])
  (hb:PE (cxL P w K mg base N q scope f (.ref c') clos A outer s H E) body te) (ht:te σ H Q):
  codeAny (model P w) A (.call (.ref f) ⟨[],[]⟩) (CR (CX1 P w) outer P w H s Q E) s:=by
 have lim:=e0.mod.nolimit.keeps λb o e=>(e0.bs b o e).1;refine kla_callFunE hr.depth (e0.hok f _ hf).1 rfl S.co S.gen rfl (hc.rec e0.hok) ?_;rw[hp];refine ao (wpAny_newFunctionEnv S.nocell (λy hy=>by simp at hy) (λh1 hns hsb=> ?_) S.kind)
 have hk:=λb o e=>hsb.extBut b o (aC (aq e)) (a9 _ e);refine⟨lim.keeps hk, ?_⟩;have I:=xY (q:=q) (f:=f) (cd:= .ref c') (E:=E) (tk:=s.toks+([]:List (Str×Value)).length) S hr.hd e0 C hns hk;exact kla_codeExpr (bI (hb [] _ σ H Q I ht) (λv s' ⟨x,H',J,r,q⟩=>⟨x,H',J.os,J.bare,J.base,J.hok,r,q⟩) λ_ _ z=>z)
end
end L2
namespace L2
open PySem PySem.Spec PyProof.Rows PySem.W
structure ZV (k:Nat) (A:Around):Prop where
 dp:A.depth+3*k+5 < recursionLimit
 un:A.units+16*k+200 < cLine
 gd:A.guards=some []
theorem Zu.m (r:Zu k A):ZV k A:=⟨r.dp,r.un,r.gd⟩
theorem ZV.mono (r:ZV k A)(h:j<=k):ZV j A:=⟨by have:=r.dp;omega,by have:=r.un;omega,r.gd⟩
theorem ZV.deeper (r:ZV (k+1) A)(env:Env):ZV k (A.deeper env):=
 ⟨by have:=r.dp;show A.depth+1+3*k+5 < _;omega,by have:=r.un;show A.units+3+16*k+200 < _;omega,r.gd⟩
theorem ZV.mark (r:ZV k A)(e:Value):ZV k (A.mark (some e)):=⟨r.dp,r.un,r.gd⟩
theorem ZV.depth (r:ZV k A):A.depth < recursionLimit:=by have:=r.dp;omega
theorem ZV.units (r:ZV k A):A.units+64 < cLine:=by have:=r.un;omega
structure FnM (P:Program) (w:World) (K:Frag) (mg:Str->Option Value) (base:Heap) (k:Nat) (f:Addr) (fd:FuncData) (ps:List Str) (sp:Sp):Prop where
 len:∀vs H Q E,sp vs H Q E->vs.length=ps.length
 run:∀(A:Around) (outer:List Env) (s:Shared) (H:Hp) (args:Args) (us:List Value) (vs:List V) (Q:VK),ZV k A->uQ P w K mg base A outer s H->BindsTo s fd args (ps.zip us)->zT vs us->sp vs H Q (λ_ _ _=>False)->
  codeAny (model P w) A (.call (.ref f) args) (λr s' =>∃u,r= .ok (.ret u)/\CE outer P w H s Q u s') s
abbrev cxM (P:Program)(w:World)(K:Frag)(mg:Str->Option Value)(base:Heap)(N:List Str)(qual:Str)(scope:Scope)(f:Addr)(cd:Value)(A:Around)(outer:List Env)(s:Shared)(H:Hp):Cx:=
 { (jL CX0 P w K mg base N qual scope f cd A outer s H (λ_ _ _=>False)).nox with calm:=false }
section
variable {P:Program}{w:World}{K:Frag}{mg:Str->Option Value}{base:Heap}
theorem KI {k:Nat}{x qual:Str}{st:Stmt}{f:Addr}{fd:FuncData}{N ps:List Str}{sp:Sp}(F:Fun K x qual st f fd)(S:ZA N ps (zr st))(len:∀vs H Q E,sp vs H Q E->vs.length=ps.length)
  (hbody:∀(cdv:Value) (A:Around) (outer:List Env) (s:Shared) (H:Hp) (vs:List V) (Q:VK),ZV k (A.deeper (envOfC qual (zr st) s.heap.objs.size f cdv))->sp vs H Q (λ_ _ _=>False)->
   ∃t,PSs (cxM P w K mg base N qual (zr st) f cdv A outer s H) (zI st) t/\t { nx:=λ_ H' =>Q .non H',rt:=Q } (start N vs) H):FnM P w K mg base (k+1) f fd ps sp:=by
 obtain⟨oc,od,kV,doc,pm,an,cdv,ct,osl,rfl,lk,hcd⟩:=F.ex;refine⟨len,λA outer s H args us vs Q hr e0 hb r hsp=> ?_⟩;have hl:=len _ _ _ _ hsp;have KX:=e0.mod.kin.keeps λb o e=>(e0.bs b o e).1;have lim:=e0.mod.nolimit.keeps λb o e=>(e0.bs b o e).1;have hkind:∀y∈ps.zip us,(zr st).names.lookup y.1=some _\/((zr st).names.lookup y.1=some _/\((cellsFrom (s.heap.objs.size+1) _ []).lookup y.1).isSome=true):=λ⟨n,v⟩ hy=>by
  rcases S.par n (dz hy).1 with q | q
  ·exact .inl q
  ·exact .inr ⟨q,cellsFrom_some _ _ _ (.inl q)⟩
 refine codeAny_call_function hr.depth (KX _ _ lk) rfl S.co S.gen rfl (codeRec_of KX hcd) (hb _ _ _ _ ?_);refine wpAny_newFunctionEnv_cells S.kind hkind λenv he s1 x=> ?_;subst he;refine⟨lim.keeps x.toInCall.keep,codeAny_func ?_⟩;obtain⟨t,ht,hq⟩:=hbody cdv A _ s H vs Q (hr.deeper _) hsp;have e1:uQ P w K mg _ { A with handled:=none } _ s H:=⟨e0.frames,e0.mod,e0.bs,e0.bsz,e0.funs,e0.frf,e0.hok,e0.bare⟩;have J:Inv (jL CX0 P w K mg _ N _ _ f cdv _ _ s H (λ_ _ _=>False)) [] _ H s1:=Ws S rfl e1 hl r x;have I:Inv (cxM P w K mg _ N _ _ f cdv A _ s H) [] _ H s1:=
  ⟨⟨J.ok.mod,J.ok.kind,J.ok.glob,J.ok.blt,J.ok.above,J.ok.inj,J.ok.has,J.ok.cab,λz=>(by cases z),dv e0.frames,J.ok.stk,J.ok.exf,J.ok.bs,J.ok.bsz,J.ok.noex,J.ok.exfs,J.ok.funs,J.ok.frf⟩,J.os,J.bare,J.base,J.loc,J.cell,J.free,J.freeC,J.pin,J.hok,J.len⟩
 refine bI (ht [] s1 _ H _ I hq) (λfl s' hs=> ?_) λe s' hs=>hs.elim;have fin:∀{σ' :St} {H' :Hp} {v:V} {u:Value},Inv (cxM P w K mg base N qual (zr st) f cdv A outer s H) [] σ' H' s' ->Zb v u->Q v H' ->∃u',(Except.ok (Flow.ret u):Result)= .ok _/\CE _ P w H s Q u' s' :=
  λ{σ' H' v u} J rv q=>⟨u,rfl,v,H',J.os,J.bare,J.base,J.hok,rv,q⟩
 cases fl with
 | ret u=>
  obtain⟨v,σ',H',J,rv,q⟩:=hs;exact fin J rv q
 | next=>
  obtain⟨σ',H',J,q⟩:=hs;exact fin (v:=V.non) J rfl q
 | brk=>obtain⟨_,_,_,q⟩:=hs;exact bo q
 | cont=>obtain⟨_,_,_,q⟩:=hs;exact bo q
theorem ve (F:FnM X.prog X.w X.K X.mg X.base k f fd ps sp)(hr:ZV k X.A)(hg:Gl X x)(hm:X.mg x=some (.ref f))(hk:keepIn X.K (.ref f)=true)(hb:Binds X.K fd ps [])
  (ha:PA X [e] t) (hdb:(x == ("__debug__":Str))=false:=by decide) (he:starEach [e] X.env=[(false,eval e X.env)]:=by rfl):
  PE X (.Call (.Name x p) [e] [] pos) (λσ H Q=>t σ H λvs H1=>sp vs H1 Q λ_ _ _=>False):=by
 intro pins s σ H Q I h;refine bx (jq I hg hm ?_ hdb);refine callWith_K I.ok.mod.kin hk (thn (ha pos _ s σ H _ I h) λus s1 ⟨vs,H1,I1,r,q⟩=>⟨I1.kIn, ?_⟩) he rfl;have hl:us.length=ps.length:=by rw[← r.length];exact F.len _ _ _ _ q
 have hb' :=hb s1 us I1.kIn (by rw[aP];exact hl)
 rw[aP]at hb';refine d7 (b_ (F.run X.A _ s1 H1 _ us vs Q hr I1.env0 hb' r q) λr s' ⟨u,e1,hq⟩=> ?_);subst e1;exact I1.after hq
end
def KJ (X:Cx)(E:XK)(i:Nat)(f:Addr)(o:Obj):TE:=λσ H Q=>σ[i]? =some (some (.ref f))/\H f=some (.frz o (.own f))/\
 ∀s,uQ X.prog X.w X.K X.mg X.base X.A X.stack s H->codeAny (model X.prog X.w) X.A (.call (.ref f) ⟨[],[]⟩) (CR (CX1 X.prog X.w) X.stack X.prog X.w H s Q E) s
theorem xZ (hv:PE X (.Name x p) (jk i))(hx:zX (CX1 X.prog X.w) X E):
  PE X (.Call (.Name x p) [] [] pos) (KJ X E i f (Vd q params body scope clos pm ctv c')):=by
 intro pins s σ H Q I ⟨hσ,hf,run⟩;refine bx (thn (hv _ s σ H (λv H' =>v= .ref f/\H' =H) I ⟨_,hσ,rfl,rfl⟩) λu s1 ⟨v,H1,I1,r,e1,e2⟩=> ?_);subst e1 e2;obtain rfl:u=Value.ref f:=r;refine callWith_F0 ⟨_,_,_,_,(I1.hok f _ hf).1⟩ ?_;refine d7 (b_ (run s1 I1.env0) λr s' hq=> ?_);cases r with
 | error e=>exact hx _ σ H1 s1 e s' I1 hq
 | ok fl=>
  cases fl with
  | ret u=>exact I1.after hq
  | next=>exact bo hq
  | brk=>exact bo hq
  | cont=>exact bo hq
theorem X0 {tb:XK->TS}
  (hX:X.stack=X.env :: X.outer) (hf:X.env.frame=some X.env.locals) (hN:X.N.Nodup) (hi:X.N[i]? =some n) (hl:X.env.scope.names.lookup n=some .local) (hg:Gl X c) (hm:X.mg c=some (.ref C))
  (hb:∀(E' :XK) (pn:List (Addr×Obj)) (xe:Value->Shared->Prop),zX (CX1 X.prog X.w) (X.try' pn xe) E' ->PSs (X.try' pn xe) body (tb E'))
  (he:∀ea,PE (X.mark' (.ref ea)) e2 th) (hdc:(c == ("__debug__":Str))=false:=by decide):
  PS X (.Try body [.ExceptHandler (some (.Name c cp)) (some n) [.Return (some e2) rp] hp] [] [] pos)
   (λD σ H=>∃E' :XK,(∀(cls:Value) (d:Option Addr) (H' :Hp) (ea:Addr) (σ' :St),E' cls d H' ->exmOne X.K cls (.ref C)=some true/\(H' ea=none->σ'.length=σ.length->σ.length=X.N.length->th (σ'.set i (some (.ref ea))) (upd H' ea (.ext (yW cls ea))) D.rt))/\tb E' D σ H):=by
 intro pins s σ H D I ⟨E',hE,hw⟩;have pass:zX (CX1 X.prog X.w) (X.try' (X.pn++pins) λe s1=>wpAny (model X.prog X.w) X.A (noteFrame e X.env) (λ_ s2=>wpAny (model X.prog X.w) X.A (setFlight e none) (λ_ s3=>wpAny (model X.prog X.w) X.A (handleBy e X.env [.ExceptHandler (some (.Name c cp)) (some n) [.Return (some e2) rp] hp]) (SP X pins D) X.xe s3) X.xe s2) X.xe s1) E' :=by
  intro pins' σ' H1 s1 e s' I1 ⟨ea,cls,a0,B,H',he',L,hw'⟩;subst he';have I0:=I1.untry;have fr:X.A.frames=some (X.env :: X.outer):=by rw[← hX];exact I0.ok.frames
  refine wpAny_looks_onW fr hf (hX ▸ L.fly) λh1 held sl1=> ?_;refine wpAny_landsW held λh2 fl2 sl2=> ?_;rw[← hX]at fl2;have sl12:=sl1.trans sl2;have I2:=I0.caught L fl2 sl12;obtain⟨hm1,hD⟩:=hE cls _ H' ea σ' hw';refine UQ hm1 ?_;refine jq (I2.mark' _) hg hm ⟨rfl,I2.kIn,fl2.there, ?_⟩ hdc;refine lands_againW fl2 λh3 fl3 sl3=> ?_;have I3:=I0.caughtX L fl3 (sl12.trans sl3);have hlen:=I0.len;refine jz (X:=X.mark' (.ref ea)) (I3.mark' _) hN hi (.inl hl) (v:= .ref ea) rfl (λs4 I4=> ?_) (.inr hl);have hs1:=jN (wg (pos:=rp) (he ea));have hr:=hs1 _ s4 _ _ { nx:=λ_ _=>False,rt:=D.rt } I4 (hD L.fresh (hlen.trans I.len.symm) I.len);refine bI hr (λf s5 h5=> ?_) λ_ _ z=>z;cases f with
  | next=>obtain⟨_,_,_,z⟩:=h5;exact z.elim
  | brk=>obtain⟨_,_,_,z⟩:=h5;exact z.elim
  | cont=>obtain⟨_,_,_,z⟩:=h5;exact z.elim
  | ret u=>
   obtain⟨v,σ5,H5,I5,r5,q5⟩:=h5;refine VW (I5.unmark I.ok.hd) hN hi hl λs6 I6=> ?_;exact⟨v,_,_,I6,r5,q5⟩
 have hr:=hb E' _ _ pass [] s σ H D (I.try' _) hw;refine wpAny_Try_except (bI hr (λf s1 h1=> ?_) λ_ _ z=>z);have h1:=h1.untry;cases f with
 | next=>exact wpAny_execs_nil h1
 | brk=>exact h1
 | cont=>exact h1
 | ret u=>exact h1
end L2
namespace PV
open PySem PySem.Spec PyProof.Rows L2 PySem.W
noncomputable def nx1 (r:R T):R T:=match r with
 | .ok t=> .ok t
 | _=> .bad
section
theorem Ve {js:List Nat}(I:L2.Inv X pins σ H s)(hfn:∀x,X.fn x=true)(hcl:∀x c,clos.lookup x=some c->X.env.cells.lookup x=some c)
  (hcf:∀x∈scope.names,x.2=NameKind.free->∃c,clos.lookup x.1=some c) (CP:GG X scope N' 0 js):YG (vd s H (frs X.stack)) H scope clos N' (WA 0 js σ):=by
 have up:∀x c,X.env.cells.lookup x=some c->∀v,s.heap.IsCell c v->(vd s H _).IsCell c v:=λx c e v ⟨o,ho,hd⟩=>⟨o,U6 ho (I.freeC x c e) λhb=>by
  rcases ak.mp (I.stkSub c hb) with z | z
  ·exact I.cne x c e z
  ·obtain⟨_,o2,e2,_⟩:=I.ok.funs.mem z;exact absurd (aq e2) (Nat.not_lt.mpr (I.ok.cab x c (hfn x) e)),hd⟩
 refine⟨λx y c h1 h2=>I.ok.inj x y c (hcl _ _ h1) (hcl _ _ h2),hcf,λx c e=>⟨?_,I.freeC x c (hcl x c e)⟩,λi x v h1 h2=> ?_,by unfold WA;simp[CP.len]⟩
 ·obtain⟨v,ic⟩:=I.cell x c (hcl x c e);exact⟨v,up x c (hcl x c e) v ic⟩
 ·unfold WA at h2;rw[List.replicate_zero,bM,ay]at h2;cases ej:js[i]? with
  | none=>rw[ej]at h2;cases h2
  | some j=>
   rw[ej]at h2;have h2' :(σ[j]?).getD _=some v:=aB h2;have hσ:σ[j]? =some (some v):=by
    cases ez:σ[j]? with
    | none=>rw[ez]at h2';cases h2'
    | some z=>rw[ez]at h2';exact congrArg _ h2'
   obtain⟨y,e1,e2,e3,e4,e5⟩:=CP.cap i j ej;rw[e_,h1]at e1;cases e1;obtain⟨m,hn,hlo⟩:=I.loc;obtain⟨u,ru,lk⟩:=hlo j x v e2 hσ e3;obtain⟨c,ec⟩:=hcf _ (bv e4) rfl;rcases lk with ⟨k,_⟩ | ⟨_,c2,e6,ic⟩
   ·rcases e5 with z | z <;> (rw[k]at z;cases z)
   ·have:=hcl x c ec;rw[e6]at this;cases this;exact⟨u,c,ru,ec,up x c e6 _ ic,e4⟩
end
section
variable {P:Program}{w:World}{K:a8}{mg:Str->Option Value}{base:Heap}
theorem X1 {cl:Nat->Value}{x qual q:Str}{st:Stmt}{f:Addr}{fd:FuncData}{N:List Str}{k:Nat}{fb:En->RS}{gx:Nat->R T}(F:Fun K x qual st f fd)(S:ZA N [q] (zr st))(hN:1<=N.length)
  (hb:∀(cdv:Value) (A:Around) (outer:List Env) (s:Shared) (H:Hp) (Y:Fx),Y.cl=cl->ZV k (A.deeper (envOfC qual (zr st) s.heap.objs.size f cdv))->
   JV (cxM P w K mg base N qual (zr st) f cdv A outer s H) Y (zI st) fb)
  (hg:∀c,gx c=zA (fb (enC N.length c))):FnM P w K mg base (k+1) f fd [q] (spC cl gx):=by
 refine KI F S (λvs H Q E ⟨_,_,_,e,_⟩=>by rw[e];rfl) λcdv A outer s H vs Q hr ⟨B,a,c,e,sB,r,q⟩=> ?_
 subst e;refine⟨_,hb cdv A _ s H ⟨B,H,λ_ _ _=>False,cl,[]⟩ rfl hr _,B,SI.startC sB hN r, ?_⟩;rw[hg c]at q;revert q;cases fb _ with
 | rt t=>exact λq v H' s r=>q v H' s r
 | rf t=>exact λq a xs H' B' s0 n e r _ l=>q _ H' s0 (.lst (by rw[zY n];exact e) (r.mono l))
 | nx ρ=>exact λq σ' H' B' _ I=>q _ H' I.sH .non
 | ex c=>exact λq=>q
 | bk ρ=>exact λq=>q.elim
 | ct ρ=>exact λq=>q.elim
 | bad=>exact λq=>q
def Vf (cl:Nat->Value)(n:Nat)(g:List T->R T)(Pt:Addr)(q:Str):Sp:=λvs H Q E=>H Pt=some (.tbl #[] q)/\spP cl n g vs H Q E
end
end PV
namespace L2
open PySem PySem.Spec PyProof.Rows PySem.W
theorem YI {P:Program}{w:World}{K:Frag}{mg mb:Str->Option Value}{CX:CXT}{k:Nat}{fa a c Pt:Addr}{fd:FuncData}{x q:Str}{sp:Sp}{s₁:Shared}{vs:List Value}{ns:List Int}
  (KX:K.In s₁.heap) (hns:s₁.heap.Ns mainGlobals mg) (hb:s₁.heap.Ns builtinsNs mb) (hbb:∀x:Str,x ≠ "__name__"->mb x=bootBuiltins x) (hlim:s₁.heap.NoLimit) (hg:s₁.gens= #[])
  (ha:s₁.heap.get? a=some { cls:= .type "list",data:= .seq vs.toArray }) (hi:IntsAre vs ns) (hl:ns.length<=sizeLine) (hr:Zu k callerA)
  (hbt:s₁.heap.BuiltinsAt mg Pt) (hPt:s₁.heap.get? Pt=some (tabObj #[])) (hKP:K.lookup Pt=none) (hC:codeHdIn K c Pt=true) (hKa:K.lookup a=none)
  (F:∀base:Heap,K.In base->base.BuiltinsAt mg Pt->ZW P w K mg base CX k fa fd [x] sp) (hbind:∀(s:Shared) (u:Value),BindsTo s fd ⟨[u],[]⟩ [(x,u)])
  (hsp:∀(H:Hp) (o:Obj),H a=some (.frz o (.lst (ns.map V.int)))->H Pt=some (.tbl #[] q)->sp [.ref a] H (λv _=>v= .bl true) λ_ _ _=>False)
  (hCX:∀H e s',CX [] H s₁ (λ_ _ _=>False) e s' ->False):
  codeAny (model P w) callerA (.call (.ref fa) ⟨[.ref a],[]⟩) (λr s' =>r= .ok (.ret (.bool true))/\OldK s₁.heap s'.heap/\s'.os=s₁.os/\AllBare s'.gens) s₁:=by
 have rv:=jD hi;have hne:Pt ≠ a:=λz=>by rw[z,ha]at hPt;cases hPt
 obtain⟨H,hH⟩:∃H:Hp,H=upd (upd (λ_=>none) Pt (.tbl #[] q)) a (.frz { cls:= .type "list",data:= .seq vs.toArray } (.lst (ns.map V.int))):=⟨_,rfl⟩;have h1:H a=some (.frz { cls:= .type "list",data:= .seq vs.toArray } (.lst (ns.map V.int))):=by rw[hH,zx]
 have h2:H Pt=some (.tbl #[] q):=by rw[hH,zt hne,zx]
 have h3:∀b,b ≠ a->b ≠ Pt->H b=none:=λb n1 n2=>by rw[hH,zt n1,zt n2]
 have hok:HOk P w H _:=λb o e=>by
  by_cases b1:b=a
  ·subst b1;rw[h1]at e;cases e;exact⟨ha,by rw[aa];exact hl,vs,_,rv,ha⟩
  ·by_cases b2:b=Pt
   ·subst b2;rw[h2]at e;cases e;exact⟨#[],hPt,trivial,λp cv z=>by cases z⟩
   ·rw[h3 b b1 b2]at e;cases e
 have noD:∀{b:Addr} {o:Obj} {es:Array _} {ep:Nat},s₁.heap.get? b=some o->o.data= .dict es ep->H b=none:=λ{b o es ep} e d=>h3 b (λz=>by rw[z,ha]at e;cases e;cases d) λz=>by rw[z,hPt]at e;cases e;cases d
 have nsK:∀{b:Addr} {m:Str->Option _},s₁.heap.Ns b m->(XM _ H).Ns b m:=λ{b m} ⟨o,es,ep,e,d,r⟩=>⟨o,es,ep,wE e (noD e d),d,r⟩;have hKb:=λb o e=>wE (KX b o e) (h3 b (λz=>by rw[z,hKa]at e;cases e) λz=>by rw[z,hKP]at e;cases e)
 have hM:Mod K mg _:=⟨hKb,nsK hns,⟨mb,nsK hb,hbb⟩,let ⟨mc,h1,h2⟩:=hlim;⟨mc,nsK h1,h2⟩⟩;have hBT:(XM s₁.heap H).BuiltinsAt mg Pt:=by
  obtain⟨bm,o,b1,b2,b3,b4,b5,b6,b7,b8⟩:=hbt;exact⟨bm,o,b1,b2,b3,b4,wE b5 (h3 bm (λz=>by rw[z,ha]at b5;cases b5;cases b8) b4),b6,b7,b8⟩
 have e0:uQ P w K mg _ callerA [] _ H:=⟨rfl,hM,λb o e=>VC e,fR (yv _ _),trivial,λb hb=>absurd (show b∈([]:List _) from hb) (by simp),hok,.of_eq hg⟩
 refine b_ ((F _ hKb hBT).run _ [] _ H _ _ [.ref a] _ _ hr e0 (hbind _ _) (.cons rfl .nil) (hsp H _ h1 h2)) λr s' h=> ?_;cases r with
 | error e=>exact(hCX H e s' h).elim
 | ok fl=>
  cases fl with
  | next=>exact bo h
  | brk=>exact bo h
  | cont=>exact bo h
  | ret u=>
   obtain⟨v,H',os,bare,un,hok',r',qv⟩:=h;have q' :=qv;subst q';obtain rfl:u=Value.bool _:=r';refine⟨rfl,⟨λb o e=> ?_,λb o e=>un.there b o e (by simp)⟩,os,bare⟩
   by_cases b1:b=a
   ·subst b1;have z2:=un.frzs b _ _ h1;obtain⟨e2,_⟩:=hok' b _ z2;rw[ha]at e;cases e;exact .inl e2
   ·by_cases b2:b=Pt
    ·subst b2;obtain⟨more,e2,_⟩:=hok' b _ (un.tbls b _ _ h2);rw[hPt]at e;cases e;exact .inr (.inl ⟨((codeHd_of_K KX hC).tab hPt).isCodeTable,rfl, #[],more,rfl,e2⟩)
    ·exact .inl (un.keep b o e (h3 b b1 b2) (by intro z;exact absurd (show b∈([]:List _) from z) (by simp)) (by simp))
theorem walk_ofT {l:OpenLaw}{n k:Nat}{q:Program}{loose:List Str}{XP:(Str->Option Value)->Heap->Prop}{YP:World->Heap->Prop}{d:DefRec}{K:Params->Frag}{ts:List Addr}{CX:World->CXT}{sp:World->Addr->Sp}{x nm:Str}
  (hn:l.most=some n) (hn2:n<=sizeLine) (hdf:d.params.defaults=[]) (hr:Zu k callerA)
  (hY:∀(w:World) (h:Heap),YP w h->(K w.params).In h/\∀P∈ts,h.get? P=some (tabObj #[])) (hKa:∀(w:World) (a:Addr) (o:Obj),(K w.params).lookup a=some o->o.cls ≠ .type "list")
  (F:∀(w:World) (mg:Str->Option Value) (fa:Addr) (h:Heap),(K w.params).In h->h.Ns mainGlobals mg->mg d.name=some (.ref fa)->(∀P∈ts,h.get? P=some (tabObj #[]))->
   ∃(fd:FuncData) (c Pt:Addr),(∀(s:Shared) (u:Value),BindsTo s fd ⟨[u],[]⟩ [(x,u)])/\h.get? Pt=some (tabObj #[])/\(K w.params).lookup Pt=none/\codeHdIn (K w.params) c Pt=true/\
    ∀base:Heap,(K w.params).In base->base.BuiltinsAt mg Pt->ZW l.prog w (K w.params) mg base (CX w) k fa fd [x] (sp w Pt))
  (hsp:∀(w:World) (H:Hp) (a Pt:Addr) (o:Obj) (ns:List Int),ns.length<=n->H a=some (.frz o (.lst (ns.map V.int)))->H Pt=some (.tbl #[] nm)->sp w Pt [.ref a] H (λv _=>v= .bl true) λ_ _ _=>False)
  (hCX:∀(w:World) (H:Hp) (s:Shared) (e:Value) (s' :Shared),CX w [] H s (λ_ _ _=>False) e s' ->False):
  WalkO q loose XP YP l.row.toRowW d [] (λf vs=>iE f vs):=by
 refine Att.attach_call hn hdf λw s₀ s₁ mg mb fa o pm cd doc a vs ns G Y ho hd hcd hmg hobj hints hlen hg=> ?_;obtain⟨KX,hT⟩:=hY w _ Y;obtain⟨fd,c,Pt,hb,hPt,hKP,hC,hF⟩:=F w mg fa _ KX G.T.g hmg hT;obtain⟨bm,ob,b1,b2,b3,b4,b5,b6⟩:=G.T.bmain;have hbP:bm ≠ Pt:=λz=>by rw[z,hPt]at b3;cases b3;cases b4
 have hbG:bm ≠ mainGlobals:=λz=>by
  obtain⟨o,es,ep,e,hd,_⟩:=G.T.g;rw[z,e]at b3;cases b3;rw[hd]at b6;cases b6
 refine YI KX G.T.g G.T.b G.T.builtins G.T.nolimit hg hobj hints (aD hlen hn2) hr ⟨bm,ob,b1,b2,hbG,hbP,b3,b4,b5,b6⟩ hPt hKP hC ?_ hF hb (λH o h1 h2=>hsp w H a Pt o ns hlen h1 h2) λH e s' =>hCX w H _ e s';cases hk:(K _).lookup a with
 | none=>rfl
 | some o2=>
  have e:=KX a o2 hk;rw[hobj]at e;cases e;exact(hKa w a _ hk rfl).elim
end L2
namespace PV
open PySem PySem.Spec PyProof.Rows L2
end PV
namespace PV
open PySem PySem.Spec PyProof.Rows L2 PySem.W
section
def ixO (i:Nat)(fb:En->R T):En->R T:=λρ=>match ρ[i]? with
 | some (.ow ts)=>(fb ρ).bind λt=>match t with
  | .int j=>atT ts j
  | _=> .bad
 | _=> .bad
theorem z1k (hv:PE X (.Name x p) (jk i))(hb:Snd X Y b fb)(hs:Jx b:=by exact λ_ _=>rfl):Snd X Y (.Subscript (.Name x p) b pos) (ixO i fb):= .mk λρ=>
 PE.imp (Qu uS hv (hb ρ) hs) λσ H Q ⟨B,I,q⟩=>by
  unfold ixO at q;split at q
  ·rename_i ts e;obtain⟨a,xs,e1,_⟩:=I.ow i ts e;refine⟨.ref a,e1,step I q λt' v' H2 _ s2 r2 I2 q2=> ?_⟩;obtain⟨a2,xs2,e2,_,_,hh,rr,_⟩:=I2.ow i ts e;rw[e1]at e2;cases e2;cases r2 with
   | int j=>
    have q2:Po Y rC _ H2 (atT ts j) Q:=q2;unfold atT at q2;split at q2
    ·rename_i t e3;obtain⟨w,e4,e5⟩:=wo rr e3;exact .inl ⟨_,xs2,j,w,rfl,rfl,SqL.of hh,e4,po0 I2.sB q2 rfl e5⟩
    ·exact q2.elim
   | _=>exact q2.elim
  ·exact q.elim
theorem SI.forget (I:SI Y B ρ σ H)(i:Nat)(v:Option V):SI Y B (ρ.set i .un) (σ.set i v) H where
 s0:=I.s0
 sH:=I.sH
 sB:=I.sB
 old:=I.old
 len:=by rw[aE,aE];exact I.len
 vl:=λj t h=>by
  rcases zq h with ⟨_,z⟩ | ⟨n,z⟩
  ·cases z
  ·obtain⟨v',e,r⟩:=I.vl j t z;exact⟨v',by rw[aw (aZ n)];exact e,r⟩
 ow:=λj ts h=>by
  rcases zq h with ⟨_,z⟩ | ⟨n,z⟩
  ·cases z
  ·obtain⟨a,xs,e,b0,h0,hh,r,d⟩:=I.ow j ts z;refine⟨a,xs,by rw[aw (aZ n)];exact e,b0,h0,hh,r,λj' us n' h' => ?_⟩
   rcases zq h' with ⟨_,z'⟩ | ⟨n2,z'⟩
   ·cases z'
   ·rw[aw (aZ n2)];exact d j' us n' z'
 xc:=λj c h=>by
  rcases zq h with ⟨_,z⟩ | ⟨n,z⟩
  ·cases z
  ·obtain⟨a,e,r⟩:=I.xc j c z;exact⟨a,by rw[aw (aZ n)];exact e,r⟩
 st:=let ⟨as,O,x⟩:=I.st;⟨as,O,x.set i _ _ rfl (λ_=>Sl.noConfusion)⟩
end
end PV
namespace PV
open PySem PySem.Spec PyProof.Rows L2
section
end
end PV
namespace PV
open PySem PySem.Spec PyProof.Rows L2 PySem.W
section
end
section
end
section
end
def FsIn (B H0 H:Hp)(O:Addr->Option Nat)(us:List (Str×V))(fs:List (Str×Fd)):Prop:=(us.length=fs.length/\InC us)/\∀(m:Nat) (f:Str) (d:Fd),fs[m]? =some (f,d)->∃v,us[m]? =some (f,v)/\
 match d with
 | .tv t=>Rep B v t
 | .tl ts=>∃l xs,v= .ref l/\B l=none/\H0 l=none/\H l=some (.lst xs)/\zE B xs ts/\O l=some (m+1)
def vf (cl:Nat->Value)(k:Nat)(B H0 H:Hp)(x:Addr)(fs:List (Str×Fd)):Prop:=∃C dx us O,cl k= .ref C/\H x=some (.ins C dx us)/\B x=none/\H0 x=none/\O x=some 0/\FsIn B H0 H O us fs
theorem SI.obAt {Y:Fx}{B:Hp}{ρ:En}{σ:Sg}{H:Hp}(I:SI Y B ρ σ H){j k:Nat}{x:Addr}{fs:List (Str×Fd)}{os:List Ob}(hx:Y.as=[x])(h:ρ[j]? =some (.st ((k,fs) :: os))):vf Y.cl k B Y.H0 H x fs:=by
 obtain⟨as,O,s⟩:=I.st;obtain⟨a,C,dx,vs,e1,e2,e3,e4,e5,e6,e7,e8⟩:=s.st j _ h 0 k fs rfl;have ha:a=x:=by
  obtain⟨t,et⟩:=s.pre;rw[hx]at et;rw[← et]at e1;exact(aB e1).symm
 subst ha;refine⟨C,dx,vs,λb=>(O b).bind λp=>if p.1=0 then some p.2 else none,e2,e3,e4,e5,by dsimp only;rw[e6];rfl,e7,λm f d z=> ?_⟩
 obtain⟨v,z1,z2⟩:=e8 m f d z;refine⟨v,z1, ?_⟩;cases d with
 | tv t=>exact z2
 | tl ts=>
  obtain⟨l,xs,p1,p2,p3,p4,p5,_,p7⟩:=z2;exact⟨l,xs,p1,p2,p3,p4,p5,by dsimp only;rw[p7];rfl⟩
def enM (k j:Nat)(fs:List (Str×Fd))(ts:List T):En:= .ob k 0 :: (ts.map Sl.vl++(aj (j - 1 - ts.length) .un++[.st [(k,fs)]]))
theorem ZH (h:(enM k j fs ts)[i]? =some s):(i=0/\s= .ob k 0)\/(∃i' t,i=i' +1/\ts[i']? =some t/\s= .vl t)\/s= .un\/(s= .st [(k,fs)]/\i=1+ts.length+(j - 1 - ts.length)):=by
 unfold enM at h;cases i with
 | zero=>exact .inl ⟨rfl,(aB h).symm⟩
 | succ i=>
  rw[bp]at h
  by_cases hi:i < ts.length
  ·rw[ax (by simpa using hi),ay,ah hi]at h
   exact .inr (.inl ⟨i,_,rfl,ah hi,(aB h).symm⟩)
  ·rw[au (by simpa using hi)]at h
   by_cases h2:i - (ts.map Sl.vl).length < j - 1 - ts.length
   ·rw[ax (by simpa using h2),aG,if_pos h2]at h
    exact .inr (.inr (.inl (aB h).symm))
   ·rw[au (by simpa using h2)]at h
    generalize hq:i - (ts.map _).length - (aj _ _).length=q at h;cases q with
    | zero=>
     refine .inr (.inr (.inr ⟨(aB h).symm, ?_⟩));rw[aa,aS]at hq;rw[aa]at h2;omega
    | succ q=>cases h
theorem zE.at {B:Hp}:∀{vs:List V} {ts:List T},zE B vs ts->∀{i:Nat} {t:T},ts[i]? =some t->∃v,vs[i]? =some v/\Rep B v t
 | _,_,.nil,i,t,h=>by simp at h
 | _,_, @zE.cons _ v _ _ _ r rr,0,t,h=>by cases h;exact⟨v,rfl,r⟩
 | _,_,.cons r rr,i+1,t,h=>zE.at rr h
theorem SI.startM {cl:Nat->Value}{k j:Nat}{B H0 H:Hp}{x:Addr}{fs:List (Str×Fd)}{E:XK}{vs:List V}{ts:List T}{N:List Str}(hN:N.length=j+1)(hj:ts.length+1<=j)(sB:zu B H0)(sH:zu H0 H)(ob:vf cl k B H0 H x fs)(r:zE B vs ts):
  SI ⟨B,H0,E,cl,[x]⟩ B (enM k j fs ts) (L2.start N (.ref x :: vs)) H where
 s0:=sB
 sH:=sH
 sB:=sB.trans sH
 old:=λ_ _ _=>rfl
 len:=by
  unfold enM L2.start;have:=r.length;simp only[ag,av,aa,aS,bR];omega
 vl:=λi t h=>by
  rcases ZH h with ⟨_,e⟩ | ⟨i',t',e1,e2,e3⟩ | e | ⟨e,_⟩
  ·cases e
  ·cases e3;subst e1;obtain⟨v,ev,rv⟩:=r.at e2;refine⟨v, ?_,rv⟩;unfold L2.start;have hi:i' < vs.length:=(ar.mp ev).1;rw[ax (by simpa using hi),aI,bp,ay,ev];rfl
  ·cases e
  ·cases e
 ow:=λi t h=>by
  rcases ZH h with ⟨_,e⟩ | ⟨i',t',e1,e2,e3⟩ | e | ⟨e,_⟩
  ·cases e
  ·cases e3
  ·cases e
  ·cases e
 xc:=λi t h=>by
  rcases ZH h with ⟨_,e⟩ | ⟨i',t',e1,e2,e3⟩ | e | ⟨e,_⟩
  ·cases e
  ·cases e3
  ·cases e
  ·cases e
 st:=by
  obtain⟨C,dx,us,O,c1,c2,c3,c4,c5,c6,c7⟩:=ob;refine⟨[x],λb=>(O b).map λm=>(0,m),bO _,λi os h=> ?_,λi i' os os' h h' => ?_,λi k' n h=> ?_,λi k' fs0 h=> ?_,λi os h n k' fs' e=> ?_⟩
  ·rcases ZH h with ⟨_,e⟩ | ⟨_,_,_,_,e⟩ | e | ⟨e,_⟩ <;> cases e
   rfl
  ·rcases ZH h with ⟨_,e⟩ | ⟨_,_,_,_,e⟩ | e | ⟨_,e⟩
   ·cases e
   ·cases e
   ·cases e
   ·rcases ZH h' with ⟨_,e'⟩ | ⟨_,_,_,_,e'⟩ | e' | ⟨_,e'⟩
    ·cases e'
    ·cases e'
    ·cases e'
    ·rw[e,e']
  ·rcases ZH h with ⟨e0,e⟩ | ⟨i',t',e1,e2,e3⟩ | e | ⟨e,_⟩
   ·cases e;subst e0;exact⟨x,C,dx,us,rfl,rfl,c1,c2,c3,c4,c6.2⟩
   ·cases e3
   ·cases e
   ·cases e
  ·rcases ZH h with ⟨e0,e⟩ | ⟨i',t',e1,e2,e3⟩ | e | ⟨e,_⟩
   ·cases e
   ·cases e3
   ·cases e
   ·cases e
  ·rcases ZH h with ⟨e0,e'⟩ | ⟨i',t',e1,e2,e3⟩ | e' | ⟨e',_⟩
   ·cases e'
   ·cases e3
   ·cases e'
   ·cases e';cases n with
    | succ n=>cases e
    | zero=>
     cases e;refine⟨x,C,dx,us,rfl,c1,c2,c3,c4,by rw[c5];rfl,c6,λm f d z=> ?_⟩
     obtain⟨v,z1,z2⟩:=c7 m f d z;refine⟨v,z1, ?_⟩;cases d with
     | tv t=>exact z2
     | tl us' =>
      obtain⟨l,xs,p1,p2,p3,p4,p5,p6⟩:=z2;refine⟨l,xs,p1,p2,p3,p4,p5,λj' us2 hj' => ?_,by show iH _ (O l)=_;rw[p6];rfl⟩
      rcases ZH hj' with ⟨_,e⟩ | ⟨_,_,_,_,e⟩ | e | ⟨e,_⟩ <;> cases e
def PoO (cl:Nat->Value)(k:Nat)(B H0:Hp)(x:Addr)(r:R (T×List (Str×Fd)))(Q:VK)(E:XK):Prop:=match r with
 | .ok (t,fs')=>∀v H' B',zu H0 H' ->zu B B' ->zu B' H' ->(∀b o,H0 b=some o->B' b=B b)->vf cl k B' H0 H' x fs' ->Rep B' v t->Q v H'
 | .ex c=>∀d H',zu H0 H' ->zu B H' ->E (cl c) d H'
 | .bad=>False
def spM (cl:Nat->Value)(k n:Nat)(g:List (Str×Fd)->List T->R (T×List (Str×Fd))):Sp:=λvs H Q E=>∃(x:Addr) (vs' :List V) (ts:List T) (B H0:Hp) (fs:List (Str×Fd)),vs= .ref x :: vs' /\ts.length=n/\zu B H0/\zu H0 H/\vf cl k B H0 H x fs/\zE B vs' ts/\PoO cl k B H0 x (g fs ts) Q E
def PoR (Y:Fx)(B:Hp)(r:R (T×En))(D:yj):Prop:=match r with
 | .ok (t,ρ')=>(∀v σ' H' B',zu B B' ->SI Y B' ρ' σ' H' ->Rep B' v t->D.rt v H')/\(t= .non->∀σ' H' B',zu B B' ->SI Y B' ρ' σ' H' ->D.nx σ' H')
 | .ex c=>XP Y B c
 | .bad=>False
theorem XP.up (s:zu B B')(h:XP Y B c):XP Y B' c:=λd H' a b=>h d H' a (s.trans b)
theorem PoR.up {r:R (T×En)}{D:yj}(s:zu B B')(h:PoR Y B r D):PoR Y B' r D:=by
 unfold PoR at h ⊢;split
 ·exact⟨λv σ' H' B2 a=>h.1 v σ' H' B2 (s.trans a),λe σ' H' B2 a=>h.2 e σ' H' B2 (s.trans a)⟩
 ·exact XP.up s h
 ·exact h
structure vg (X:Cx) (Y:Fx) (body:List Stmt) (f:En->R (T×En)):Prop where
 mk ::
 go:∀ρ,PSs X body λD σ H=>∃B,SI Y B ρ σ H/\PoR Y B (f ρ) D
def PoM (Y:Fx)(B:Hp)(r:R (T×En))(σ:Sg)(Q:VK):Prop:=match r with
 | .ok (t,ρ')=>∀v H' B',zu B B' ->SI Y B' ρ' σ H' ->Rep B' v t->Q v H'
 | .ex c=>XP Y B c
 | .bad=>False
structure ug (X:Cx) (Y:Fx) (e:Expr) (f:En->R (T×En)):Prop where
 mk ::
 go:∀ρ,PE X e λσ H Q=>∃B,SI Y B ρ σ H/\PoM Y B (f ρ) σ Q
section
variable {X:Cx}{Y:Fx}{e:Expr}{st:Stmt}{rest:List Stmt}{pos:Pos}
def XQ (f:En->R T):En->R (T×En):=λρ=>(f ρ).bind λt=> .ok (t,ρ)
theorem KK (h:Snd X Y e f):ug X Y e (XQ f):= .mk λρ=>PE.imp (h ρ) λσ H Q ⟨B,I,q⟩=>⟨B,I,by
 unfold XQ at q;revert q;cases f ρ with
 | ok t=>exact λq v H' s r=>q v H' _ (zM.ge I.sB s) (I.grow s) r
 | ex c=>exact λq=>q
 | bad=>exact λq=>q⟩
theorem z1l (h:ug X Y e f):vg X Y [.Return (some e) pos] f:= .mk λρ=>PSs.imp (jN (wg (h.go ρ))) λD σ H ⟨B,I,q⟩=>⟨B,I,by
 unfold PoR at q;unfold PoM;split at q
 ·exact λv H' B' a b c=>q.1 v σ H' B' a b c
 ·exact q
 ·exact q⟩
def z1m:En->R (T×En):=λρ=> .ok (.non,ρ)
theorem z1n:vg X Y [] z1m:= .mk λρ=>PSs.imp yy λD σ H ⟨B,I,q⟩=>q.2 rfl σ H B (zu.refl _) I
def ZD (f:En->RS)(g:En->R (T×En)):En->R (T×En):=λρ=>match f ρ with
 | .nx ρ' =>g ρ'
 | .ex c=> .ex c
 | _=> .bad
theorem KL {f:En->RS}{g:En->R (T×En)}(h1:jm X Y st f)(h2:vg X Y rest g):vg X Y (st :: rest) (ZD f g):= .mk λρ=>by
 refine PSs.imp (wG (u:=λD σ H=>∃ρ' B,SI Y B ρ' σ H/\PoR Y B (g ρ') D) (h1 ρ) ?_) ?_
 ·intro pins s σ H D I ⟨ρ',q⟩;exact h2.go ρ' _ s σ H D I q
 ·intro D σ H ⟨B,I,q⟩;refine⟨B,I, ?_⟩;unfold ZD at q;revert q;cases f ρ with
  | nx ρ' =>exact λq σ' H' B' s I' =>⟨ρ',B',I',q.up s⟩
  | ex c=>exact λq=>q
  | rt t=>exact λq=>q.elim
  | rf t=>exact λq=>q.elim
  | bk ρ=>exact λq=>q.elim
  | ct ρ=>exact λq=>q.elim
  | bad=>exact λq=>q.elim
end
def JW (k j:Nat)(r:R (T×En)):R (T×List (Str×Fd)):=r.bind λp=>match p.2[j]? with
 | some (.st ((k',fs) :: _))=>if k' =k then .ok (p.1,fs) else .bad
 | _=> .bad
section
variable {P:Program}{w:World}{K:a8}{mg:Str->Option Value}{base:Heap}
theorem YJ {cl:Nat->Value}{x qual:Str}{st:Stmt}{f:Addr}{fd:FuncData}{N ps:List Str}{k n j kr:Nat}{fb:En->R (T×En)}(F:Fun K x qual st f fd)(S:ZA N ps (zr st))(hn:ps.length=n+1)(hN:N.length=j+1)(hj:n+1<=j)
  (hb:∀(cdv:Value) (A:Around) (outer:List Env) (s:Shared) (H:Hp) (E:XK) (Y:Fx),Y.cl=cl->Y.E=E->Zu kr (A.deeper (envOfC qual (zr st) s.heap.objs.size f cdv))->
   vg (jL (CX1 P w) P w K mg base N qual (zr st) f cdv A outer s H E) Y (zI st) fb):ZW P w K mg base (CX1 P w) (kr+1) f fd ps (spM cl k n λfs ts=>JW k j (fb (enM k j fs ts))):=by
 refine Fun.okX F S (λvs H Q E z=> ?_) λcdv A outer s H vs Q E hr z=> ?_
 ·obtain⟨x,vs',ts,B,H0,fs,e,hl,_,_,_,r,_⟩:=z;rw[e,ag,r.length,hl,hn]
 obtain⟨x,vs',ts,B,H0,fs,e,hl,sB,sH,ob,r,q⟩:=z;subst e;refine⟨_,(hb cdv A _ s H E _ rfl rfl hr).go _,B,SI.startM hN (by omega) sB sH ob r, ?_⟩
 have q:PoO cl k B H0 x (JW k j _) Q E:=q;revert q;cases fb _ with
 | bad=>exact λq=>q
 | ex c=>exact λq=>q
 | ok p=>
  obtain⟨t,ρ'⟩:=p;show PoO cl k B H0 x (match ρ'[j]? with | some (.st ((k',fs) :: _))=>(if k' =k then R.ok _ else R.bad) | _=>R.bad) Q E->_
  split
  ·rename_i k' fs' os ej;split
   ·rename_i hk;subst hk;intro q;have key:∀v σ' H' B',zu B B' ->SI ⟨B,H0,E,cl,[x]⟩ B' ρ' σ' H' ->Rep B' v t->Q v H' :=λv σ' H' B' s1 I' rv=>q v H' B' I'.sH s1 I'.sB (λb o h=>I'.old b o h) (I'.obAt rfl ej) rv;exact⟨key,λet σ' H' B' s1 I' =>key _ σ' H' B' s1 I' (by rw[et];exact .non)⟩
   ·exact λq=>q.elim
  ·exact λq=>q.elim
end
def obD (k i j:Nat)(ρ:En):Option (Nat×List (Str×Fd)×List Ob):=match ρ[i]?,ρ[j]? with
 | some (.ob k' n),some (.st os)=>match os[n]? with
  | some (k2,fs)=>if k' =k/\k2=k then some (n,fs,os) else none
  | none=>none
 | _,_=>none
theorem JH {k i j:Nat}{ρ:En}{n:Nat}{fs:List (Str×Fd)}{os:List Ob}(h:obD k i j ρ=some (n,fs,os)):ρ[i]? =some (.ob k n)/\ρ[j]? =some (.st os)/\os[n]? =some (k,fs):=by
 unfold obD at h;split at h
 ·rename_i k' n' os' e1 e2;split at h
  ·rename_i k2 fs' e3;split at h
   ·rename_i hk;obtain⟨rfl,rfl⟩:=hk;cases h;exact⟨e1,e2,e3⟩
   ·cases h
  ·cases h
 ·cases h
theorem wZ {f:Str}{d:Fd}:∀{fs:List (Str×Fd)} {vs:List (Str×V)},(∀(m:Nat) (g:Str) (e:Fd),fs[m]? =some (g,e)->∃v,vs[m]? =some (g,v))->fs.lookup f=some d->∃(m:Nat) (v:V),fs[m]? =some (f,d)/\vs[m]? =some (f,v)/\vs.lookup f=some v
 | [],_,_,h=>by simp at h
 | (g,e) :: fs,vs,al,h=>by
  obtain⟨v,hv⟩:=al 0 g e rfl;cases vs with
  | nil=>cases hv
  | cons w vs=>
   cases hv;rw[aJ]at h
   by_cases hx:f=g
   ·subst hx;rw[beq_self_eq_true]at h;cases h;exact⟨0,v,rfl,rfl,by rw[aJ,beq_self_eq_true]⟩
   ·rw[beq_eq_false_iff_ne.mpr hx]at h;obtain⟨m,v',a,b,c⟩:=wZ (λm=>al (m+1)) h;exact⟨m+1,v',a,b,by rw[aJ,beq_eq_false_iff_ne.mpr hx];exact c⟩
theorem W0 {f:Str}:∀{fs:List (Str×Fd)} {vs:List (Str×V)},vs.length=fs.length->(∀(m:Nat) (g:Str) (e:Fd),fs[m]? =some (g,e)->∃v,vs[m]? =some (g,v))->fs.lookup f=none->vs.lookup f=none
 | [],vs,l,_,h=>by
  cases vs with
  | nil=>rfl
  | cons _ _=>cases l
 | (g,e) :: fs,vs,l,al,h=>by
  obtain⟨v,hv⟩:=al 0 g e rfl;cases vs with
  | nil=>cases hv
  | cons w vs=>
   cases hv;rw[aJ]at h ⊢
   by_cases hx:f=g
   ·subst hx;rw[beq_self_eq_true]at h;cases h
   ·rw[beq_eq_false_iff_ne.mpr hx]at h ⊢;exact W0 (by simpa using l) (λm=>al (m+1)) h
section
theorem SI.look (I:SI Y B ρ σ H){k i j n:Nat}{fs:List (Str×Fd)}{os:List Ob}{f:Str}{d:Fd}(h:obD k i j ρ=some (n,fs,os))(hl:fs.lookup f=some d):∃a C dx vs v,∃m:Nat,∃as O,StI Y B ρ σ H as O/\σ[i]? =some (some (V.ref a))/\Y.cl k= .ref C/\H a=some (.ins C dx vs)/\vs.lookup f=some v/\fs[m]? =some (f,d)/\vs[m]? =some (f,v)/\FdR Y B ρ σ H (λl=>O l=some (n,m+1)) v d:=by
 obtain⟨h1,h2,h3⟩:=JH h;obtain⟨as,O,s⟩:=I.st;obtain⟨a,C,dx,vs,e1,e2,e3,e4,e5,e6,e7,e8⟩:=s.st j os h2 n k fs h3;obtain⟨a',C',dx',vs',g1,g2,_⟩:=s.ob i k n h1;rw[e1]at g1;cases g1;obtain⟨m,v,z1,z2,z3⟩:=wZ (λm g e he=>let ⟨v,z,_⟩:=e8 m g e he;⟨v,z⟩) hl;obtain⟨v',y1,y2⟩:=e8 m f d z1;rw[z2]at y1;cases y1;exact⟨a,C,dx,vs,v,m,as,O,s,g2,e2,e3,z3,z1,z2,y2⟩
def fldE (k i j:Nat)(f:Str):En->R T:=λρ=>match obD k i j ρ with
 | some (_,fs,_)=>match fs.lookup f with
  | some (.tv t)=> .ok t
  | _=> .bad
 | none=> .bad
def XR (k i j:Nat)(f:Str):En->R T:=λρ=>match obD k i j ρ with
 | some (_,fs,_)=>match fs.lookup f with
  | some (.tl ts)=> .ok (.lst ts)
  | _=> .bad
 | none=> .bad
theorem KM {k i j:Nat}{x f:Str}{px pos:Pos}{C:Addr}(hv:PE X (.Name x px) (jk i))(hc:Y.cl k= .ref C)(c:L2.Cls X.K C)(n:L2.NoAttr X.K C f)(hb:attributeBase (.Name x px) f X.env (eval (.Name x px) X.env)=eval (.Name x px) X.env:=by rfl):ZZ X Y (.Attribute (.Name x px) f pos) (XR k i j f):= .mk λρ=>PE.imp (jA hv hb) λσ H Q ⟨B,I,q⟩=>by
 unfold XR at q;split at q
 ·rename_i n' fs os e;split at q
  ·rename_i ts el;obtain⟨a,C',dx,vs,v,m,as,O,s,e1,e2,e3,e4,e5,e6,l,xs,p1,p2,p3,p4,p5,_⟩:=I.look e el;rw[hc]at e2;cases e2;subst p1;exact⟨.ref a,e1,a,C,dx,vs,_,rfl,e3,c,n,e4,q _ H (zu.refl _) (.lst p4 (p5.mono I.sB))⟩
  ·exact q.elim
 ·exact q.elim
theorem SI.chgF (I:SI Y B ρ σ H){k i j n m:Nat}{fs:List (Str×Fd)}{os:List Ob}{f:Str}{ts us:List T}{ys:List V}{a C dx l:Addr}{vs:List (Str×V)}(h:obD k i j ρ=some (n,fs,os))(hm:fs[m]? =some (f,.tl ts))(ha:σ[i]? =some (some (V.ref a)))(hH:H a=some (.ins C dx vs))(hl:vs[m]? =some (f,.ref l))(r:zE B ys us):
  SI Y B (ρ.set j (.st (os.set n (k,fs.set m (f,.tl us))))) σ (upd H l (.lst ys)):=by
 obtain⟨h1,h2,h3⟩:=JH h;obtain⟨as,O,s⟩:=I.st;obtain⟨a1,C1,dx1,vs1,e1,e2,e3,e4,e5,e6,e7,e8⟩:=s.st j os h2 n k fs h3;obtain⟨a',C',dx',vs',g1,g2,_⟩:=s.ob i k n h1;rw[e1]at g1;cases g1;rw[ha]at g2;cases g2;rw[hH]at e3;cases e3;obtain⟨v,z1,z2⟩:=e8 m f _ hm;rw[hl]at z1;cases z1;obtain⟨l',xs,p1,b0,h0,hh,p5,ok,ol⟩:=z2;cases p1;have nb:∀b o,B b=some o->b ≠ l:=λb o h z=>by subst z;rw[b0]at h;cases h
 have n0:∀b o,Y.H0 b=some o->b ≠ l:=λb o h z=>by subst z;rw[h0]at h;cases h
 have own:∀(j' :Nat) (ws:List T),(ρ.set j (.st (os.set n (k,fs.set m (f,.tl us)))))[j']? =some (Sl.ow ws)->ρ[j']? =some _:=λj' ws hw=>by
  rcases zq hw with ⟨_,z⟩ | ⟨_,z⟩
  ·cases z
  ·exact z
 have ok' :∀b,Wx ρ σ b->Wx _ σ b:=λb hb j' ws hw=>hb j' ws (own j' ws hw);refine⟨I.s0,λb o h=>by rw[zt (n0 b o h)];exact I.sH b o h,λb o h=>by rw[zt (nb b o h)];exact I.sB b o h,I.old,by rw[aE];exact I.len,λj' u h=> ?_,λj' ws h=> ?_,λj' c h=> ?_,as,O,s.pre,λi' os' h=> ?_,λi1 i2 os1 os2 q1 q2=> ?_,λi' k' n' h=> ?_,λi' k' fs0 h=> ?_,λi' os' h n' k' fs' e=> ?_⟩
 ·rcases zq h with ⟨_,z⟩ | ⟨_,z⟩
  ·cases z
  ·exact I.vl j' u z
 ·have z:=own j' ws h;obtain⟨b,xs',y1,y2,y3,y4,y5,y6⟩:=I.ow j' ws z;have hne:b ≠ l:=λw=>by subst w;exact ok j' ws z y1
  exact⟨b,xs',y1,y2,y3,by rw[zt hne];exact y4,y5,λj2 vs2 hj hw=>y6 j2 vs2 hj (own j2 vs2 hw)⟩
 ·rcases zq h with ⟨_,z⟩ | ⟨_,z⟩
  ·cases z
  ·exact I.xc j' c z
 ·rcases zq h with ⟨_,z⟩ | ⟨_,z⟩
  ·cases z;rw[aE];exact s.len j os h2
  ·exact s.len _ _ z
 ·have one:∀i1 os1,(ρ.set j (.st (os.set n (k,fs.set m (f,.tl us)))))[i1]? =some _->i1=j:=λi1 os1 q1=>by
   rcases zq q1 with ⟨e,_⟩ | ⟨_,z⟩
   ·exact e
   ·exact s.one i1 j os1 os z h2
  rw[one i1 os1 q1,one i2 os2 q2]
 ·rcases zq h with ⟨_,z⟩ | ⟨_,z⟩
  ·cases z
  ·obtain⟨b,C2,dx2,vs2,y1,y2,y3,y4,y5,y6⟩:=s.ob i' k' n' z;have hne:b ≠ l:=λw=>by subst w;rw[hh]at y4;cases y4
   exact⟨b,C2,dx2,vs2,y1,y2,y3,by rw[zt hne];exact y4,y5,y6⟩
 ·rcases zq h with ⟨_,z⟩ | ⟨_,z⟩
  ·cases z
  ·exact s.oc i' k' _ z
 ·rcases zq h with ⟨rfl,z⟩ | ⟨hne,z⟩
  ·cases z;rcases zq e with ⟨rfl,z⟩ | ⟨hn,z⟩
   ·cases z;have hne:a ≠ l:=λw=>by subst w;rw[hh]at hH;cases hH
    refine⟨a,C,dx,vs,e1,e2,by rw[zt hne];exact hH,e4,e5,e6,⟨by rw[aE];exact e7.1,e7.2⟩,λm' f' d' z=> ?_⟩
    rcases zq z with ⟨rfl,z'⟩ | ⟨hm',z'⟩
    ·cases z';exact⟨.ref l,hl,l,ys,rfl,b0,h0,zx,r,ok' l ok,ol⟩
    ·obtain⟨v',y1,y2⟩:=e8 m' f' d' z';refine⟨v',y1, ?_⟩;cases d' with
     | tv t=>exact y2
     | tl ws=>
      obtain⟨l2,xs2,w1,w2,w3,w4,w5,w6,w7⟩:=y2;have hne:l2 ≠ l:=λw=>by
       subst w;rw[ol]at w7;injection w7 with w7;injection w7 with _ w7;exact hm' (by omega)
      exact⟨l2,xs2,w1,w2,w3,by rw[zt hne];exact w4,w5,ok' l2 w6,w7⟩
   ·obtain⟨b,C2,dx2,vs2,y1,y2,y3,y4,y5,y6,y7,y8⟩:=s.st i' os h2 n' k' fs' z;have hne:b ≠ l:=λw=>by subst w;rw[hh]at y3;cases y3
    refine⟨b,C2,dx2,vs2,y1,y2,by rw[zt hne];exact y3,y4,y5,y6,y7,λm' f' d' z=> ?_⟩
    obtain⟨v',x1,x2⟩:=y8 m' f' d' z;refine⟨v',x1, ?_⟩;cases d' with
    | tv t=>exact x2
    | tl ws=>
     obtain⟨l2,xs2,w1,w2,w3,w4,w5,w6,w7⟩:=x2;have hne:l2 ≠ l:=λw=>by
      subst w;rw[ol]at w7;injection w7 with w7;injection w7 with w7 _;exact hn w7.symm
     exact⟨l2,xs2,w1,w2,w3,by rw[zt hne];exact w4,w5,ok' l2 w6,w7⟩
  ·exact absurd (s.one i' j os' os z h2) hne
end
noncomputable def WL (f:Str)(d:Fd):List (Str×Fd)->List (Str×Fd)
 | []=>[(f,d)]
 | (g,x) :: r=>if g=f then (g,d) :: r else (g,x) :: WL f d r
noncomputable def Qc (f:Str):List (Str×Fd)->Nat
 | []=>0
 | (g,_) :: r=>if g=f then 0 else Qc f r+1
theorem U7 {f:Str}{d:Fd}{v:V}:∀{fs:List (Str×Fd)} {vs:List (Str×V)},vs.length=fs.length->(∀(m:Nat) (g:Str) (e:Fd),fs[m]? =some (g,e)->∃v,vs[m]? =some (g,v))->(L2.putF f v vs).length=(WL f d fs).length
 | [],vs,l,_=>by
  cases vs with
  | nil=>rfl
  | cons _ _=>cases l
 | (g,e) :: fs,vs,l,al=>by
  obtain⟨w,hw⟩:=al 0 g e rfl;cases vs with
  | nil=>cases hw
  | cons w vs=>
   cases hw;unfold L2.putF WL;split
   ·simpa using l
   ·rw[ag,ag,U7 (by simpa using l) (λm=>al (m+1))]
theorem U8 {f:Str}{d:Fd}{v:V}:∀{fs:List (Str×Fd)} {vs:List (Str×V)},vs.length=fs.length->(∀(m:Nat) (g:Str) (e:Fd),fs[m]? =some (g,e)->∃v,vs[m]? =some (g,v))->∀{m:Nat} {g:Str} {e:Fd},(WL f d fs)[m]? =some (g,e)->
  (m=Qc f fs/\g=f/\e=d/\(L2.putF f v vs)[m]? =some (f,v))\/(m ≠ Qc f fs/\fs[m]? =some (g,e)/\∀v',vs[m]? =some (g,v')->(L2.putF f v vs)[m]? =some (g,v'))
 | [],vs,l,_,m,g,e,h=>by
  cases vs with
  | cons _ _=>cases l
  | nil=>
   cases m with
   | zero=>cases h;exact .inl ⟨rfl,rfl,rfl,rfl⟩
   | succ m=>cases h
 | (g0,e0) :: fs,vs,l,al,m,g,e,h=>by
  obtain⟨w,hw⟩:=al 0 g0 e0 rfl;cases vs with
  | nil=>cases hw
  | cons w vs=>
   cases hw;unfold WL at h;unfold Qc L2.putF
   by_cases hg:g0=f
   ·rw[if_pos hg]at h ⊢;rw[if_pos hg];cases m with
    | zero=>cases h;exact .inl ⟨rfl,hg,rfl,by rw[hg];rfl⟩
    | succ m=>exact .inr ⟨ie _,h,λv' hv=>hv⟩
   ·rw[if_neg hg]at h ⊢;rw[if_neg hg];cases m with
    | zero=>cases h;exact .inr ⟨(ie _).symm,rfl,λv' hv=>hv⟩
    | succ m=>
     rcases U8 (by simpa using l) (λm=>al (m+1)) h with ⟨a,b,c,d⟩ | ⟨a,b,c⟩
     ·exact .inl ⟨by rw[a],b,c,d⟩
     ·exact .inr ⟨λz=>a (Nat.succ.inj z),b,c⟩
theorem YK (hf:f∈Q8)(h:InC vs):InC (L2.putF f v vs):=λg hg=>by
 rw[L2.lookup_putF,if_neg λz=>hg (by rw[z];exact hf)];exact h g hg
section
def FdN (B H H1:Hp)(v:V):Fd->Prop
 | .tv t=>H1=H/\Rep B v t
 | .tl ts=>∃p xs,v= .ref p/\H p=none/\H1=upd H p (.lst xs)/\zE B xs ts
theorem SI.putF (I:SI Y B ρ σ H){k i j n:Nat}{fs:List (Str×Fd)}{os:List Ob}{f:Str}{d:Fd}{v:V}{a C dx:Addr}{vs:List (Str×V)}{H1:Hp}(hf:f∈Q8)(h:obD k i j ρ=some (n,fs,os))(ha:σ[i]? =some (some (V.ref a)))(hH:H a=some (.ins C dx vs))(hd:FdN B H H1 v d):
  SI Y B (ρ.set j (.st (os.set n (k,WL f d fs)))) σ (upd H1 a (.ins C dx (L2.putF f v vs))):=by
 obtain⟨h1,h2,h3⟩:=JH h;obtain⟨as,O,s⟩:=I.st;obtain⟨a1,C1,dx1,vs1,e1,e2,e3,e4,e5,e6,e7,e8⟩:=s.st j os h2 n k fs h3;obtain⟨a',C',dx',vs',g1,g2,_⟩:=s.ob i k n h1;rw[e1]at g1;cases g1;rw[ha]at g2;cases g2;rw[hH]at e3;cases e3;have al:∀(m:Nat) (g:Str) (e:Fd),fs[m]? =some _->∃v,vs[m]? =some _:=λm g e he=>let ⟨v,z,_⟩:=e8 m g e he;⟨v,z⟩;have sH1:zu H H1:=by
  cases d with
  | tv t=>rw[hd.1];exact zu.refl _
  | tl ts=>obtain⟨p,xs,_,hp,e,_⟩:=hd;rw[e];exact zu.new hp _
 have keep:∀b o,H b=some o->b ≠ a->(upd H1 a (.ins C dx (L2.putF f v vs))) b=some o:=λb o hb hne=>by rw[zt hne];exact sH1 b o hb
 have nb:∀b o,B b=some o->b ≠ a:=λb o h z=>by subst z;rw[e4]at h;cases h
 have n0:∀b o,Y.H0 b=some o->b ≠ a:=λb o h z=>by subst z;rw[e5]at h;cases h
 have own:∀(j' :Nat) (ws:List T),(ρ.set j (.st (os.set n (k,WL f d fs))))[j']? =some (Sl.ow ws)->ρ[j']? =some _:=λj' ws hw=>by
  rcases zq hw with ⟨_,z⟩ | ⟨_,z⟩
  ·cases z
  ·exact z
 have ok' :∀b,Wx ρ σ b->Wx _ σ b:=λb hb j' ws hw=>hb j' ws (own j' ws hw);have lst_ne:∀{b:Addr} {xs:List V},H b=some (.lst xs)->b ≠ a:=λhb z=>by subst z;rw[hH]at hb;cases hb
 obtain⟨O',hO1,hO2⟩:∃O' :Addr->Option _,(∀b o,H b=some o->O' b=O b)/\∀b,v= .ref b->H b=none->O' b=some _:=by
  classical
  refine⟨λb=>if v= .ref b/\H b=none then some (n,Qc f fs+1) else O b, ?_, ?_⟩
  ·intro b o hb;exact if_neg λz=>by rw[hb]at z;cases z.2
  ·intro b z1 z2;exact if_pos ⟨z1,z2⟩
 refine⟨I.s0,λb o h=>keep b o (I.sH b o h) (n0 b o h),λb o h=>keep b o (I.sB b o h) (nb b o h),I.old,by rw[aE];exact I.len,λj' u h=> ?_,λj' ws h=> ?_,λj' c h=> ?_,as,O',s.pre,λi' os' h=> ?_,λi1 i2 os1 os2 q1 q2=> ?_,λi' k' n' h=> ?_,λi' k' fs0 h=> ?_,λi' os' h n' k' fs' e=> ?_⟩
 ·rcases zq h with ⟨_,z⟩ | ⟨_,z⟩
  ·cases z
  ·exact I.vl j' u z
 ·have z:=own j' ws h;obtain⟨b,xs',y1,y2,y3,y4,y5,y6⟩:=I.ow j' ws z;exact⟨b,xs',y1,y2,y3,keep b _ y4 (lst_ne y4),y5,λj2 vs2 hj hw=>y6 j2 vs2 hj (own j2 vs2 hw)⟩
 ·rcases zq h with ⟨_,z⟩ | ⟨_,z⟩
  ·cases z
  ·exact I.xc j' c z
 ·rcases zq h with ⟨_,z⟩ | ⟨_,z⟩
  ·cases z;rw[aE];exact s.len j os h2
  ·exact s.len _ _ z
 ·have one:∀i1 os1,(ρ.set j (.st (os.set n (k,WL f d fs))))[i1]? =some _->i1=j:=λi1 os1 q1=>by
   rcases zq q1 with ⟨e,_⟩ | ⟨_,z⟩
   ·exact e
   ·exact s.one i1 j os1 os z h2
  rw[one i1 os1 q1,one i2 os2 q2]
 ·rcases zq h with ⟨_,z⟩ | ⟨_,z⟩
  ·cases z
  ·obtain⟨b,C2,dx2,vs2,y1,y2,y3,y4,y5,y6⟩:=s.ob i' k' n' z
   by_cases hb:b=a
   ·subst hb;rw[hH]at y4;cases y4;exact⟨b,C,dx,_,y1,y2,y3,zx,y5,y6.1,YK hf y6.2⟩
   ·exact⟨b,C2,dx2,vs2,y1,y2,y3,keep b _ y4 hb,y5,y6⟩
 ·rcases zq h with ⟨_,z⟩ | ⟨_,z⟩
  ·cases z
  ·exact s.oc i' k' _ z
 ·rcases zq h with ⟨rfl,z⟩ | ⟨hne,z⟩
  ·cases z;have old:∀{n' m' :Nat} {v' :V} {d' :Fd},FdR Y B ρ σ H (λl=>O l=some (n',m' +1)) v' d' ->FdR Y B _ σ _ (λl=>O' l=some _) v' d' :=λ{n' m' v' d'} y2=>by
    cases d' with
    | tv t=>exact y2
    | tl ws=>
     obtain⟨l2,xs2,w1,w2,w3,w4,w5,w6,w7⟩:=y2;exact⟨l2,xs2,w1,w2,w3,keep l2 _ w4 (lst_ne w4),w5,ok' l2 w6,by show O' l2=_;rw[hO1 l2 _ w4];exact w7⟩
   rcases zq e with ⟨rfl,z⟩ | ⟨hn,z⟩
   ·cases z;refine⟨a,C,dx,_,e1,e2,zx,e4,e5,by rw[hO1 a _ hH];exact e6,⟨U7 e7.1 al,YK hf e7.2⟩,λm' f' d' z=> ?_⟩
    rcases U8 e7.1 al z with ⟨q1,q2,q3,q4⟩ | ⟨q1,q2,q3⟩
    ·subst q2 q3;refine⟨v,q4, ?_⟩;cases d' with
     | tv t=>exact hd.2
     | tl ts=>
      obtain⟨p,xs,w1,w2,w3,w4⟩:=hd;have hpa:p ≠ a:=λz=>by rw[z,hH]at w2;cases w2
      refine⟨p,xs,w1,I.sB.free w2,I.sH.free w2,by rw[zt hpa,w3];exact zx,w4,λj' ws hw=> ?_,by show O' p=_;rw[hO2 p w1 w2,q1]⟩
      obtain⟨b,xs',y1,y2,y3,y4,_⟩:=I.ow j' ws (own j' ws hw);rw[y1];intro z;injection z with z;injection z with z;injection z with z;rw[z,w2]at y4;cases y4
    ·obtain⟨v',y1,y2⟩:=e8 m' f' d' q2;exact⟨v',q3 v' y1,old y2⟩
   ·obtain⟨b,C2,dx2,vs2,y1,y2,y3,y4,y5,y6,y7,y8⟩:=s.st i' os h2 n' k' fs' z;have hne:b ≠ a:=λw=>by
     subst w;rw[e6]at y6;injection y6 with y6;injection y6 with y6 _;exact hn y6.symm
    refine⟨b,C2,dx2,vs2,y1,y2,keep b _ y3 hne,y4,y5,by rw[hO1 b _ y3];exact y6,y7,λm' f' d' z=> ?_⟩
    obtain⟨v',x1,x2⟩:=y8 m' f' d' z;exact⟨v',x1,old x2⟩
  ·exact absurd (s.one i' j os' os z h2) hne
end
theorem W1 {f:Str}{d:Fd}:∀{fs:List (Str×Fd)},fs.lookup f=some d->fs[Qc f fs]? =some (f,d)/\∀d',WL f d' fs=fs.set (Qc f fs) (f,d')
 | [],h=>by simp at h
 | (g,e) :: fs,h=>by
  rw[aJ]at h;unfold Qc WL
  by_cases hx:g=f
  ·subst hx;rw[beq_self_eq_true]at h;cases h;rw[if_pos rfl];exact⟨rfl,λd' =>by rw[if_pos rfl];rfl⟩
  ·rw[beq_eq_false_iff_ne.mpr (aZ hx)]at h;obtain⟨a,b⟩:=W1 h;rw[if_neg hx];exact⟨a,λd' =>by rw[if_neg hx,b];rfl⟩
theorem YL {f:Str}{v:V}:∀{fs:List (Str×Fd)} {vs:List (Str×V)},(∀(m:Nat) (g:Str) (e:Fd),fs[m]? =some (g,e)->∃v,vs[m]? =some (g,v))->(∃d,fs.lookup f=some d)->vs.lookup f=some v->vs[Qc f fs]? =some (f,v)
 | [],_,_,h,_=>by simp at h
 | (g,e) :: fs,vs,al,h,hv=>by
  obtain⟨w,hw⟩:=al 0 g e rfl;cases vs with
  | nil=>cases hw
  | cons w vs=>
   cases hw;rw[aJ]at hv;obtain⟨d,h⟩:=h;rw[aJ]at h;unfold Qc
   by_cases hx:g=f
   ·subst hx;rw[beq_self_eq_true]at hv;cases hv;rw[if_pos rfl];rfl
   ·rw[beq_eq_false_iff_ne.mpr (aZ hx)]at hv h;rw[if_neg hx];exact YL (λm=>al (m+1)) ⟨d,h⟩ hv
section
theorem SI.obA (I:SI Y B ρ σ H){k i j n:Nat}{fs:List (Str×Fd)}{os:List Ob}(h:obD k i j ρ=some (n,fs,os)):∃a C dx vs,σ[i]? =some (some (V.ref a))/\Y.cl k= .ref C/\H a=some (.ins C dx vs)/\vs.length=fs.length/\∀(m:Nat) (g:Str) (e:Fd),fs[m]? =some (g,e)->∃v,vs[m]? =some (g,v):=by
 obtain⟨h1,h2,h3⟩:=JH h;obtain⟨as,O,s⟩:=I.st;obtain⟨a,C,dx,vs,e1,e2,e3,e4,e5,e6,e7,e8⟩:=s.st j os h2 n k fs h3;obtain⟨a',C',dx',vs',g1,g2,_⟩:=s.ob i k n h1;rw[e1]at g1;cases g1;exact⟨a,C,dx,vs,g2,e2,e3,e7.1,λm g e he=>let ⟨v,z,_⟩:=e8 m g e he;⟨v,z⟩⟩
def stF (k i j:Nat)(f:Str)(fa:En->R T):En->RS:=λρ=>(fa ρ).s λt=>match obD k i j ρ with
 | some (n,fs,os)=>if fs.length < 1000 then .nx (ρ.set j (.st (os.set n (k,WL f (.tv t) fs)))) else .bad
 | none=> .bad
theorem z1o {k i j:Nat}{x f:Str}{px:Pos}{C:Addr}(hv:PE X (.Name x px) (jk i))(hc:Y.cl k= .ref C)(c:L2.Cls X.K C)(n:L2.NoAttr X.K C f)(ha:Snd X Y a fa)(hs:swapsWith a (some (.Attribute (.Name x px) f p')) pos.line X.env=pure false:=by rfl)(hf:f∈Q8:=by decide):jm X Y (.Assign [.Attribute (.Name x px) f p'] a pos) (stF k i j f fa):= .mk λρ=>
 PS.imp (yL hv (ha ρ) hs) λD σ H ⟨B,I,q⟩=>j7 I q λt v H1 _ s1 r1 I1 q1=>by
  split at q1
  ·rename_i n' fs os e;split at q1
   ·rename_i hl;obtain⟨a,C',dx,vs,e1,e2,e3,e4,e5⟩:=I1.obA e;rw[hc]at e2;cases e2;exact⟨.ref a,e1,a,C,dx,vs,rfl,e3,c,n,by rw[e4];exact hl,q1 _ _ _ (zu.refl _) (I1.putF hf e e1 e3 ⟨rfl,r1⟩)⟩
   ·exact q1.elim
  ·exact q1.elim
def Qd (k i j:Nat)(f:Str)(ga:En->R (List T)):En->RS:=λρ=>(ga ρ).s λts=>match obD k i j ρ with
 | some (n,fs,os)=>if fs.length < 1000/\ts.length<=bnd then .nx (ρ.set j (.st (os.set n (k,WL f (.tl ts) fs)))) else .bad
 | none=> .bad
theorem KN {k i j:Nat}{x f:Str}{px:Pos}{C:Addr}{es:List Expr}{ga:En->R (List T)}(hv:PE X (.Name x px) (jk i))(hc:Y.cl k= .ref C)(c:L2.Cls X.K C)(n:L2.NoAttr X.K C f)(ha:wn X Y es ga)(hs:swapsWith (.List es p) (some (.Attribute (.Name x px) f p')) pos.line X.env=pure false:=by rfl)(hf:f∈Q8:=by decide):jm X Y (.Assign [.Attribute (.Name x px) f p'] (.List es p) pos) (Qd k i j f ga):= .mk λρ=>
 PS.imp (yL hv (uP (ha ρ)) hs) λD σ H ⟨B,I,q⟩=>j7 I q λts vs H1 _ s1 r1 I1 q1=>by
  split at q1
  ·rename_i n' fs os e;split at q1
   ·rename_i hl;obtain⟨a,C',dx,vs',e1,e2,e3,e4,e5⟩:=I1.obA e;rw[hc]at e2;cases e2;refine⟨by rw[r1.length];exact Zg hl.2,λq hq=> ?_⟩
    have hne:a ≠ q:=λz=>by rw[z,hq]at e3;cases e3
    exact⟨.ref a,e1,a,C,dx,vs',rfl,by rw[zt hne];exact e3,c,n,by rw[e4];exact hl.1,q1 _ _ _ (zu.refl _) (I1.putF hf e e1 e3 ⟨q,vs,rfl,hq,rfl,r1⟩)⟩
   ·exact q1.elim
  ·exact q1.elim
def Vg (k i j:Nat)(f:Str)(fa:En->R T):En->RS:=λρ=>match obD k i j ρ with
 | some (n,fs,os)=>match fs.lookup f with
  | some (.tl ts)=>(fa ρ).s λt=>if ts.length < bnd then .nx (ρ.set j (.st (os.set n (k,WL f (.tl (ts++[t])) fs)))) else .bad
  | _=> .bad
 | none=> .bad
theorem KO {k i j:Nat}{x f:Str}{px pf pa:Pos}{C:Addr}(hv:PE X (.Name x px) (jk i))(hc:Y.cl k= .ref C)(c:L2.Cls X.K C)(n:L2.NoAttr X.K C f)(ha:Snd X Y a fa)(hbf:attributeBase (.Name x px) f X.env (eval (.Name x px) X.env)=eval (.Name x px) X.env:=by rfl)
  (hb:attributeBase (.Attribute (.Name x px) f pf) "append" X.env (eval (.Attribute (.Name x px) f pf) X.env)=eval (.Attribute (.Name x px) f pf) X.env:=by rfl) (hs:St1 X a:=by exact st1 rfl)
  (hz:(pa.endLine == p.line)=true:=by rfl) (hw:swapsWith (.Call (.Attribute (.Attribute (.Name x px) f pf) "append" pa) [a] [] p) none pos.line X.env=pure false:=by rfl):jm X Y (.Expr (.Call (.Attribute (.Attribute (.Name x px) f pf) "append" pa) [a] [] p) pos) (Vg k i j f fa):= .mk λρ=>by
 have e1:(((((backTo p (starEach [a] X.env)).all λx=> !x.fst) && (backToKw p (keywordEach [] X.env)).all λx=>x.fst.isSome) && decide (([a].length+([]:List Keyword).length+if ([]:List Keyword).isEmpty=true then 0 else 1) < 30))=true):=by rw[hs];rfl
 refine PS.imp (Jt (UL bH dZ d_ Jy (jA hv hbf) (zy (ha ρ) zO hs) hb e1 hz hs rfl) hw) λD σ H ⟨B,I,q⟩=> ?_;unfold Vg at q;split at q
 ·rename_i n' fs os e;split at q
  ·rename_i ts el;obtain⟨a',C',dx,vs,v,m,as,O,s,g1,g2,g3,g4,g5,g6,l,xs,p1,b0,h0,hh,rr,_⟩:=I.look e el;rw[hc]at g2;cases g2;subst p1;obtain⟨_,_,_,vs2,y1,_,y3,_,al⟩:=I.obA e;rw[g1]at y1;cases y1;rw[g3]at y3;cases y3;have hi:=YL al ⟨_,el⟩ g4;obtain⟨j1,j2⟩:=W1 el;refine⟨.ref a',g1,a',C,dx,vs,_,rfl,g3,c,n,g4,.inl ⟨rfl,_,SqL.of hh⟩, ?_⟩;refine j7 I q λt w H1 _ s1 r1 I1 q1=> ?_;split at q1
   ·rename_i hb;refine⟨l,xs,w,rfl,rfl,s1 _ _ hh,by rw[rr.length];exact vY hb, ?_⟩
    have:=I1.chgF e j1 g1 (s1 _ _ g3) hi ((rr.mono (zM.ge I.sB s1)).append (.cons r1 .nil));rw[← j2]at this;exact q1 _ _ _ (zu.refl _) this
   ·exact q1.elim
  ·exact q.elim
 ·exact q.elim
end
theorem PoM.up {r:R (T×En)}(s:zu B B')(h:PoM Y B r σ Q):PoM Y B' r σ Q:=by
 unfold PoM at h ⊢;split
 ·exact λv H' B2 a=>h v H' B2 (s.trans a)
 ·exact XP.up s h
 ·exact h
theorem X2 {α β:Type}{rel:Hp->Hp->β->α->Prop}{f:En->R α}{k:α->R (T×En)}{K:β->Hp->Prop}(I:SI Y B ρ σ H)(h:PoM Y B ((f ρ).bind k) σ Q)
  (n:∀a b H1,f ρ= .ok a->zu H H1->rel (zM B H H1) H1 b a->SI Y (zM B H H1) ρ σ H1->PoM Y (zM B H H1) (k a) σ Q->K b H1):tS Y rel f ρ σ H K:=by
 refine⟨B,I, ?_⟩;cases e:f ρ with
 | bad=>rw[e]at h;exact h
 | ex c=>rw[e]at h;exact h
 | ok a=>
  rw[e]at h;exact λb H1 s r=>n a b H1 e s r (I.grow s) (PoM.up (zM.ge I.sB s) h)
section
theorem SI.back (I:SI Y B ρ σ H){k i j n:Nat}{fs:List (Str×Fd)}{os:List Ob}(h:obD k i j ρ=some (n,fs,os)){a:Addr}(ha:σ[i]? =some (some (V.ref a))):
  ∃H0,zu B H0/\zu H0 H/\vf Y.cl k B H0 H a fs/\zu Y.H0 H0/\∀(H' B' :Hp) (fs' :List (Str×Fd)),zu H0 H' ->zu B B' ->zu B' H' ->(∀b o,H0 b=some o->B' b=B b)->vf Y.cl k B' H0 H' a fs' ->SI Y B' (ρ.set j (.st (os.set n (k,fs')))) σ H' :=by
 classical
 obtain⟨h1,h2,h3⟩:=JH h;obtain⟨as,O,s⟩:=I.st;obtain⟨a1,C,dx,vs,e1,e2,e3,e4,e5,e6,e7,e8⟩:=s.st j os h2 n k fs h3;obtain⟨a',C',dx',vs',g1,g2,_⟩:=s.ob i k n h1;rw[e1]at g1;cases g1;rw[ha]at g2;cases g2
 let P:Addr->Prop:=λb=>b=a\/∃(m:Nat) (f:Str) (ts:List T),fs[m]? =some (f,.tl ts)/\vs[m]? =some (f,V.ref b)
 have lP:∀b,P b->b ≠ a->∃m xs,H b=some (.lst xs)/\B b=none/\Y.H0 b=none/\Wx ρ σ b/\O b=some (n,m+1):=λb hb hne=>by
  rcases hb with z | ⟨m,f,ts,z1,z2⟩
  ·exact absurd z hne
  ·obtain⟨v,y1,l,xs,p1,p2,p3,p4,p5,p6,p7⟩:=e8 m f _ z1;rw[z2]at y1;cases y1;cases p1;exact⟨m,xs,p4,p2,p3,p6,p7⟩
 have nB:∀b o,B b=some o->¬ P b:=λb o hb hp=>by
  by_cases z:b=a
  ·rw[z,e4]at hb;cases hb
  ·obtain⟨_,_,_,q,_⟩:=lP b hp z;rw[q]at hb;cases hb
 have n0:∀b o,Y.H0 b=some o->¬ P b:=λb o hb hp=>by
  by_cases z:b=a
  ·rw[z,e5]at hb;cases hb
  ·obtain⟨_,_,_,_,q,_⟩:=lP b hp z;rw[q]at hb;cases hb
 let H0:Hp:=λb=>if P b then none else H b
 have H0n:∀{b o},H b=some o->¬ P b->H0 b=some o:=λ{b o} hb hp=>by show (if P b then none else H b)=_;rw[if_neg hp];exact hb
 have H0p:∀{b},P b->H0 b=none:=λ{b} hp=>if_pos hp;refine⟨H0,λb o hb=>H0n (I.sB b o hb) (nB b o hb),λb o hb=> ?_,⟨C,dx,vs,λb=>(O b).map Prod.snd,e2,e3,e4,H0p (.inl rfl),by show iH _ (O a)=_;rw[e6];rfl,e7,λm f d z=> ?_⟩,λb o hb=>H0n (I.sH b o hb) (n0 b o hb),λH' B' fs' s1 s2 s3 old ob' => ?_⟩
 ·have hb:(if P b then none else H b)=some o:=hb
  split at hb
  ·cases hb
  ·exact hb
 ·obtain⟨v,y1,y2⟩:=e8 m f d z;refine⟨v,y1, ?_⟩;cases d with
  | tv t=>exact y2
  | tl ts=>
   obtain⟨l,xs,p1,p2,p3,p4,p5,p6,p7⟩:=y2;subst p1;exact⟨l,xs,rfl,p2,H0p (.inr ⟨m,f,ts,z,y1⟩),p4,p5,by show iH _ (O l)=_;rw[p7];rfl⟩
 ·obtain⟨C',dx',us,O',c1,c2,c3,c4,c5,c6,c7⟩:=ob';rw[e2]at c1;cases c1;have keep:∀{b o},H b=some o->¬ P b->H' b=some o/\B' b=B b/\H0 b ≠ none:=λ{b o} hb hp=>⟨s1 _ _ (H0n hb hp),old b o (H0n hb hp),by rw[H0n hb hp];exact fD _⟩
  have own:∀(j' :Nat) (ws:List T),(ρ.set j (.st (os.set n (k,fs'))))[j']? =some (Sl.ow ws)->ρ[j']? =some (Sl.ow ws):=λj' ws hw=>by
   rcases zq hw with ⟨_,z⟩ | ⟨_,z⟩
   ·cases z
   ·exact z
  have ok' :∀b,Wx ρ σ b->Wx (ρ.set j _) σ b:=λb hb j' ws hw=>hb j' ws (own j' ws hw);have owP:∀{j' ws b xs},ρ[j']? =some (Sl.ow ws)->σ[j']? =some (some (V.ref b))->H b=some (.lst xs)->¬ P b:=λ{j' ws b xs} w1 w2 w3 hp=>by
   by_cases z:b=a
   ·rw[z,e3]at w3;cases w3
   ·obtain⟨_,_,_,_,_,q,_⟩:=lP b hp z;exact q j' ws w1 w2
  obtain⟨O2,hO1,hO2⟩:∃O2:Addr->Option (Nat×Nat),(∀b,H0 b ≠ none->O2 b=O b)/\∀b m,H0 b=none->O' b=some m->O2 b=some (n,m):=by
   refine⟨λb=>if H0 b=none then (O' b).map λm=>(n,m) else O b, ?_, ?_⟩
   ·intro b hb;exact if_neg hb
   ·intro b m z1 z2;show (if H0 b=none then (O' b).map λm=>(n,m) else O b)=_
    rw[if_pos z1,z2];rfl
  refine⟨I.s0,λb o hb=>(keep (I.sH b o hb) (n0 b o hb)).1,s3,λb o hb=> ?_,by rw[aE];exact I.len,λj' u h=> ?_,λj' ws h=> ?_,λj' c h=> ?_,as,O2,s.pre,λi' os' h=> ?_,λi1 i2 os1 os2 q1 q2=> ?_,λi' k' n' h=> ?_,λi' k' fs0 h=> ?_,λi' os' h n' k' fs2 e=> ?_⟩
  ·rw[(keep (I.sH b o hb) (n0 b o hb)).2.1];exact I.old b o hb
  ·rcases zq h with ⟨_,z⟩ | ⟨_,z⟩
   ·cases z
   ·obtain⟨v,y1,y2⟩:=I.vl j' u z;exact⟨v,y1,y2.mono s2⟩
  ·have z:=own j' ws h;obtain⟨b,xs',y1,y2,y3,y4,y5,y6⟩:=I.ow j' ws z;obtain⟨w1,w2,_⟩:=keep y4 (owP z y1 y4);exact⟨b,xs',y1,by rw[w2];exact y2,y3,w1,y5.mono s2,λj2 vs2 hj hw=>y6 j2 vs2 hj (own j2 vs2 hw)⟩
  ·rcases zq h with ⟨_,z⟩ | ⟨_,z⟩
   ·cases z
   ·obtain⟨b,y1,y2⟩:=I.xc j' c z;exact⟨b,y1,s2 _ _ y2⟩
  ·rcases zq h with ⟨_,z⟩ | ⟨_,z⟩
   ·cases z;rw[aE];exact s.len j os h2
   ·exact s.len _ _ z
  ·have one:∀i1 os1,(ρ.set j (.st (os.set n (k,fs'))))[i1]? =some _->i1=j:=λi1 os1 q1=>by
    rcases zq q1 with ⟨e,_⟩ | ⟨_,z⟩
    ·exact e
    ·exact s.one i1 j os1 os z h2
   rw[one i1 os1 q1,one i2 os2 q2]
  ·rcases zq h with ⟨_,z⟩ | ⟨_,z⟩
   ·cases z
   ·obtain⟨b,C2,dx2,vs2,y1,y2,y3,y4,y5,y6⟩:=s.ob i' k' n' z
    by_cases hb:b=a
    ·subst hb;rw[e3]at y4;cases y4;exact⟨b,_,dx',us,y1,y2,y3,c2,c3,y6.1,c6.2⟩
    ·have hp:¬ P b:=λhp=>by obtain⟨_,_,q,_⟩:=lP b hp hb;rw[q]at y4;cases y4
     obtain⟨w1,w2,_⟩:=keep y4 hp;exact⟨b,C2,dx2,vs2,y1,y2,y3,w1,by rw[w2];exact y5,y6⟩
  ·rcases zq h with ⟨_,z⟩ | ⟨_,z⟩
   ·cases z
   ·obtain⟨b,C2,dx2,vs2,y1,y2,y3,y4,y5⟩:=s.oc i' k' _ z;exact⟨b,C2,dx2,vs2,y1,y2,y3,y4,y5.mono s2 (zu.refl _)⟩
  ·rcases zq h with ⟨rfl,z⟩ | ⟨hne,z⟩
   ·cases z;rcases zq e with ⟨rfl,z⟩ | ⟨hn,z⟩
    ·cases z;refine⟨a,_,dx',us,e1,e2,c2,c3,e5,hO2 a 0 c4 c5,c6,λm f d z=> ?_⟩;obtain⟨v,y1,y2⟩:=c7 m f d z;refine⟨v,y1, ?_⟩;cases d with
     | tv t=>exact y2
     | tl ts=>
      obtain⟨l,xs,p1,p2,p3,p4,p5,p6⟩:=y2;refine⟨l,xs,p1,p2, ?_,p4,p5,λj' ws hw=> ?_,hO2 l _ p3 p6⟩
      ·cases q:Y.H0 l with
       | none=>rfl
       | some o=>rw[H0n (I.sH l o q) (n0 l o q)]at p3;cases p3
      ·have w:=own j' ws hw;obtain⟨b,xs',q1,q2,q3,q4,_⟩:=I.ow j' ws w;rw[q1];intro z;injection z with z;injection z with z;injection z with z;exact(keep q4 (owP w q1 q4)).2.2 (by rw[z];exact p3)
    ·obtain⟨b,C2,dx2,vs2,y1,y2,y3,y4,y5,y6,y7,y8⟩:=s.st i' os h2 n' k' fs2 z;have hb:b ≠ a:=λw=>by
      rw[w,e6]at y6;injection y6 with y6;injection y6 with y6 _;exact hn y6.symm
     have hp:¬ P b:=λhp=>by obtain⟨_,_,q,_⟩:=lP b hp hb;rw[q]at y3;cases y3
     obtain⟨w1,w2,w3⟩:=keep y3 hp;refine⟨b,C2,dx2,vs2,y1,y2,w1,by rw[w2];exact y4,y5,by rw[hO1 b w3];exact y6,y7,λm' f' d' z=> ?_⟩
     obtain⟨v',x1,x2⟩:=y8 m' f' d' z;refine⟨v',x1, ?_⟩;cases d' with
     | tv t=>exact Rep.mono s2 x2
     | tl ws=>
      obtain⟨l2,xs2,q1,q2,q3,q4,q5,q6,q7⟩:=x2;have hp:¬ P l2:=λhp=>by
       by_cases z:l2=a
       ·rw[z,e3]at q4;cases q4
       ·obtain⟨m2,_,_,_,_,_,q⟩:=lP l2 hp z;rw[q]at q7;injection q7 with q7;injection q7 with q7 _;exact hn q7.symm
      obtain⟨w1,w2,w3⟩:=keep q4 hp;exact⟨l2,xs2,q1,by rw[w2];exact q2,q3,w1,q5.mono s2,ok' l2 q6,by show O2 l2=_;rw[hO1 l2 w3];exact q7⟩
   ·exact absurd (s.one i' j os' os z h2) hne
end
def jo (k i j:Nat)(m:Str)(nn:Nat)(g:List (Str×Fd)->List T->R (T×List (Str×Fd)))(ga:En->R (List T)):En->R (T×En):=λρ=>match obD k i j ρ with
 | some (n,fs,os)=>if (fs.lookup m).isNone=true then (ga ρ).bind λts=>if ts.length=nn then (g fs ts).bind λp=> .ok (p.1,ρ.set j (.st (os.set n (k,p.2)))) else .bad else .bad
 | none=> .bad
section
theorem KP {g:List (Str×Fd)->List T->R (T×List (Str×Fd))}(hv:PE X (.Name x px) (jk i))(hy:Y.cl=cl)(hc:cl k= .ref C)(c:L2.Cls X.K C)(hm:L2.Meth X.K C m f)(F:ZW X.prog X.w X.K X.mg X.base (CX1 X.prog X.w) kj f fd ps (spM cl k nn g))(hr:Zu kk X.A)(hj:kj<=kk)(bd:L2.Binds X.K fd ps [])(hp:zX (CX1 X.prog X.w) X Y.E)(ha:wn X Y (a :: es) ga)
  (hst:starEach (a :: es) X.env=(false,eval a X.env) :: starEach es X.env:=by exact zC rfl) (hpl:((backTo pos (starEach es X.env)).any λx=>x.fst)=false:=by exact Zd rfl)
  (ht:eval (.Call (.Attribute (.Name x px) m ap) (a :: es) [] pos) X.env=(do
   let ov ← eval (.Name x px) X.env
   standAt ap.atName
   let (f,first) ← holding [ov] (getMethod ov m pl)
   callWith pos f first (backTo pos (starEach (a :: es) X.env)) (backToKw pos (keywordEach [] X.env))):=by rfl):
  ug X Y (.Call (.Attribute (.Name x px) m ap) (a :: es) [] pos) (jo k i j m nn g ga):= .mk λρ=>PE.imp (yP hv c hm F (hr.mono hj) bd .nil hp (ha ρ) hst hpl ht) λσ H Q ⟨B,I,q⟩=>by
 unfold jo at q;split at q
 ·rename_i n fs os e;split at q
  ·rename_i hl;obtain⟨a',C',dx,vs,e1,e2,e3,e4,al⟩:=I.obA e;subst hy;rw[hc]at e2;cases e2;have hno:=W0 e4 al (by simpa using hl)
   refine⟨.ref a',e1,a',dx,vs,rfl,e3,hno, ?_⟩;refine X2 I q λts us H1 _ s1 r1 I1 q1=> ?_;split at q1
   ·rename_i hn;rw[aP];obtain⟨H0,b1,b2,b3,b4,b5⟩:=I1.back e e1;refine⟨a',us,ts,_,H0,fs,rfl,hn,b1,b2,b3,r1, ?_⟩;revert q1;cases g fs ts with
    | bad=>exact λq1=>q1
    | ex c2=>exact λq1 d H' z1 z2=>q1 d H' (b4.trans z1) z2
    | ok p=>
     obtain⟨t,fs2⟩:=p;exact λq1 v H' B' z1 z2 z3 z4 z5 z6=>q1 v H' B' z2 (b5 H' B' fs2 z1 z2 z3 z4 z5) z6
   ·exact q1.elim
  ·exact q.elim
 ·exact q.elim
theorem X3 {g:List (Str×Fd)->List T->R (T×List (Str×Fd))}(hv:PE X (.Name x px) (jk i))(hy:Y.cl=cl)(hc:cl k= .ref C)(c:L2.Cls X.K C)(hm:L2.Meth X.K C m f)(F:ZW X.prog X.w X.K X.mg X.base (CX1 X.prog X.w) kj f fd ps (spM cl k 0 g))(hr:Zu kk X.A)(hj:kj<=kk)(bd:L2.Binds X.K fd ps [])(hp:zX (CX1 X.prog X.w) X Y.E)
  (ht:eval (.Call (.Attribute (.Name x px) m ap) [] [] pos) X.env=(do
   let ov ← eval (.Name x px) X.env
   standAt ap.atName
   let (f,first) ← holding [ov] (getMethod ov m pl)
   callWith pos f first (backTo pos (starEach [] X.env)) (backToKw pos (keywordEach [] X.env))):=by rfl):
  ug X Y (.Call (.Attribute (.Name x px) m ap) [] [] pos) (jo k i j m 0 g zj):= .mk λρ=>PE.imp (jB hv c hm F (hr.mono hj) bd .nil hp ht) λσ H Q ⟨B,I,q⟩=>by
 unfold jo at q;split at q
 ·rename_i n fs os e;split at q
  ·rename_i hl;obtain⟨a',C',dx,vs,e1,e2,e3,e4,al⟩:=I.obA e;subst hy;rw[hc]at e2;cases e2;have hno:=W0 e4 al (by simpa using hl)
   refine⟨.ref a',e1,a',dx,vs,rfl,e3,hno, ?_⟩;have q1:PoM Y B ((g fs []).bind λp=> .ok _) σ Q:=q;obtain⟨H0,b1,b2,b3,b4,b5⟩:=I.back e e1;refine⟨a',[],[],_,H0,fs,rfl,rfl,b1,b2,b3,.nil, ?_⟩;revert q1;cases g fs [] with
   | bad=>exact λq1=>q1
   | ex c2=>exact λq1 d H' z1 z2=>q1 d H' (b4.trans z1) z2
   | ok p=>
    obtain⟨t,fs2⟩:=p;exact λq1 v H' B' z1 z2 z3 z4 z5 z6=>q1 v H' B' z2 (b5 H' B' fs2 z1 z2 z3 z4 z5) z6
  ·exact q.elim
 ·exact q.elim
def drM (f:En->R (T×En)):En->RS:=λρ=>(f ρ).s λp=> .nx p.2
theorem z1p (h:ug X Y e f)(hs:swapsWith e none pos.line X.env=pure false:=by rfl):jm X Y (.Expr e pos) (drM f):= .mk λρ=>PS.imp (Jt (h.go ρ) hs) λD σ H ⟨B,I,q⟩=>⟨B,I,by
 unfold drM at q;revert q;cases f ρ with
 | bad=>exact λq=>q
 | ex c=>exact λq=>q
 | ok p=>exact λq v H' B' s I' _=>q σ H' B' s I'⟩
def seM (i:Nat)(f:En->R (T×En)):En->RS:=λρ=>(f ρ).s λp=> .nx (p.2.set i (.vl p.1))
theorem z1q (hN:X.N.Nodup)(hi:X.N[i]? =some x)(hx:L2.Loc X.env.scope x)(h:ug X Y e f)(hs:swapsWith e (some (.Name x p')) pos.line X.env=pure false:=by rfl)
  (hf:X.fn x=true\/X.env.scope.names.lookup x=some .local:=by first | exact .inl rfl | exact .inr rfl | assumption):jm X Y (.Assign [.Name x p'] e pos) (seM i f):= .mk λρ=>PS.imp (wj hN hi hx (h.go ρ) hs hf) λD σ H ⟨B,I,q⟩=>⟨B,I,by
 unfold seM at q;revert q;cases f ρ with
 | bad=>exact λq=>q
 | ex c=>exact λq=>q
 | ok p=>exact λq v H' B' s I' r=>q _ H' B' s (I'.setV i r)⟩
end
section
def ixF (k i j:Nat)(f:Str)(fb:En->R T):En->R T:=λρ=>match obD k i j ρ with
 | some (_,fs,_)=>match fs.lookup f with
  | some (.tl ts)=>(fb ρ).bind λt=>match t with
   | .int q=>atT ts q
   | _=> .bad
  | _=> .bad
 | none=> .bad
theorem z1r (hv:PE X (.Name x px) (jk i))(hc:Y.cl k= .ref C)(c:L2.Cls X.K C)(n:L2.NoAttr X.K C f)(hb:Snd X Y b fb)(hbf:attributeBase (.Name x px) f X.env (eval (.Name x px) X.env)=eval (.Name x px) X.env:=by rfl)(hs:Jx b:=by exact λ_ _=>rfl):Snd X Y (.Subscript (.Attribute (.Name x px) f p) b pos) (ixF k i j f fb):= .mk λρ=>
 PE.imp (Qu uS (jA hv hbf) (hb ρ) hs) λσ H Q ⟨B,I,q⟩=>by
  unfold ixF at q;split at q
  ·rename_i n' fs os e;split at q
   ·rename_i ts el;obtain⟨a,C',dx,vs,v,m,as,O,s,e1,e2,e3,e4,e5,e6,l,xs,p1,p2,p3,hh,rr,_⟩:=I.look e el;rw[hc]at e2;cases e2;subst p1;refine⟨.ref a,e1,a,C,dx,vs,_,rfl,e3,c,n,e4,step I q λt' v' H2 _ s2 r2 I2 q2=> ?_⟩;cases r2 with
    | int j=>
     have q2:Po Y rC _ H2 (atT ts j) Q:=q2;unfold atT at q2;split at q2
     ·rename_i t e8;obtain⟨w,e9,e10⟩:=wo (rr.mono (zM.ge I.sB s2)) e8;exact .inl ⟨_,xs,j,w,rfl,rfl,SqL.of (s2 _ _ hh),e9,po0 I2.sB q2 rfl e10⟩
     ·exact q2.elim
    | _=>exact q2.elim
   ·exact q.elim
  ·exact q.elim
def Qe (k i j:Nat)(f:Str):En->R (T×En):=λρ=>match obD k i j ρ with
 | some (n,fs,os)=>match fs.lookup f with
  | some (.tl ts)=>match ts[ts.length - 1]? with
   | some t=> .ok (t,ρ.set j (.st (os.set n (k,WL f (.tl ts.dropLast) fs))))
   | none=> .bad
  | _=> .bad
 | none=> .bad
theorem zE.dropLast {B:Hp}:∀{vs:List V} {ts:List T},zE B vs ts->zE B vs.dropLast ts.dropLast
 | _,_,.nil=> .nil
 | _,_,.cons r .nil=> .nil
 | _,_,.cons r (.cons r2 rr)=> .cons r (zE.dropLast (.cons r2 rr))
theorem KQ {k i j:Nat}{x f:Str}{px pf pa:Pos}{C:Addr}(hv:PE X (.Name x px) (jk i))(hc:Y.cl k= .ref C)(c:L2.Cls X.K C)(n:L2.NoAttr X.K C f)(hbf:attributeBase (.Name x px) f X.env (eval (.Name x px) X.env)=eval (.Name x px) X.env:=by rfl)
  (hb:attributeBase (.Attribute (.Name x px) f pf) "pop" X.env (eval (.Attribute (.Name x px) f pf) X.env)=eval (.Attribute (.Name x px) f pf) X.env:=by rfl) (hz:(pa.endLine == p.line)=true:=by rfl):ug X Y (.Call (.Attribute (.Attribute (.Name x px) f pf) "pop" pa) [] [] p) (Qe k i j f):= .mk λρ=>
 PE.imp (kA bH PySem.F.slot_list_pop PySem.F.type_list_pop kB (jA hv hbf) hb hz) λσ H Q ⟨B,I,q⟩=>by
  unfold Qe at q;split at q
  ·rename_i n' fs os e;split at q
   ·rename_i ts el;split at q
    ·rename_i t et;obtain⟨a',C',dx,vs,v,m,as,O,s,g1,g2,g3,g4,g5,g6,l,xs,p1,b0,h0,hh,rr,_⟩:=I.look e el;rw[hc]at g2;cases g2;subst p1;obtain⟨_,_,_,vs2,y1,_,y3,_,al⟩:=I.obA e;rw[g1]at y1;cases y1;rw[g3]at y3;cases y3;have hi:=YL al ⟨_,el⟩ g4;obtain⟨j1,j2⟩:=W1 el;obtain⟨w,hw,rw'⟩:=rr.at et;have:=I.chgF e j1 g1 g3 hi (zE.dropLast rr);rw[← j2]at this;exact⟨.ref a',g1,a',C,dx,vs,_,rfl,g3,c,n,g4,.inl ⟨rfl,_,SqL.of hh⟩,l,xs,w,rfl,rfl,hh,by rw[rr.length];exact hw,q w _ B (zu.refl _) this rw'⟩
    ·exact q.elim
   ·exact q.elim
  ·exact q.elim
end
section
theorem SI.made (I:SI Y B ρ σ H){i j k:Nat}{x:Addr}{os:List Ob}{fs:List (Str×Fd)}{B' H' H0:Hp}(h2:ρ[j]? =some (.st os))(hij:i ≠ j)(hi:i < ρ.length)(sH:zu H H0)(s1:zu H0 H')(s2:zu B B')(s3:zu B' H')(old:∀b o,H0 b=some o->B' b=B b)(ob:vf Y.cl k B' H0 H' x fs):
  SI Y B' ((ρ.set j (.st (os++[(k,fs)]))).set i (.ob k os.length)) (σ.set i (some (V.ref x))) H' :=by
 classical
 obtain⟨as,O,s⟩:=I.st;obtain⟨C,dx,us,O',c1,c2,c3,c4,c5,c6,c7⟩:=ob;have hlen:=s.len j os h2;have keep:∀{b o},H b=some o->H' b=some o/\B' b=B b/\H0 b ≠ none:=λ{b o} hb=>⟨s1 _ _ (sH _ _ hb),old b o (sH _ _ hb),by rw[sH _ _ hb];exact fD _⟩
 have get:∀{i' :Nat} {y:Sl},((ρ.set j _).set i (.ob k os.length))[i']? =some y->(i' =i/\y= .ob k os.length)\/(i' ≠ i/\i' =j/\y= .st (os++[(k,fs)]))\/(i' ≠ i/\i' ≠ j/\ρ[i']? =some y):=λ{i' y} h=>by
  rcases zq h with ⟨a,b⟩ | ⟨a,b⟩
  ·exact .inl ⟨a,b⟩
  ·rcases zq b with ⟨c,d⟩ | ⟨c,d⟩
   ·exact .inr (.inl ⟨a,c,d⟩)
   ·exact .inr (.inr ⟨a,c,d⟩)
 have sg:∀{i' :Nat},i' ≠ i->(σ.set i (some (V.ref x)))[i']? =σ[i']? :=λ{i'} h=>aw (aZ h);have own:∀{j' :Nat} {ws:List T},((ρ.set j _).set i (.ob k os.length))[j']? =some (Sl.ow ws)->j' ≠ i/\ρ[j']? =some (Sl.ow ws):=λ{j' ws} hw=>by
  rcases get hw with ⟨_,z⟩ | ⟨_,_,z⟩ | ⟨a,_,z⟩
  ·cases z
  ·cases z
  ·exact⟨a,z⟩
 have ok' :∀b,Wx ρ σ b->Wx _ _ b:=λb hb j' ws hw=>by
  obtain⟨h1,h2⟩:=own hw;rw[sg h1];exact hb j' ws h2
 obtain⟨O2,hO1,hO2⟩:∃O2:Addr->Option (Nat×Nat),(∀b,H0 b ≠ none->O2 b=O b)/\∀b m,H0 b=none->O' b=some m->O2 b=some (os.length,m):=by
  refine⟨λb=>if H0 b=none then (O' b).map λm=>(os.length,m) else O b, ?_, ?_⟩
  ·intro b hb;exact if_neg hb
  ·intro b m z1 z2;show (if H0 b=none then (O' b).map λm=>(os.length,m) else O b)=_
   rw[if_pos z1,z2];rfl
 have H0n:zu Y.H0 H0:=I.sH.trans sH;have asn:(as++[x])[os.length]? =some x:=by rw[au (by omega),hlen,cO];rfl
 have aso:∀{n' :Nat} {b:Addr},as[n']? =some b->(as++[x])[n']? =some b:=λ{n' b} h=>by
  rw[ax (ar.mp h).1];exact h
 refine⟨I.s0,λb o hb=>(keep (I.sH b o hb)).1,s3,λb o hb=> ?_,by rw[aE,aE,aE];exact I.len,λj' u h=> ?_,λj' ws h=> ?_,λj' c h=> ?_,as++[x],O2,s.pre.trans (List.prefix_append _ _),λi' os' h=> ?_,λi1 i2 os1 os2 q1 q2=> ?_,λi' k' n' h=> ?_,λi' k' fs0 h=> ?_,λi' os' h n' k' fs2 e=> ?_⟩
 ·rw[(keep (I.sH b o hb)).2.1];exact I.old b o hb
 ·rcases get h with ⟨_,z⟩ | ⟨_,_,z⟩ | ⟨a,_,z⟩
  ·cases z
  ·cases z
  ·obtain⟨v,y1,y2⟩:=I.vl j' u z;exact⟨v,by rw[sg a];exact y1,y2.mono s2⟩
 ·obtain⟨a,z⟩:=own h;obtain⟨b,xs',y1,y2,y3,y4,y5,y6⟩:=I.ow j' ws z;obtain⟨w1,w2,_⟩:=keep y4;refine⟨b,xs',by rw[sg a];exact y1,by rw[w2];exact y2,y3,w1,y5.mono s2,λj2 vs2 hj hw=> ?_⟩
  obtain⟨q1,q2⟩:=own hw;rw[sg q1];exact y6 j2 vs2 hj q2
 ·rcases get h with ⟨_,z⟩ | ⟨_,_,z⟩ | ⟨a,_,z⟩
  ·cases z
  ·cases z
  ·obtain⟨b,y1,y2⟩:=I.xc j' c z;exact⟨b,by rw[sg a];exact y1,s2 _ _ y2⟩
 ·rcases get h with ⟨_,z⟩ | ⟨_,_,z⟩ | ⟨_,nj,z⟩
  ·cases z
  ·cases z;rw[av,av,hlen];rfl
  ·exact absurd (s.one i' j os' os z h2) nj
 ·have one:∀i1 os1,((ρ.set j _).set i _)[i1]? =some (Sl.st os1)->i1=j:=λi1 os1 q1=>by
   rcases get q1 with ⟨_,z⟩ | ⟨_,e,_⟩ | ⟨_,nj,z⟩
   ·cases z
   ·exact e
   ·exact s.one i1 j os1 os z h2
  rw[one i1 os1 q1,one i2 os2 q2]
 ·rcases get h with ⟨e,z⟩ | ⟨_,_,z⟩ | ⟨a,_,z⟩
  ·cases z;subst e;refine⟨x,C,dx,us,asn,aL (by rw[← I.len];exact hi),c1,c2,c3, ?_,c6.2⟩
   cases q:Y.H0 x with
   | none=>rfl
   | some o=>rw[H0n _ _ q]at c4;cases c4
  ·cases z
  ·obtain⟨b,C2,dx2,vs2,y1,y2,y3,y4,y5,y6⟩:=s.ob i' k' n' z;obtain⟨w1,w2,_⟩:=keep y4;exact⟨b,C2,dx2,vs2,aso y1,by rw[sg a];exact y2,y3,w1,by rw[w2];exact y5,y6⟩
 ·rcases get h with ⟨_,z⟩ | ⟨_,_,z⟩ | ⟨a,_,z⟩
  ·cases z
  ·cases z
  ·obtain⟨b,C2,dx2,vs2,y1,y2,y3,y4,y5⟩:=s.oc i' k' _ z;exact⟨b,C2,dx2,vs2,by rw[sg a];exact y1,y2,y3,y4,y5.mono s2 (zu.refl _)⟩
 ·rcases get h with ⟨_,z⟩ | ⟨_,ej,z⟩ | ⟨_,nj,z⟩
  ·cases z
  ·cases z
   by_cases hn:n' < os.length
   ·rw[ax hn]at e;obtain⟨b,C2,dx2,vs2,y1,y2,y3,y4,y5,y6,y7,y8⟩:=s.st j os h2 n' k' fs2 e;obtain⟨w1,w2,w3⟩:=keep y3;refine⟨b,C2,dx2,vs2,aso y1,y2,w1,by rw[w2];exact y4,y5,by rw[hO1 b w3];exact y6,y7,λm' f' d' z=> ?_⟩
    obtain⟨v',x1,x2⟩:=y8 m' f' d' z;refine⟨v',x1, ?_⟩;cases d' with
    | tv t=>exact Rep.mono s2 x2
    | tl ws=>
     obtain⟨l2,xs2,q1,q2,q3,q4,q5,q6,q7⟩:=x2;obtain⟨w1,w2,w3⟩:=keep q4;exact⟨l2,xs2,q1,by rw[w2];exact q2,q3,w1,q5.mono s2,ok' l2 q6,by show O2 l2=_;rw[hO1 l2 w3];exact q7⟩
   ·rw[au (Nat.not_lt.mp hn)]at e;have hn' :n' =os.length:=by
     cases q:n' - os.length with
     | zero=>omega
     | succ r=>rw[q]at e;cases e
    subst hn';rw[cO]at e;cases e;have h0x:Y.H0 x=none:=by
     cases q:Y.H0 x with
     | none=>rfl
     | some o=>rw[H0n _ _ q]at c4;cases c4
    refine⟨x,C,dx,us,asn,c1,c2,c3,h0x,hO2 x 0 c4 c5,c6,λm f d z=> ?_⟩;obtain⟨v,y1,y2⟩:=c7 m f d z;refine⟨v,y1, ?_⟩;cases d with
    | tv t=>exact y2
    | tl ts=>
     obtain⟨l,xs,p1,p2,p3,p4,p5,p6⟩:=y2;refine⟨l,xs,p1,p2, ?_,p4,p5,λj' ws hw=> ?_,hO2 l _ p3 p6⟩
     ·cases q:Y.H0 l with
      | none=>rfl
      | some o=>rw[H0n _ _ q]at p3;cases p3
     ·obtain⟨hj',w⟩:=own hw;obtain⟨b,xs',q1,q2,q3,q4,_⟩:=I.ow j' ws w;rw[sg hj',q1];intro z;injection z with z;injection z with z;injection z with z;exact(keep q4).2.2 (by rw[z];exact p3)
  ·exact absurd (s.one i' j os' os z h2) nj
end
def mkS (i j k nn:Nat)(g:List (Str×Fd)->List T->R (T×List (Str×Fd)))(ga:En->R (List T)):En->RS:=λρ=>(ga ρ).s λts=>if ts.length=nn/\i ≠ j/\i < ρ.length then (match ρ[j]? with
 | some (.st os)=>(match g [] ts with
  | .ok (.non,fs)=> .nx ((ρ.set j (.st (os++[(k,fs)]))).set i (.ob k os.length))
  | .ex c=> .ex c
  | _=> .bad)
 | _=> .bad) else .bad
section
theorem s_mk {g:List (Str×Fd)->List T->R (T×List (Str×Fd))}(hN:X.N.Nodup)(hi:X.N[i]? =some x)(hx:L2.Loc X.env.scope x)(hy:Y.cl=cl)(hc:cl k= .ref C)(M:L2.Mk X.K C f)(F:ZW X.prog X.w X.K X.mg X.base (CX1 X.prog X.w) kj f fd ps (spM cl k nn g))(hr:Zu kk X.A)(hj:kj+1<=kk)(gl:Gl X c)(mg:X.mg c=some (.ref C))(bd:L2.Binds X.K fd ps [])(hp:zX (CX1 X.prog X.w) X Y.E)(ha:wn X Y (a :: es) ga)
  (hd:(c == ("__debug__":Str))=false:=by decide) (hst:starEach (a :: es) X.env=(false,eval a X.env) :: starEach es X.env:=by exact zC rfl) (hpl:((backTo pos' (starEach es X.env)).any λx=>x.fst)=false:=by exact Zd rfl) (hs:swapsWith (.Call (.Name c pc) (a :: es) [] pos') (some (.Name x p')) pos.line X.env=pure false:=by rfl)
  (hf:X.fn x=true\/X.env.scope.names.lookup x=some .local:=by first | exact .inl rfl | exact .inr rfl | assumption):jm X Y (.Assign [.Name x p'] (.Call (.Name c pc) (a :: es) [] pos') pos) (mkS i j k nn g ga):= .mk λρ=>
 PS.imp (wj hN hi hx (yQ M F (hr.mono hj) gl mg bd .nil hp (ha ρ) hd hst hpl) hs hf) λD σ H ⟨B,I,q⟩=>j7 I q λts vs H1 _ s1 r1 I1 q1=>by
  subst hy;split at q1
  ·rename_i hn;intro y dx h1 h2 h3;rw[aP];split at q1
   ·rename_i os ej;have sd:zu H1 (upd H1 dx (.own y)):=zu.new h2 _;have hy0:upd H1 dx (.own y) y=none:=by rw[zt (aZ h3)];exact h1
    refine⟨y,vs,ts,_,upd H1 dx _,[],rfl,hn.1,I1.sB.trans sd,zu.new hy0 _,⟨C,dx,[],λ_=>some 0,hc,zx,I1.sB.free h1,hy0,rfl,⟨rfl,λ_ _=>rfl⟩,λm f d z=>by cases z⟩,r1, ?_⟩
    revert q1;cases g [] ts with
    | bad=>exact λq1=>q1
    | ex c2=>exact λq1 d H' z1 z2=>q1 d H' ((I1.sH.trans sd).trans z1) z2
    | ok p=>
     obtain⟨t,fs2⟩:=p;cases t with
     | non=>
      intro q1 v H' B' z1 z2 z3 z4 z5 z6;cases z6;exact⟨rfl,q1 _ H' B' z2 (I1.made ej hn.2.1 hn.2.2 sd z1 z2 z3 z4 z5)⟩
     | _=>exact λq1=>q1.elim
   ·exact q1.elim
  ·exact q1.elim
end
section
end
def spO (cl:Nat->Value)(k p n:Nat)(g:List (Str×Fd)->List T->R T):Sp:=λvs H Q E=>∃(x C dx:Addr) (us:List (Str×V)) (vs1 vs2:List V) (ts1 ts2:List T) (B:Hp) (fs:List (Str×Fd)),vs=vs1++ .ref x :: vs2/\ts1.length=p/\(ts1++ts2).length=n/\cl k= .ref C/\H x=some (.ins C dx us)/\InC us/\FsO B H us fs/\zu B H/\zE B vs1 ts1/\zE B vs2 ts2/\Po ⟨B,H,E,cl,[]⟩ rC B H (g fs (ts1++ts2)) Q
def enO (k m:Nat)(fs:List (Str×Fd))(ts1 ts2:List T):En:=ts1.map Sl.vl++(.oc k fs :: (ts2.map Sl.vl++aj m .un))
theorem W2 (h:(enO k m fs ts1 ts2)[i]? =some s):(i=ts1.length/\s= .oc k fs)\/(∃t,ts1[i]? =some t/\s= .vl t)\/(∃i' t,i=ts1.length+1+i' /\ts2[i']? =some t/\s= .vl t)\/s= .un:=by
 unfold enO at h
 by_cases h1:i < ts1.length
 ·rw[ax (by simpa using h1),ay,ah h1]at h
  exact .inr (.inl ⟨_,ah h1,(aB h).symm⟩)
 ·obtain⟨q,hq⟩:∃q,i=ts1.length+q:=⟨i - ts1.length,by omega⟩
  rw[au (by simpa using h1),aa,hq,eQ]at h
  cases q with
  | zero=>exact .inl ⟨hq,(aB h).symm⟩
  | succ q=>
   rw[bp]at h
   by_cases h2:q < ts2.length
   ·rw[ax (by simpa using h2),ay,ah h2]at h
    exact .inr (.inr (.inl ⟨q,_,by omega,ah h2,(aB h).symm⟩))
   ·rw[au (by simpa using h2),aG]at h
    split at h
    ·exact .inr (.inr (.inr (aB h).symm))
    ·cases h
theorem SI.startO (hN:N.length=(ts1++ts2).length+1+m)(sB:zu B H)(hc:cl k= .ref C)(hx:H x=some (.ins C dx us))(hi:InC us)(hf:FsO B H us fs)(r1:zE B vs1 ts1)(r2:zE B vs2 ts2):
  SI ⟨B,H,E,cl,[]⟩ B (enO k m fs ts1 ts2) (L2.start N (vs1++ .ref x :: vs2)) H:=by
 have l1:=r1.length;have l2:=r2.length;have at0:(L2.start N (vs1++ .ref x :: vs2))[ts1.length]? =some (some (V.ref x)):=by
  unfold L2.start;rw[br,aX,au (by simp[l1]),aa,l1,cO];rfl
 refine⟨sB,zu.refl _,sB,λ_ _ _=>rfl, ?_,λi t h=> ?_,λi t h=> ?_,λi t h=> ?_,[],λ_=>none,bO _,λi os h=> ?_,λi _ os _ h=> ?_,λi k' n h=> ?_,λi k' fs0 h=> ?_,λi os h=> ?_⟩
 ·unfold enO L2.start;simp only[av,ag,aa,aS]at hN ⊢;omega
 ·rcases W2 h with ⟨_,e⟩ | ⟨t',e2,e3⟩ | ⟨i',t',e1,e2,e3⟩ | e
  ·cases e
  ·cases e3;obtain⟨v,ev,rv⟩:=r1.at e2;refine⟨v, ?_,rv⟩;have hi:=(ar.mp ev).1;unfold L2.start;rw[br,aX,ax (by simpa using hi),ay,ev];rfl
  ·cases e3;obtain⟨v,ev,rv⟩:=r2.at e2;refine⟨v, ?_,rv⟩;have hi:=(ar.mp ev).1;unfold L2.start;rw[e1,br,aX,au (by simp[l1];omega),aa,l1,show ts1.length+1+i' - ts1.length=i' +1 by omega,aI,dq,bp,ax (by simpa using hi),ay,ev];rfl
  ·cases e
 all_goals (rcases W2 h with ⟨e0,e⟩ | ⟨_,_,e⟩ | ⟨_,_,_,_,e⟩ | e <;> try (cases e;done))
 cases e;subst e0;exact⟨x,C,dx,us,at0,hc,hx,hi,hf⟩
def yr (Y:Fx)(B:Hp)(r:R (Bool×En))(σ:Sg)(Q:Bool->Hp->Prop):Prop:=match r with
 | .ok (b,ρ')=>∀H' B',zu B B' ->SI Y B' ρ' σ H' ->Q b H'
 | .ex c=>XP Y B c
 | .bad=>False
theorem yr.up {r:R (Bool×En)}{Q:Bool->Hp->Prop}(s:zu B B')(h:yr Y B r σ Q):yr Y B' r σ Q:=by
 unfold yr at h ⊢;split
 ·exact λH' B2 a=>h H' B2 (s.trans a)
 ·exact XP.up s h
 ·exact h
structure uw (X:Cx) (Y:Fx) (e:Expr) (f:En->R (Bool×En)):Prop where
 mk ::
 go:∀ρ,PT X e λσ H Q=>∃B,SI Y B ρ σ H/\yr Y B (f ρ) σ Q
theorem Vh {α β:Type}{rel:Hp->Hp->β->α->Prop}{f:En->R α}{k:α->R (Bool×En)}{Q:Bool->Hp->Prop}{K:β->Hp->Prop}(I:SI Y B ρ σ H)(h:yr Y B ((f ρ).bind k) σ Q)
  (n:∀a b H1,f ρ= .ok a->zu H H1->rel (zM B H H1) H1 b a->SI Y (zM B H H1) ρ σ H1->yr Y (zM B H H1) (k a) σ Q->K b H1):tS Y rel f ρ σ H K:=by
 refine⟨B,I, ?_⟩;cases e:f ρ with
 | bad=>rw[e]at h;exact h
 | ex c=>rw[e]at h;exact h
 | ok a=>
  rw[e]at h;exact λb H1 s r=>n a b H1 e s r (I.grow s) (yr.up (zM.ge I.sB s) h)
section
def Vi (g:T->T->R Bool)(fm:En->R (T×En))(fb:En->R T):En->R (Bool×En):=λρ=>(fm ρ).bind λp=>(fb p.2).bind λt' =>(g p.1 t').bind λb=> .ok (b,p.2)
theorem KR (nx:Nx g)(ho:OpR X (compareOp op) (wO g))(ha:ug X Y a fm)(hb:ZZ X Y b fb)(hm:behindInMarks op b=false):uw X Y (.Compare a [op] [b] pos) (Vi g fm fb):= .mk λρ=>
 PT.imp (yF (tb:=λσ H Q=>∃ρ',tS Y rB fb ρ' σ H Q) ho (ha.go ρ) (λpins s σ H Q I ⟨ρ',q⟩=>hb ρ' _ s σ H Q I q) hm) λσ H Q ⟨B,I,q⟩=>by
  refine⟨B,I, ?_⟩;unfold Vi at q;revert q;cases fm ρ with
  | bad=>exact λq=>q
  | ex c=>exact λq=>q
  | ok p=>
   obtain⟨t,ρ'⟩:=p;intro q v H1 B1 s1 I1 r1;have q:=yr.up s1 q;refine⟨ρ',Vh I1 q λt' v' H2 _ s2 r2 I2 q2=> ?_⟩;cases e:g t t' with
   | bad=>rw[e]at q2;exact q2.elim
   | ex c=>exact absurd e (nx _ _ _)
   | ok b=>
    rw[e]at q2;exact⟨t,t',b,(r1.mono I1.sB).mono s2,r2,e,b,rfl,q2 H2 _ (zu.refl _) I2⟩
def tmP (f:En->R Bool):En->R (Bool×En):=λρ=>(f ρ).bind λb=> .ok (b,ρ)
theorem X4 (h:wL X Y c f):uw X Y c (tmP f):= .mk λρ=>PT.imp (h ρ) λσ H Q ⟨B,I,q⟩=>Vh I q λt v H1 _ s1 r1 I1 q1=>by
 have r1' :=r1;subst r1';exact q1 H1 _ (zu.refl _) I1
def ifM (ga:En->R (Bool×En))(f g:En->RS):En->RS:=λρ=>(ga ρ).s λp=>if p.1=true then f p.2 else g p.2
theorem z1s {ga:En->R (Bool×En)}(hc:uw X Y c ga)(h1:JV X Y sts f)(h2:JV X Y sts' g):jm X Y (.If c sts sts' pos) (ifM ga f g):= .mk λρ=>
 PS.imp (kd (t:=λD σ H=>∃ρ',tSS Y f ρ' D σ H) (u:=λD σ H=>∃ρ',tSS Y g ρ' D σ H) (hc.go ρ) (λpins s σ H D I ⟨ρ',q⟩=>h1 ρ' _ s σ H D I q) (λpins s σ H D I ⟨ρ',q⟩=>h2 ρ' _ s σ H D I q)) λD σ H ⟨B,I,q⟩=>by
  refine⟨B,I, ?_⟩;unfold ifM at q;revert q;cases ga ρ with
  | bad=>exact λq=>q
  | ex c=>exact λq=>q
  | ok p=>
   obtain⟨b,ρ'⟩:=p;intro q H' B' s I';cases b with
   | true=>exact⟨ρ',B',I',PoS.up s q⟩
   | false=>exact⟨ρ',B',I',PoS.up s q⟩
structure ux (X:Cx) (Y:Fx) (e:Expr) (f:En->R (Bool×En)):Prop where
 mk ::
 go:∀ρ,PW X e λσ H Q=>∃B,SI Y B ρ σ H/\yr Y B (f ρ) σ Q
theorem ux.t {f:En->R (Bool×En)}(h:ux X Y e f):uw X Y e f:= .mk λρ=>(h.go ρ).pt
theorem KS {f:En->R (Bool×En)}(h:uw X Y a f):ux X Y (.BoolOp .Or [a] pos) f:= .mk λρ=>vO (h.go ρ)
def orM (fa fb:En->R (Bool×En)):En->R (Bool×En):=λρ=>(fa ρ).bind λp=>if p.1=true then .ok (true,p.2) else fb p.2
theorem z1t {rest:List Expr}{fa fb:En->R (Bool×En)}(ha:uw X Y a fa)(hb:ux X Y (.BoolOp .Or (b :: rest) pos) fb):ux X Y (.BoolOp .Or (a :: b :: rest) pos) (orM fa fb):= .mk λρ=>
 PW.imp (k7 (ha.go ρ) (λwh pins s σ H Q I (h:∃ρ' B,SI Y B ρ' σ H/\yr Y B _ σ Q)=>let ⟨ρ',q⟩:=h;hb.go ρ' wh _ s σ H Q I q)) λσ H Q ⟨B,I,q⟩=>by
  refine⟨B,I, ?_⟩;unfold orM at q;revert q;cases fa ρ with
  | bad=>exact λq=>q
  | ex c=>exact λq=>q
  | ok p=>
   obtain⟨x,ρ'⟩:=p;intro q H' B' s I';cases x with
   | true=>exact q H' B' s I'
   | false=>exact⟨ρ',B',I',yr.up s q⟩
end
section
noncomputable def GM:T->R T
 | .lst xs=> .ok (.lst xs)
 | .tup xs=> .ok (.lst xs)
 | _=> .bad
theorem z1u (gl:Gl X "list")(mg:X.mg "list"=none)(ha:Snd X Y a fa)(hs:St1 X a:=by exact st1 rfl):Snd X Y (.Call (.Name "list" p) [a] [] pos) (ap1 GM fa):=
 Y7 j4 (λv t B H Q r sB q=>by
  cases r with
  | @lst l xs ts h r=>exact⟨l,xs,rfl,.inl (SqL.of (sB _ _ h)),λl' hl' =>kK sB q rfl r hl'⟩
  | @tup l xs ts h r=>exact⟨l,xs,rfl,.inr (SqT.of (sB _ _ h)),λl' hl' =>kK sB q rfl r hl'⟩
  | _=>exact q.elim) gl mg (PyProof.Rows.Boot.«list») ha hs
end
theorem SI.st0 (I:SI Y B ρ σ H)(hY:Y.as=[])(hno:∀(i:Nat) (s:Sl),s.isO=true->ρ[i]? ≠ some s)(j:Nat):SI Y B (ρ.set j (.st [])) σ H where
 s0:=I.s0
 sH:=I.sH
 sB:=I.sB
 old:=I.old
 len:=by rw[aE];exact I.len
 vl:=λi t h=>by
  rcases zq h with ⟨_,z⟩ | ⟨_,z⟩
  ·cases z
  ·exact I.vl i t z
 ow:=λi ts h=>by
  rcases zq h with ⟨_,z⟩ | ⟨_,z⟩
  ·cases z
  ·obtain⟨a,xs,e1,e2,e3,e4,e5,e6⟩:=I.ow i ts z;refine⟨a,xs,e1,e2,e3,e4,e5,λj' us hj hw=> ?_⟩;rcases zq hw with ⟨_,z⟩ | ⟨_,z⟩
   ·cases z
   ·exact e6 j' us hj z
 xc:=λi t h=>by
  rcases zq h with ⟨_,z⟩ | ⟨_,z⟩
  ·cases z
  ·exact I.xc i t z
 st:=by
  have one:∀i os,(ρ.set j (.st []))[i]? =some (Sl.st os)->i=j/\os=[]:=λi os h=>by
   rcases zq h with ⟨e,z⟩ | ⟨_,z⟩
   ·cases z;exact⟨e,rfl⟩
   ·exact(hno i _ rfl z).elim
  refine⟨[],λ_=>none,by rw[hY];exact bO _,λi os h=>by rw[(one i os h).2];rfl,λi i' os os' h h' =>by rw[(one i os h).1,(one i' os' h').1],λi k n h=> ?_,λi k fs0 h=> ?_,λi os h n k fs e=> ?_⟩
  ·rcases zq h with ⟨_,z⟩ | ⟨_,z⟩
   ·cases z
   ·exact(hno i _ rfl z).elim
  ·rcases zq h with ⟨_,z⟩ | ⟨_,z⟩
   ·cases z
   ·exact(hno i _ rfl z).elim
  ·rw[(one i os h).2]at e;simp at e
def enS (n:Nat)(ts:List T):En:=(en0 n ts).set (n - 1) (.st [])
theorem SI.startS (s:zu Y.B0 Y.H0)(r:zE Y.B0 vs ts)(hY:Y.as=[]):SI Y Y.B0 (enS N.length ts) (L2.start N vs) Y.H0:=
 (SI.start s r).st0 hY (λi s hs h=>um (λt z=>by rw[z]at hs;cases hs) (λz=>by rw[z]at hs;cases hs) h) _
section
variable {P:Program}{w:World}{K:a8}{mg:Str->Option Value}{base:Heap}
theorem X5 {cl:Nat->Value}{x qual q:Str}{st:Stmt}{f c Pt:Addr}{fd:FuncData}{N ps:List Str}{k n:Nat}{fb:En->RS}{g:List T->R T}(F:Fun K x qual st f fd)(hc:fd.code= .ref c)(S:ZA N ps (zr st))(hn:n=ps.length)
  (hb:∀(A:Around) (outer:List Env) (s:Shared) (H:Hp) (E:XK) (Y:Fx),Y.cl=cl->Y.E=E->Y.H0 Pt=some (.tbl #[] q)->Zu k (A.deeper (envOfC qual (zr st) s.heap.objs.size f (.ref c)))->
   JV (jL (CX1 P w) P w K mg base N qual (zr st) f (.ref c) A outer s H E) Y (zI st) fb)
  (hg:∀ts,ts.length=n->g ts=zA (fb (enS N.length ts))):ZW P w K mg base (CX1 P w) (k+1) f fd ps (Vf cl n g Pt q):=by
 subst hn;obtain⟨oc,od,kV,doc,pm,an,cdv,ct,osl,rfl,lk,hcd⟩:=F.ex;obtain rfl:cdv= .ref c:=hc;refine VM lk hcd S (λvs H Q E z=>spP.len vs H Q E z.2) λA outer s H vs Q E hr ⟨hT,B,ts,hl,sB,r,q⟩=> ?_;refine⟨_,hb A _ s H E ⟨B,H,E,cl,[]⟩ rfl rfl hT hr _,B,SI.startS sB r rfl, ?_⟩;rw[hg ts hl]at q;revert q;cases fb _ with
 | rt t=>exact λq v H' s r=>q v H' s r
 | rf t=>exact λq a xs H' B' s0 n e r _ l=>q _ H' s0 (.lst (by rw[zY n];exact e) (r.mono l))
 | nx ρ=>exact λq σ' H' B' _ I=>q _ H' I.sH .non
 | ex c=>exact λq=>q
 | bk ρ=>exact λq=>q.elim
 | ct ρ=>exact λq=>q.elim
 | bad=>exact λq=>q
theorem KT {cl:Nat->Value}{x qual:Str}{st:Stmt}{f:Addr}{fd:FuncData}{N ps:List Str}{k p n m kr:Nat}{fb:En->RS}(F:Fun K x qual st f fd)(S:ZA N ps (zr st))(hn:ps.length=n+1)(hN:N.length=n+1+m)
  (hb:∀(cdv:Value) (A:Around) (outer:List Env) (s:Shared) (H:Hp) (E:XK) (Y:Fx),Y.cl=cl->Y.E=E->Zu kr (A.deeper (envOfC qual (zr st) s.heap.objs.size f cdv))->
   JV (jL (CX1 P w) P w K mg base N qual (zr st) f cdv A outer s H E) Y (zI st) fb):ZW P w K mg base (CX1 P w) (kr+1) f fd ps (spO cl k p n λfs ts=>zA (fb (enO k m fs (ts.take p) (ts.drop p)))):=by
 refine Fun.okX F S (λvs H Q E z=> ?_) λcdv A outer s H vs Q E hr z=> ?_
 ·obtain⟨x,C,dx,us,vs1,vs2,ts1,ts2,B,fs,e,hl,hl2,_,_,_,_,_,r1,r2,_⟩:=z;rw[e,av,ag,r1.length,r2.length,hn,← hl2,av];rfl
 obtain⟨x,C,dx,us,vs1,vs2,ts1,ts2,B,fs,e,hl,hl2,hc,hx,hi,hf,sB,r1,r2,q⟩:=z;subst e;have e1:(ts1++ts2).take p=ts1:=by rw[← hl];simp
 have e2:(ts1++ts2).drop p=ts2:=by rw[← hl];simp
 refine⟨_,hb cdv A _ s H E _ rfl rfl hr _,B,SI.startO (by rw[hN,hl2]) sB hc hx hi hf r1 r2, ?_⟩
 have q:Po _ rC B H (zA _) Q:=q;rw[e1,e2]at q;revert q;cases fb _ with
 | rt t=>exact λq v H' s r=>q v H' s r
 | rf t=>exact λq a xs H' B' s0 n e r _ l=>q _ H' s0 (.lst (by rw[zY n];exact e) (r.mono l))
 | nx ρ=>exact λq σ' H' B' s' I' =>q _ H' I'.sH .non
 | bk ρ=>exact λq=>q.elim
 | ct ρ=>exact λq=>q.elim
 | ex c=>exact λq=>q
 | bad=>exact λq=>q
end
section
variable {X:Cx}{Y:Fx}{a b:Expr}{cl:Nat->Value}{k i j kk kj nn:Nat}{x m:Str}{px ap p pos p' :Pos}{C f:Addr}{fd:FuncData}{ps:List Str}{es:List Expr}{ga:En->R (List T)}{pl:Sem Bool}
def obL (k i j:Nat)(ρ:En):Option (List (Str×Fd)):=match ρ[i]? with
 | some (.oc k' fs)=>if k' =k then some fs else none
 | _=>(obD k i j ρ).map λx=>x.2.1
theorem SI.obL (I:SI Y B ρ σ H)(h:obL k i j ρ=some fs):∃a C dx vs,σ[i]? =some (some (V.ref a))/\Y.cl k= .ref C/\H a=some (.ins C dx vs)/\InC vs/\FsO B H vs fs:=by
 unfold PV.obL at h;obtain⟨as,O,s⟩:=I.st;split at h
 ·rename_i k' fs' e;split at h
  ·rename_i hk;subst hk;cases h;obtain⟨a,C,dx,vs,e1,e2,e3,e4,e5⟩:=s.oc i _ _ e;exact⟨a,C,dx,vs,e1,e2,I.sH _ _ e3,e4,e5.mono (zu.refl _) I.sH⟩
  ·cases h
 ·cases e:obD k i j ρ with
  | none=>rw[e]at h;cases h
  | some x=>
   obtain⟨n,fs',os⟩:=x;rw[e]at h;cases h;obtain⟨h1,h2,h3⟩:=JH e;obtain⟨a,C,dx,vs,e1,e2,e3,e4,e5,e6,e7,e8⟩:=s.st j os h2 n k _ h3;obtain⟨a',C',dx',vs',g1,g2,_⟩:=s.ob i k n h1;rw[e1]at g1;cases g1;refine⟨a,C,dx,vs,g2,e2,e3,e7.2,λm f d z=> ?_⟩;obtain⟨v,z1,z2⟩:=e8 m f d z;refine⟨v,z1, ?_⟩;cases d with
   | tv t=>exact z2
   | tl ts=>obtain⟨l,xs,p1,_,_,p4,p5,_⟩:=z2;exact⟨l,xs,p1,p4,p5⟩
def KU (k i j:Nat)(f:Str):En->R T:=λρ=>match obL k i j ρ with
 | some fs=>(match fs.lookup f with
  | some (.tv t)=> .ok t
  | _=> .bad)
 | none=> .bad
theorem KW (hv:PE X (.Name x px) (jk i))(hc:Y.cl k= .ref C)(c:L2.Cls X.K C)(n:L2.NoAttr X.K C m)(hb:attributeBase (.Name x px) m X.env (eval (.Name x px) X.env)=eval (.Name x px) X.env:=by rfl):Snd X Y (.Attribute (.Name x px) m pos) (KU k i j m):= .mk λρ=>PE.imp (jA hv hb) λσ H Q ⟨B,I,q⟩=>by
 unfold KU at q;split at q
 ·rename_i fs e;split at q
  ·rename_i t el;obtain⟨a,C',dx,vs,e1,e2,e3,e4,e5⟩:=I.obL e;rw[hc]at e2;cases e2;obtain⟨m',v,z1,z2,z3⟩:=wZ (λm g e he=>let ⟨v,z,_⟩:=e5 m g e he;⟨v,z⟩) el;obtain⟨v',y1,y2⟩:=e5 m' _ _ z1;rw[z2]at y1;cases y1;exact⟨.ref a,e1,a,C,dx,vs,v,rfl,e3,c,n,z3,po0 I.sB q rfl y2⟩
  ·exact q.elim
 ·exact q.elim
theorem poO {B H:Hp}{I0:Hp}{r:R T}{Q:VK}(s:zu Y.H0 H)(q:Po Y rC B H r Q):Po ⟨B,H,Y.E,Y.cl,[]⟩ rC B H r Q:=by
 cases r with
 | bad=>exact q
 | ex c=>exact λd H' z1 z2=>q d H' (s.trans z1) z2
 | ok t=>exact q
def Jh (k i j nn:Nat)(g:List (Str×Fd)->List T->R T)(ga:En->R (List T)):En->R T:=λρ=>match obL k i j ρ with
 | some fs=>(ga ρ).bind λts=>if ts.length=nn then g fs ts else .bad
 | none=> .bad
theorem z1v {g:List (Str×Fd)->List T->R T}(hv:PE X (.Name x px) (jk i))(hy:Y.cl=cl)(hc:cl k= .ref C)(c:L2.Cls X.K C)(hm:L2.Meth X.K C m f)(F:ZW X.prog X.w X.K X.mg X.base (CX1 X.prog X.w) kj f fd ps (spO cl k 0 nn g))(hr:Zu kk X.A)(hj:kj<=kk)(bd:L2.Binds X.K fd ps [])(hp:zX (CX1 X.prog X.w) X Y.E)(ha:wn X Y (a :: es) ga)(hna:m ∉ Q8:=by decide)
  (hst:starEach (a :: es) X.env=(false,eval a X.env) :: starEach es X.env:=by exact zC rfl) (hpl:((backTo pos (starEach es X.env)).any λx=>x.fst)=false:=by exact Zd rfl)
  (ht:eval (.Call (.Attribute (.Name x px) m ap) (a :: es) [] pos) X.env=(do
   let ov ← eval (.Name x px) X.env
   standAt ap.atName
   let (f,first) ← holding [ov] (getMethod ov m pl)
   callWith pos f first (backTo pos (starEach (a :: es) X.env)) (backToKw pos (keywordEach [] X.env))):=by rfl):
  Snd X Y (.Call (.Attribute (.Name x px) m ap) (a :: es) [] pos) (Jh k i j nn g ga):= .mk λρ=>PE.imp (yP hv c hm F (hr.mono hj) bd .nil hp (ha ρ) hst hpl ht) λσ H Q ⟨B,I,q⟩=>by
 unfold Jh at q;split at q
 ·rename_i fs e;obtain⟨a',C',dx,vs,e1,e2,e3,e4,e5⟩:=I.obL e;subst hy;rw[hc]at e2;cases e2;refine⟨.ref a',e1,a',dx,vs,rfl,e3,e4 m hna, ?_⟩;refine step I q λts us H1 _ s1 r1 I1 q1=> ?_;split at q1
  ·rename_i hn;rw[aP];exact⟨a',C,dx,vs,[],us,[],ts,_,fs,rfl,rfl,hn,hc,s1 _ _ e3,e4,e5.mono (zM.ge I.sB s1) s1,I1.sB,.nil,r1,poO (I0:=H) I1.sH q1⟩
  ·exact q1.elim
 ·exact q.elim
theorem vh {g:List (Str×Fd)->List T->R T}(hv:PE X (.Name x px) (jk i))(hy:Y.cl=cl)(hc:cl k= .ref C)(c:L2.Cls X.K C)(hm:L2.Meth X.K C m f)(F:ZW X.prog X.w X.K X.mg X.base (CX1 X.prog X.w) kj f fd ps (spO cl k 0 0 g))(hr:Zu kk X.A)(hj:kj<=kk)(bd:L2.Binds X.K fd ps [])(hp:zX (CX1 X.prog X.w) X Y.E)(hna:m ∉ Q8:=by decide)
  (ht:eval (.Call (.Attribute (.Name x px) m ap) [] [] pos) X.env=(do
   let ov ← eval (.Name x px) X.env
   standAt ap.atName
   let (f,first) ← holding [ov] (getMethod ov m pl)
   callWith pos f first (backTo pos (starEach [] X.env)) (backToKw pos (keywordEach [] X.env))):=by rfl):
  Snd X Y (.Call (.Attribute (.Name x px) m ap) [] [] pos) (Jh k i j 0 g zj):= .mk λρ=>PE.imp (jB hv c hm F (hr.mono hj) bd .nil hp ht) λσ H Q ⟨B,I,q⟩=>by
 unfold Jh at q;split at q
 ·rename_i fs e;obtain⟨a',C',dx,vs,e1,e2,e3,e4,e5⟩:=I.obL e;subst hy;rw[hc]at e2;cases e2;exact⟨.ref a',e1,a',dx,vs,rfl,e3,e4 m hna,a',C,dx,vs,[],[],[],[],_,fs,rfl,rfl,rfl,hc,e3,e4,e5,I.sB,.nil,.nil,poO (I0:=H) I.sH q⟩
 ·exact q.elim
def Qf (k i j nn:Nat)(g:List (Str×Fd)->List T->R (T×List (Str×Fd)))(ga:En->R (List T)):En->R (T×En):=λρ=>match obD k i j ρ with
 | some (n,fs,os)=>(ga ρ).bind λts=>if ts.length=nn then (g fs ts).bind λp=> .ok (p.1,ρ.set j (.st (os.set n (k,p.2)))) else .bad
 | none=> .bad
theorem KY {g:List (Str×Fd)->List T->R (T×List (Str×Fd))}(hv:PE X (.Name x px) (jk i))(hy:Y.cl=cl)(F:ZW X.prog X.w X.K X.mg X.base (CX1 X.prog X.w) kj f fd ps (spM cl k nn g))(hr:Zu kk X.A)(hj:kj<=kk)(gl:Gl X m)(mg:X.mg m=some (.ref f))(kp:bJ X.K (.ref f)=true)(bd:L2.Binds X.K fd ps [])(hp:zX (CX1 X.prog X.w) X Y.E)(ha:wn X Y es ga)
  (hd:(m == ("__debug__":Str))=false:=by decide) (hst:starEach (.Name x px :: es) X.env=(false,eval (.Name x px) X.env) :: starEach es X.env:=by exact zC rfl) (hpl:((backTo pos (starEach es X.env)).any λx=>x.fst)=false:=by exact Zd rfl):
  ug X Y (.Call (.Name m p) (.Name x px :: es) [] pos) (Qf k i j nn g ga):= .mk λρ=>PE.imp (yO F (hr.mono hj) gl mg kp bd .nil hp (zy hv (ha ρ) hst) hd hst hpl) λσ H Q ⟨B,I,q⟩=>by
 unfold Qf at q;split at q
 ·rename_i n fs os e;obtain⟨a',C',dx,vs,e1,e2,e3,e4,al⟩:=I.obA e;subst hy;refine⟨.ref a',e1, ?_⟩;refine X2 I q λts us H1 _ s1 r1 I1 q1=> ?_;split at q1
  ·rename_i hn;rw[aP];obtain⟨H0,b1,b2,b3,b4,b5⟩:=I1.back e e1;refine⟨a',us,ts,_,H0,fs,rfl,hn,b1,b2,b3,r1, ?_⟩;revert q1;cases g fs ts with
   | bad=>exact λq1=>q1
   | ex c2=>exact λq1 d H' z1 z2=>q1 d H' (b4.trans z1) z2
   | ok p=>
    obtain⟨t,fs2⟩:=p;exact λq1 v H' B' z1 z2 z3 z4 z5 z6=>q1 v H' B' z2 (b5 H' B' fs2 z1 z2 z3 z4 z5) z6
  ·exact q1.elim
 ·exact q.elim
end
section
end
end PV
namespace PV
open PySem PySem.Spec PyProof.Rows L2
structure Fn (K:a8) (mg:Str->Option Value) (x:Str) (st:Stmt) (ps:List Str) (f:Addr) (fd:FuncData):Prop where
 F:Fun K x x st f fd
 b:L2.Binds K fd ps []
 m:mg x=some (.ref f)
structure FnO (K:a8) (x qual:Str) (st:Stmt) (ps:List Str) (f:Addr) (fd:FuncData) (C:Addr):Prop where
 F:Fun K x qual st f fd
 b:L2.Binds K fd ps []
 m:L2.Meth K C x f
noncomputable abbrev FE (K:a8)(mg:Str->Option Value)(x:Str)(st:Stmt)(ps:List Str):Prop:=∃f fd,Fn K mg x st ps f fd
noncomputable abbrev FM (K:a8)(cl:Nat->Value)(c:Nat)(x:Str)(st:Stmt)(ps:List Str):Prop:=∃C qual f fd,cl c= .ref C/\FnO K x qual st ps f fd C
noncomputable abbrev FI (K:a8)(mg:Str->Option Value)(cl:Nat->Value)(c:Nat)(y:Str)(st:Stmt)(ps:List Str):Prop:=∃C qual f fd,cl c= .ref C/\mg y=some (.ref C)/\L2.Mk K C f/\FnO K "__init__" qual st ps f fd C
structure Zz where
 P:Program
 w:World
 K:a8
 mg:Str->Option Value
 base:Heap
 cl:Nat->Value
structure QQ (x:Str) (CX:CXT) (k:Nat) (sp:Sp) (Z:Zz):Prop where
 ex:∃st ps f fd,Fn Z.K Z.mg x st ps f fd/\ZW Z.P Z.w Z.K Z.mg Z.base CX k f fd ps sp
structure CA (c:Nat) (as:List Str) (K:a8) (cl:Nat->Value):Prop where
 ex:∃C,cl c= .ref C/\L2.Cls K C/\∀f,as.contains f=true->L2.NoAttr K C f
structure QM (x:Str) (c k:Nat) (sp:Sp) (Z:Zz):Prop where
 ex:∃C qual st ps f fd,Z.cl c= .ref C/\L2.Cls Z.K C/\FnO Z.K x qual st ps f fd C/\ZW Z.P Z.w Z.K Z.mg Z.base (CX1 Z.P Z.w) k f fd ps sp
structure QI (y:Str) (c k:Nat) (sp:Sp) (Z:Zz):Prop where
 ex:∃C qual st ps f fd,Z.cl c= .ref C/\Z.mg y=some (.ref C)/\L2.Mk Z.K C f/\FnO Z.K "__init__" qual st ps f fd C/\ZW Z.P Z.w Z.K Z.mg Z.base (CX1 Z.P Z.w) k f fd ps sp
abbrev qP (Z:Zz)(x:Str)(n k:Nat)(c:List T->R T):Prop:=QQ x CX0 k (spP Z.cl n c) Z
abbrev qM (Z:Zz)(c:Nat)(x:Str)(n k:Nat)(g:List (Str×Fd)->List T->R (T×List (Str×Fd))):Prop:=QM x c k (spM Z.cl c n g) Z
abbrev qO (Z:Zz)(c:Nat)(x:Str)(n k:Nat)(g:List (Str×Fd)->List T->R T):Prop:=QM x c k (spO Z.cl c 0 n g) Z
abbrev qI (Z:Zz)(c:Nat)(x:Str)(n k:Nat)(g:List (Str×Fd)->List T->R (T×List (Str×Fd))):Prop:=QI x c k (spM Z.cl c n g) Z
abbrev qFM (Z:Zz)(c:Nat)(x:Str)(n k:Nat)(g:List (Str×Fd)->List T->R (T×List (Str×Fd))):Prop:=QQ x (CX1 Z.P Z.w) k (spM Z.cl c n g) Z
def oP (m:Nat)(b:En->RS):List T->R T:=λts=>zA (b (en0 m ts))
def oS (m:Nat)(b:En->RS):List T->R T:=λts=>zA (b (enS m ts))
def oC (m:Nat)(b:En->RS):Nat->R T:=λc=>zA (b (enC m c))
def oM (k j:Nat)(b:En->R (T×En)):List (Str×Fd)->List T->R (T×List (Str×Fd)):=λfs ts=>JW k j (b (enM k j fs ts))
def oO (k m p:Nat)(b:En->RS):List (Str×Fd)->List T->R T:=λfs ts=>zA (b (enO k m fs (ts.take p) (ts.drop p)))
section
variable {P:Program}{w:World}{K:a8}{mg:Str->Option Value}{base:Heap}{cl:Nat->Value}{x:Str}{CX:CXT}{k c:Nat}{sp:Sp}{G:Prop}{as:List Str}
theorem QQ.go (O:QQ x CX k sp ⟨P,w,K,mg,base,cl⟩)(h:∀st ps f fd,Fn K mg x st ps f fd->ZW P w K mg base CX k f fd ps sp->G):G:=by
 obtain⟨⟨st,ps,f,fd,C,F⟩⟩:=O;exact h st ps f fd C F
theorem QM.go (O:QM x c k sp ⟨P,w,K,mg,base,cl⟩)(h:∀C q st ps f fd,cl c= .ref C->L2.Cls K C->FnO K x q st ps f fd C->ZW P w K mg base (CX1 P w) k f fd ps sp->G):G:=by
 obtain⟨⟨C,q,st,ps,f,fd,e,c,M,F⟩⟩:=O;exact h C q st ps f fd e c M F
theorem QI.go (O:QI x c k sp ⟨P,w,K,mg,base,cl⟩)(h:∀C q st ps f fd,cl c= .ref C->mg x=some (.ref C)->L2.Mk K C f->FnO K "__init__" q st ps f fd C->ZW P w K mg base (CX1 P w) k f fd ps sp->G):G:=by
 obtain⟨⟨C,q,st,ps,f,fd,e,g,M,O,F⟩⟩:=O;exact h C q st ps f fd e g M O F
theorem CA.go (A:CA c as K cl)(h:∀C,cl c= .ref C->L2.Cls K C->(∀f,as.contains f=true->L2.NoAttr K C f)->G):G:=by
 obtain⟨⟨C,e,c,n⟩⟩:=A;exact h C e c n
end
section
variable {Z:Zz}{x y:Str}{st:Stmt}{ps:List Str}{c k n m j:Nat}{fb:En->RS}{fm:En->R (T×En)}
abbrev Sc (N ps:List Str)(st:Stmt):Prop:=ZA N ps (zr st)
theorem okP (C:FE Z.K Z.mg x st ps)(N:List Str) (hb:∀(f:Addr) (cdv:Value) (A:Around) (outer:List Env) (s:Shared) (H:Hp) (E:XK) (Y:Fx),Y.cl=Z.cl->True->Zu k (A.deeper (envOfC x (zr st) s.heap.objs.size f cdv))->N.Nodup->True->
   JV (jL CX0 Z.P Z.w Z.K Z.mg Z.base N x (zr st) f cdv A outer s H E).nox Y (zI st) fb)
  (S:Sc N ps st:=by refine⟨rfl,rfl,rfl, ?_,rfl, ?_, ?_⟩ <;> decide+kernel) (hn:n=ps.length:=by rfl) (hm:m=N.length:=by rfl):qP Z x n (k+1) (oP m fb):=by
 obtain⟨f,fd,C⟩:=C;subst hm;exact⟨_,_,f,fd,C,z12 C.F S hn (λcdv A outer s H E Y hy hr=>hb f cdv A outer s H E Y hy trivial hr S.nd trivial) λ_ _=>rfl⟩
abbrev BM (Z:Zz)(k:Nat)(qual:Str)(st:Stmt)(N:List Str)(G:Cx->Fx->Prop):Prop:=∀(f:Addr) (cdv:Value) (A:Around) (outer:List Env) (s:Shared) (H:Hp) (E:XK) (Y:Fx),Y.cl=Z.cl->Y.E=E->Zu k (A.deeper (envOfC qual (zr st) s.heap.objs.size f cdv))->N.Nodup->zX (CX1 Z.P Z.w) (jL (CX1 Z.P Z.w) Z.P Z.w Z.K Z.mg Z.base N qual (zr st) f cdv A outer s H E) Y.E->
   G (jL (CX1 Z.P Z.w) Z.P Z.w Z.K Z.mg Z.base N qual (zr st) f cdv A outer s H E) Y
theorem okM (ca:CA c as Z.K Z.cl)(C:FM Z.K Z.cl c x st ps)(N:List Str)(hb:∀q,BM Z k q st N λX Y=>vg X Y (zI st) fm)
  (S:Sc N ps st:=by refine⟨rfl,rfl,rfl, ?_,rfl, ?_, ?_⟩ <;> decide+kernel) (hn:ps.length=n+1:=by rfl) (hm:N.length=j+1:=by rfl) (hj:n+1<=j:=by decide):qM Z c x n (k+1) (oM c j fm):=by
 obtain⟨C,q,f,fd,e,M⟩:=C;obtain⟨C',e',cl,_⟩:=ca;rw[e]at e';cases e';exact⟨C,q,_,_,f,fd,e,cl,M,YJ M.F S hn hm hj λcdv A outer s H E Y hy hE hr=>hb q f cdv A outer s H E Y hy hE hr S.nd (hE ▸ UP)⟩
theorem okO (ca:CA c as Z.K Z.cl)(C:FM Z.K Z.cl c x st ps)(N:List Str)(hb:∀q,BM Z k q st N λX Y=>JV X Y (zI st) fb)
  (S:Sc N ps st:=by refine⟨rfl,rfl,rfl, ?_,rfl, ?_, ?_⟩ <;> decide+kernel) (hn:ps.length=n+1:=by rfl) (hm:N.length=n+1+m:=by rfl):qO Z c x n (k+1) (oO c m 0 fb):=by
 obtain⟨C,q,f,fd,e,M⟩:=C;obtain⟨C',e',cl,_⟩:=ca;rw[e]at e';cases e';exact⟨C,q,_,_,f,fd,e,cl,M,KT M.F S hn hm λcdv A outer s H E Y hy hE hr=>hb q f cdv A outer s H E Y hy hE hr S.nd (hE ▸ UP)⟩
theorem okI (C:FI Z.K Z.mg Z.cl c y st ps)(N:List Str)(hb:∀q,BM Z k q st N λX Y=>vg X Y (zI st) fm)
  (S:Sc N ps st:=by refine⟨rfl,rfl,rfl, ?_,rfl, ?_, ?_⟩ <;> decide+kernel) (hn:ps.length=n+1:=by rfl) (hm:N.length=j+1:=by rfl) (hj:n+1<=j:=by decide):qI Z c y n (k+1) (oM c j fm):=by
 obtain⟨C,q,f,fd,e,g,M,O⟩:=C;exact⟨C,q,_,_,f,fd,e,g,M,O,YJ O.F S hn hm hj λcdv A outer s H E Y hy hE hr=>hb q f cdv A outer s H E Y hy hE hr S.nd (hE ▸ UP)⟩
theorem okFM (C:FE Z.K Z.mg x st ps)(N:List Str)(hb:BM Z k x st N λX Y=>vg X Y (zI st) fm)
  (S:Sc N ps st:=by refine⟨rfl,rfl,rfl, ?_,rfl, ?_, ?_⟩ <;> decide+kernel) (hn:ps.length=n+1:=by rfl) (hm:N.length=j+1:=by rfl) (hj:n+1<=j:=by decide):qFM Z c x n (k+1) (oM c j fm):=by
 obtain⟨f,fd,C⟩:=C;exact⟨_,_,f,fd,C,YJ C.F S hn hm hj λcdv A outer s H E Y hy hE hr=>hb f cdv A outer s H E Y hy hE hr S.nd (hE ▸ UP)⟩
theorem okB (C:FE Z.K Z.mg x st ps)(hn:n=ps.length:=by rfl):qP Z x n k (λ_=> .bad):=by
 obtain⟨f,fd,C⟩:=C;exact⟨_,_,f,fd,C,λvs H Q E h=>by rw[← hn];exact spP.len vs H Q E h,λA outer s H args us vs Q E _ _ _ _ ⟨B,ts,_,_,_,q⟩=>q.elim⟩
end
section
theorem cZ (hy:Y.cl=cl)(O:QQ x CX0 j (spP cl n g) ⟨X.prog,X.w,X.K,X.mg,X.base,cl⟩)(hr:Zu k X.A)(ha:wn X Y (a :: es) ga)(hj:j<=k:=by omega)(gl:Gl X x:=by rfl)(hd:(x == ("__debug__":Str))=false:=by decide)
  (hs:starEach (a :: es) X.env=(false,eval a X.env) :: starEach es X.env:=by exact zC rfl) (hz:((backTo pos (starEach es X.env)).any λx=>x.fst)=false:=by exact Zd rfl):Snd X Y (.Call (.Name x p) (a :: es) [] pos) (za n g ga):=
 O.go λ_ _ _ _ C F=>xA hy F hr hj gl C.m C.F.kp C.b ha hd hs hz
end
noncomputable def nms (N:List Str)(js:List Nat):List Str:=js.map λj=>N.getD j ""
noncomputable def ndB:List Str->Bool
 | []=>true
 | x :: r=> !(r.contains x) && ndB r
theorem U9:∀{l:List Str},ndB l=true->l.Nodup
 | [],_=> .nil
 | x :: r,h=>by
  rw[ndB,ae]at h;exact d5.mpr ⟨by simpa using h.1,U9 h.2⟩
def XS (N N' :List Str)(sc0 scope:Scope)(k:Nat)(js:List Nat):Bool:=(GH scope sc0 && GI N N' scope sc0 k js) && ndB N'
section
variable {cl:Nat->Value}{X:Cx}{Y:Fx}{x y:Str}{p p' p2:Pos}{kk:Nat}{iter elt:Expr}{ifs:List Expr}{scope:Scope}{js:List Nat}{fi:En->R (List T)}{ft:En->R Bool}{fe:En->R T}
theorem cr1 (hy:Y.cl=cl)(h:XS X.N (x :: nms X.N js) X.env.scope scope 1 js=true)(hx:((relabel scope X.env).names.lookup x == some .local)=true)(cm:X.calm=true)(it:uo X Y (.Name x p) iter fi)(tt:∀Y',Y'.cl=cl->V3 X scope (x :: nms X.N js) λXC=>wS XC Y' ifs ft)
  (el:∀Y',Y'.cl=cl->Kb X scope (x :: nms X.N js) Y'.E λXC=>Snd XC Y' elt fe) (hs:∀x,foldedSetIterable iter X.env x=pure x:=by intro _;rfl):wq X Y (.Name x p) iter elt ifs scope (x :: nms X.N js) 1 js fi (wH 0) (zJ 0) ft fe:=by
 subst hy;rw[XS,ae]at h;have hx:(relabel scope X.env).names.lookup x=some .local:=eq_of_beq hx;exact V6 _ _ _ rfl rfl h.1 cm it (λ_ _ _ _ _ _=>jO (U9 h.2) rfl (.inl hx) (.inr hx)) (QF 0) (QJ 0) tt el hs
theorem cr2 (hy:Y.cl=cl)(h:XS X.N (x :: y :: nms X.N js) X.env.scope scope 2 js=true)(hx:((relabel scope X.env).names.lookup x == some .local && (relabel scope X.env).names.lookup y == some .local)=true)(cm:X.calm=true)(it:uo X Y (.Tuple [.Name x p,.Name y p'] kk p2) iter fi)(tt:∀Y',Y'.cl=cl->V3 X scope (x :: y :: nms X.N js) λXC=>wS XC Y' ifs ft)
  (el:∀Y',Y'.cl=cl->Kb X scope (x :: y :: nms X.N js) Y'.E λXC=>Snd XC Y' elt fe) (hs:∀x,foldedSetIterable iter X.env x=pure x:=by intro _;rfl):wq X Y (.Tuple [.Name x p,.Name y p'] kk p2) iter elt ifs scope (x :: y :: nms X.N js) 2 js fi (z0i X.K 2 (yz (wH 0) (yz (wH 1) z0h))) (ZC 0 1) ft fe:=by
 subst hy;rw[XS,ae]at h;rw[ae]at hx;have h1:(relabel scope X.env).names.lookup x=some .local:=eq_of_beq hx.1;have h2:(relabel scope X.env).names.lookup y=some .local:=eq_of_beq hx.2;exact V6 _ _ _ rfl rfl h.1 cm it (λ_ _ _ _ _ _=>vP cm (Jj (jO (U9 h.2) rfl (.inl h1) (.inr h1)) (Jj (jO (U9 h.2) rfl (.inl h2) (.inr h2)) yA))) (QG _ 0 1) (QK 0 1) tt el hs
end
end PV
namespace L2
open PySem PySem.Spec PyProof.Rows
section
theorem Inv.virt (I:Inv X pins σ H s)(hq:X.N[q]? =some x)(hv:X.env.scope.names.lookup x=none)(v:Option V):Inv X pins (σ.set q v) H s:=
 { I with
  loc:=let ⟨m,hn,hl⟩:=I.loc;⟨m,hn,λi y u e1 e2 e3=>by
   by_cases h:i=q
   ·subst h;rw[hq]at e1;cases e1;unfold Vis at e3;rw[hv]at e3;rcases e3 with z | z | z <;> cases z
   ·rw[aw (aZ h)]at e2;exact hl i y u e1 e2 e3⟩
  len:=by rw[aE];exact I.len }
theorem Ua {α:Type}{l:List α}{x a:α}(h:l[q]? =some a):(l.set q x).set q a=l:=by
 rw[f6];obtain⟨hq,rfl⟩:=ar.mp h;exact List.set_getElem_self hq
theorem X6 (ha:PE X e te)(hr:PA X es t)(hq:X.N[q]? =some x)(hv:X.env.scope.names.lookup x=none)(hs:starEach (e :: es) X.env=(false,eval e X.env) :: starEach es X.env):
  PA X (e :: es) (λσ H Q=>te σ H λv H1=>t (σ.set q (some v)) H1 λvs H2=>Q (v :: vs) H2):=by
 intro pos pins s σ H Q I h;rw[hs];show wpAny _ _ (spliced ((false,eval e X.env) :: backTo pos (starEach es X.env))) _ _ s;refine dH (thn (ha pins s σ H _ I h) λu s1 ⟨x,H1,I1,r1,q1⟩=> ?_);refine thn (hr pos pins s1 _ H1 _ (I1.virt hq hv (some x)) q1) λus s2 ⟨xs,H2,I2,r2,q2⟩=>⟨x :: xs,H2, ?_,.cons r1 r2,q2⟩;have hl:q < σ.length:=by rw[I.len];exact(ar.mp hq).1
 have:=I2.virt hq hv σ[q];rw[Ua (ah hl)]at this;exact this
end
end L2
namespace PV
open PySem PySem.Spec PyProof.Rows L2 PySem.W
section
theorem SI.cpO (I:SI Y B ρ σ H){q k n:Nat}{a:Addr}(h:ρ[q]? =some (.ob k n))(ha:σ[q]? =some (some (V.ref a)))(i:Nat):SI Y B (ρ.set i (.ob k n)) (σ.set i (some (V.ref a))) H:=by
 have get:∀{j:Nat} {y:Sl},(ρ.set i (.ob k n))[j]? =some y->(∀a b,y ≠ .ob a b)->ρ[j]? =some y/\(σ.set i (some (V.ref a)))[j]? =σ[j]? :=λ{j y} h hy=>by
  rcases zq h with ⟨_,z⟩ | ⟨e,z⟩
  ·exact absurd z (hy _ _)
  ·exact⟨z,aw (aZ e)⟩
 have no:∀b,Wx ρ σ b->Wx (ρ.set i (.ob k n)) (σ.set i (some (V.ref a))) b:=λb hb j us hw=>by
  obtain⟨e1,e2⟩:=get hw (λ_ _=>Sl.noConfusion);rw[e2];exact hb j us e1
 obtain⟨as,O,x⟩:=I.st;refine⟨I.s0,I.sH,I.sB,I.old,by rw[aE,aE];exact I.len,λj t e=> ?_,λj ts e=> ?_,λj c e=> ?_,as,O,x.pre,λj os e=>x.len j os (get e (λ_ _=>Sl.noConfusion)).1,λj j' os os' e e' =>x.one j j' os os' (get e (λ_ _=>Sl.noConfusion)).1 (get e' (λ_ _=>Sl.noConfusion)).1,λj k' n' e=> ?_,λj k' fs e=> ?_,λj os e m k' fs e' => ?_⟩
 ·obtain⟨e1,e2⟩:=get e (λ_ _=>Sl.noConfusion);rw[e2];exact I.vl j t e1
 ·obtain⟨e1,e2⟩:=get e (λ_ _=>Sl.noConfusion);obtain⟨b,xs,y1,y2,y3,y4,y5,y6⟩:=I.ow j ts e1;refine⟨b,xs,by rw[e2];exact y1,y2,y3,y4,y5,λj' us hj hw=> ?_⟩
  obtain⟨e3,e4⟩:=get hw (λ_ _=>Sl.noConfusion);rw[e4];exact y6 j' us hj e3
 ·obtain⟨e1,e2⟩:=get e (λ_ _=>Sl.noConfusion);rw[e2];exact I.xc j c e1
 ·rcases zq e with ⟨rfl,z⟩ | ⟨hj,z⟩
  ·cases z;obtain⟨a',C,dx,vs,y1,y2,y3⟩:=x.ob q k n h;rw[ha]at y2;cases y2;exact⟨a,C,dx,vs,y1,aL (by rw[← I.len];exact wp e),y3⟩
  ·rw[aw (aZ hj)];exact x.ob j k' n' z
 ·obtain⟨e1,e2⟩:=get e (λ_ _=>Sl.noConfusion);rw[e2];exact x.oc j k' fs e1
 ·obtain⟨b,C,dx,vs,y1,y2,y3,y4,y5,y6,y7,y8⟩:=x.st j os (get e (λ_ _=>Sl.noConfusion)).1 m k' fs e';refine⟨b,C,dx,vs,y1,y2,y3,y4,y5,y6,y7,λm' f d z=> ?_⟩;obtain⟨v,x1,x2⟩:=y8 m' f d z;refine⟨v,x1, ?_⟩;cases d with
  | tv t=>exact x2
  | tl ts=>
   obtain⟨l,xs,p1,p2,p3,p4,p5,p6,p7⟩:=x2;exact⟨l,xs,p1,p2,p3,p4,p5,no l p6,p7⟩
end
def mkA (q j k nn:Nat)(g:List (Str×Fd)->List T->R (T×List (Str×Fd)))(ga:En->R (List T)):En->R En:=λρ=>(ga ρ).bind λts=>if ts.length=nn/\q ≠ j/\q < ρ.length then (match ρ[j]? with
 | some (.st os)=>(match g [] ts with
  | .ok (.non,fs)=> .ok ((ρ.set j (.st (os++[(k,fs)]))).set q (.ob k os.length))
  | .ex c=> .ex c
  | _=> .bad)
 | _=> .bad) else .bad
end PV
namespace PV
open PySem PySem.Spec PyProof.Rows L2
def z1w (ft:En->R Bool)(fa fb:En->R (T×En)):En->R (T×En):=λρ=>(ft ρ).bind λc=>if c=true then fa ρ else fb ρ
theorem m_if (hc:wL X Y c ft)(ha:ug X Y a fa)(hb:ug X Y b fb):ug X Y (.IfExp c a b pos) (z1w ft fa fb):= .mk λρ=>
 PE.imp (uL (hc ρ) (ha.go ρ) (hb.go ρ)) λσ H Q ⟨B,I,q⟩=>X2 I q λt v H1 _ s1 r1 I1 q1=>by
  have r1:v=t:=r1;subst r1;cases v with
  | true=>exact⟨_,I1,q1⟩
  | false=>exact⟨_,I1,q1⟩
end PV
namespace PV
open PySem PySem.Spec PyProof.Rows L2 PySem.W
noncomputable abbrev qlT (x:Str):Str:=x++".<locals>."++"<lambda>"
section
end
def PoW (Y:Fx)(B:Hp)(q:Nat)(r:R En)(σ:Sg)(Q:VK):Prop:=match r with
 | .ok ρ' =>∀a H' B' k n,zu B B' ->SI Y B' ρ' (σ.set q (some (V.ref a))) H' ->ρ'[q]? =some (.ob k n)->Q (.ref a) H'
 | .ex c=>XP Y B c
 | .bad=>False
theorem PoW.up {r:R En}(s:zu B B')(h:PoW Y B q r σ Q):PoW Y B' q r σ Q:=by
 cases r with
 | ok ρ=>exact λa H' B2 k n s2=>h a H' B2 k n (s.trans s2)
 | ex c=>exact λd H' z1 z2=>h d H' z1 (s.trans z2)
 | bad=>exact h
def tW (Y:Fx)(q:Nat)(m:En->R En)(ρ:En):TE:=λσ H Q=>∃B,SI Y B ρ σ H/\PoW Y B q (m ρ) σ Q
structure X7 (X:Cx) (Y:Fx) (e:Expr) (q:Nat) (m:En->R En):Prop where
 go:∀ρ,PE X e (tW Y q m ρ)
section
theorem q_mk {g:List (Str×Fd)->List T->R (T×List (Str×Fd))}(hy:Y.cl=cl)(hc:cl k= .ref C)(M:L2.Mk X.K C f)(F:ZW X.prog X.w X.K X.mg X.base (CX1 X.prog X.w) kj f fd ps (spM cl k nn g))(hr:Zu kk X.A)(hj:kj+1<=kk)(gl:Gl X c)(mg:X.mg c=some (.ref C))(bd:L2.Binds X.K fd ps [])(hp:zX (CX1 X.prog X.w) X Y.E)(ha:wn X Y (a :: es) ga)
  (hd:(c == ("__debug__":Str))=false:=by decide) (hst:starEach (a :: es) X.env=(false,eval a X.env) :: starEach es X.env:=by exact zC rfl) (hpl:((backTo pos' (starEach es X.env)).any λx=>x.fst)=false:=by exact Zd rfl):
  X7 X Y (.Call (.Name c pc) (a :: es) [] pos') q (mkA q j k nn g ga):= .mk λρ=>by
 refine PE.imp (yQ M F (hr.mono hj) gl mg bd .nil hp (ha ρ) hd hst hpl) λσ H Q ⟨B,I,po⟩=> ?_;generalize em:mkA q j k nn g ga ρ=mr at po;have em' :=em;unfold mkA at em';refine⟨B,I, ?_⟩;cases eg:ga ρ with
 | bad=>rw[eg]at em';subst em';exact po
 | ex c=>rw[eg]at em';subst em';exact po
 | ok ts=>
  rw[eg]at em';intro vs H1 s1 r1;have I1:=I.grow s1;have po1:=po.up (zM.ge I.sB s1);have em' :(if ts.length=nn/\q ≠ j/\q < ρ.length then (match ρ[j]? with
   | some (.st os)=>(match g [] ts with
    | .ok (.non,fs)=> .ok ((ρ.set j (.st (os++[(k,fs)]))).set q (.ob k os.length))
    | .ex c=> .ex c
    | _=> .bad)
   | _=> .bad) else .bad:R En)=mr:=em'
  subst hy;split at em'
  ·rename_i hn;intro y0 dx h1 h2 h3;rw[aP];split at em'
   ·rename_i os ej;have sd:zu H1 (upd H1 dx (.own y0)):=zu.new h2 _;have hy0:upd H1 dx (.own y0) y0=none:=by rw[zt (aZ h3)];exact h1
    refine⟨y0,vs,ts,_,upd H1 dx (.own y0),[],rfl,hn.1,I1.sB.trans sd,zu.new hy0 _,⟨C,dx,[],λ_=>some 0,hc,zx,I1.sB.free h1,hy0,rfl,⟨rfl,λ_ _=>rfl⟩,λm f d z=>by cases z⟩,r1, ?_⟩
    revert em';cases g [] ts with
    | bad=>exact λe=>by subst e;exact po1
    | ex c2=>exact λe=>by subst e;exact λd H' z1 z2=>po1 d H' ((I1.sH.trans sd).trans z1) z2
    | ok p=>
     obtain⟨t,fs2⟩:=p;cases t with
     | non=>
      intro e v H' B' z1 z2 z3 z4 z5 z6;cases z6;refine⟨rfl, ?_⟩;have em2:mr= .ok ((ρ.set j (.st (os++[(k,fs2)]))).set q (.ob k os.length)):=e.symm;subst em2;have S1:=I1.made (i:=q) ej hn.2.1 hn.2.2 sd z1 z2 z3 z4 z5;exact(po1.up z2) y0 H' B' k os.length (zu.refl _) S1 (aL (by rw[aE];exact hn.2.2))
     | _=>exact λe=>by subst e;exact po1.elim
   ·subst em';exact po1.elim
  ·subst em';exact po1.elim
end
section
end
section
theorem vi (I:SI Y B ρ σ H)(h:obL k i j ρ=some fs)(hl:fs.lookup f=some (.tl ts)):∃a C dx vs l xs,σ[i]? =some (some (V.ref a))/\Y.cl k= .ref C/\H a=some (.ins C dx vs)/\vs.lookup f=some (.ref l)/\H l=some (.lst xs)/\zE B xs ts:=by
 obtain⟨a,C,dx,vs,e1,e2,e3,e4,e5⟩:=I.obL h;obtain⟨m',v,z1,z2,z3⟩:=wZ (λm g e he=>let ⟨v,z,_⟩:=e5 m g e he;⟨v,z⟩) hl;obtain⟨v',y1,l,xs,rfl,y3,y4⟩:=e5 m' _ _ z1;rw[z2]at y1;cases y1;exact⟨a,C,dx,vs,l,xs,e1,e2,e3,z3,y3,y4⟩
def lsV (k i j:Nat)(f:Str):En->Option (List T):=λρ=>match obL k i j ρ with
 | some fs=>(match fs.lookup f with
  | some (.tl ts)=>some ts
  | _=>none)
 | none=>none
theorem Ub (I:SI Y B ρ σ H)(h:lsV k i j f ρ=some ts):∃a C dx vs l xs,σ[i]? =some (some (V.ref a))/\Y.cl k= .ref C/\H a=some (.ins C dx vs)/\vs.lookup f=some (.ref l)/\H l=some (.lst xs)/\zE B xs ts:=by
 unfold lsV at h;split at h
 ·rename_i fs e;split at h
  ·rename_i us el;cases h;exact vi I e el
  ·cases h
 ·cases h
def Vj (k i j:Nat)(f:Str):En->R T:=λρ=>match lsV k i j f ρ with
 | some ts=> .ok (.lst ts)
 | none=> .bad
def ixV (k i j:Nat)(f:Str)(fb:En->R T):En->R T:=λρ=>match lsV k i j f ρ with
 | some ts=>(fb ρ).bind λt=>match t with
  | .int q=>atT ts q
  | _=> .bad
 | none=> .bad
abbrev lcpV:=Vj
theorem KZ (hv:PE X (.Name x px) (jk i))(hc:Y.cl k= .ref C)(c:L2.Cls X.K C)(n:L2.NoAttr X.K C f)(hb:attributeBase (.Name x px) f X.env (eval (.Name x px) X.env)=eval (.Name x px) X.env:=by rfl):ZZ X Y (.Attribute (.Name x px) f pos) (Vj k i j f):= .mk λρ=>PE.imp (jA hv hb) λσ H Q ⟨B,I,q⟩=>by
 unfold Vj at q;split at q
 ·rename_i ts e;obtain⟨a,C',dx,vs,l,xs,e1,e2,e3,e4,p4,p5⟩:=Ub I e;rw[hc]at e2;cases e2;exact⟨.ref a,e1,a,C,dx,vs,_,rfl,e3,c,n,e4,q _ H (zu.refl _) (.lst p4 (p5.mono I.sB))⟩
 ·exact q.elim
theorem z1x (hv:PE X (.Name x px) (jk i))(hc:Y.cl k= .ref C)(c:L2.Cls X.K C)(n:L2.NoAttr X.K C f)(hb:Snd X Y b fb)(hbf:attributeBase (.Name x px) f X.env (eval (.Name x px) X.env)=eval (.Name x px) X.env:=by rfl)(hs:Jx b:=by exact λ_ _=>rfl):Snd X Y (.Subscript (.Attribute (.Name x px) f p) b pos) (ixV k i j f fb):= .mk λρ=>
 PE.imp (Qu uS (jA hv hbf) (hb ρ) hs) λσ H Q ⟨B,I,q⟩=>by
  unfold ixV at q;split at q
  ·rename_i ts e;obtain⟨a,C',dx,vs,l,xs,e1,e2,e3,e4,hh,rr⟩:=Ub I e;rw[hc]at e2;cases e2;refine⟨.ref a,e1,a,C,dx,vs,_,rfl,e3,c,n,e4,step I q λt' v' H2 _ s2 r2 I2 q2=> ?_⟩;cases r2 with
   | int j=>
    have q2:Po Y rC _ H2 (atT ts j) Q:=q2;unfold atT at q2;split at q2
    ·rename_i t e8;obtain⟨w,e9,e10⟩:=wo (rr.mono (zM.ge I.sB s2)) e8;exact .inl ⟨_,xs,j,w,rfl,rfl,SqL.of (s2 _ _ hh),e9,po0 I2.sB q2 rfl e10⟩
    ·exact q2.elim
   | _=>exact q2.elim
  ·exact q.elim
theorem g9 (hv:PE X (.Name x px) (jk i))(hc:Y.cl k= .ref C)(c:L2.Cls X.K C)(n:L2.NoAttr X.K C f)(gl:Gl X "list")(mg:X.mg "list"=none)(hbf:attributeBase (.Name x px) f X.env (eval (.Name x px) X.env)=eval (.Name x px) X.env:=by rfl):Snd X Y (.Call (.Name "list" p) [.Attribute (.Name x px) f pf] [] pos) (lcpV k i j f):= .mk λρ=>
 PE.imp (ZQ j4 gl mg (PyProof.Rows.Boot.«list») (zy (jA hv hbf) zO (st1 rfl)) (by decide) (by decide) (st1 rfl) rfl) λσ H Q ⟨B,I,q⟩=>by
  have q:Po Y rC B H (Vj k i j f ρ) Q:=q;unfold Vj at q;split at q
  ·rename_i ts e;obtain⟨a,C',dx,vs,l,xs,e1,e2,e3,e4,hh,rr⟩:=Ub I e;rw[hc]at e2;cases e2;exact⟨.ref a,e1,a,C,dx,vs,_,rfl,e3,c,n,e4,l,xs,rfl,.inl (SqL.of hh),λl' hl' =>q _ _ (zu.new hl' _) (.lst (by rw[zY hl'];exact zx) (rr.mono (zM.ge I.sB (zu.new hl' _))))⟩
  ·exact q.elim
end
section
end
end PV
namespace PV
open PySem PySem.Spec PyProof.Rows L2
section
end
section
end
end PV
namespace PV
open PySem PySem.Spec PyProof.Rows L2 PySem.W
section
end
def E1 (cl:Nat->Value)(ok:Nat->Bool)(gx:Nat->R T)(B H:Hp)(Q:VK)(E:XK):XK:=λcls _ H' =>∃c,cls=cl c/\ok c=true/\zu H H' /\zu B H' /\Po ⟨B,H,E,cl,[]⟩ rC B H (nx1 (gx c)) Q
def spT2 (P:Program)(w:World)(K:Frag)(mg:Str->Option Value)(base:Heap)(cl:Nat->Value)(ok:Nat->Bool)(gx:Nat->R T)(k:Nat)(f:Addr)(o:Obj):Sp:=λvs H Q E=>vs=[V.ref f]/\H f=some (.frz o (.own f))/\∃B,zu B H/\
 ∀(A:Around) (outer:List Env) (s:Shared),Zu (k+1) A->uQ P w K mg base A outer s H->codeAny (model P w) A (.call (.ref f) ⟨[],[]⟩) (CR (CX1 P w) outer P w H s Q (E1 cl ok gx B H Q E)) s
structure QCM (x:Str) (k:Nat) (gx:Nat->R T) (Z:Zz):Prop where
 ex:∃st y f fd,Fn Z.K Z.mg x st [y] f fd/\FnM Z.P Z.w Z.K Z.mg Z.base k f fd [y] (spC Z.cl gx)
structure QD (x:Str) (k:Nat) (ok:Nat->Bool) (gx:Nat->R T) (Z:Zz):Prop where
 ex:∃st d f fd,Fn Z.K Z.mg x st [d] f fd/\∀(base:Heap) (fl c' :Addr) (q:Str) (params:Arguments) (body:Expr) (scope:Scope) (clos:List (Str×Addr)) (pm ctv:Value),Z.K.In base->ZW Z.P Z.w Z.K Z.mg base CX0 (k+2) f fd [d] (spT2 Z.P Z.w Z.K Z.mg base Z.cl ok gx k fl (Vd q params body scope clos pm ctv c'))
section
variable {Z:Zz}{x:Str}{st:Stmt}
theorem okCM {q:Str}{k m:Nat}{fb:En->RS}(C:FE Z.K Z.mg x st [q])(N:List Str) (hb:∀(f:Addr) (cdv:Value) (A:Around) (outer:List Env) (s:Shared) (H:Hp) (_:True) (Y:Fx),Y.cl=Z.cl->True->ZV k (A.deeper (envOfC x (zr st) s.heap.objs.size f cdv))->N.Nodup->True->
   JV (cxM Z.P Z.w Z.K Z.mg Z.base N x (zr st) f cdv A outer s H) Y (zI st) fb)
  (S:Sc N [q] st:=by refine⟨rfl,rfl,rfl, ?_,rfl, ?_, ?_⟩ <;> decide+kernel) (h1:1<=N.length:=by decide) (hm:m=N.length:=by rfl):QCM x (k+1) (oC m fb) Z:=by
 obtain⟨f,fd,C⟩:=C;subst hm;exact⟨_,_,f,fd,C,X1 C.F S h1 (λcdv A outer s H Y hy hr=>hb f cdv A outer s H trivial Y hy trivial hr S.nd trivial) λ_=>rfl⟩
theorem okTd {ok:Nat->Bool}{gx:Nat->R T}{k j i:Nat}{d n cn lc:Str}{C:Addr}{N:List Str}{dp cp rp np hp lp ep lcp rp2 tp:Pos}(F:FE Z.K Z.mg x st [d])(hmc:Z.mg cn=some (.ref C))(hok:∀c,ok c=true->exmOne Z.K (Z.cl c) (.ref C)=some true)(FL:∀b,Z.K.In b->QCM lc j gx { Z with base:=b })
  (S:Sc N [d] st) (hst:zI st=[.Try [.Return (some (.Call (.Name d dp) [] [] cp)) rp] [.ExceptHandler (some (.Name cn np)) (some n) [.Return (some (.Call (.Name lc lp) [.Name n ep] [] lcp)) rp2] hp] [] [] tp])
  (h0:N[0]? =some d) (hd:(zr st).names.lookup d=some .local) (hi:N[i]? =some n) (hl:(zr st).names.lookup n=some .local) (hgc:(zr st).names.lookup cn=some .globalImplicit)
  (hgl:(zr st).names.lookup lc=some .globalImplicit) (hj:j<=k+1:=by omega)
  (h1:(d == ("__debug__":Str))=false:=by decide) (h2:(d == ("__classdict__":Str))=false:=by decide) (h3:(n == ("__debug__":Str))=false:=by decide) (h4:(n == ("__classdict__":Str))=false:=by decide) (h5:(lc == ("__debug__":Str))=false:=by decide) (h6:(cn == ("__debug__":Str))=false:=by decide):
  QD x k ok gx Z:=by
 obtain⟨ft,fdt,F⟩:=F;refine⟨_,_,ft,fdt,F,λbase f c' q params body scope clos pm ctv KB=> ?_⟩;obtain⟨⟨stl,y,fl,fdl,CL,FM⟩⟩:=FL base KB;refine F.F.ok S (λvs H Q E ⟨e,_⟩=>by rw[e];rfl) λcdv A outer s H vs Q E hr ⟨e,hf,B,sB,run⟩=> ?_
 subst e;rw[hst];have he:∀ea,PE ((jL CX0 Z.P Z.w Z.K Z.mg base N x (zr st) ft cdv A outer s H E).nox.mark' (.ref ea)) (.Call (.Name lc lp) [.Name n ep] [] lcp) (λσ H Q=>∃v,σ[i]? =some (some v)/\spC Z.cl gx [v] H Q λ_ _ _=>False):=λea=>
  PE.imp (ve FM ((hr.m.mono hj).mark _) hgl CL.m CL.F.kp CL.b (zy (uK hi (.inl hl) h3 h4) zO (st1 rfl)) h5 (st1 rfl)) λσ H Q ⟨v,e,z⟩=>⟨v,e,z⟩
 refine⟨_,jN (X0 (tb:=λE' =>tRet (KJ _ E' 0 f _)) (i:=i) (C:=C) rfl rfl S.nd hi hl hgc hmc (λE' pn xe hp=>jN (wg (xZ (f:=f) (c' :=c') (q:=q) (params:=params) (body:=body) (scope:=scope) (clos:=clos) (pm:=pm) (ctv:=ctv) (uK h0 (.inl hd) h1 h2) hp))) he h6), ?_⟩;refine⟨E1 Z.cl ok gx B H Q E,λcls d H' ea σ' ⟨c,e1,e2,s1,s2,q1⟩=> ?_,by unfold L2.start;rfl,hf,λs2 e0=>run _ _ s2 hr e0⟩
 subst e1;refine⟨hok c e2,λhea hl' hX' =>⟨.ref ea,aL (by rw[hl',hX'];exact(ar.mp hi).1),upd B ea _,ea,c,rfl, ?_,zx, ?_⟩⟩
 ·intro b o hb
  by_cases z:b=ea
  ·subst z;rw[zx]at hb ⊢;exact hb
  ·rw[zt z]at hb ⊢;exact s2 b o hb
 ·have s3:zu H (upd H' ea (.ext (yW (Z.cl c) ea))):=s1.trans (zu.new hea _);have hHe:=s1.free hea;revert q1;cases gx c with
  | bad=>exact λz=>z
  | ex c2=>exact λz=>z.elim
  | ok t=>
   intro z b H3 s4 rb;refine z b H3 (s3.trans s4) (rb.mono λa o ha=> ?_);cases hH:upd H' ea _ a with
   | none=>
    rw[zY hH]at ha;cases hHa:H a with
    | none=>rw[zY hHa];exact ha
    | some u=>have:=s3 a u hHa;rw[hH]at this;cases this
   | some u=>
    rw[Z7 hH]at ha
    by_cases ze:a=ea
    ·subst ze;rw[zY hHe];rw[zx]at ha hH;rw[← ha,s4 _ _ zx]
    ·rw[zt ze]at ha;rw[Z7 (sB a o ha)];exact ha
end
def UZ (k i j:Nat)(m:Str)(ok:Nat->Bool)(gx:Nat->R T)(gO:List (Str×Fd)->List T->R T)(gM:List (Str×Fd)->List T->R (T×List (Str×Fd))):En->R (T×En):=λρ=>match obD k i j ρ with
 | some (_,fs,_)=>match gO fs [] with
  | .ex c=>if ok c=true then (nx1 (gx c)).bind λt=> .ok (t,ρ) else .bad
  | _=>(match gM fs [] with
   | .ok _=>jo k i j m 0 gM zj ρ
   | _=> .bad)
 | none=> .bad
section
theorem gc {k i j:Nat}{ρ:En}{n:Nat}{fs:List (Str×Fd)}{os:List Ob}(h:obD k i j ρ=some (n,fs,os)):obL k i j ρ=some fs:=by
 obtain⟨h1,_,_⟩:=JH h;unfold PV.obL;rw[h1,h];rfl
theorem X8 {cl:Nat->Value}{ok:Nat->Bool}{gx:Nat->R T}{kE k ko kM kO i j:Nat}{x q v m:Str}{c P:Addr}{params:Arguments}{scope:Scope}{lp p pos px ap pos' :Pos}{gO:List (Str×Fd)->List T->R T}{gM:List (Str×Fd)->List T->R (T×List (Str×Fd))}{pl:Nat->Addr->Value->List (Str×Addr)->Sem Bool}(L:Lm X c P q)(hT:Y.H0 P=some (.tbl #[] q))(hy:Y.cl=cl)
  (O:QD x kE ok gx ⟨X.prog,X.w,X.K,X.mg,X.base,cl⟩) (UM:∀b,X.K.In b->QM m ko kM (spM cl ko 0 gM) ⟨X.prog,X.w,X.K,X.mg,b,cl⟩) (UO:∀b,X.K.In b->QM m ko kO (spO cl ko 0 0 gO) ⟨X.prog,X.w,X.K,X.mg,b,cl⟩) (hr:Zu k X.A)
  (hck:XS X.N (nms X.N [i]) X.env.scope scope 0 [i]=true) (hvx:(X.N[i]? == some v && !scope.isCoroutine && !scope.isGenerator)=true)
  (hj:kE+2<=k:=by omega) (hM:kM<=kE:=by omega) (hO:kO<=kE:=by omega) (gl:Gl X x:=by rfl) (hfn:∀x,X.fn x=true:=by exact λ_=>rfl)
  (hp:∀(body:Expr) (clos:List (Str×Addr)) (pm cd ctv:Value),bindArgs (kla_fn "<lambda>" q params body scope clos pm cd ctv) ⟨[],[]⟩=pure []:=by intros;rfl) (hdef:defaultsOf params X.env=([],[]):=by rfl) (hd:(x == ("__debug__":Str))=false:=by decide) (hd2:(v == ("__debug__":Str))=false:=by decide) (hd3:(v == ("__classdict__":Str))=false:=by decide) (hna:m ∉ Q8:=by decide)
  (ht:∀n f cd clos,eval (.Call (.Attribute (.Name v px) m ap) [] [] pos') (envX q scope n f cd clos)=(do
   let ov ← eval (.Name v px) (envX q scope n f cd clos)
   standAt ap.atName
   let (f',first) ← holding [ov] (getMethod ov m (pl n f cd clos))
   callWith pos' f' first (backTo pos' (starEach [] (envX q scope n f cd clos))) (backToKw pos' (keywordEach [] (envX q scope n f cd clos)))):=by intros;rfl):
  ug X Y (.Call (.Name x p) [.Lambda params (.Call (.Attribute (.Name v px) m ap) [] [] pos') scope lp] [] pos) (UZ ko i j m ok gx gO gM):= .mk λρ=>by
 intro pins s σ H Q I ⟨B,J,po⟩;subst hy;rw[XS,ae]at hck;have hck:=hck.1;rw[ae]at hck;rw[ae,ae]at hvx;have hNi:X.N[i]? =some v:=eq_of_beq hvx.1.1;have CS:=V5 _ rfl hck.1;have CP:=Yl _ _ rfl rfl hck.2;have hN' :nms X.N [i]=[v]:=by simp[nms,hNi]
 have S:LSc scope:=⟨CS.kind,by simpa using hvx.1.2,by simpa using hvx.2,CS.nocell⟩
 obtain⟨clos,ecl,hcl,hcf⟩:=Yd λx hx hf=>I.ok.has x.1 (CS.fre x hx hf);obtain⟨⟨_,dn,ft,fdt,CT,O⟩⟩:=O;unfold UZ at po;split at po
 case h_2=>exact po.elim
 rename_i nn fs os eD;refine bx (jq I gl CT.m ?_ hd);have hP:=J.sH _ _ hT;have hpa:=zy (KG (body:= .Call (.Attribute (.Name v px) m ap) [] [] pos') (pos:=lp) L hdef ecl) zO (st1 rfl) pos _ s σ H (λvs H1=>∃f c' pm ctv,vs=[V.ref f]/\zu H H1/\H1 f=some (.frz (Vd q _ _ _ _ pm ctv c') (.own f))/\w8 H1 q c') I ⟨hP,λf c' pm ctv H' s1 hf hc=>⟨f,c',pm,ctv,rfl,s1,hf,hc⟩⟩;refine callWith_K I.ok.mod.kin CT.F.kp (thn hpa λus s1 ⟨vs,H1,I1,r,f,c',pm,ctv,e,sm,hf,hc⟩=>⟨I1.kIn, ?_⟩) (st1 rfl) rfl;subst e;have J1:=J.grow sm;obtain⟨a',C',dx,ws,e1,e2,e3,e4,al⟩:=J1.obA eD;have hσ:(WA 0 [i] σ)[0]? =some (some (V.ref a')):=by simp[WA,e1]
 have fr:scope.names.lookup v=some .free:=by
  obtain⟨y,y1,y2,y3,y4,y5⟩:=CP.cap 0 i rfl;rw[hNi]at y2;cases y2;exact y4
 refine xX (E:=Y.E) I1 (O _ f c' q _ _ _ _ pm ctv I1.big.mod.kin) (hr.mono hj) CT.b Kl r ⟨rfl,hf,_,J1.sB,λA outer s2 hrm e0=> ?_⟩;have hv:∀E',PE (cxL X.prog X.w X.K X.mg (vd s1 H1 (frs X.stack)) (nms X.N [i]) q scope f (.ref c') clos A outer s2 H1 E') (.Name v px) (jk 0):=λE' =>uK (by show (nms X.N [i])[0]? =_;rw[hN'];rfl) (.inr (.inr fr)) hd2 hd3
 split at po
 ·rename_i cx hx;obtain⟨⟨C2,_,_,ps,fm,fdm,c1,c2,c3,FO⟩⟩:=UO _ e0.mod.kin;obtain⟨b1,C3,dx',vs',z1,z2,z3,z4,z5⟩:=J1.obL (gc eD);rw[e1]at z1;cases z1;have z2:=(show Y.cl ko= .ref C2 from c1).symm.trans z2;cases z2;refine YH S hrm e0 (Ve I1 hfn hcl hcf CP) hf hc (hp _ _ pm _ ctv) (jB (hv _) c2 c3.m FO ((hrm.deeper _).mono hO) c3.b .nil KH (ht _ _ _ _)) ⟨.ref a',hσ,a',dx',vs',rfl,z3,z4 m hna,a',C2,dx',vs',[],[],[],[],_,fs,rfl,rfl,rfl,c1,z3,z4,z5,J1.sB,.nil,.nil, ?_⟩;show Po _ rC _ H1 (gO fs []) Q;rw[hx];split at po
  ·rename_i hok;intro d2 H' s3 s4;refine⟨cx,rfl,hok,s3,s4, ?_⟩;revert po;cases nx1 (gx cx) with
   | bad=>exact λz=>z
   | ex c2=>exact λz d H2 a b=>z d H2 ((J.sH.trans sm).trans a) ((zM.ge J.sB sm).trans b)
   | ok t=>exact λz b H2 s2 rb=>z b H2 _ ((zM.ge J.sB sm).trans (zM.ge J1.sB s2)) (J1.grow s2) rb
  ·exact po.elim
 ·split at po
  ·rename_i pr hx;obtain⟨⟨C2,_,_,ps,fm,fdm,c1,c2,c3,FM⟩⟩:=UM _ e0.mod.kin;have e2:=(show Y.cl ko= .ref C2 from c1).symm.trans e2;cases e2;unfold jo at po;rw[eD]at po;dsimp only at po;split at po
   ·rename_i hl;have hno:=W0 e4 al (by simpa using hl)
    obtain⟨H0,b1,b2,b3,b4,b5⟩:=J1.back eD e1;refine YH S hrm e0 (Ve I1 hfn hcl hcf CP) hf hc (hp _ _ pm _ ctv) (jB (hv _) c2 c3.m FM ((hrm.deeper _).mono hM) c3.b .nil KH (ht _ _ _ _)) ⟨.ref a',hσ,a',dx,ws,rfl,e3,hno,a',[],[],_,H0,fs,rfl,rfl,b1,b2,b3,.nil, ?_⟩;have q1:PoM Y B ((gM fs []).bind λp=> .ok _) σ Q:=po;rw[hx]at q1;show PoO Y.cl ko _ H0 a' (gM fs []) Q _;rw[hx];obtain⟨t,fs2⟩:=pr;exact λv' H' B' z1 z2 z3 z4 z5 z6=>q1 v' H' B' ((zM.ge J.sB sm).trans z2) (b5 H' B' fs2 z1 z2 z3 z4 z5) z6
   ·exact po.elim
  ·exact po.elim
end
section
variable {Z:Zz}{x:Str}{st:Stmt}{ps:List Str}{k n m:Nat}{fb:En->RS}{f c:Addr}{fd:FuncData}{Pt:Addr}
theorem z1y (C:Fn Z.K Z.mg x st ps f fd)(ec:fd.code= .ref c)(hd:codeHdIn Z.K c Pt=true)(hBT:Z.base.BuiltinsAt Z.mg Pt)(N:List Str) (hb:∀(A:Around) (outer:List Env) (s:Shared) (H:Hp) (E:XK) (Y:Fx),Lm (jL (CX1 Z.P Z.w) Z.P Z.w Z.K Z.mg Z.base N x (zr st) f (.ref c) A outer s H E) c Pt (qlT x)->Y.H0 Pt=some (.tbl #[] (qlT x))->Y.cl=Z.cl->Y.E=E->Zu k (A.deeper (envOfC x (zr st) s.heap.objs.size f (.ref c)))->N.Nodup->zX (CX1 Z.P Z.w) (jL (CX1 Z.P Z.w) Z.P Z.w Z.K Z.mg Z.base N x (zr st) f (.ref c) A outer s H E) Y.E->
   JV (jL (CX1 Z.P Z.w) Z.P Z.w Z.K Z.mg Z.base N x (zr st) f (.ref c) A outer s H E) Y (zI st) fb)
  (S:Sc N ps st:=by refine⟨rfl,rfl,rfl, ?_,rfl, ?_, ?_⟩ <;> decide+kernel) (hn:n=ps.length:=by rfl) (hm:m=N.length:=by rfl):ZW Z.P Z.w Z.K Z.mg Z.base (CX1 Z.P Z.w) (k+1) f fd ps (Vf Z.cl n (oS m fb) Pt (qlT x)):=by
 subst hm;exact X5 C.F ec S hn (λA outer s H E Y hy hE hT hr=>hb A outer s H E Y ⟨rfl,hd,hBT,rfl⟩ hT hy hE hr S.nd (hE ▸ UP)) λ_ _=>rfl
end
section
end
def gf (k i j k2 i2:Nat)(f g:Str):En->RS:=λρ=>match lsV k2 i2 j g ρ,obD k i j ρ with
 | some ts,some (n,fs,os)=>if fs.length < 1000 then .nx (ρ.set j (.st (os.set n (k,WL f (.tl ts) fs)))) else .bad
 | _,_=> .bad
theorem gh (hv:PE X (.Name x px) (jk i))(hv2:PE X (.Name y py) (jk i2))(hc:Y.cl k= .ref C)(c:L2.Cls X.K C)(n:L2.NoAttr X.K C f)(hc2:Y.cl k2= .ref C2)(c2:L2.Cls X.K C2)(n2:L2.NoAttr X.K C2 g)(gl:Gl X "list")(mg:X.mg "list"=none)(hs:swapsWith (.Call (.Name "list" p) [.Attribute (.Name y py) g pg] [] pc) (some (.Attribute (.Name x px) f p')) pos.line X.env=pure false:=by rfl)(hf:f∈Q8:=by decide)(hbf:attributeBase (.Name y py) g X.env (eval (.Name y py) X.env)=eval (.Name y py) X.env:=by rfl):
  jm X Y (.Assign [.Attribute (.Name x px) f p'] (.Call (.Name "list" p) [.Attribute (.Name y py) g pg] [] pc) pos) (gf k i j k2 i2 f g):= .mk λρ=>
 PS.imp (yL hv (ZQ j4 gl mg (PyProof.Rows.Boot.«list») (zy (jA hv2 hbf) zO (st1 rfl)) (by decide) (by decide) (st1 rfl) rfl) hs) λD σ H ⟨B,I,q⟩=>by
  unfold gf at q;split at q
  ·rename_i ts n' fs os e eD;split at q
   ·rename_i hl;obtain⟨a2,C',dx2,vs2,l,xs,e1,e2,e3,e4,hh,rr⟩:=Ub I e;rw[hc2]at e2;cases e2;obtain⟨a,C',dx,vs',g1,g2,g3,g4,g5⟩:=I.obA eD;rw[hc]at g2;cases g2;refine⟨.ref a2,e1,a2,C2,dx2,vs2,_,rfl,e3,c2,n2,e4,l,xs,rfl,.inl (SqL.of hh),λq' hq=> ?_⟩;have hne:a ≠ q' :=λz=>by rw[z,hq]at g3;cases g3
    exact⟨.ref a,g1,a,C,dx,vs',rfl,by rw[zt hne];exact g3,c,n,by rw[g4];exact hl,q _ _ _ (zu.refl _) (I.putF hf eD g1 g3 ⟨q',xs,rfl,hq,rfl,rr⟩)⟩
   ·exact q.elim
  ·exact q.elim
theorem SI.stO (I:SI Y B ρ σ H)(hY:Y.as=[])(h1:∀(i k n:Nat),ρ[i]? ≠ some (.ob k n))(h2:∀(i:Nat) os,ρ[i]? ≠ some (.st os))(j:Nat):SI Y B (ρ.set j (.st [])) σ H where
 s0:=I.s0
 sH:=I.sH
 sB:=I.sB
 old:=I.old
 len:=by rw[aE];exact I.len
 vl:=λi t h=>by
  rcases zq h with ⟨_,z⟩ | ⟨_,z⟩
  ·cases z
  ·exact I.vl i t z
 ow:=λi ts h=>by
  rcases zq h with ⟨_,z⟩ | ⟨_,z⟩
  ·cases z
  ·obtain⟨a,xs,e1,e2,e3,e4,e5,e6⟩:=I.ow i ts z;refine⟨a,xs,e1,e2,e3,e4,e5,λj' us hj hw=> ?_⟩;rcases zq hw with ⟨_,z⟩ | ⟨_,z⟩
   ·cases z
   ·exact e6 j' us hj z
 xc:=λi t h=>by
  rcases zq h with ⟨_,z⟩ | ⟨_,z⟩
  ·cases z
  ·exact I.xc i t z
 st:=by
  obtain⟨as,O,s⟩:=I.st;have one:∀i os,(ρ.set j (.st []))[i]? =some (Sl.st os)->i=j/\os=[]:=λi os h=>by
   rcases zq h with ⟨e,z⟩ | ⟨_,z⟩
   ·cases z;exact⟨e,rfl⟩
   ·exact(h2 i _ z).elim
  refine⟨[],λ_=>none,by rw[hY];exact bO _,λi os h=>by rw[(one i os h).2];rfl,λi i' os os' h h' =>by rw[(one i os h).1,(one i' os' h').1],λi k n h=> ?_,λi k fs0 h=> ?_,λi os h n k fs e=> ?_⟩
  ·rcases zq h with ⟨_,z⟩ | ⟨_,z⟩
   ·cases z
   ·exact(h1 i _ _ z).elim
  ·rcases zq h with ⟨_,z⟩ | ⟨_,z⟩
   ·cases z
   ·exact s.oc i k fs0 z
  ·rw[(one i os h).2]at e;simp at e
def PoV (cl:Nat->Value)(k:Nat)(B H:Hp)(r:R (List (Str×Fd)))(Q:VK):Prop:=match r with
 | .ok fs' =>∀y H' B',zu H H' ->zu B B' ->zu B' H' ->(∀b o,H b=some o->B' b=B b)->vf cl k B' H H' y fs' ->Q (.ref y) H'
 | _=>False
def spV (cl:Nat->Value)(k:Nat)(g:List (Str×Fd)->R (List (Str×Fd))):Sp:=λvs H Q _=>∃(x C dx:Addr) (us:List (Str×V)) (B:Hp) (fs:List (Str×Fd)),vs=[.ref x]/\cl k= .ref C/\H x=some (.ins C dx us)/\InC us/\FsO B H us fs/\zu B H/\PoV cl k B H (g fs) Q
structure gi (X:Cx) (Y:Fx) (body:List Stmt) (i:Nat) (f:En->R En):Prop where
 mk ::
 go:∀ρ,PSs X body λD σ H=>∃B,SI Y B ρ σ H/\match f ρ with
  | .ok ρ' =>∀a σ' H' B',zu B B' ->SI Y B' ρ' σ' H' ->σ'[i]? =some (some (V.ref a))->D.rt (.ref a) H'
  | _=>False
section
variable {X:Cx}{Y:Fx}{st:Stmt}{rest:List Stmt}{pos px:Pos}{x:Str}{i:Nat}
def z1z (i:Nat):En->R En:=λρ=>match ρ[i]? with
 | some (.ob _ _)=> .ok ρ
 | _=> .bad
def uy (f:En->RS)(g:En->R En):En->R En:=λρ=>match f ρ with
 | .nx ρ' =>g ρ'
 | _=> .bad
theorem z1A (hv:PE X (.Name x px) (jk i)):gi X Y [.Return (some (.Name x px)) pos] i (z1z i):= .mk λρ=>PSs.imp (jN (wg hv)) λD σ H ⟨B,I,q⟩=>by
 unfold z1z at q;cases e:ρ[i]? with
 | none=>rw[e]at q;exact q.elim
 | some s=>
  rw[e]at q;cases s with
  | ob k n=>
   obtain⟨as,O,s⟩:=I.st;obtain⟨a,C,dx,vs,_,e2,_⟩:=s.ob i k n e;exact⟨.ref a,e2,q a σ H B (zu.refl _) I e2⟩
  | _=>exact q.elim
theorem gj {f:En->RS}{g:En->R En}(h1:jm X Y st f)(h2:gi X Y rest i g):gi X Y (st :: rest) i (uy f g):= .mk λρ=>by
 refine PSs.imp (wG (u:=λD σ H=>∃ρ' B,SI Y B ρ' σ H/\match g ρ' with | .ok ρ' =>∀a σ' H' B',zu B B' ->SI Y B' ρ' σ' H' ->σ'[i]? =some (some (V.ref a))->D.rt (.ref a) H' | _=>False) (h1 ρ) ?_) ?_
 ·intro pins s σ H D I ⟨ρ',q⟩;exact h2.go ρ' _ s σ H D I q
 ·intro D σ H ⟨B,I,q⟩;refine⟨B,I, ?_⟩;unfold uy at q;revert q;cases f ρ with
  | nx ρ' =>
   intro q σ' H' B' s I';refine⟨ρ',B',I', ?_⟩;revert q;show (match g ρ' with | .ok ρ' =>_ | _=>False)->_
   cases g ρ' with
   | ok ρ2=>exact λq a σ2 H2 B2 s2=>q a σ2 H2 B2 (s.trans s2)
   | ex c=>exact λq=>q
   | bad=>exact λq=>q
  | ex c=>exact λq=>q.elim
  | rt t=>exact λq=>q.elim
  | rf t=>exact λq=>q.elim
  | bk ρ=>exact λq=>q.elim
  | ct ρ=>exact λq=>q.elim
  | bad=>exact λq=>q.elim
end
def gm (k i j:Nat)(r:R En):R (List (Str×Fd)):=r.bind λρ=>match ρ[i]?,ρ[j]? with
 | some (.ob k1 0),some (.st [(k2,fs)])=>if k1=k/\k2=k then .ok fs else .bad
 | _,_=> .bad
theorem SI.obAt0 {Y:Fx}{B:Hp}{ρ:En}{σ:Sg}{H:Hp}(I:SI Y B ρ σ H){i j k:Nat}{x:Addr}{fs:List (Str×Fd)}{os:List Ob}(hi:ρ[i]? =some (.ob k 0))(hx:σ[i]? =some (some (V.ref x)))(h:ρ[j]? =some (.st ((k,fs) :: os))):vf Y.cl k B Y.H0 H x fs:=by
 obtain⟨as,O,s⟩:=I.st;obtain⟨a,C,dx,vs,e1,e2,e3,e4,e5,e6,e7,e8⟩:=s.st j _ h 0 k fs rfl;obtain⟨a',C',dx',vs',g1,g2,_⟩:=s.ob i k 0 hi;rw[e1]at g1;cases g1;rw[hx]at g2;cases g2;refine⟨C,dx,vs,λb=>(O b).bind λp=>if p.1=0 then some p.2 else none,e2,e3,e4,e5,by dsimp only;rw[e6];rfl,e7,λm f d z=> ?_⟩
 obtain⟨v,z1,z2⟩:=e8 m f d z;refine⟨v,z1, ?_⟩;cases d with
 | tv t=>exact z2
 | tl ts=>
  obtain⟨l,xs,p1,p2,p3,p4,p5,_,p7⟩:=z2;exact⟨l,xs,p1,p2,p3,p4,p5,by dsimp only;rw[p7];rfl⟩
def enV (k m:Nat)(fs:List (Str×Fd)):En:=(enO k m fs [] []).set m (.st [])
def oV (k m i:Nat)(b:En->R En):List (Str×Fd)->R (List (Str×Fd)):=λfs=>gm k i m (b (enV k m fs))
abbrev qV (Z:Zz)(c:Nat)(x:Str)(k:Nat)(g:List (Str×Fd)->R (List (Str×Fd))):Prop:=QM x c k (spV Z.cl c g) Z
theorem okV {Z:Zz}{x q0:Str}{st:Stmt}{c k m i:Nat}{fm:En->R En}{as:List Str}(ca:CA c as Z.K Z.cl)(C:FM Z.K Z.cl c x st [q0])(N:List Str)(hb:∀q,BM Z k q st N λX Y=>gi X Y (zI st) i fm)
  (S:Sc N [q0] st:=by refine⟨rfl,rfl,rfl, ?_,rfl, ?_, ?_⟩ <;> decide+kernel) (hm:N.length=1+m:=by rfl) (hm1:1<=m:=by decide):qV Z c x (k+1) (oV c m i fm):=by
 obtain⟨C,q,f,fd,e,M⟩:=C;obtain⟨C',e',cl,_⟩:=ca;rw[e]at e';cases e';refine⟨C,q,_,_,f,fd,e,cl,M, ?_⟩;refine Fun.okX M.F S (λvs H Q E z=> ?_) λcdv A outer s H vs Q E hr z=> ?_
 ·obtain⟨x,C,dx,us,B,fs,e,_⟩:=z;rw[e];rfl
 obtain⟨x,C,dx,us,B,fs,e,hc,hx,hi,hf,sB,q1⟩:=z;subst e;have I0:SI ⟨B,H,E,Z.cl,[]⟩ B (enO c m fs [] []) _ H:=SI.startO (vs1:=[]) (vs2:=[]) (N:=N) (by rw[hm];rfl) sB hc hx hi hf .nil .nil
 refine⟨_,(hb q f cdv A _ s H E _ rfl rfl hr S.nd UP).go _,B,I0.stO rfl (λi k n h=> ?_) (λi os h=> ?_) m, ?_⟩
 ·rcases W2 h with ⟨_,e⟩ | ⟨_,_,e⟩ | ⟨_,_,_,_,e⟩ | e <;> cases e
 ·rcases W2 h with ⟨_,e⟩ | ⟨_,_,e⟩ | ⟨_,_,_,_,e⟩ | e <;> cases e
 have q1:PoV Z.cl c B H (gm c i m (fm (enV c m fs))) Q:=q1;show match fm (enV c m fs) with | .ok ρ' =>_ | _=>False
 revert q1;cases fm (enV c m fs) with
 | bad=>exact λz=>z
 | ex c=>exact λz=>z
 | ok ρ' =>
  unfold gm;show PoV Z.cl c B H (match ρ'[i]?,ρ'[m]? with | some (.ob k1 0),some (.st [(k2,fs)])=>(if k1=c/\k2=c then R.ok fs else R.bad) | _,_=>R.bad) Q->_
  split
  ·rename_i k1 k2 fs' e1 e2;split
   ·rename_i hk;obtain⟨rfl,rfl⟩:=hk;exact λz a σ' H' B' s1 I' ha=>z a H' B' I'.sH s1 I'.sB (λb o h=>I'.old b o h) (I'.obAt0 e1 ha e2)
   ·exact λz=>z.elim
  ·exact λz=>z.elim
def mkV (i io j k:Nat)(g:List (Str×Fd)->R (List (Str×Fd))):En->RS:=λρ=>match obL k io j ρ,ρ[j]? with
 | some fs,some (.st os)=>if i ≠ j/\i < ρ.length then (match g fs with
  | .ok fs' => .nx ((ρ.set j (.st (os++[(k,fs')]))).set i (.ob k os.length))
  | _=> .bad) else .bad
 | _,_=> .bad
theorem z1B {g:List (Str×Fd)->R (List (Str×Fd))}(hN:X.N.Nodup)(hi:X.N[i]? =some x)(hx:L2.Loc X.env.scope x)(hv:PE X (.Name y py) (jk io))(hy:Y.cl=cl)(hc:cl k= .ref C)(c:L2.Cls X.K C)(hm:L2.Meth X.K C m f)(F:ZW X.prog X.w X.K X.mg X.base (CX1 X.prog X.w) kj f fd ps (spV cl k g))(hr:Zu kk X.A)(hj:kj<=kk)(bd:L2.Binds X.K fd ps [])(hp:zX (CX1 X.prog X.w) X Y.E)(hna:m ∉ Q8:=by decide)
  (ht:eval (.Call (.Attribute (.Name y py) m ap) [] [] pos') X.env=(do
   let ov ← eval (.Name y py) X.env
   standAt ap.atName
   let (f,first) ← holding [ov] (getMethod ov m pl)
   callWith pos' f first (backTo pos' (starEach [] X.env)) (backToKw pos' (keywordEach [] X.env))):=by rfl)
  (hs:swapsWith (.Call (.Attribute (.Name y py) m ap) [] [] pos') (some (.Name x p')) pos.line X.env=pure false:=by rfl) (hf:X.fn x=true\/X.env.scope.names.lookup x=some .local:=by first | exact .inl rfl | exact .inr rfl | assumption):
  jm X Y (.Assign [.Name x p'] (.Call (.Attribute (.Name y py) m ap) [] [] pos') pos) (mkV i io j k g):= .mk λρ=>
 PS.imp (wj hN hi hx (jB hv c hm F (hr.mono hj) bd .nil hp ht) hs hf) λD σ H ⟨B,I,q⟩=>by
  unfold mkV at q;split at q
  ·rename_i fs os eo ej;split at q
   ·rename_i hij;obtain⟨a',C',dx,vs,e1,e2,e3,e4,e5⟩:=I.obL eo;subst hy;rw[hc]at e2;cases e2;refine⟨.ref a',e1,a',dx,vs,rfl,e3,e4 m hna,a',C,dx,vs,B,fs,rfl,hc,e3,e4,e5,I.sB, ?_⟩;revert q;cases g fs with
    | bad=>exact λq=>q
    | ex c=>exact λq=>q
    | ok fs' =>exact λq y H' B' z1 z2 z3 z4 z5=>q _ H' B' z2 (I.made ej hij.1 hij.2 (zu.refl _) z1 z2 z3 z4 z5)
   ·exact q.elim
  ·exact q.elim
def wx (i i2 q:Nat)(m:En->R En)(gb:En->R (List T)):En->RS:=λρ=>(m ρ).s λρ1=>(gb ρ1).s λts=>match ρ1[q]? with
 | some (.ob k n)=>if ts.length<=bnd then .nx (((ρ1.set i (.ob k n)).set i2 (.ow ts)).set q .un) else .bad
 | _=> .bad
theorem vj {m:En->R En}(hc' :X.calm=true)(hN:X.N.Nodup)(hi:X.N[i]? =some x)(hi2:X.N[i2]? =some y)(hij:i ≠ i2)(hx:X.env.scope.names.lookup x=some .local)(hy' :X.env.scope.names.lookup y=some .local)(hq:X.N[q]? =some w)(hw' :X.env.scope.names.lookup w=none)
  (ha:X7 X Y a q m) (hb:wn X Y es gb) (hs:swappedStores [.Tuple [.Name x px,.Name y py] kt pt] (.Tuple [a,.List es pl] k2 pt2) X.env=pure (some [x,y])) (hs3:starEach [a,.List es pl] X.env=(false,eval a X.env) :: starEach [.List es pl] X.env:=by exact zC rfl) (hs4:starEach [.List es pl] X.env=(false,eval (.List es pl) X.env) :: starEach [] X.env:=by exact zC rfl)
  (hw:swapsWithSole [.Tuple [.Name x px,.Name y py] kt pt] (.Tuple [a,.List es pl] k2 pt2) pos.line X.env=pure false:=by rfl):
  jm X Y (.Assign [.Tuple [.Name x px,.Name y py] kt pt] (.Tuple [a,.List es pl] k2 pt2) pos) (wx i i2 q m gb):= .mk λρ=>by
 have hrest:PA X [.List es pl] (match m ρ with | .ok ρ1=>(λσ H Q=>z0t (tS Y rCs gb ρ1) σ H λv H1=>Q [v] H1) | _=>λ_ _ _=>False):=by
  cases m ρ with
  | ok ρ1=>exact zy (uP (hb ρ1)) zO hs4
  | ex c=>exact λ_ _ _ _ _ _ _ h=>h.elim
  | bad=>exact λ_ _ _ _ _ _ _ h=>h.elim
 refine PS.imp (ke hc' hN hi hi2 hij hx hy' (X6 (ha.go ρ) hrest hq hw' hs3) hs hw) λD σ H ⟨B,I,po⟩=>⟨B,I, ?_⟩;have nq:∀{i' :Nat} {x' :Str},X.N[i']? =some x' ->X.env.scope.names.lookup x' =some .local->q ≠ i' :=λh1 h2 e=>by
  subst e;rw[hq]at h1;cases h1;rw[hw']at h2;cases h2
 unfold wx at po;revert po;cases e1:m ρ with
 | bad=>exact λpo=>po
 | ex c=>exact λpo=>po
 | ok ρ1=>
  intro po a1 H1 B1 k1 n1 sB1 I1 g1;show z0t (tS Y rCs gb ρ1) _ _ _;refine j7 I1 (PoS.up sB1 po) λus ws H3 _ s3 r3 I3 q3=> ?_;rw[g1]at q3;dsimp only at q3;split at q3
  ·rename_i hl;refine⟨by rw[r3.length];exact Zg hl,λp hp=>⟨_,_,rfl, ?_⟩⟩
   have hql:q < σ.length:=by have:=I1.len;rw[aE]at this;rw[← this];exact(ar.mp g1).1
   have J:=((I3.cpO g1 (aL hql) i).newO i2 hp r3).forget q σ[q];have es:∀A:Option V,(((σ.set q (some (V.ref a1))).set i (some (V.ref a1))).set i2 A).set q σ[q]=(σ.set i (some (V.ref a1))).set i2 A:=λA=>by
    rw[fF _ _ (nq hi2 hy').symm,fF _ _ (nq hi hx).symm,Ua (ah hql)]
   rw[es]at J;exact q3 _ _ _ (zu.refl _) J
  ·exact q3.elim
theorem SI.cpS (I:SI Y B ρ σ H)(h:∀as O,StI Y B ρ σ H as O->∃C dx vs,as[n]? =some a/\Y.cl k= .ref C/\H a=some (.ins C dx vs)/\B a=none/\Y.H0 a=none/\InC vs)(i:Nat):SI Y B (ρ.set i (.ob k n)) (σ.set i (some (V.ref a))) H:=by
 have get:∀{j:Nat} {y:Sl},(ρ.set i (.ob k n))[j]? =some y->(∀a b,y ≠ .ob a b)->ρ[j]? =some y/\(σ.set i (some (V.ref a)))[j]? =σ[j]? :=λ{j y} h hy=>by
  rcases zq h with ⟨_,z⟩ | ⟨e,z⟩
  ·exact absurd z (hy _ _)
  ·exact⟨z,aw (aZ e)⟩
 have no:∀b,Wx ρ σ b->Wx (ρ.set i (.ob k n)) (σ.set i (some (V.ref a))) b:=λb hb j us hw=>by
  obtain⟨e1,e2⟩:=get hw (λ_ _=>Sl.noConfusion);rw[e2];exact hb j us e1
 obtain⟨as,O,x⟩:=I.st;refine⟨I.s0,I.sH,I.sB,I.old,by rw[aE,aE];exact I.len,λj t e=> ?_,λj ts e=> ?_,λj c e=> ?_,as,O,x.pre,λj os e=>x.len j os (get e (λ_ _=>Sl.noConfusion)).1,λj j' os os' e e' =>x.one j j' os os' (get e (λ_ _=>Sl.noConfusion)).1 (get e' (λ_ _=>Sl.noConfusion)).1,λj k' n' e=> ?_,λj k' fs e=> ?_,λj os e m k' fs e' => ?_⟩
 ·obtain⟨e1,e2⟩:=get e (λ_ _=>Sl.noConfusion);rw[e2];exact I.vl j t e1
 ·obtain⟨e1,e2⟩:=get e (λ_ _=>Sl.noConfusion);obtain⟨b,xs,y1,y2,y3,y4,y5,y6⟩:=I.ow j ts e1;refine⟨b,xs,by rw[e2];exact y1,y2,y3,y4,y5,λj' us hj hw=> ?_⟩
  obtain⟨e3,e4⟩:=get hw (λ_ _=>Sl.noConfusion);rw[e4];exact y6 j' us hj e3
 ·obtain⟨e1,e2⟩:=get e (λ_ _=>Sl.noConfusion);rw[e2];exact I.xc j c e1
 ·rcases zq e with ⟨rfl,z⟩ | ⟨hj,z⟩
  ·cases z;obtain⟨C,dx,vs,y1,y3⟩:=h as O x;exact⟨a,C,dx,vs,y1,aL (by rw[← I.len];exact wp e),y3⟩
  ·rw[aw (aZ hj)];exact x.ob j k' n' z
 ·obtain⟨e1,e2⟩:=get e (λ_ _=>Sl.noConfusion);rw[e2];exact x.oc j k' fs e1
 ·obtain⟨b,C,dx,vs,y1,y2,y3,y4,y5,y6,y7,y8⟩:=x.st j os (get e (λ_ _=>Sl.noConfusion)).1 m k' fs e';refine⟨b,C,dx,vs,y1,y2,y3,y4,y5,y6,y7,λm' f d z=> ?_⟩;obtain⟨v,x1,x2⟩:=y8 m' f d z;refine⟨v,x1, ?_⟩;cases d with
  | tv t=>exact x2
  | tl ts=>
   obtain⟨l,xs,p1,p2,p3,p4,p5,p6,p7⟩:=x2;exact⟨l,xs,p1,p2,p3,p4,p5,no l p6,p7⟩
theorem W3 (hp:H p=none):zM B H (upd H p o) p=some o:=(zY hp).trans zx
noncomputable abbrev Fx.at (Y:Fx)(as:List Addr):Fx:={ Y with as:=as }
theorem SI.asTo (I:SI Y B ρ σ H):∃as,Y.as <+:as/\SI (Y.at as) B ρ σ H/\∀(i k n:Nat),ρ[i]? =some (.ob k n)->∃a,as[n]? =some a/\σ[i]? =some (some (V.ref a)):=by
 obtain⟨as,O,x⟩:=I.st;exact⟨as,x.pre,⟨I.s0,I.sH,I.sB,I.old,I.len,I.vl,I.ow,I.xc,as,O,bO _,x.len,x.one,x.ob,x.oc,x.st⟩,λi k n h=>let ⟨a,_,_,_,e1,e2,_⟩:=x.ob i k n h;⟨a,e1,e2⟩⟩
theorem SI.asOf (h:Y.as <+:as)(I:SI (Y.at as) B ρ σ H):SI Y B ρ σ H:=by
 obtain⟨as',O,x⟩:=I.st;exact⟨I.s0,I.sH,I.sB,I.old,I.len,I.vl,I.ow,I.xc,as',O,h.trans x.pre,x.len,x.one,x.ob,x.oc,x.st⟩
theorem PoS.asTo {r:RS}{D:yj}(h:Y.as <+:as)(q:PoS Y B r D):PoS (Y.at as) B r D:=by
 cases r with
 | nx ρ=>exact λσ' H' B' s I=>q σ' H' B' s (SI.asOf h I)
 | bk ρ=>exact λσ' H' B' s I=>q σ' H' B' s (SI.asOf h I)
 | ct ρ=>exact λσ' H' B' s I=>q σ' H' B' s (SI.asOf h I)
 | rt t=>exact q
 | rf t=>exact q
 | ex c=>exact q
 | bad=>exact q
def vk {α:Type}(g:α->En->R En)(fb:En->RS):List α->En->RS
 | [],ρ=> .nx ρ
 | t :: ts,ρ=>match g t ρ with
  | .ok ρ1=>match fb ρ1 with
   | .nx ρ2=>vk g fb ts ρ2
   | .ct ρ2=>vk g fb ts ρ2
   | .bk ρ2=> .nx ρ2
   | r=>r
  | .ex c=> .bad
  | .bad=> .bad
def obG (k i i2 j:Nat)(x:Nat×T)(ρ:En):R En:=match ρ[j]? with
 | some (.st os)=>(match os[x.1]? with
  | some (k',_)=>if k' =k then .ok ((ρ.set i (.ob k x.1)).set i2 (.vl x.2)) else .bad
  | none=> .bad)
 | _=> .bad
def gp (k i i2 j ia ib:Nat)(f1 f2:En->R T)(fb:En->RS):En->RS:=λρ=>match ρ[ia]?,ρ[ib]? with
 | some (.ob _ n1),some (.ob _ n2)=>(f1 ρ).s λt1=>(f2 ρ).s λt2=>vk (obG k i i2 j) fb [(n1,t1),(n2,t2)] ρ
 | _,_=> .bad
theorem gq (hp:PassesOwn (model X.prog X.w) X.A X.env X.xe)(hc:X.calm=true)(hN:X.N.Nodup)(hi:X.N[i]? =some x)(hi2:X.N[i2]? =some y)(hx:L2.Loc X.env.scope x)(hy:L2.Loc X.env.scope y)
  (hva:PE X (.Name a pa) (jk ia)) (hvb:PE X (.Name b pb) (jk ib)) (h1:Snd X Y c1 f1) (h2:Snd X Y c2 f2) (hb:∀as,JV X (Y.at as) sts fb)
  (hf:X.fn x=true\/X.env.scope.names.lookup x=some .local:=by first | exact .inl rfl | exact .inr rfl) (hf2:X.fn y=true\/X.env.scope.names.lookup y=some .local:=by first | exact .inl rfl | exact .inr rfl)
  (hs:∀z,foldedSetIterable (.Tuple [.Tuple [.Name a pa,c1] k1 p1,.Tuple [.Name b pb,c2] k2 p2] k3 p3) X.env z=pure z:=by intro _;rfl)
  (s1:starEach [.Name a pa,c1] X.env=(false,eval (.Name a pa) X.env) :: starEach [c1] X.env:=by exact zC rfl) (s2:starEach [c1] X.env=(false,eval c1 X.env) :: starEach [] X.env:=by exact zC rfl) (s3:starEach [.Name b pb,c2] X.env=(false,eval (.Name b pb) X.env) :: starEach [c2] X.env:=by exact zC rfl) (s4:starEach [c2] X.env=(false,eval c2 X.env) :: starEach [] X.env:=by exact zC rfl):
  jm X Y (.For (.Tuple [.Name x px,.Name y py] kt pt) (.Tuple [.Tuple [.Name a pa,c1] k1 p1,.Tuple [.Name b pb,c2] k2 p2] k3 p3) sts [] pos) (gp k i i2 j ia ib f1 f2 fb):= .mk λρ=>by
 refine PS.imp (vQ (tb:=λD σ H=>∃as ρ',tSS (Y.at as) fb ρ' D σ H) hp hc (K4 (uO (zy (uO (zy hva (zy (h1 ρ) zO s2) s1)) (zy (uO (zy hvb (zy (h2 ρ) zO s4) s3)) zO (zC rfl)) (zC rfl)))) (vP hc (Jj (jO hN hi hx hf) (Jj (jO hN hi2 hy hf2) yA))) (λpins s σ H D I ⟨as,ρ',q⟩=>hb as ρ' _ s σ H D I q) hs) λD σ H ⟨B,I,po⟩=> ?_;unfold gp at po;split at po
 case h_2=>exact po.elim
 rename_i k1 n1 k2 n2 ea eb;obtain⟨_,_,_,hA0⟩:=I.asTo;obtain⟨a1,_,σ1⟩:=hA0 ia _ n1 ea;obtain⟨a2,_,σ2⟩:=hA0 ib _ n2 eb;refine⟨.ref a1,σ1,j7 I po λt1 v1 H1 _ z1 r1 I1 q1=>⟨Zg (by show 2<=bnd;decide),λp1 hp1=>⟨.ref a2,σ2, ?_⟩⟩⟩
 refine j7 (I1.grow (zu.new hp1 _)) (PoS.up (zM.ge I1.sB (zu.new hp1 _)) q1) λt2 v2 H2 _ z2 r2 I2 q2=>⟨Zg (by show 2<=bnd;decide),λp2 hp2=>⟨Zg (by show 2<=bnd;decide),λp3 hp3=>⟨p3,rfl,.inr ⟨⟨_,SqT.of zx⟩, ?_⟩⟩⟩⟩
 have w1:=zu.new hp1 (HO.tup [V.ref a1,v1]);have w2:=zu.new hp2 (HO.tup [V.ref a2,v2]);have w3:=zu.new hp3 (HO.tup [V.ref p1,V.ref p2]);have J1:=I1.grow w1;have J2:=I2.grow w2;have J3:=J2.grow w3;have u1:=zM.ge J1.sB z2;have u2:=zM.ge I2.sB w2;have u3:=zM.ge J2.sB w3;have c1:_=some (HO.tup [V.ref a1,v1]):=u3 _ _ (u2 _ _ (u1 _ _ (W3 hp1)));have c2:_=some (HO.tup [V.ref a2,v2]):=u3 _ _ (W3 hp2);have c3:zM (zM _ H2 (upd H2 p2 (HO.tup [V.ref a2,v2]))) (upd H2 p2 (HO.tup [V.ref a2,v2])) (upd (upd H2 p2 (HO.tup [V.ref a2,v2])) p3 (HO.tup [V.ref p1,V.ref p2])) p3=some (HO.tup [V.ref p1,V.ref p2]):=W3 (B:=zM (zM (zM (zM B H H1) H1 (upd H1 p1 (HO.tup [V.ref a1,v1]))) (upd H1 p1 (HO.tup [V.ref a1,v1])) H2) H2 (upd H2 p2 (HO.tup [V.ref a2,v2]))) hp3;have r1:=(((r1.mono (zM.ge I1.sB w1)).mono u1).mono u2).mono u3;have r2:=(r2.mono u2).mono u3;have q4:=PoS.up u3 (PoS.up u2 q2);generalize zM (zM _ H2 (upd H2 p2 (HO.tup [V.ref a2,v2]))) (upd H2 p2 (HO.tup [V.ref a2,v2])) (upd (upd H2 p2 (HO.tup [V.ref a2,v2])) p3 (HO.tup [V.ref p1,V.ref p2]))=B4 at J3 c1 c2 c3 r1 r2 q4;obtain⟨as,pre,IA,hA⟩:=J3.asTo;have f1:as[n1]? =some a1:=by
  obtain⟨a,e1,e2⟩:=hA ia _ n1 ea;rw[σ1]at e2;cases e2;exact e1
 have f2:as[n2]? =some a2:=by
  obtain⟨a,e1,e2⟩:=hA ib _ n2 eb;rw[σ2]at e2;cases e2;exact e1
 have item:∀i',i' < 2->∃p a v n t,[V.ref p1,V.ref p2][i']? =some (V.ref p)/\B4 p=some (HO.tup [V.ref a,v])/\as[n]? =some a/\Rep B4 v t/\[(n1,t1),(n2,t2)].drop i' =(n,t) :: [(n1,t1),(n2,t2)].drop (i' +1):=λi' h=>by
  match i',h with
  | 0,_=>exact⟨p1,a1,v1,n1,t1,rfl,c1,f1,r1,rfl⟩
  | 1,_=>exact⟨p2,a2,v2,n2,t2,rfl,c2,f2,r2,rfl⟩
 refine⟨λi' m σ' H' =>m=2 - i' /\i' <=2/\∃ρ' B',SI (Y.at as) B' ρ' σ' H' /\zu B4 B' /\PoS (Y.at as) B' (vk (obG k i i2 j) fb ([(n1,t1),(n2,t2)].drop i') ρ') D,⟨2,rfl,bu _,ρ,B4,IA,zu.refl _,PoS.asTo pre q4⟩, ?_⟩
 rintro i' m σ' H' ⟨rfl,hi',ρ',B',I',sB',q'⟩
 have hP3:H' p3=some (HO.tup [V.ref p1,V.ref p2]):=I'.sB _ _ (sB' _ _ c3)
 by_cases hlt:i' < 2
 ·obtain⟨p,a,v,n,t,g1,g2,g3,g4,g5⟩:=item i' hlt;refine .inr ⟨⟨_,_,SqT.of hP3,g1⟩,λσ2 H2=>∃ρ2 B2,SI (Y.at as) B2 ρ2 σ2 H2/\zu B4 B2/\PoS (Y.at as) B2 _ D,λσ2 H2 ⟨ρ2,B2,I2,s2,q2⟩=>⟨2 - (i' +1),by omega,rfl,hlt,ρ2,B2,I2,s2,q2⟩,λx H2 y=> ?_⟩
  obtain⟨rfl,y⟩:=y;have y:=y _ (SqT.of hP3);rw[g1]at y;cases y;rw[g5]at q';unfold vk at q';refine⟨p,[V.ref a,v],rfl,SqT.of (I'.sB _ _ (sB' _ _ g2)),rfl,_,_,rfl,_,_,rfl,rfl, ?_⟩;unfold obG at q';cases ej:ρ'[j]? with
  | none=>rw[ej]at q';exact q'.elim
  | some s=>
   rw[ej]at q';cases s with
   | st os=>
    dsimp only at q';cases eo:os[n]? with
    | none=>rw[eo]at q';exact q'.elim
    | some kf=>
     obtain⟨k',fs⟩:=kf;rw[eo]at q';dsimp only at q';split at q'
     ·rename_i hh;split at hh
      ·rename_i hk;subst hk;cases hh;have JS:=(I'.cpS (k:=k') (n:=n) (a:=a) (λas' O x=>by
        obtain⟨a',C,dx,vs,e1,e2,e3,e4,e5,e6,e7,e8⟩:=x.st j os ej n k' fs eo;have e0:as'[n]? =some a:=by
         obtain⟨t,et⟩:=x.pre;have et:as++t=as' :=et;rw[← et,ax (ar.mp g3).1];exact g3
        rw[e1]at e0;cases e0;exact⟨C,dx,vs,e1,e2,e3,e4,e5,e7.2⟩) i).setV i2 (g4.mono sB')
       refine⟨as,_,B',JS, ?_⟩;revert q';cases fb _ with
       | nx ρ2=>exact λq2 σ3 H3 B3 s4 I3=>⟨ρ2,B3,I3,sB'.trans s4,PoS.up s4 q2⟩
       | ct ρ2=>exact λq2 σ3 H3 B3 s4 I3=>⟨ρ2,B3,I3,sB'.trans s4,PoS.up s4 q2⟩
       | bk ρ2=>exact λq2=>q2
       | rt t=>exact λq2=>q2
       | rf t=>exact λq2=>q2
       | ex c=>exact λq2=>q2
       | bad=>exact λq2=>q2
      ·cases hh
     ·exact q'.elim
     ·exact q'.elim
   | _=>exact q'.elim
 ·have e:i' =2:=by omega
  subst e;exact .inl ⟨⟨_,SqT.of hP3,ai _⟩,q' σ' H' B' (zu.refl _) I'⟩
end PV
namespace G
open PySem PySem.Spec PyProof.Rows L2 PV
noncomputable def okX (c:Nat):Bool:=[0,1,2,3,4,5,6].contains c
noncomputable def jU (c:Nat):Bool:=c == 0
noncomputable def ju (c:Nat):Bool:=c == 1
noncomputable def jV (c:Nat):Bool:=c == 2
noncomputable def jv (c:Nat):Bool:=c == 3
noncomputable def JI (c:Nat):Bool:=c == 4
noncomputable def jW (c:Nat):Bool:=c == 5
noncomputable def jX (c:Nat):Bool:=c == 6
noncomputable def ZI (_:Nat):Bool:=true
def b_1h:En->RS:=
  zB (ifS (zD ltC (vB 1) (ap1 Zp (vB 0))) (zF (zd ixT (vE 0) (vE 1))) (nxS))
  (zB (ifS (zD eqC (vB 0) (j6 (zj))) (zF (cE (.int 0))) (nxS))
  (zF (zd zG (zd Z4 (zd ixT (vE 0) (zd jS (vE 1) (ap1 Zp (vB 0)))) (cE (.int 31))) (vE 1))))
def gr:List T->R T:=λts=>zA (b_1h  (en0 2 ts))
def b_1 (c_1h:List T->R T):En->RS:=
  zB (zP 3 (zd jS (zd Z4 (zd zG (za 2 c_1h (z9 (vE 0) (z9 (vE 1) (zj)))) (zd Z4 (cE (.int 6151)) (zd zG (vE 1) (cE (.int 1))))) (cE (.int 40692))) (cE (.int 2147483399))))
  (zF (zd jS (zd jS (zd zG (zd Z4 (vE 3) (vE 3)) (zd wN (vE 3) (cE (.int 31)))) (cE (.int 2147483629))) (vE 2)))
def f_1:List T->R T:=λts=>zA (b_1 (gr) (en0 4 ts))
def b_y (c_1:List T->R T):En->RS:=
  zB (zP 2 (cE (.str "abcdefghijklmnopqrstuvwxyz")))
  (zB (ifS (zD gtC (za 3 c_1 (z9 (vE 0) (z9 (vE 1) (z9 (cE (.int 6)) (zj))))) (cE (.int 0))) (zF (zd ixT (j6 (z9 (cE (.str "a")) (z9 (cE (.str "b")) (z9 (cE (.str "ab")) (z9 (cE (.str "cab")) (zj)))))) (za 3 c_1 (z9 (vE 0) (z9 (zd zG (vE 1) (cE (.int 1))) (z9 (cE (.int 4)) (zj))))))) (nxS))
  (zF (ap1 (Ki "") (Z1 (Za (zd zG (cE (.int 1)) (za 3 c_1 (z9 (vE 0) (z9 (zd zG (vE 1) (cE (.int 1))) (z9 (cE (.int 3)) (zj))))))) (zJ 0) (Zk) (zd ixT (vE 3) (za 3 c_1 (z9 (vE 1) (z9 (zd zG (zd zG (vE 2) (cE (.int 2))) (vE 0)) (z9 (cE (.int 26)) (zj)))))) 1 [0,1,2]))))
def f_y:List T->R T:=λts=>zA (b_y (f_1) (en0 3 ts))
def GN (c_1:List T->R T)(c_y:List T->R T):En->RS:=
  zB (ifS (zD gtC (za 3 c_1 (z9 (vE 0) (z9 (vE 1) (z9 (cE (.int 3)) (zj))))) (cE (.int 0))) (zB (zP 2 (zd jM (za 3 c_1 (z9 (vE 0) (z9 (zd zG (vE 1) (cE (.int 1))) (z9 (cE (.int 7)) (zj))))) (cE (.int 3))))
  (zB (ifS (zD eqC (za 3 c_1 (z9 (vE 0) (z9 (zd zG (vE 1) (cE (.int 3))) (z9 (cE (.int 8)) (zj))))) (cE (.int 0))) (zP 2 (zd ixT (j6 (z9 (Jd (cE (.int 20))) (z9 (cE (.int 17)) (z9 (cE (.int 20)) (zj))))) (za 3 c_1 (z9 (vE 0) (z9 (zd zG (vE 1) (cE (.int 4))) (z9 (cE (.int 3)) (zj))))))) (nxS))
  (zF (Zv (z9 (cE (.str "whole")) (z9 (vE 2) (z9 (zd Ya (cE (.int 20)) (zd zG (vE 2) (za 3 c_1 (z9 (vE 0) (z9 (zd zG (vE 1) (cE (.int 2))) (z9 (cE (.int 4)) (zj))))))) (zj)))))))) (nxS))
  (zB (ym 3 (zj))
  (zB (ZT (Za (zd zG (cE (.int 1)) (za 3 c_1 (z9 (vE 0) (z9 (zd zG (vE 1) (cE (.int 1))) (z9 (cE (.int 4)) (zj))))))) (zJ 4) (zB (zP 5 (za 2 c_y (z9 (vE 0) (z9 (zd zG (zd zG (vE 1) (cE (.int 5))) (zd Z4 (cE (.int 5)) (vE 4))) (zj)))))
  (ifS (zD Qx (vB 5) (vB 3)) (yn 3 (vE 5)) (nxS))))
  (zF (Zv (z9 (cE (.str "pick")) (z9 (ap1 GF (Z1 (xy (vE 3)) (ZC 0 1) (Zk) (Zv (z9 (vE 1) (z9 (zd zG (cE (.int 1)) (za 3 c_1 (z9 (vE 2) (z9 (zd zG (zd zG (vE 3) (cE (.int 30))) (vE 0)) (z9 (cE (.int 20)) (zj)))))) (zj)))) 2 [0,1])) (zj)))))))
def gs:List T->R T:=λts=>zA (GN (f_1) (f_y) (en0 6 ts))
def b_b (c_1:List T->R T)(c_10:List T->R T)(c_b:List T->R T):En->RS:=
  zB (zP 3 (za 3 c_1 (z9 (vE 0) (z9 (vE 1) (z9 (cE (.int 5)) (zj))))))
  (zB (ifS (orT (zD eqC (vB 2) (cE (.int 1))) (zD ltC (vB 3) (cE (.int 2)))) (zF (za 2 c_10 (z9 (vE 0) (z9 (zd zG (vE 1) (cE (.int 1))) (zj))))) (nxS))
  (zB (ifS (zD ltC (vB 3) (cE (.int 4))) (zB (zP 4 (Z1 (Za (zd zG (cE (.int 1)) (za 3 c_1 (z9 (vE 0) (z9 (zd zG (vE 1) (cE (.int 1))) (z9 (cE (.int 3)) (zj))))))) (zJ 0) (Zk) (za 3 c_b (z9 (vE 1) (z9 (zd zG (zd zG (zd Z4 (cE (.int 3)) (vE 2)) (cE (.int 40))) (zd Z4 (cE (.int 50)) (vE 0))) (z9 (zd jM (vE 3) (cE (.int 1))) (zj))))) 1 [0,1,2]))
  (zF (Zv (z9 (cE (.str "row")) (z9 (ap1 GF (vE 4)) (zj)))))) (nxS))
  (zB (zP 5 (za 3 c_1 (z9 (vE 0) (z9 (zd zG (vE 1) (cE (.int 1))) (z9 (cE (.int 3)) (zj))))))
  (zF (Zv (z9 (cE (.str "many")) (z9 (za 3 c_b (z9 (vE 0) (z9 (zd zG (zd Z4 (cE (.int 3)) (vE 1)) (cE (.int 40))) (z9 (zd jM (vE 2) (cE (.int 1))) (zj))))) (z9 (vE 5) (z9 (zd Ya (cE (.int 3)) (zd zG (vE 5) (za 3 c_1 (z9 (vE 0) (z9 (zd zG (vE 1) (cE (.int 2))) (z9 (cE (.int 3)) (zj))))))) (zj))))))))))
def S_b:Nat->Nat->List T->R T
 | 0,_=>λ_=> .bad
 | n+1,_=>λts=>zA (b_b (f_1) (gs) (S_b n 0) (en0 6 ts))
abbrev f_b (n:Nat):List T->R T:=S_b n 0
def b_d:En->RS:=
  zB (zP 1 (j6 (z9 (Zv (zj)) (zj))))
  (zB (ZT (ZU (vE 0)) (zJ 2) (zB (ym 3 (zj))
  (zB (ZT (ZU (vE 1)) (zJ 4) (Qa 3 (Z1 (ZU (vE 2)) (zJ 0) (Zk) (zd zG (vE 1) (Zv (z9 (vE 0) (zj)))) 1 [4])))
  (mvS 1 3))))
  (zF (vE 1)))
def f_d:List T->R T:=λts=>zA (b_d  (en0 5 ts))
def b_5 (c_5:List T->R T)(c_d:List T->R T):En->RS:=
  zB (ifS (zD eqC (zd ixT (vE 0) (cE (.int 0))) (cE (.str "whole"))) (zF (GJ (Jf (zd ixT (vE 0) (cE (.int 1))) (zd zG (zd ixT (vE 0) (cE (.int 2))) (cE (.int 1)))))) (nxS))
  (zB (ifS (zD eqC (zd ixT (vE 0) (cE (.int 0))) (cE (.str "pick"))) (zF (Z1 (ZU (zd ixT (vE 0) (cE (.int 1)))) (ZC 0 1) (Zk) (vE 0) 2 [])) (nxS))
  (zB (ifS (zD eqC (zd ixT (vE 0) (cE (.int 0))) (cE (.str "row"))) (zF (za 1 c_d (z9 (Z1 (ZU (zd ixT (vE 0) (cE (.int 1)))) (zJ 0) (Zk) (za 1 c_5 (z9 (vE 0) (zj))) 1 []) (zj)))) (nxS))
  (zB (ym 1 (zj))
  (zB (ZT (Jf (zd ixT (vE 0) (cE (.int 2))) (zd zG (zd ixT (vE 0) (cE (.int 3))) (cE (.int 1)))) (zJ 2) (Qa 1 (za 1 c_d (z9 (zd Z4 (j6 (z9 (za 1 c_5 (z9 (zd ixT (vE 0) (cE (.int 1))) (zj))) (zj))) (vE 2)) (zj)))))
  (zF (vE 1))))))
def S_5:Nat->Nat->List T->R T
 | 0,_=>λ_=> .bad
 | n+1,_=>λts=>zA (b_5 (S_5 n 0) (f_d) (en0 3 ts))
abbrev f_5 (n:Nat):List T->R T:=S_5 n 0
def b_9 (c_5:List T->R T)(c_9:List T->R T):En->RS:=
  zB (ifS (zD inC (zd ixT (vE 0) (cE (.int 0))) (Zv (z9 (cE (.str "whole")) (z9 (cE (.str "pick")) (zj))))) (zF (ap1 Zp (za 1 c_5 (z9 (vE 0) (zj))))) (nxS))
  (zB (zP 1 (ifE (zD eqC (zd ixT (vE 0) (cE (.int 0))) (cE (.str "row"))) (Z1 (ZU (zd ixT (vE 0) (cE (.int 1)))) (zJ 0) (Zk) (za 1 c_9 (z9 (vE 0) (zj))) 1 []) (j6 (zj))))
  (zB (zP 2 (cE (.int 1)))
  (zB (ZT (ZU (vE 1)) (zJ 3) (zP 2 (zd Z4 (vE 2) (vE 3))))
  (zB (ifS (zD eqC (zd ixT (vE 0) (cE (.int 0))) (cE (.str "many"))) (zB (zP 4 (za 1 c_9 (z9 (zd ixT (vE 0) (cE (.int 1))) (zj))))
  (zB (zP 2 (zd zG (ap1 Yn (ZS eqC (zd ixT (vE 0) (cE (.int 2))) (cE (.int 0)))) (zd Z4 (vE 4) (ap1 Yn (chE leC leC (zd ixT (vE 0) (cE (.int 2))) (cE (.int 1)) (zd ixT (vE 0) (cE (.int 3))))))))
  (zB (zP 2 (zd zG (vE 2) (zd Z4 (zd Z4 (vE 4) (vE 4)) (ap1 Yn (chE leC leC (zd ixT (vE 0) (cE (.int 2))) (cE (.int 2)) (zd ixT (vE 0) (cE (.int 3))))))))
  (zP 2 (zd zG (vE 2) (zd Z4 (zd Z4 (zd Z4 (vE 4) (vE 4)) (vE 4)) (ap1 Yn (ZS eqC (zd ixT (vE 0) (cE (.int 3))) (cE (.int 3)))))))))) (nxS))
  (zF (vE 2))))))
def S_9:Nat->Nat->List T->R T
 | 0,_=>λ_=> .bad
 | n+1,_=>λts=>zA (b_9 (f_5 8) (S_9 n 0) (en0 5 ts))
abbrev f_9 (n:Nat):List T->R T:=S_9 n 0
def GO (c_b:List T->R T)(c_9:List T->R T):En->RS:=
  zB (zP 3 (za 3 c_b (z9 (vE 0) (z9 (vE 1) (z9 (cE (.int 3)) (zj))))))
  (zB (ZT (Za (cE (.int 3))) (zJ 4) (zB (ifS (zD leC (za 1 c_9 (z9 (vE 3) (zj))) (vB 2)) (zF (vE 3)) (nxS))
  (zP 3 (za 3 c_b (z9 (vE 0) (z9 (zd zG (zd zG (vE 1) (cE (.int 500))) (zd Z4 (cE (.int 700)) (vE 4))) (z9 (cE (.int 2)) (zj))))))))
  (zF (ifE (zD leC (za 1 c_9 (z9 (vE 3) (zj))) (vB 2)) (vE 3) (Zv (z9 (cE (.str "whole")) (z9 (Jd (cE (.int 1))) (z9 (cE (.int 2)) (zj))))))))
def gu:List T->R T:=λts=>zA (GO (f_b 8) (f_9 8) (en0 5 ts))
def b_f:En->RS:=
  zF (jr (ap1 (Wj "int") (vB 0)) (Q9 (ap1 (Wj "bool") (vB 0))))
def f_f:List T->R T:=λts=>zA (b_f  (en0 1 ts))
def b_1j (c_f:List T->R T):En->RS:=
  zF (jr (za 1 c_f (z9 (vE 0) (zj))) (jr (za 1 c_f (z9 (vE 1) (zj))) (ch3E leC leC leC (vB 2) (vB 0) (vB 1) (vB 3))))
def GP:List T->R T:=λts=>zA (b_1j (f_f) (en0 4 ts))
def b_j:En->RS:=
  zF (jr (ap1 (Wj "tuple") (vB 0)) (chE leC leC (vB 1) (ap1 Zp (vB 0)) (vB 2)))
def f_j:List T->R T:=λts=>zA (b_j  (en0 3 ts))
def b_s:En->RS:=
  zB (ifS (orT (ue (Jk (ap1 (Wj "str") (vB 0)))) (ue (chT leC leC (cE (.int 1)) (ap1 Zp (vB 0)) (cE (.int 3))))) (zF (cE (.bl false))) (nxS))
  (zF (ap1 xr (Z1 (ZU (vE 0)) (zJ 0) (Zk) (chE leC leC (cE (.str "a")) (vB 0) (cE (.str "z"))) 1 [])))
def f_s:List T->R T:=λts=>zA (b_s  (en0 1 ts))
def GQ (c_f:List T->R T)(c_j:List T->R T)(c_s:List T->R T):En->RS:=
  zF (jr (za 3 c_j (z9 (vE 0) (z9 (cE (.int 2)) (z9 (cE (.int 2)) (zj))))) (jr (za 1 c_s (z9 (zd ixT (vE 0) (cE (.int 0))) (zj))) (jr (za 1 c_f (z9 (zd ixT (vE 0) (cE (.int 1))) (zj))) (chE leC leC (cE (.int 1)) (zd ixT (vE 0) (cE (.int 1))) (cE (.int 20))))))
def gv:List T->R T:=λts=>zA (GQ (f_f) (f_j) (f_s) (en0 1 ts))
def GR (c_j:List T->R T)(c_15:List T->R T):En->RS:=
  zB (ifS (orT (ue (Jk (za 3 c_j (z9 (vE 0) (z9 (cE (.int 1)) (z9 (cE (.int 4)) (zj))))))) (ue (Jk (ap1 xr (Z1 (ZU (vE 0)) (zJ 0) (Zk) (za 1 c_15 (z9 (vE 0) (zj))) 1 []))))) (zF (cE (.bl false))) (nxS))
  (zB (zP 1 (Z1 (ZU (vE 0)) (zJ 0) (Zk) (zd ixT (vE 0) (cE (.int 0))) 1 []))
  (zF (ZS eqC (ap1 QO (vB 1)) (ap1 Zp (vB 1)))))
def gw:List T->R T:=λts=>zA (GR (f_j) (gv) (en0 2 ts))
def b_7 (c_1j:List T->R T)(c_7:List T->R T)(c_13:List T->R T)(c_1n:List T->R T):En->RS:=
  zB (ifS (orT (zD eqC (vB 1) (cE (.int 0))) (orT (ue (Jk (ap1 (Wj "tuple") (vB 0)))) (zD eqC (ap1 Zp (vB 0)) (cE (.int 0))))) (zF (cE (.bl false))) (nxS))
  (zB (ifS (zD eqC (zd ixT (vE 0) (cE (.int 0))) (cE (.str "whole"))) (zF (jr (ZS eqC (ap1 Zp (vB 0)) (cE (.int 3))) (za 4 c_1j (z9 (zd ixT (vE 0) (cE (.int 1))) (z9 (zd ixT (vE 0) (cE (.int 2))) (z9 (Jd (cE (.int 20))) (z9 (cE (.int 20)) (zj)))))))) (nxS))
  (zB (ifS (zD eqC (zd ixT (vE 0) (cE (.int 0))) (cE (.str "pick"))) (zF (jr (ZS eqC (ap1 Zp (vB 0)) (cE (.int 2))) (za 1 c_13 (z9 (zd ixT (vE 0) (cE (.int 1))) (zj))))) (nxS))
  (zB (ifS (zD eqC (zd ixT (vE 0) (cE (.int 0))) (cE (.str "row"))) (zF (jr (ZS eqC (ap1 Zp (vB 0)) (cE (.int 2))) (za 2 c_1n (z9 (zd ixT (vE 0) (cE (.int 1))) (z9 (zd jM (vE 1) (cE (.int 1))) (zj)))))) (nxS))
  (zB (ifS (zD eqC (zd ixT (vE 0) (cE (.int 0))) (cE (.str "many"))) (zF (jr (ZS eqC (ap1 Zp (vB 0)) (cE (.int 4))) (jr (za 4 c_1j (z9 (zd ixT (vE 0) (cE (.int 2))) (z9 (zd ixT (vE 0) (cE (.int 3))) (z9 (cE (.int 0)) (z9 (cE (.int 3)) (zj)))))) (za 2 c_7 (z9 (zd ixT (vE 0) (cE (.int 1))) (z9 (zd jM (vE 1) (cE (.int 1))) (zj))))))) (nxS))
  (zF (cE (.bl false)))))))
def GS (c_j:List T->R T)(c_7:List T->R T):En->RS:=
  zF (jr (za 3 c_j (z9 (vE 0) (z9 (cE (.int 1)) (z9 (cE (.int 3)) (zj))))) (ap1 xr (Z1 (ZU (vE 0)) (zJ 0) (Zk) (za 2 c_7 (z9 (vE 0) (z9 (vE 1) (zj)))) 1 [1])))
def S_7:Nat->Nat->List T->R T
 | 0,_=>λ_=> .bad
 | n+1,0=>λts=>zA (b_7 (GP) (S_7 n 0) (gw) (S_7 n 1) (en0 2 ts))
 | n+1,_=>λts=>zA (GS (f_j) (S_7 n 0) (en0 2 ts))
abbrev f_7 (n:Nat):List T->R T:=S_7 n 0
abbrev f_1n (n:Nat):List T->R T:=S_7 n 1
def b_3 (c_7:List T->R T):En->RS:=
  zF (za 2 c_7 (z9 (vE 0) (z9 (cE (.int 3)) (zj))))
def f_3:List T->R T:=λts=>zA (b_3 (f_7 20) (en0 1 ts))
def GT (c_3:List T->R T):En->RS:=
  ifS (ue (Jk (za 1 c_3 (z9 (vE 0) (zj))))) (yq) (nxS)
def GU:List T->R T:=λts=>zA (GT (f_3) (en0 1 ts))
def b_2 (c_w:List T->R T)(c_m:List T->R T):En->RS:=
  zB (ifS (zD eqC (zd ixT (vE 0) (cE (.int 0))) (cE (.str "whole"))) (zF (zd zG (zd jM (zd ixT (vE 0) (cE (.int 2))) (zd ixT (vE 0) (cE (.int 1)))) (cE (.int 1)))) (nxS))
  (zB (ifS (zD eqC (zd ixT (vE 0) (cE (.int 0))) (cE (.str "pick"))) (zF (ap1 Zp (zd ixT (vE 0) (cE (.int 1))))) (nxS))
  (zB (ifS (zD eqC (zd ixT (vE 0) (cE (.int 0))) (cE (.str "row"))) (zF (za 1 c_w (z9 (zd ixT (vE 0) (cE (.int 1))) (zj)))) (nxS))
  (zF (za 2 c_m (z9 (vE 0) (z9 (zd zG (zd ixT (vE 0) (cE (.int 3))) (cE (.int 1))) (zj)))))))
def b_w (c_2:List T->R T):En->RS:=
  zB (zP 1 (cE (.int 1)))
  (zB (ZT (ZU (vE 0)) (zJ 2) (zP 1 (zd Z4 (vE 1) (za 1 c_2 (z9 (vE 2) (zj))))))
  (zF (vE 1)))
def b_m (c_w:List T->R T):En->RS:=
  zF (ap1 xQ (Z1 (Jf (zd ixT (vE 0) (cE (.int 2))) (vE 1)) (zJ 0) (Zk) (za 1 c_w (z9 (zd Z4 (j6 (z9 (zd ixT (vE 1) (cE (.int 1))) (zj))) (vE 0)) (zj))) 1 [0]))
def S_2:Nat->Nat->List T->R T
 | 0,_=>λ_=> .bad
 | n+1,0=>λts=>zA (b_2 (S_2 n 1) (S_2 n 2) (en0 1 ts))
 | n+1,1=>λts=>zA (b_w (S_2 n 0) (en0 3 ts))
 | n+1,_=>λts=>zA (b_m (S_2 n 1) (en0 2 ts))
abbrev f_2 (n:Nat):List T->R T:=S_2 n 0
abbrev f_w (n:Nat):List T->R T:=S_2 n 1
abbrev f_m (n:Nat):List T->R T:=S_2 n 2
def GV:En->RS:=
  zF (Z1 (ZU (zd ixT (vE 0) (cE (.int 1)))) (zJ 0) (Zk) (zd ixT (vE 0) (cE (.int 0))) 1 [])
def gy:List T->R T:=λts=>zA (GV  (en0 1 ts))
def b_a (c_12:List T->R T)(c_1m:List T->R T)(c_z:List T->R T):En->RS:=
  zB (ifS (zD eqC (zd ixT (vE 0) (cE (.int 0))) (cE (.str "whole"))) (zF (zd zG (zd ixT (vE 0) (cE (.int 1))) (vE 1))) (nxS))
  (zB (ifS (zD eqC (zd ixT (vE 0) (cE (.int 0))) (cE (.str "pick"))) (zF (zd ixT (za 1 c_12 (z9 (vE 0) (zj))) (vE 1))) (nxS))
  (zB (ifS (zD eqC (zd ixT (vE 0) (cE (.int 0))) (cE (.str "row"))) (zF (za 2 c_z (z9 (zd ixT (vE 0) (cE (.int 1))) (z9 (vE 1) (zj))))) (nxS))
  (zF (za 2 c_1m (z9 (vE 0) (z9 (vE 1) (zj)))))))
def gz (c_m:List T->R T)(c_z:List T->R T):En->RS:=
  zB (zP 2 (zd ixT (vE 0) (cE (.int 2))))
  (zB (jn (zD leC (za 2 c_m (z9 (vE 0) (z9 (zd zG (vE 2) (cE (.int 1))) (zj)))) (vB 1)) (zP 2 (zd zG (vE 2) (cE (.int 1)))) (8))
  (zF (za 2 c_z (z9 (zd Z4 (j6 (z9 (zd ixT (vE 0) (cE (.int 1))) (zj))) (vE 2)) (z9 (zd jM (vE 1) (za 2 c_m (z9 (vE 0) (z9 (vE 2) (zj))))) (zj))))))
def b_z (c_2:List T->R T)(c_a:List T->R T):En->RS:=
  zB (ym 2 (zj))
  (zB (zP 3 (vE 1))
  (zB (ZT (z1f (vE 0)) (zJ 4) (zB (zP 5 (za 1 c_2 (z9 (vE 4) (zj))))
  (zB (yn 2 (za 2 c_a (z9 (vE 4) (z9 (zd jS (vE 3) (vE 5)) (zj)))))
  (zP 3 (zd wN (vE 3) (vE 5))))))
  (zF (ap1 v9 (vE 2)))))
def S_a:Nat->Nat->List T->R T
 | 0,_=>λ_=> .bad
 | n+1,0=>λts=>zA (b_a (gy) (S_a n 1) (S_a n 2) (en0 2 ts))
 | n+1,1=>λts=>zA (gz (f_m 20) (S_a n 2) (en0 3 ts))
 | n+1,_=>λts=>zA (b_z (f_2 20) (S_a n 0) (en0 6 ts))
abbrev f_a (n:Nat):List T->R T:=S_a n 0
abbrev f_1m (n:Nat):List T->R T:=S_a n 1
abbrev f_z (n:Nat):List T->R T:=S_a n 2
def b_u (c_1d:List T->R T)(c_2:List T->R T)(c_a:List T->R T):En->RS:=
  zB (UT (za 1 c_1d (z9 (vE 0) (zj))))
  (zB (zP 1 (za 1 c_2 (z9 (vE 0) (zj))))
  (zB (ifS (zD gtC (vB 1) (cE (.int 500))) (yq) (nxS))
  (GL (Za (vE 1)) (zJ 0) (Zk) (za 2 c_a (z9 (vE 1) (z9 (vE 0) (zj)))) 1 [0])))
def f_u:List T->R T:=λts=>zA (b_u (GU) (f_2 20) (f_a 20) (en0 2 ts))
def b_k (c_u:List T->R T):En->R (T×En):=
  ZD (stF 101 0 2 "kind" (vE 1))
  (ZD (Qd 101 0 2 "remaining" (z9 (za 1 c_u (z9 (vE 1) (zj))) (zj)))
  (ZD (Qd 101 0 2 "done" (zj))
  (ZD (Qd 101 0 2 "undone" (zj))
  (z1m))))
def f_k:List (Str×Fd)->List T->R (T×List (Str×Fd)):=λfs ts=>JW 101 2 (b_k (f_u) (enM 101 2 fs ts))
def b_g (c_1:List T->R T)(c_g:List T->R T):En->RS:=
  zB (zP 3 (za 3 c_1 (z9 (vE 0) (z9 (vE 1) (z9 (cE (.int 9)) (zj))))))
  (zB (ifS (kT (zD gtC (vB 2) (cE (.int 1))) (zD gtC (vB 3) (cE (.int 5)))) (zB (zP 4 (za 3 c_g (z9 (vE 0) (z9 (zd zG (zd Z4 (cE (.int 2)) (vE 1)) (cE (.int 11))) (z9 (zd jM (vE 2) (cE (.int 1))) (zj))))))
  (zB (ifS (zD eqC (vB 3) (cE (.int 6))) (zF (Zv (z9 (cE (.str "no")) (z9 (vE 4) (zj))))) (nxS))
  (zF (Zv (z9 (zd ixT (j6 (z9 (cE (.str "all")) (z9 (cE (.str "some")) (zj)))) (zd jM (vE 3) (cE (.int 7)))) (z9 (vE 4) (z9 (za 3 c_g (z9 (vE 0) (z9 (zd zG (zd Z4 (cE (.int 2)) (vE 1)) (cE (.int 24))) (z9 (zd jM (vE 2) (cE (.int 1))) (zj))))) (zj)))))))) (nxS))
  (zB (zP 5 (zd jM (za 3 c_1 (z9 (vE 0) (z9 (zd zG (vE 1) (cE (.int 1))) (z9 (cE (.int 9)) (zj))))) (cE (.int 4))))
  (zB (ifS (zD ltC (zd jS (vE 3) (cE (.int 6))) (cE (.int 2))) (zF (Zv (z9 (cE (.str "sum")) (z9 (vE 5) (z9 (zd jM (zd zG (vE 5) (za 3 c_1 (z9 (vE 0) (z9 (zd zG (vE 1) (cE (.int 2))) (z9 (cE (.int 5)) (zj)))))) (cE (.int 1))) (zj)))))) (nxS))
  (zB (ifS (zD eqC (zd jS (vE 3) (cE (.int 6))) (cE (.int 2))) (zF (Zv (z9 (cE (.str "size")) (z9 (za 3 c_1 (z9 (vE 0) (z9 (zd zG (vE 1) (cE (.int 1))) (z9 (cE (.int 3)) (zj))))) (z9 (za 3 c_1 (z9 (vE 0) (z9 (zd zG (vE 1) (cE (.int 2))) (z9 (cE (.int 4)) (zj))))) (zj)))))) (nxS))
  (zB (ifS (zD eqC (zd jS (vE 3) (cE (.int 6))) (cE (.int 3))) (zF (Zv (z9 (cE (.str "word")) (z9 (zd ixT (j6 (z9 (cE (.str "a")) (z9 (cE (.str "b")) (z9 (cE (.str "ab")) (z9 (cE (.str "zz")) (zj)))))) (za 3 c_1 (z9 (vE 0) (z9 (zd zG (vE 1) (cE (.int 1))) (z9 (cE (.int 4)) (zj)))))) (zj))))) (nxS))
  (zF (ifE (zD eqC (zd jS (vE 3) (cE (.int 6))) (cE (.int 4))) (Zv (z9 (cE (.str "rising")) (zj))) (Zv (z9 (cE (.str "unlike")) (zj))))))))))
def S_g:Nat->Nat->List T->R T
 | 0,_=>λ_=> .bad
 | n+1,_=>λts=>zA (b_g (f_1) (S_g n 0) (en0 6 ts))
abbrev f_g (n:Nat):List T->R T:=S_g n 0
def b_v (c_1:List T->R T)(c_g:List T->R T):En->RS:=
  zF (Zv (z9 (zd ixT (j6 (z9 (cE (.str "keep")) (z9 (cE (.str "bar")) (zj)))) (za 3 c_1 (z9 (vE 0) (z9 (vE 1) (z9 (cE (.int 2)) (zj)))))) (z9 (za 3 c_g (z9 (vE 0) (z9 (zd zG (zd Z4 (cE (.int 4)) (vE 1)) (cE (.int 30))) (z9 (cE (.int 2)) (zj))))) (zj))))
def f_v:List T->R T:=λts=>zA (b_v (f_1) (f_g 8) (en0 2 ts))
def b_h (c_h:List T->R T):En->RS:=
  zB (ifS (ue (Jk (ap1 (Wj "tuple") (vB 0)))) (zF (j6 (z9 (vE 0) (zj)))) (nxS))
  (zB (zP 1 (j6 (zj)))
  (zB (ZT (ZU (vE 0)) (zJ 2) (zP 1 (zd zG (vE 1) (za 1 c_h (z9 (vE 2) (zj))))))
  (zF (vE 1))))
def S_h:Nat->Nat->List T->R T
 | 0,_=>λ_=> .bad
 | n+1,_=>λts=>zA (b_h (S_h n 0) (en0 3 ts))
abbrev f_h (n:Nat):List T->R T:=S_h n 0
def b_8 (c_h:List T->R T)(c_8:List T->R T):En->RS:=
  zB (zP 2 (Z1 (ZU (za 1 c_h (z9 (vE 1) (zj)))) (zJ 0) (Jk (ap1 (Wj "int") (vB 0))) (vE 0) 1 []))
  (zB (zP 3 (ifE (Jk (ap1 (Wj "tuple") (vB 1))) (vE 1) (Zv (z9 (vE 1) (zj)))))
  (zB (ifS (zD eqC (zd ixT (vE 0) (cE (.int 0))) (cE (.str "sum"))) (zB (zP 4 (cE (.int 0)))
  (zB (ZT (ZU (vE 2)) (zJ 5) (zP 4 (zd zG (vE 4) (vE 5))))
  (zF (jr (ZS leC (zd ixT (vE 0) (cE (.int 1))) (vB 4)) (ZS leC (vB 4) (zd ixT (vE 0) (cE (.int 2)))))))) (nxS))
  (zB (ifS (zD eqC (zd ixT (vE 0) (cE (.int 0))) (cE (.str "size"))) (zF (jr (ZS geC (ap1 Zp (vB 3)) (zd ixT (vE 0) (cE (.int 1)))) (ZS leC (ap1 Zp (vB 3)) (zd ixT (vE 0) (cE (.int 2)))))) (nxS))
  (zB (ifS (zD eqC (zd ixT (vE 0) (cE (.int 0))) (cE (.str "word"))) (zF (ZS neC (Z1 (ZU (za 1 c_h (z9 (vE 1) (zj)))) (zJ 0) (zD eqC (vB 0) (zd ixT (vE 1) (cE (.int 1)))) (vE 0) 1 [0]) (j6 (zj)))) (nxS))
  (zB (ifS (zD eqC (zd ixT (vE 0) (cE (.int 0))) (cE (.str "rising"))) (zF (ZS eqC (vB 2) (ap1 va (vB 2)))) (nxS))
  (zB (ifS (zD eqC (zd ixT (vE 0) (cE (.int 0))) (cE (.str "unlike"))) (zF (ZS eqC (Z1 (Za (ap1 Zp (vB 3))) (zJ 0) (zD inC (zd ixT (vE 1) (vE 0)) (slE (vE 1) (noO) (Je (vE 0)))) (vE 0) 1 [3]) (j6 (zj)))) (nxS))
  (zB (ifS (zD eqC (zd ixT (vE 0) (cE (.int 0))) (cE (.str "no"))) (zF (Q9 (za 2 c_8 (z9 (zd ixT (vE 0) (cE (.int 1))) (z9 (vE 1) (zj)))))) (nxS))
  (zB (zP 6 (Z1 (ZU (slE (vE 0) (Je (cE (.int 1))) (noO))) (zJ 0) (Zk) (za 2 c_8 (z9 (vE 0) (z9 (vE 1) (zj)))) 1 [1]))
  (zF (ifE (zD eqC (zd ixT (vE 0) (cE (.int 0))) (cE (.str "all"))) (jr (zd ixT (vE 6) (cE (.int 0))) (zd ixT (vE 6) (cE (.int 1)))) (orE (zd ixT (vE 6) (cE (.int 0))) (zd ixT (vE 6) (cE (.int 1))))))))))))))
def S_8:Nat->Nat->List T->R T
 | 0,_=>λ_=> .bad
 | n+1,_=>λts=>zA (b_8 (f_h 8) (S_8 n 0) (en0 7 ts))
abbrev f_8 (n:Nat):List T->R T:=S_8 n 0
def b_r (c_8:List T->R T):En->RS:=
  zF (Z1 (ZU (vE 0)) (zJ 0) (zD eqC (za 2 c_8 (z9 (zd ixT (vE 1) (cE (.int 1))) (z9 (vE 0) (zj)))) (ZS eqC (zd ixT (vE 1) (cE (.int 0))) (cE (.str "keep")))) (vE 0) 1 [1])
def f_r:List T->R T:=λts=>zA (b_r (f_8 8) (en0 2 ts))
def z1C (c_f:List T->R T):En->RS:=
  zF (jr (za 1 c_f (z9 (vE 0) (zj))) (chE leC leC (Jd (cE (.int 50))) (vB 0) (cE (.int 50))))
def GW:List T->R T:=λts=>zA (z1C (f_f) (en0 1 ts))
def b_i (c_s:List T->R T)(c_i:List T->R T)(c_1e:List T->R T):En->RS:=
  zB (ifS (orT (zD eqC (vB 1) (cE (.int 0))) (orT (ue (Jk (ap1 (Wj "tuple") (vB 0)))) (zD eqC (ap1 Zp (vB 0)) (cE (.int 0))))) (zF (cE (.bl false))) (nxS))
  (zB (ifS (orT (zD eqC (zd ixT (vE 0) (cE (.int 0))) (cE (.str "sum"))) (zD eqC (zd ixT (vE 0) (cE (.int 0))) (cE (.str "size")))) (zF (jr (ZS eqC (ap1 Zp (vB 0)) (cE (.int 3))) (jr (za 1 c_1e (z9 (zd ixT (vE 0) (cE (.int 1))) (zj))) (za 1 c_1e (z9 (zd ixT (vE 0) (cE (.int 2))) (zj)))))) (nxS))
  (zB (ifS (zD eqC (zd ixT (vE 0) (cE (.int 0))) (cE (.str "word"))) (zF (jr (ZS eqC (ap1 Zp (vB 0)) (cE (.int 2))) (za 1 c_s (z9 (zd ixT (vE 0) (cE (.int 1))) (zj))))) (nxS))
  (zB (ifS (orT (zD eqC (zd ixT (vE 0) (cE (.int 0))) (cE (.str "rising"))) (zD eqC (zd ixT (vE 0) (cE (.int 0))) (cE (.str "unlike")))) (zF (ZS eqC (ap1 Zp (vB 0)) (cE (.int 1)))) (nxS))
  (zB (ifS (zD eqC (zd ixT (vE 0) (cE (.int 0))) (cE (.str "no"))) (zF (jr (ZS eqC (ap1 Zp (vB 0)) (cE (.int 2))) (za 2 c_i (z9 (zd ixT (vE 0) (cE (.int 1))) (z9 (zd jM (vE 1) (cE (.int 1))) (zj)))))) (nxS))
  (zB (ifS (orT (zD eqC (zd ixT (vE 0) (cE (.int 0))) (cE (.str "all"))) (zD eqC (zd ixT (vE 0) (cE (.int 0))) (cE (.str "some")))) (zF (jr (ZS eqC (ap1 Zp (vB 0)) (cE (.int 3))) (jr (za 2 c_i (z9 (zd ixT (vE 0) (cE (.int 1))) (z9 (zd jM (vE 1) (cE (.int 1))) (zj)))) (za 2 c_i (z9 (zd ixT (vE 0) (cE (.int 2))) (z9 (zd jM (vE 1) (cE (.int 1))) (zj))))))) (nxS))
  (zF (cE (.bl false))))))))
def S_i:Nat->Nat->List T->R T
 | 0,_=>λ_=> .bad
 | n+1,_=>λts=>zA (b_i (f_s) (S_i n 0) (GW) (en0 2 ts))
abbrev f_i (n:Nat):List T->R T:=S_i n 0
def b_6 (c_i:List T->R T):En->RS:=
  zF (za 2 c_i (z9 (vE 0) (z9 (cE (.int 3)) (zj))))
def f_6:List T->R T:=λts=>zA (b_6 (f_i 8) (en0 1 ts))
def GX (c_6:List T->R T):En->RS:=
  ifS (ue (Jk (za 1 c_6 (z9 (vE 0) (zj))))) (yq) (nxS)
def gA:List T->R T:=λts=>zA (GX (f_6) (en0 1 ts))
def b_1a:En->RS:=
  zF (ap1 Zp (ixV 101 0 1 "remaining" (Jd (cE (.int 1)))))
def gB:List (Str×Fd)->List T->R T:=λfs ts=>zA (b_1a  (enO 101 1 fs (ts.take 0) (ts.drop 0)))
def b_e (c_e:List T->R T):En->RS:=
  zB (ifS (ue (Jk (ap1 (Wj "tuple") (vB 0)))) (zF (j6 (z9 (vE 0) (zj)))) (nxS))
  (zB (ym 1 (zj))
  (zB (ZT (ZU (vE 0)) (zJ 2) (Qa 1 (za 1 c_e (z9 (vE 2) (zj)))))
  (zF (vE 1))))
def S_e:Nat->Nat->List T->R T
 | 0,_=>λ_=> .bad
 | n+1,_=>λts=>zA (b_e (S_e n 0) (en0 3 ts))
abbrev f_e (n:Nat):List T->R T:=S_e n 0
def z1D (c_f:List T->R T)(c_e:List T->R T):En->RS:=
  zF (Z1 (ZU (za 1 c_e (z9 (vE 0) (zj)))) (zJ 0) (Jk (za 1 c_f (z9 (vE 0) (zj)))) (vE 0) 1 [])
def GY:List T->R T:=λts=>zA (z1D (f_f) (f_e 8) (en0 1 ts))
def b_1i:En->RS:=
  zF (ifE (Jk (ap1 (Wj "tuple") (vB 0))) (vE 0) (Zv (z9 (vE 0) (zj))))
def GZ:List T->R T:=λts=>zA (b_1i  (en0 1 ts))
def z1E:En->RS:=
  zF (ap1 xr (Z1 (z16 (vE 0) (slE (vE 0) (Je (cE (.int 1))) (noO))) (ZC 0 1) (Zk) (ZS leC (vB 0) (vB 1)) 2 []))
def z1F:List T->R T:=λts=>zA (z1E  (en0 1 ts))
def z1G:En->RS:=
  zF (Q9 (ap1 z1h (Z1 (U5 (vE 0)) (ZC 0 1) (Zk) (ZS inC (vB 1) (slE (vE 2) (noO) (Je (vE 0)))) 2 [0])))
def z1H:List T->R T:=λts=>zA (z1G  (en0 1 ts))
def z00 (c_1i:List T->R T)(c_e:List T->R T)(c_1c:List T->R T)(c_1k:List T->R T)(c_1l:List T->R T):En->RS:=
  zB (ifS (zD eqC (zd ixT (vE 0) (cE (.int 0))) (cE (.str "sum"))) (zF (chE leC leC (zd ixT (vE 0) (cE (.int 1))) (ap1 xQ (za 1 c_1c (z9 (vE 1) (zj)))) (zd ixT (vE 0) (cE (.int 2))))) (nxS))
  (zB (ifS (zD eqC (zd ixT (vE 0) (cE (.int 0))) (cE (.str "size"))) (zF (chE leC leC (zd ixT (vE 0) (cE (.int 1))) (ap1 Zp (za 1 c_1i (z9 (vE 1) (zj)))) (zd ixT (vE 0) (cE (.int 2))))) (nxS))
  (zB (ifS (zD eqC (zd ixT (vE 0) (cE (.int 0))) (cE (.str "word"))) (zF (ZS inC (zd ixT (vE 0) (cE (.int 1))) (za 1 c_e (z9 (vE 1) (zj))))) (nxS))
  (zB (ifS (zD eqC (zd ixT (vE 0) (cE (.int 0))) (cE (.str "rising"))) (zF (za 1 c_1k (z9 (za 1 c_1c (z9 (vE 1) (zj))) (zj)))) (nxS))
  (zF (za 1 c_1l (z9 (za 1 c_1i (z9 (vE 1) (zj))) (zj)))))))
def gC:List T->R T:=λts=>zA (z00 (GZ) (f_e 8) (GY) (z1F) (z1H) (en0 2 ts))
def b_c (c_c:List T->R T)(c_11:List T->R T):En->RS:=
  zB (ifS (zD eqC (zd ixT (vE 0) (cE (.int 0))) (cE (.str "no"))) (zF (Q9 (za 2 c_c (z9 (zd ixT (vE 0) (cE (.int 1))) (z9 (vE 1) (zj)))))) (nxS))
  (zB (ifS (zD eqC (zd ixT (vE 0) (cE (.int 0))) (cE (.str "all"))) (zF (jr (za 2 c_c (z9 (zd ixT (vE 0) (cE (.int 1))) (z9 (vE 1) (zj)))) (za 2 c_c (z9 (zd ixT (vE 0) (cE (.int 2))) (z9 (vE 1) (zj)))))) (nxS))
  (zB (ifS (zD eqC (zd ixT (vE 0) (cE (.int 0))) (cE (.str "some"))) (zF (orE (za 2 c_c (z9 (zd ixT (vE 0) (cE (.int 1))) (z9 (vE 1) (zj)))) (za 2 c_c (z9 (zd ixT (vE 0) (cE (.int 2))) (z9 (vE 1) (zj)))))) (nxS))
  (zF (za 2 c_11 (z9 (vE 0) (z9 (vE 1) (zj)))))))
def S_c:Nat->Nat->List T->R T
 | 0,_=>λ_=> .bad
 | n+1,_=>λts=>zA (b_c (S_c n 0) (gC) (en0 2 ts))
abbrev f_c (n:Nat):List T->R T:=S_c n 0
def z01 (c_c:List T->R T):En->RS:=
  zB (zP 2 (ZS eqC (zd ixT (vE 0) (cE (.int 0))) (cE (.str "keep"))))
  (zF (Z1 (ZU (vE 1)) (zJ 0) (zD eqC (za 2 c_c (z9 (zd ixT (vE 1) (cE (.int 1))) (z9 (vE 0) (zj)))) (vB 2)) (vE 0) 1 [0,2]))
def gD:List T->R T:=λts=>zA (z01 (f_c 8) (en0 3 ts))
def b_l (c_17:List T->R T):En->R (T×En):=
  ZD (Vg 101 0 2 "remaining" (za 2 c_17 (z9 (vE 1) (z9 (ixF 101 0 2 "remaining" (Jd (cE (.int 1)))) (zj)))))
  (ZD (Vg 101 0 2 "done" (vE 1))
  (z1m))
def f_l:List (Str×Fd)->List T->R (T×List (Str×Fd)):=λfs ts=>JW 101 2 (b_l (gD) (enM 101 2 fs ts))
def b_o (c_16:List T->R T)(c_1a:List (Str×Fd)->List T->R T)(c_l:List (Str×Fd)->List T->R (T×List (Str×Fd))):En->R (T×En):=
  ZD (UT (za 1 c_16 (z9 (vE 2) (zj))))
  (ZD (zP 3 (Jh 101 0 4 0 c_1a zj))
  (ZD (drM (jo 101 0 4 "do_step" 1 c_l (z9 (Zv (z9 (vE 1) (z9 (vE 2) (zj)))) (zj))))
  (ZD (Qd 101 0 4 "undone" (zj))
  (XQ (zd jM (vE 3) (Jh 101 0 4 0 c_1a zj))))))
def f_o:List (Str×Fd)->List T->R (T×List (Str×Fd)):=λfs ts=>JW 101 4 (b_o (gA) (gB) (f_l) (enM 101 4 fs ts))
def b_1f (c_o:List (Str×Fd)->List T->R (T×List (Str×Fd))):En->R (T×En):=
  jo 101 0 2 "new_step" 2 c_o (z9 (cE (.str "keep")) (z9 (vE 1) (zj)))
def gE:List (Str×Fd)->List T->R (T×List (Str×Fd)):=λfs ts=>JW 101 2 (b_1f (f_o) (enM 101 2 fs ts))
def b_1g (c_o:List (Str×Fd)->List T->R (T×List (Str×Fd))):En->R (T×En):=
  jo 101 0 2 "new_step" 2 c_o (z9 (cE (.str "bar")) (z9 (vE 1) (zj)))
def gF:List (Str×Fd)->List T->R (T×List (Str×Fd)):=λfs ts=>JW 101 2 (b_1g (f_o) (enM 101 2 fs ts))
def b_t (c_1f:List (Str×Fd)->List T->R (T×List (Str×Fd)))(c_1g:List (Str×Fd)->List T->R (T×List (Str×Fd))):En->R (T×En):=
  z1w (zD eqC (zd ixT (vE 1) (cE (.int 0))) (cE (.str "keep"))) (jo 101 0 2 "keep" 1 c_1f (z9 (zd ixT (vE 1) (cE (.int 1))) (zj))) (jo 101 0 2 "bar" 1 c_1g (z9 (zd ixT (vE 1) (cE (.int 1))) (zj)))
def f_t:List (Str×Fd)->List T->R (T×List (Str×Fd)):=λfs ts=>JW 101 2 (b_t (gE) (gF) (enM 101 2 fs ts))
def b_4:En->R (T×En):=
  ZD (ifS (zD eqC (ap1 Zp (XR 101 0 2 "done")) (cE (.int 0))) (yq) (nxS))
  (ZD (seM 1 (Qe 101 0 2 "done"))
  (ZD (drM (Qe 101 0 2 "remaining"))
  (ZD (Vg 101 0 2 "undone" (vE 1))
  (XQ (zd ixT (vE 1) (cE (.int 0)))))))
def f_4:List (Str×Fd)->List T->R (T×List (Str×Fd)):=λfs ts=>JW 101 2 (b_4  (enM 101 2 fs ts))
def z02 (c_k:List (Str×Fd)->List T->R (T×List (Str×Fd))):En->R En:=
  uy (mkS 1 2 101 1 c_k (z9 (KU 101 0 2 "kind") (zj)))
  (uy (gf 101 1 2 101 0 "remaining" "remaining")
  (uy (gf 101 1 2 101 0 "done" "done")
  (uy (gf 101 1 2 101 0 "undone" "undone")
  (z1z 1))))
def z03:List (Str×Fd)->R (List (Str×Fd)):=λfs=>gm 101 1 2 (z02 (f_k) (enV 101 2 fs))
def b_18:En->RS:=
  zF (Zv (z9 (ap1 Zp (Vj 101 0 1 "done")) (z9 (ap1 Zp (Vj 101 0 1 "undone")) (zj))))
def gG:List (Str×Fd)->List T->R T:=λfs ts=>zA (b_18  (enO 101 1 fs (ts.take 0) (ts.drop 0)))
def b_x:En->RS:=
  zF (ap1 GM (ixV 101 0 1 "remaining" (Jd (cE (.int 1)))))
def f_x:List (Str×Fd)->List T->R T:=λfs ts=>zA (b_x  (enO 101 1 fs (ts.take 0) (ts.drop 0)))
def b_19:En->RS:=
  zF (lcpV 101 0 1 "done")
def gH:List (Str×Fd)->List T->R T:=λfs ts=>zA (b_19  (enO 101 1 fs (ts.take 0) (ts.drop 0)))
def b_1o:En->RS:=
  zF (KU 101 0 1 "kind")
def z1I:List (Str×Fd)->List T->R T:=λfs ts=>zA (b_1o  (enO 101 1 fs (ts.take 0) (ts.drop 0)))
def b_q (c_l:List (Str×Fd)->List T->R (T×List (Str×Fd))):En->R (T×En):=
  ZD (ifS (zD eqC (ap1 Zp (XR 101 0 2 "undone")) (cE (.int 0))) (yq) (nxS))
  (ZD (seM 1 (Qe 101 0 2 "undone"))
  (ZD (drM (jo 101 0 2 "do_step" 1 c_l (z9 (vE 1) (zj))))
  (XQ (zd ixT (vE 1) (cE (.int 0))))))
def f_q:List (Str×Fd)->List T->R (T×List (Str×Fd)):=λfs ts=>JW 101 2 (b_q (f_l) (enM 101 2 fs ts))
def b_p:En->RS:=
  zB (zP 1 (j6 (z9 (Jg 0 okX JI) (z9 (Jg 0 okX jX) (z9 (Jg 0 okX jU) (z9 (Jg 0 okX jV) (zj)))))))
  (zB (zP 1 (zd zG (vE 1) (j6 (z9 (Jg 0 okX jW) (z9 (Jg 0 okX ju) (z9 (Jg 0 okX jv) (zj)))))))
  (zB (ifS (orT (zD neC (GK z19 (vB 1) (cE (.bl true))) (cE (.int 1))) (ue (Jk (Jg 0 okX ZI)))) (zF (cE (.str "wrong"))) (nxS))
  (zF (zd ixT (j6 (z9 (cE (.str "ended")) (z9 (cE (.str "no back")) (z9 (cE (.str "no kind")) (z9 (cE (.str "no rule")) (z9 (cE (.str "no text")) (z9 (cE (.str "no worth")) (z9 (cE (.str "too many")) (zj))))))))) (GK z1a (vB 1) (cE (.bl true)))))))
def f_p:Nat->R T:=λc=>zA (b_p  (enC 2 c))
def b_n:En->RS:=
  zB (ifS (zD eqC (ap1 Zp (Vj 101 0 2 "done")) (cE (.int 0))) (V7 6) (nxS))
  (zB (yq)
  (zB (yq)
  (zB (yq)
  (yq))))
def f_n:List (Str×Fd)->List T->R T:=λfs ts=>zA (b_n  (enO 101 2 fs (ts.take 0) (ts.drop 0)))
def b_0 (c_5:List T->R T)(c_14:List T->R T)(c_p:Nat->R T)(c_v:List T->R T)(c_r:List T->R T)(c_k:List (Str×Fd)->List T->R (T×List (Str×Fd)))(c_x:List (Str×Fd)->List T->R T)(c_1o:List (Str×Fd)->List T->R T)(c_19:List (Str×Fd)->List T->R T)(c_4:List (Str×Fd)->List T->R (T×List (Str×Fd)))(c_n:List (Str×Fd)->List T->R T)(c_q:List (Str×Fd)->List T->R (T×List (Str×Fd)))(c_18:List (Str×Fd)->List T->R T)(c_1b:List (Str×Fd)->R (List (Str×Fd)))(c_t:List (Str×Fd)->List T->R (T×List (Str×Fd))):En->RS:=
  zB (zP 1 (za 3 c_14 (z9 (vE 0) (z9 (cE (.int 10)) (z9 (cE (.int 40)) (zj))))))
  (zB (wx 2 3 11 (mkA 11 12 101 1 c_k (z9 (vE 1) (zj))) (z9 (za 1 c_5 (z9 (vE 1) (zj))) (zj)))
  (zB (ZT (Za (cE (.int 5))) (zJ 4) (zB (zP 5 (za 2 c_v (z9 (vE 0) (z9 (zd zG (cE (.int 1000)) (zd Z4 (cE (.int 100)) (vE 4))) (zj)))))
  (zB (yn 3 (za 2 c_r (z9 (ixO 3 (Jd (cE (.int 1)))) (z9 (vE 5) (zj)))))
  (drM (Qf 101 2 12 1 c_t (z9 (vE 5) (zj)))))))
  (zB (drM (jo 101 2 12 "back" 0 c_4 zj))
  (zB (mkV 6 2 12 101 c_1b)
  (zB (ifS (orT (zD neC (Jh 101 6 12 0 c_18 zj) (Zv (z9 (cE (.int 4)) (z9 (cE (.int 1)) (zj))))) (orT (zD neC (Jh 101 6 12 0 c_x zj) (ixO 3 (Jd (cE (.int 2))))) (orT (zD neC (Jh 101 6 12 0 c_19 zj) (Jh 101 2 12 0 c_19 zj)) (zD neC (Jh 101 6 12 0 c_1o zj) (vB 1))))) (zF (cE (.bl false))) (nxS))
  (zB (gp 101 7 8 12 2 6 (cE (.int 2000)) (cE (.int 3000)) (zB (drM (jo 101 7 12 "forth" 0 c_q zj))
  (zB (zP 9 (ixO 3 (Jd (cE (.int 1)))))
  (zB (ZT (Za (cE (.int 2))) (zJ 4) (zB (zP 5 (za 2 c_v (z9 (vE 0) (z9 (zd zG (vE 8) (zd Z4 (cE (.int 100)) (vE 4))) (zj)))))
  (zB (zP 10 (za 2 c_r (z9 (vE 9) (z9 (vE 5) (zj)))))
  (zB (ifM (Vi neC (Qf 101 7 12 1 c_t (z9 (vE 5) (zj))) (zd jM (ap1 Zp (vB 9)) (ap1 Zp (vB 10)))) (zF (cE (.bl false))) (nxS))
  (zP 9 (vE 10))))))
  (zB (ZT (Za (cE (.int 7))) (zJ 4) (drM (jo 101 7 12 "back" 0 c_4 zj)))
  (zB (ifM (orM (tmP (zD neC (Jh 101 7 12 0 c_x zj) (ixO 3 (cE (.int 0))))) (Vi neC (UZ 101 7 12 "back" okX c_p c_n c_4) (cE (.str "no back")))) (zF (cE (.bl false))) (nxS))
  (zB (ZT (Za (cE (.int 7))) (zJ 4) (drM (jo 101 7 12 "forth" 0 c_q zj)))
  (ifS (orT (zD neC (Jh 101 7 12 0 c_x zj) (vB 9)) (zD neC (Jh 101 7 12 0 c_18 zj) (Zv (z9 (cE (.int 7)) (z9 (cE (.int 0)) (zj)))))) (zF (cE (.bl false))) (nxS)))))))))
  (zF (cE (.bl true)))))))))
def f_0:List T->R T:=λts=>zA (b_0 (f_5 8) (gu) (f_p) (f_v) (f_r) (f_k) (f_x) (z1I) (gH) (f_4) (f_n) (f_q) (gG) (z03) (f_t) (enS 13 ts))
end G
namespace G
open PySem L2 PV
noncomputable abbrev scr (ns:List Int):T:= .fz (ns.map T.int)
theorem X9 (ns:List Int)(k:Int)(h0:0<=k):∃c,gr [scr ns,.int k]= .ok (.int c):=by
 have e1:gr [scr ns,.int k]=zA (if decide (k < ((ns.map T.int).length))=true then (atT (ns.map T.int) k).s (λt=> .rt t) else
   match (eqC (scr ns) (.lst [])).s (λb=>if b=true then RS.rt (.int 0) else .nx [.vl (scr ns),.vl (.int k)]) with
   | .nx ρ' =>zF (zd zG (zd Z4 (zd ixT (vE 0) (zd jS (vE 1) (ap1 Zp (vB 0)))) (cE (.int 31))) (vE 1)) ρ'
   | r=>r):=by
  show zA (match (if decide _=true then (atT _ k).s (λt=>RS.rt t) else .nx _) with
   | .nx ρ' =>_
   | r=>r)=_
  cases decide (k < ((ns.map _).length:Int)) with
  | true=>
   unfold atT;cases atI _ k <;> rfl
  | false=>rfl
 rw[e1,aa]
 by_cases hk:k < (ns.length)
 ·obtain⟨v,hv⟩:∃v,ns[k.toNat]? =some v:=⟨ns[k.toNat]'(by omega),ah (by omega)⟩
  have ea:atI (ns.map T.int) k=some (.int v):=by
   have:k=((k.toNat):Int):=by omega
   rw[this];exact j3 (by rw[ay,hv];rfl)
  rw[decide_eq_true hk];exact⟨v,by unfold atT;rw[ea];rfl⟩
 ·rw[decide_eq_false hk];cases ns with
  | nil=>exact⟨0,rfl⟩
  | cons x xs=>
   have hm0:=iA k (show (((x :: xs).length):Int) ≠ 0 by simp only[ag];omega)
   have hm1:=fN k (show (0) < (((x :: xs).length):Int) by simp only[ag];omega)
   obtain⟨v,hv⟩:∃v,(x :: xs)[(k % (((x :: xs).length):Int)).toNat]? =some v:=⟨_,ah (by omega)⟩
   have ea:atI ((x :: xs).map T.int) (k % (((x :: xs).length):Int))=some (.int v):=by
    have e:k % (((x :: xs).length):Int)=(((k % (((x :: xs).length):Int)).toNat:Nat):Int):=by omega
    rw[e];exact j3 (by rw[ay,hv];rfl)
   have cm:ud v 31:= .inr ⟨by decide,by decide⟩
   have hp:(0:Int) < (((x :: xs).map T.int).length):=by simp only[aa,ag];omega
   refine⟨v*31+k, ?_⟩;show zA (((((if 0 < (((x :: xs).map _).length:Int) then R.ok _ else .bad).bind λy=>ixT _ y).bind λa=>Z4 a _).bind λa=>zG a _).s λt=> .rt t)=_
   rw[if_pos hp];show zA ((((atT _ _).bind λa=>Z4 a _).bind λa=>zG a _).s λt=> .rt t)=_;rw[aa];unfold atT;rw[ea];show zA ((((if ud v 31 then R.ok _ else .bad)).bind λa=>zG a _).s λt=> .rt t)=_
   rw[if_pos cm];rfl
theorem zR (ns:List Int)(k m:Int)(h0:0<=k)(hm:0 < m):∃p,f_1 [scr ns,.int k,.int m]= .ok (.int p)/\0<=p/\p < m:=by
 obtain⟨c,hc⟩:=X9 ns k h0;have cm2:ud (c+6151*(k+1)) 40692:= .inr ⟨by decide,by decide⟩
 generalize hd:(c+6151*(k+1))*40692 % 2147483399=d;have cm3:ud d d:= .inl ⟨by omega,by omega⟩
 refine⟨(d*d+d / 31) % 2147483629 % m, ?_,iA _ (by omega),fN _ hm⟩
 have e1:f_1 [scr ns,.int k,.int m]=zA (match ((((((gr _).bind λx=>(Z4 (.int 6151) (.int _)).bind λy=>zG x y).bind λx=>Z4 x _).bind λx=>jS x _)).s λt=>RS.nx _) with
   | .nx ρ' =>zF _ ρ'
   | r=>r):=rfl
 rw[e1,hc];show zA (match ((((if ud _ _ then R.ok _ else .bad)).bind λx=>jS x _).s λt=>RS.nx _) with
   | .nx ρ' =>_
   | r=>r)=_
 rw[if_pos cm2];show zA (zF _ _)=_;rw[hd];show zA (((((if ud d d then R.ok _ else .bad).bind λx=>zG x _).bind λx=>jS x _).bind λx=>jS x _).s λt=>RS.rt t)=_
 rw[if_pos cm3];show zA ((if 0 < m then R.ok _ else .bad).s λt=>RS.rt t)=_
 rw[if_pos hm];rfl
theorem YM:∀(ts:List T) (ρ:En) (x:Sl),zQ (zJ 0) ft fe ts (ρ.set 0 x)=zQ (zJ 0) ft fe ts ρ
 | [],_,_=>rfl
 | t :: ts,ρ,x=>by
  unfold zQ zJ;rw[f6]
theorem j9 {p:T->Bool}{h:T->T}:∀(ts:List T) (ρ:En),(∀t∈ts,ft (ρ.set 0 (.vl t))= .ok (p t)/\(p t=true->fe (ρ.set 0 (.vl t))= .ok (h t)))->zQ (zJ 0) ft fe ts ρ= .ok ((ts.filter p).map h)
 | [],_,_=>rfl
 | t :: ts,ρ,H=>by
  obtain⟨h1,h2⟩:=H t am;have ih:=j9 ts ρ λu hu=>H u (ac _ hu);have e:zQ (zJ 0) ft fe (t :: ts) ρ=(ft _).bind λk=>if k=true then (fe _).bind λv=>(zQ _ ft fe ts _).bind λvs=> .ok _ else zQ _ ft fe ts _:=rfl
  rw[e,h1,YM,ih];show (if p t=true then _ else _)=_
  cases hp:p t with
  | true=>rw[h2 hp,List.filter_cons_of_pos hp];rfl
  | false=>rw[if_neg aA,List.filter_cons_of_neg (by rw[hp];exact aA)]
theorem YN {h:T->T}(ts:List T)(ρ:En)(H:∀t∈ts,fe (ρ.set 0 (.vl t))= .ok (h t)):zQ (zJ 0) Zk fe ts ρ= .ok (ts.map h):=by
 have:=j9 (ft:=Zk) ts ρ λt ht=>⟨rfl,λ_=>H t ht⟩;rw[this,List.filter_eq_self.mpr (λ_ _=>rfl)]
theorem Zc {h:T->T}{js:List Nat}(ts:List T)(hl:ts.length<=bnd)(H:∀t∈ts,fe ((WB k js ρ).set 0 (.vl t))= .ok (h t)):zH (zJ 0) Zk fe k js ρ ts= .ok (ts.map h):=by
 unfold zH;rw[if_pos hl,YN ts _ H];rfl
theorem Jl (p:T->Bool):∀ts:List T,uf (ts.map λt=>T.bl (p t))=some (ts.all p)
 | []=>rfl
 | t :: ts=>by
  show (match uf (ts.map λt=>T.bl _) with | some j=>some _ | none=>none)=_
  rw[Jl p ts];rfl
noncomputable def isW:T->Bool
 | .int _=>true
 | _=>false
theorem Uc (t:T):f_f [t]= .ok (.bl (isW t)):=by cases t <;> rfl
noncomputable def vm (a b:Nat):T->Bool
 | .tup xs=>decide (a<=xs.length) && decide (xs.length<=b)
 | _=>false
theorem jw (t:T)(a b:Nat):f_j [t,.int a,.int b]= .ok (.bl (vm a b t)):=by
 cases t with
 | tup xs=>
  show zA ((if decide _=true then R.ok _ else .ok _).s λt=> .rt t)=_
  have e1:decide ((a:Int)<=(xs.length))=decide (a<=xs.length):=by simp
  have e2:decide ((xs.length:Int)<=(b))=decide (xs.length<=b):=by simp
  rw[e1,e2];show _=R.ok (T.bl (decide _ && decide _));cases decide (a<=xs.length) <;> rfl
 | _=>rfl
noncomputable def J8 (lo hi:Int):T->T->Bool
 | .int i,.int j=>decide (lo<=i) && decide (i<=j) && decide (j<=hi)
 | _,_=>false
theorem YO (t u:T)(lo hi:Int):GP [t,u,.int lo,.int hi]= .ok (.bl (J8 lo hi t u)):=by
 cases t with
 | int i=>
  cases u with
  | int j=>
   show zA ((if decide _=true then (if decide _=true then R.ok _ else .ok _) else .ok _).s λt=> .rt t)=_
   show _=R.ok (T.bl (decide _ && decide _ && decide _));cases decide (lo<=i) <;> cases decide (i<=j) <;> rfl
  | _=>rfl
 | _=>cases u <;> rfl
noncomputable def Zs (c:Nat):Bool:=decide (97<=c) && decide (c<=122)
def Zl:T->Bool
 | .str x=>decide (1<=x.length) && decide (x.length<=3) && x.cps.toList.all Zs
 | _=>false
theorem Vk (a b:Nat):decide ([a] < [b])=decide (a < b):=by
 by_cases h:a < b
 ·rw[decide_eq_true h];exact decide_eq_true (List.Lex.rel h)
 ·rw[decide_eq_false h];refine decide_eq_false λz=> ?_;cases z with
  | rel h' =>exact h h'
  | cons h' =>cases h'
theorem Xa (c:Nat)(ρ:En):chE leC leC (cE (.str "a")) (vB 0) (cE (.str "z")) ((Sl.vl (.str ⟨#[c]⟩)) :: ρ)= .ok (.bl (Zs c)):=by
 have e1:leC (.str "a") (.str ⟨#[c]⟩)= .ok (decide (97<=c)):=by
  show R.ok (!decide ([c] < [97]))=_;rw[Vk]
  by_cases h:c < 97
  ·rw[decide_eq_true h,decide_eq_false (by omega)];rfl
  ·rw[decide_eq_false h,decide_eq_true (by omega)];rfl
 have e2:leC (.str ⟨#[c]⟩) (.str "z")= .ok (decide (c<=122)):=by
  show R.ok (!decide ([122] < [c]))=_;rw[Vk]
  by_cases h:122 < c
  ·rw[decide_eq_true h,decide_eq_false (by omega)];rfl
  ·rw[decide_eq_false h,decide_eq_true (by omega)];rfl
 show (leC (.str "a") (.str _)).bind (λk=>if k=true then (leC (.str _) (.str "z")).bind λk' =>R.ok (T.bl k') else R.ok _)=_
 rw[e1,e2];unfold Zs;cases decide (97<=c) <;> rfl
def Xb:T->Prop
 | .str x=>x.length<=bnd
 | _=>True
theorem YQ (t:T)(ht:Xb t):f_s [t]= .ok (.bl (Zl t)):=by
 cases t with
 | str x=>
  have hx:=ht;have e0:Zp (.str x)= .ok _:=if_pos hx;have ec:zH (zJ 0) Zk (chE leC leC (cE (.str "a")) (vB 0) (cE (.str "z"))) 1 [] [.vl (.str x)] (JC x)= .ok (x.cps.toList.map λc=>T.bl (Zs c)):=by
   have hs:(JC x).length<=bnd:=by unfold JC;rw[aa];exact hx
   have:=Zc (h:=λt=>match t with | .str y=>T.bl (Zs (y.cps.toList.headD 0)) | t=>t) (k:=1) (js:=[]) (ρ:=[.vl (.str x)]) _ hs λt ht=>by
    obtain⟨c,_,rfl⟩:=aN.mp ht;exact Xa c []
   rw[this];unfold JC;rw[bG];rfl
  have ea:uf (x.cps.toList.map λc=>T.bl (Zs c))=some (x.cps.toList.all Zs):=by
   have:=Jl (λt=>match t with | .str y=>Zs (y.cps.toList.headD 0) | _=>true) (JC x)
   unfold JC at this;rw[bG,fY]at this;exact this
  have e1:f_s [.str x]=zA (match ((((Zp (.str x)).bind λy=>(leC _ y).bind λk=>if k=true then leC y _ else .ok _).bind λb=> .ok _).s λk=>if k=true then RS.rt _ else .nx _) with
    | .nx ρ' =>zF _ ρ'
    | r=>r):=rfl
  rw[e1,e0];have c1:decide ((1:Int)<=(x.length))=decide (1<=x.length):=by
   by_cases h:1<=x.length
   ·rw[decide_eq_true h];exact decide_eq_true (by omega)
   ·rw[decide_eq_false h];exact decide_eq_false (by omega)
  have c2:decide ((x.length:Int)<=(3))=decide (x.length<=3):=by
   by_cases h:x.length<=3
   ·rw[decide_eq_true h];exact decide_eq_true (by omega)
   ·rw[decide_eq_false h];exact decide_eq_false (by omega)
  show zA (match ((((if decide _=true then R.ok _ else .ok _)).bind λb=> .ok _).s λk=>if k=true then RS.rt _ else .nx _) with
    | .nx ρ' =>_
    | r=>r)=_
  rw[c1,c2];show _=R.ok (T.bl (decide _ && decide _ && x.cps.toList.all _));cases decide (1<=x.length) with
  | false=>rfl
  | true=>
   cases decide (x.length<=3) with
   | false=>rfl
   | true=>
    show zA ((((zH _ _ _ 1 [] [.vl _] _).bind λvs=> .ok _).bind xr).s λt=> .rt t)=_;rw[ec];show zA ((match uf (x.cps.toList.map λc=>T.bl _) with | some k=>R.ok _ | none=> .bad).s λt=> .rt t)=_
    rw[ea];rfl
 | _=>rfl
theorem bOk {α β:Type}(a:α)(f:α->R β):(R.ok a).bind f=f a:=rfl
theorem ZO {α:Type}(a:α)(f:α->RS):(R.ok a).s f=f a:=rfl
theorem J9 (r:R T):zA (r.s λt=> .rt t)=r:=by cases r <;> rfl
theorem Zh (f:En->R T)(ρ:En):zF f ρ=(f (frz ρ)).s λt=> .rt t:=rfl
theorem zW:za 1 g (z9 f zj) ρ=(f ρ).bind λx=>g [x]:=by
 unfold za z9 zj;cases f ρ <;> rfl
theorem Z5:za 2 g (z9 f (z9 f' zj)) ρ=(f ρ).bind λx=>(f' ρ).bind λy=>g [x,y]:=by
 unfold za z9 zj;cases f ρ with
 | ok a=>cases f' ρ <;> rfl
 | ex c=>rfl
 | bad=>rfl
theorem Zq:za 3 g (z9 f (z9 f' (z9 f'' zj))) ρ=(f ρ).bind λx=>(f' ρ).bind λy=>(f'' ρ).bind λz=>g [x,y,z]:=by
 unfold za z9 zj;cases f ρ with
 | ok a=>
  cases f' ρ with
  | ok b=>cases f'' ρ <;> rfl
  | ex c=>rfl
  | bad=>rfl
 | ex c=>rfl
 | bad=>rfl
theorem z1J:za 4 g (z9 f (z9 f' (z9 f'' (z9 f3 zj)))) ρ=(f ρ).bind λx=>(f' ρ).bind λy=>(f'' ρ).bind λz=>(f3 ρ).bind λw=>g [x,y,z,w]:=by
 unfold za z9 zj;cases f ρ with
 | ok a=>
  cases f' ρ with
  | ok b=>
   cases f'' ρ with
   | ok c=>cases f3 ρ <;> rfl
   | ex c=>rfl
   | bad=>rfl
  | ex c=>rfl
  | bad=>rfl
 | ex c=>rfl
 | bad=>rfl
def z04 (r k:R T):R T:=r.bind λx=>match x with
 | .bl true=>k
 | .bl false=> .ok (.bl false)
 | _=> .bad
theorem wy (f g:En->R T)(ρ:En):jr f g ρ=z04 (f ρ) (g ρ):=rfl
theorem ZJ (a:Bool)(k:R T):z04 (.ok (.bl a)) k=if a=true then k else .ok (.bl false):=by cases a <;> rfl
theorem v0:vE 0 (.vl t :: ρ)= .ok t:=rfl
theorem v1:vE 1 (a :: .vl t :: ρ)= .ok t:=rfl
theorem w0:vB 0 (.vl t :: ρ)= .ok t:=rfl
theorem w1:vB 1 (a :: .vl t :: ρ)= .ok t:=rfl
theorem zV:cE t ρ= .ok t:=rfl
theorem zv:zd g f f' ρ=(f ρ).bind λx=>(f' ρ).bind λy=>g x y:=rfl
theorem ja:frz (.vl t :: ρ)= .vl t :: frz ρ:=rfl
theorem W4:frz (.un :: ρ)= .un :: frz ρ:=rfl
theorem jx:frz []=[]:=rfl
theorem vn:chE g g' fa fb fc ρ=(fa ρ).bind λx=>(fb ρ).bind λy=>(g x y).bind λk=>if k=true then (fc ρ).bind λz=>(g' y z).bind λk' => .ok (.bl k') else .ok (.bl false):=rfl
theorem ZX {g:T->R T}:ap1 g f ρ=(f ρ).bind g:=rfl
theorem WM:leC (.int i) (.int j)= .ok (decide (i<=j)):=rfl
theorem Zi:ZS g f f' ρ=(f ρ).bind λx=>(f' ρ).bind λy=>(g x y).bind λb=> .ok (.bl b):=rfl
theorem uz:Zp (.tup xs)= .ok (.int xs.length):=rfl
theorem gI:Zp (.lst xs)= .ok (.int xs.length):=rfl
mutual
noncomputable def sOk:T->Prop
 | .str x=>x.length<=bnd
 | .tup xs=>Ud xs
 | .lst xs=>Ud xs
 | .fz xs=>Ud xs
 | _=>True
noncomputable def Ud:List T->Prop
 | []=>True
 | t :: ts=>sOk t/\Ud ts
end
theorem jJ:∀{ts:List T} {t:T},Ud ts->t∈ts->sOk t
 | u :: ts,t,h,hm=>by
  have h' :=by simpa only[Ud] using h
  rcases ak.mp hm with rfl | hm
  ·exact h'.1
  ·exact jJ h'.2 hm
theorem sOk.str (h:sOk t):Xb t:=by
 cases t with
 | str x=>
  have h' :=by simpa only[sOk] using h
  exact h'
 | _=>trivial
theorem W5 {xs:List T}(h:sOk (.tup xs)):Ud xs:=by simpa only[sOk] using h
def Z0:T->Bool
 | .tup [w,.int i]=>Zl w && decide (1<=i) && decide (i<=20)
 | _=>false
theorem YR (t:T)(ht:sOk t):gv [t]= .ok (.bl (Z0 t)):=by
 have e:gv [t]=zA (GQ _ _ _ [.vl t]):=rfl;rw[e,GQ];simp only[Zh,J9,ja,jx,wy,Zq,zW,v0,zV,bOk,zv,vn];rw[show f_j [t,.int 2,.int 2]= .ok _ from jw t 2 2,ZJ];cases t with
 | tup xs=>
  match xs,ht with
  | [],_=>rfl
  | [_],_=>rfl
  | _ :: _ :: _ :: _,_=>simp[vm,Z0]
  | [w,n],ht=>
   have hw:sOk w:=jJ (W5 ht) (by simp)
   show (if true=true then z04 (f_s [w]) (z04 (f_f [n]) ((leC _ n).bind λk=>if k=true then (leC n _).bind λk' =>R.ok _ else .ok _)) else _)=_
   rw[YQ w hw.str,Uc,ZJ,ZJ];cases n with
   | int i=>
    show (if Zl w=true then (if true=true then (if decide _=true then R.ok _ else .ok _) else _) else _)=R.ok (T.bl (Zl w && decide _ && decide _))
    cases Zl w <;> cases decide (1<=i) <;> rfl
   | _=>
    cases Zl w <;> rfl
 | _=>rfl
theorem Z3 (f g:En->RS)(ρ:En):zB f g ρ=match f ρ with | .nx ρ' =>g ρ' | r=>r:=rfl
theorem ZY (g:En->R Bool)(f1 f2:En->RS)(ρ:En):ifS g f1 f2 ρ=(g ρ).s λk=>if k=true then f1 ρ else f2 ρ:=rfl
theorem YS (f g:En->R Bool)(ρ:En):orT f g ρ=(f ρ).bind λx=>if x=true then .ok true else g ρ:=rfl
theorem Ue (f:En->R Bool)(ρ:En):ue f ρ=(f ρ).bind λx=> .ok (!x):=rfl
theorem WN (f:En->R T)(ρ:En):Jk f ρ=(f ρ).bind tru:=rfl
theorem YT (k:Bool):tru (.bl k)= .ok k:=rfl
theorem JJ (i:Nat)(f:En->R T)(ρ:En):zP i f ρ=(f ρ).s λt=> .nx (ρ.set i (.vl t)):=rfl
theorem zN:zD g f f' ρ=(f ρ).bind λx=>(f' ρ).bind λy=>g x y:=rfl
theorem Z2 {g:T->En->R En}{js:List Nat}:Z1 fi g ft fe k js ρ=(fi ρ).bind λts=>(zH g ft fe k js ρ ts).bind λvs=> .ok (.lst vs):=rfl
theorem jb:ZU f ρ=(f ρ).bind JD:=rfl
noncomputable def ZR:T->Str
 | .tup (.str w :: _)=>w
 | _=>⟨#[]⟩
def Uf:T->Bool
 | .tup cs=>decide (1<=cs.length) && decide (cs.length<=4) && cs.all Z0 && decide ((dd [] (cs.map ZR)).length=cs.length)
 | _=>false
theorem WO (h:Z0 c=true):∃w n,c= .tup [.str w,n]:=by
 unfold Z0 at h;split at h
 ·rename_i w i;cases w with
  | str x=>exact⟨x,_,rfl⟩
  | _=>cases h
 ·cases h
theorem wz:∀{cs:List T},cs.all Z0=true->yo (cs.map λc=>T.str (ZR c))=some (cs.map ZR)
 | [],_=>rfl
 | c :: cs,h=>by
  rw[cY,ae]at h;have ih:=wz h.2;show (match yo (cs.map λc=>T.str _) with | some ys=>some _ | none=>none)=_
  rw[ih];rfl
theorem y9 (t:T)(ht:sOk t):gw [t]= .ok (.bl (Uf t)):=by
 have e:gw [t]=zA (GR _ _ [.vl t,.un]):=rfl;rw[e,GR];simp only[Z3,ZY,YS,Ue,WN,Zq,v0,zV,bOk];rw[show f_j [t,.int 1,.int 4]= .ok _ from jw t 1 4];cases t with
 | tup cs=>
  have hl:vm 1 4 (.tup cs)=(decide _ && decide _):=rfl;rw[hl];show _=R.ok (T.bl (decide _ && decide _ && cs.all _ && decide _));cases h14:(decide (1<=cs.length) && decide (cs.length<=4)) with
  | false=>rfl
  | true=>
   rw[ae,decide_eq_true_eq,decide_eq_true_eq]at h14;have hb:cs.length<=bnd:=aD h14.2 (by decide)
   have ec:zH _ _ (za 1 gv (z9 (vE 0) zj)) 1 [] [.vl (.tup cs),.un] cs= .ok (cs.map λc=>T.bl _):=
    Zc cs hb λc hc=>by
     exact YR c (jJ (W5 ht) hc)
   simp only[eA,aW,if_false,ZX,Z2,jb,v0,bOk,JD,ec];have ea:xr (.lst (cs.map λc=>T.bl (Z0 c)))= .ok (.bl (cs.all Z0)):=by
    show (match uf (cs.map λc=>T.bl _) with | some k=>R.ok _ | none=> .bad)=_
    rw[Jl]
   rw[ea];simp only[bOk,YT,ZO];cases hall:cs.all _ with
   | false=>rfl
   | true=>
    have ew:zH _ _ (zd ixT (vE 0) (cE (.int 0))) 1 [] [.vl (.tup cs),.un] cs= .ok (cs.map λc=>T.str (ZR c)):=
     Zc cs hb λc hc=>by
      obtain⟨w,n,rfl⟩:=WO (aT.mp hall c hc);rfl
    simp only[eA,aW,if_false,nxS,JJ,Z2,jb,v0,bOk,JD,ew,ZO,Zh];show zA (((QO (.lst (cs.map λc=>T.str _))).bind λx=>(Zp (.lst (cs.map λc=>T.str _))).bind λy=>(eqC x y).bind λb=>R.ok _).s λt=> .rt t)=_;have el:QO (.lst (cs.map λc=>T.str (ZR c)))= .ok (.int (dd [] (cs.map ZR)).length):=by
     show (match yo (cs.map λc=>T.str _) with | some ys=>if (cs.map λc=>T.str _).length+1 < 4096 then R.ok _ else .bad | none=> .bad)=_
     rw[wz hall];exact if_pos (by rw[aa];omega)
    rw[el,gI,aa];show R.ok _=_;congr 2
    by_cases hq:(dd [] (cs.map ZR)).length=cs.length
    ·rw[hq];simp
    ·rw[decide_eq_false hq];simp only[fI,beq_eq_false_iff_ne];omega
 | _=>rfl
noncomputable def isS (w:Str):T->Bool
 | .str s=>s == w
 | _=>false
theorem eqS (h:T)(w:Str):eqC h (.str w)= .ok (isS w h):=by cases h <;> rfl
theorem eqI (i j:Int):eqC (.int i) (.int j)= .ok (i == j):=rfl
theorem at0:ixT (.tup (h :: r)) (.int 0)= .ok h:=by
 show atT _ 0=_;unfold atT;rw[show atI _ 0=some h from j3 rfl]
theorem at1:ixT (.tup (h :: a :: r)) (.int 1)= .ok a:=by
 show atT _ 1=_;unfold atT;rw[show atI _ 1=some a from j3 rfl]
theorem at2:ixT (.tup (h :: a :: b :: r)) (.int 2)= .ok b:=by
 show atT _ 2=_;unfold atT;rw[show atI _ 2=some b from j3 rfl]
theorem at3:ixT (.tup (h :: a :: b :: c :: r)) (.int 3)= .ok c:=by
 show atT _ 3=_;unfold atT;rw[show atI _ 3=some c from j3 rfl]
noncomputable def JK (k:T->Bool):T->Bool
 | .tup ks=>decide (1<=ks.length) && decide (ks.length<=3) && ks.all k
 | _=>false
def WP:List T->Bool
 | [a,b]=>J8 (-20) 20 a b
 | _=>false
def YU:List T->Bool
 | [c]=>Uf c
 | _=>false
def gJ (k:T->Bool):List T->Bool
 | [c]=>JK k c
 | _=>false
def YV (k:T->Bool):List T->Bool
 | [c,a,b]=>J8 0 3 a b && k c
 | _=>false
def ya (k:T->Bool):T->Bool
 | .tup (h :: r)=>if isS "whole" h=true then WP r else if isS "pick" h=true then YU r else if isS "row" h=true then gJ k r else if isS "many" h=true then YV k r else false
 | _=>false
def isK:Nat->T->Bool
 | 0,_=>false
 | d+1,t=>ya (isK d) t
theorem YW {α:Type}(xs:List α)(n:Nat):((xs.length:Int) == (n:Int))=decide (xs.length=n):=by
 by_cases h:xs.length=n
 ·rw[h];simp
 ·rw[decide_eq_false h,beq_eq_false_iff_ne];omega
theorem Vl:Jd f ρ=(f ρ).bind λx=>match x with | .int i=> .ok (.int (-i)) | _=> .bad:=rfl
theorem Zm:jM (.int i) (.int j)= .ok (.int (i - j)):=rfl
set_option maxHeartbeats 1000000 in
theorem Xc {n:Nat}{d:Nat}{k:T->Bool}(H0:∀t,sOk t->S_7 n 0 [t,.int d]= .ok (.bl (k t)))(H1:∀t,sOk t->S_7 n 1 [t,.int d]= .ok (.bl (JK k t)))(t:T)(ht:sOk t):
  S_7 (n+1) 0 [t,.int ((d+1:Nat):Int)]= .ok (.bl (ya k t)):=by
 have e:S_7 (n+1) 0 [t,.int ((d+1:Nat))]=zA (b_7 GP _ gw _ [.vl t,.vl (.int _)]):=rfl;have hL:(((d+1:Nat):Int) == 0)=false:=by rw[beq_eq_false_iff_ne];omega
 have hL1:((d+1:Nat)) - 1=(d:Int):=by omega
 rw[e,b_7];simp only[Z3,ZY,YS,Ue,WN,zN,w0,w1,zV,bOk,eqI,hL,aW,if_false,ZX];cases t with
 | tup xs=>
  cases xs with
  | nil=>rfl
  | cons h r=>
   have hs:=W5 ht;have hm:∀u∈r,sOk u:=λu hu=>jJ hs (ac _ hu);have z0:(((h :: r).length:Int) == 0)=false:=by rw[beq_eq_false_iff_ne];simp only[ag];omega
   have ti:Wj "tuple" (.tup (h :: r))= .ok (.bl true):=rfl;simp only[ti,bOk,YT,eA,aW,if_false,uz,eqI,z0,ZO,nxS,zv,v0,v1,zV,at0,eqS,Zh,ja,jx,wy,Zi,ZX,w0,z1J,zW,Z5,Vl,Zm,hL1];show _=R.ok (T.bl (if isS "whole" h=true then WP r else if isS "pick" h=true then YU r else if isS "row" h=true then gJ k r else if isS "many" h=true then YV k r else false))
   have l3:(((h :: r).length:Int) == 3)=decide _:=YW (h :: r) 3;have l2:(((h :: r).length:Int) == 2)=decide _:=YW (h :: r) 2;have l4:(((h :: r).length:Int) == 4)=decide _:=YW _ 4;simp only[l2,l3,l4,ZJ];cases isS _ h with
   | true=>
    match r,hm with
    | [],_=>rfl
    | [_],_=>rfl
    | _ :: _ :: _ :: _,_=>simp[WP,ZO,zA]
    | [a,b],_=>
     simp only[at1,at2,bOk,YO];rfl
   | false=>
    simp only[aW,if_false,v0,v1,w0,bOk,at0,ZO,ja,jx,uz,eqI,l2,l4,ZJ,Zm,hL1];cases isS _ h with
    | true=>
     match r,hm with
     | [],_=>rfl
     | _ :: _ :: _,_=>simp[YU,ZO,zA]
     | [c],hm=>
      simp only[at1,bOk,y9 c (hm c (by simp))]
      rfl
    | false=>
     simp only[aW,if_false,v0,v1,w0,bOk,at0,ZO,ja,jx,uz,eqI,l2,l4,ZJ,Zm,hL1];cases isS _ h with
     | true=>
      match r,hm with
      | [],_=>rfl
      | _ :: _ :: _,_=>simp[gJ,ZO,zA]
      | [c],hm=>
       simp only[at1,bOk,H1 c (hm c (by simp))]
       rfl
     | false=>
      simp only[aW,if_false,v0,v1,w0,bOk,at0,ZO,ja,jx,uz,eqI,l2,l4,ZJ,Zm,hL1];cases isS _ h with
      | true=>
       match r,hm with
       | [],_=>rfl
       | [_],_=>rfl
       | [_,_],_=>rfl
       | _ :: _ :: _ :: _ :: _,_=>simp[YV,ZO,zA]
       | [c,a,b],hm=>
        simp only[at1,at2,at3,bOk,YO,H0 c (hm c (by simp)),ZJ]
        show zA (match (if J8 0 3 a b=true then R.ok _ else .ok _).s (λt=>RS.rt t) with | .nx _=>RS.rt _ | r=>r)=R.ok (T.bl (J8 0 3 a b && k c))
        cases J8 0 3 a b <;> rfl
      | false=>rfl
 | _=>rfl
theorem gK {k:T->Bool}(H0:∀t,sOk t->S_7 n 0 [t,.int d]= .ok (.bl (k t)))(t:T)(ht:sOk t):S_7 (n+1) 1 [t,.int d]= .ok (.bl (JK k t)):=by
 have e:S_7 (n+1) 1 [t,.int d]=zA (GS f_j (S_7 n 0) [.vl t,.vl (.int d)]):=rfl;rw[e,GS];simp only[Zh,J9,ja,jx,wy,Zq,v0,zV,bOk];rw[show f_j [t,.int 1,.int 3]= .ok (.bl (vm 1 3 t)) from jw t 1 3,ZJ];cases t with
 | tup ks=>
  show (if (decide (1<=ks.length) && decide (ks.length<=3))=true then _ else _)=R.ok (T.bl (decide (1<=ks.length) && decide (ks.length<=3) && ks.all k))
  cases h13:(decide (1<=ks.length) && decide (ks.length<=3)) with
  | false=>rfl
  | true=>
   rw[ae,decide_eq_true_eq,decide_eq_true_eq]at h13;have hb:ks.length<=bnd:=aD h13.2 (by decide)
   have ec:zH (zJ 0) Zk (za 2 (S_7 n 0) (z9 (vE 0) (z9 (vE 1) zj))) 1 [1] [.vl (.tup ks),.vl (.int d)] ks= .ok (ks.map λc=>T.bl (k c)):=
    Zc (h:=λc=>T.bl (k c)) ks hb λc hc=>by
     show za 2 (S_7 n 0) (z9 (vE 0) (z9 (vE 1) zj)) [.vl c,.vl (.int d)]=_;rw[Z5,v0,v1,bOk,bOk];exact H0 c (jJ (W5 ht) hc)
   simp only[if_true,ZX,Z2,jb,v0,bOk,JD,ec];show (match uf (ks.map λc=>T.bl (k c)) with | some k=>R.ok (T.bl k) | none=> .bad)=_
   rw[Jl];rfl
 | _=>rfl
theorem uA:∀(d n:Nat),2*d+1<=n->∀t,sOk t->S_7 n 0 [t,.int d]= .ok (.bl (isK d t))
 | 0,n+1,_,t,_=>rfl
 | d+1,n+2,h,t,ht=>Xc (n:=n+1) (λu hu=>uA d (n+1) (by omega) u hu) (λu hu=>gK (λv hv=>uA d n (by omega) v hv) u hu) t ht
theorem yb (t:T)(ht:sOk t):f_3 [t]= .ok (.bl (isK 3 t)):=by
 have e:f_3 [t]=zA (b_3 (f_7 20) [.vl t]):=rfl;rw[e,b_3];simp only[Zh,J9,ja,jx,Z5,v0,zV,bOk];exact uA 3 20 (by omega) t ht
noncomputable def inR (lo hi:Int):T->Bool
 | .int i=>decide (lo<=i) && decide (i<=hi)
 | _=>false
theorem gL (xs:List T):eqC (.lst xs) (.lst [])= .ok xs.isEmpty:=by cases xs <;> rfl
theorem WQ:∀(ws acc:List Str),(dd acc ws).length<=acc.length+ws.length
 | [],acc=>ai _
 | w :: ws,acc=>by
  unfold dd;have:=WQ ws (if w∈acc then acc else acc++[w])
  by_cases h:w∈acc
  ·rw[if_pos h]at this ⊢;simp only[ag];omega
  ·rw[if_neg h]at this ⊢;rw[av,aF]at this;simp only[ag];omega
theorem W6:∀(ws acc:List Str),((dd acc ws).length=acc.length+ws.length)↔∀(k:Nat) (w:Str),ws[k]? =some w->w ∉ acc++ws.take k
 | [],acc=>by simp[dd]
 | w :: ws,acc=>by
  unfold dd
  by_cases h:w∈acc
  ·rw[if_pos h];have:=WQ ws acc;constructor
   ·intro e;simp only[ag]at e;omega
   ·intro H;exact absurd (bY _ h) (H 0 w rfl)
  ·rw[if_neg h];have ih:=W6 ws (acc++[w]);rw[av,aF]at ih;rw[show acc.length+(w :: ws).length=acc.length+1+ws.length by simp only[ag];omega,ih]
   constructor
   ·intro H k v e;cases k with
    | zero=>simp at e;subst e;simpa using h
    | succ k=>
     have:=H k v (by simpa using e)
     simpa[aX] using this
   ·intro H k v e;have:=H (k+1) v (by simpa using e)
    simpa[aX] using this
theorem ltI (i j:Int):ltC (.int i) (.int j)= .ok (decide (i < j)):=rfl
theorem v2 {t:T}{a b:Sl}{ρ:En}:vE 2 (a :: b :: .vl t :: ρ)= .ok t:=rfl
theorem v3 {t:T}{a b c:Sl}{ρ:En}:vE 3 (a :: b :: c :: .vl t :: ρ)= .ok t:=rfl
theorem w2 {t:T}{a b:Sl}{ρ:En}:vB 2 (a :: b :: .vl t :: ρ)= .ok t:=rfl
theorem w3 {t:T}{a b c:Sl}{ρ:En}:vB 3 (a :: b :: c :: .vl t :: ρ)= .ok t:=rfl
theorem w5 {t:T}{a b c d e:Sl}{ρ:En}:vB 5 (a :: b :: c :: d :: e :: .vl t :: ρ)= .ok t:=rfl
theorem v4 {t:T}{a b c d:Sl}{ρ:En}:vE 4 (a :: b :: c :: d :: .vl t :: ρ)= .ok t:=rfl
theorem Xd (f g:En->R Bool)(ρ:En):kT f g ρ=(f ρ).bind λx=>if x=true then g ρ else .ok false:=rfl
theorem Ug (w:Str):∀ws:List Str,Wi (λy=>eqF 30 y (.str w)) (ws.map T.str)=some (decide (w∈ws))
 | []=>rfl
 | x :: ws=>by
  have ih:=Ug w ws;show (match Wi (λy=>eqF 30 y (.str w)) (ws.map T.str) with | none=>none | some c=>some ((x == w) || c))=_
  rw[ih];show some ((x == w) || decide (w∈ws))=_
  congr 1
  by_cases h:x=w
  ·subst h;simp
  ·have h' :¬ w=x:=λz=>h z.symm;simp[h,h']
theorem gtI (i j:Int):gtC (.int i) (.int j)= .ok (decide (i > j)):=rfl
theorem Z8 (i j:Int):zG (.int i) (.int j)= .ok (.int (i+j)):=rfl
theorem gN (p:Int)(h0:0<=p)(h1:p < 26):ixT (.str "abcdefghijklmnopqrstuvwxyz") (.int p)= .ok (.str ⟨#[97+p.toNat]⟩):=by
 obtain⟨n,rfl⟩:=cg h0;have h:n < 26:=by omega
 iterate 26 (refine(Nat.lt_or_eq_of_le (Nat.le_of_lt_succ h)).elim (λh=> ?_) (λe=>e ▸ rfl))
 exact absurd h (f8 _)
abbrev letE:En->R T:=zd ixT (vE 3) (za 3 f_1 (z9 (vE 1) (z9 (zd zG (zd zG (vE 2) (cE (.int 2))) (vE 0)) (z9 (cE (.int 26)) (zj)))))
theorem gP (ns:List Int)(k:Int)(h0:0<=k)(j:Nat):∃c:Nat,(97<=c/\c<=122)/\letE [.vl (.int (j:Int)),.vl (scr ns),.vl (.int k),.vl (.str "abcdefghijklmnopqrstuvwxyz")]= .ok (.str ⟨#[c]⟩):=by
 obtain⟨p,e,p0,p1⟩:=zR ns (k+2+j) 26 (by omega) (by omega)
 refine⟨97+p.toNat,⟨by omega,by omega⟩, ?_⟩
 simp only[letE,zv,v3,bOk,Zq,v1,v2,v0,zV,Z8,e];exact gN p p0 p1
theorem yc (ns:List Int)(k:Int)(h0:0<=k):∃w:Str,f_y [scr ns,.int k]= .ok (.str w)/\Zl (.str w)=true:=by
 have e:f_y [scr ns,.int k]=zA (b_y _ [.vl _,.vl _,.un]):=rfl;obtain⟨p,e0,p0,p1⟩:=zR ns k 6 h0 (by omega)
 have hset:∀t,([Sl.vl (scr ns),Sl.vl (.int k),.un]).set 2 _=[Sl.vl _,Sl.vl _,.vl t]:=λ_=>rfl;rw[e,b_y];simp only[Z3,ZY,JJ,zV,ZO,hset,zN,Zq,v0,v1,bOk,e0,gtI];cases hp:decide (p > 0) with
 | true=>
  obtain⟨q,e1,q0,q1⟩:=zR ns (k+1) 4 (by omega) (by omega)
  simp only[if_true,Zh,ja,jx,zv,Zq,v0,v1,zV,bOk,Z8,e1];have hq:q=0\/q=1\/q=2\/q=3:=by omega
  rcases hq with rfl | rfl | rfl | rfl
  ·exact⟨"a",rfl,by decide⟩
  ·exact⟨"b",rfl,by decide⟩
  ·exact⟨"ab",rfl,by decide⟩
  ·exact⟨"cab",rfl,by decide⟩
 | false=>
  obtain⟨q,e1,q0,q1⟩:=zR ns (k+1) 3 (by omega) (by omega)
  simp only[aW,if_false,nxS,Zh,J9,ja,jx,ZX,Z2];obtain⟨g,hg⟩:=ig.mp (gP ns k h0);have ei:Za (zd zG (cE (.int 1)) (za 3 f_1 (z9 (vE 0) (z9 (zd zG (vE 1) (cE (.int 1))) (z9 (cE (.int 3)) (zj)))))) [Sl.vl (scr ns),Sl.vl (.int k),.vl (.str "abcdefghijklmnopqrstuvwxyz")]= .ok (rng 0 (1+q).toNat):=by
   unfold Za;simp only[zv,Zq,v0,v1,zV,bOk,Z8,e1];rw[if_pos ⟨by omega,by omega⟩]
  have ec:∀n,n<=3->zH _ _ _ 1 [0,1,2] [Sl.vl _,Sl.vl _,.vl _] _= .ok ((rng 0 n).map λt=>match t with | .int j=> .str ⟨#[g j.toNat]⟩ | t=>t):=λn hn=>
   Zc _ (by unfold rng;rw[aa,bE];exact aD hn (by decide)) λt ht=>by
    obtain⟨j,_,rfl⟩:=aN.mp ht;rw[g7];exact(hg j).2
  rw[ei,bOk,ec _ (by omega),bOk]
  have hw:∀j,Zs _=true:=λj=>by
   obtain⟨a,b⟩:=(hg j).1;unfold Zs;rw[decide_eq_true a,decide_eq_true b];rfl
  have hq:q=0\/q=1\/q=2:=by omega
  rcases hq with rfl | rfl | rfl
  ·refine⟨⟨#[g 0]⟩,rfl, ?_⟩;show (Zs _ && true)=true;rw[hw 0];rfl
  ·refine⟨⟨#[g 0,g 1]⟩,rfl, ?_⟩;show (Zs _ && (Zs _ && true))=true;rw[hw 0,hw 1];rfl
  ·refine⟨⟨#[g 0,g 1,g 2]⟩,rfl, ?_⟩;show (Zs _ && (Zs _ && (Zs _ && true)))=true;rw[hw 0,hw 1,hw 2];rfl
theorem z1K (j:Int):Z4 (.int 5) (.int j)= .ok (.int (5*j)):=by
 show (if ud 5 j then R.ok _ else .bad)=_
 rw[if_pos (.inl ⟨by decide,by decide⟩)]
theorem Qg (hf:f ρ= .ok x)(hg:g ρ= .ok y):Zv (z9 f (z9 g zj)) ρ= .ok (.tup [x,y]):=by
 unfold Zv z9 zj;rw[hf,hg];rfl
theorem gQ (hf:f ρ= .ok x)(hg:g ρ= .ok y)(hh:h ρ= .ok z):Zv (z9 f (z9 g (z9 h zj))) ρ= .ok (.tup [x,y,z]):=by
 unfold Zv z9 zj;rw[hf,hg,hh];rfl
theorem tup4 (hf:f ρ= .ok x)(hg:g ρ= .ok y)(hh:h ρ= .ok z)(hi:i ρ= .ok w):Zv (z9 f (z9 g (z9 h (z9 i zj)))) ρ= .ok (.tup [x,y,z,w]):=by
 unfold Zv z9 zj;rw[hf,hg,hh,hi];rfl
noncomputable def Dst (ws:List Str):Prop:=∀(k:Nat) (w:Str),ws[k]? =some w->w ∉ ws.take k
theorem Dst.add (h:Dst ws)(hw:w ∉ ws):Dst (ws++[w]):=λk x hx=>by
 by_cases hk:k < ws.length
 ·rw[ax hk]at hx;rw[List.take_append_of_le_length (by omega)]
  exact h k x hx
 ·rw[au (by omega)]at hx
  have hk' :k=ws.length:=by
   rcases Nat.lt_or_ge (k - ws.length) 1 with z | z
   ·omega
   ·rw[a_ (by simpa using z)]at hx;cases hx
  subst hk';rw[cO]at hx;cases hx;rw[List.take_left']
  ·exact hw
  ·rfl
abbrev WR:En->RS:=zB (zP 5 (za 2 f_y (z9 (vE 0) (z9 (zd zG (zd zG (vE 1) (cE (.int 5))) (zd Z4 (cE (.int 5)) (vE 4))) (zj)))))
  (ifS (zD Qx (vB 5) (vB 3)) (yn 3 (vE 5)) (nxS))
theorem JL (ns:List Int)(k:Int)(h0:0<=k):∀(js:List Nat) (ws:List Str) (x4 x5:Sl),js.length+ws.length<=4->Dst ws->(∀w∈ws,Zl (.str w)=true)->
  ∃ws' y4 y5,Zx (zJ 4) WR (js.map λ(j:Nat)=>T.int (0+(j:Int))) [.vl (scr ns),.vl (.int k),.un,.ow (ws.map T.str),x4,x5]= .nx [.vl (scr ns),.vl (.int k),.un,.ow (ws'.map T.str),y4,y5]/\ws'.length<=4/\Dst ws' /\(∀w∈ws',Zl (.str w)=true)/\(0 < js.length+ws.length->0 < ws'.length)
 | [],ws,x4,x5,hl,hd,hw=>⟨ws,x4,x5,rfl,by simpa using hl,hd,hw,λh=>by simpa using h⟩
 | j :: js,ws,x4,x5,hl,hd,hw=>by
  obtain⟨w,ew,hw'⟩:=yc ns (k+5+5*(0+(j:Int))) (by omega)
  have hl' :js.length+ws.length+1<=4:=by simpa[ag,Nat.add_right_comm] using hl
  have e:Zx (zJ 4) WR ((j :: js).map λ(j:Nat)=>T.int (0+(j:Int))) [.vl (scr ns),.vl (.int k),.un,.ow (ws.map T.str),x4,x5]=match WR [.vl (scr ns),.vl (.int k),.un,.ow (ws.map T.str),.vl (.int (0+(j:Int))),x5] with
   | .nx ρ2=>Zx (zJ 4) WR (js.map λ(j:Nat)=>T.int (0+(j:Int))) ρ2
   | .ct ρ2=>Zx (zJ 4) WR (js.map λ(j:Nat)=>T.int (0+(j:Int))) ρ2
   | .bk ρ2=> .nx ρ2
   | r=>r:=rfl
  have eb:WR [.vl (scr ns),.vl (.int k),.un,.ow (ws.map T.str),.vl (.int (0+(j:Int))),x5]= .nx [.vl (scr ns),.vl (.int k),.un,.ow ((if w∈ws then ws else ws++[w]).map T.str),.vl (.int (0+(j:Int))),.vl (.str w)]:=by
   have w3o:∀(a b c:Sl) (ts:List T) (ρ:En),vB 3 (a :: b :: c :: .ow ts :: ρ)= .ok _:=λ_ _ _ _ _=>rfl;have hset:∀t,([.vl _,.vl (.int k),.un,.ow (ws.map T.str),.vl (.int (0+(j:Int))),x5]:En).set 5 (.vl t)=[.vl (scr ns),.vl (.int k),.un,.ow (ws.map T.str),.vl _,.vl t]:=λ_=>rfl;have en:Qx (.str w) (.lst (ws.map T.str))= .ok (!decide (w∈ws)):=by
    show ((match Wi (λy=>eqF 30 y (.str w)) (ws.map _) with | some b=>R.ok b | none=> .bad)).bind (λb=>R.ok _)=_
    rw[Ug];rfl
   simp only[WR,Z3,JJ,Z5,v0,v1,v4,zv,zV,bOk,Z8,z1K,ew,ZO,hset,ZY,zN,w5,w3o,en]
   by_cases hm:w∈ws
   ·rw[decide_eq_true hm,if_pos hm];rfl
   ·rw[decide_eq_false hm,if_neg hm];have hb:(ws.map T.str).length < bnd:=by rw[aa];exact bU (show ws.length<=4 by omega) (by decide)
    show (if (ws.map _).length < bnd then RS.nx _ else .bad)=_
    rw[if_pos hb,br];rfl
  rw[e,eb]
  by_cases hm:w∈ws
  ·rw[if_pos hm];obtain⟨ws',y4,y5,r1,r2,r3,r4,r5⟩:=JL ns k h0 js ws _ _ (by omega) hd hw
   exact⟨ws',y4,y5,r1,r2,r3,r4,λ_=>r5 (by have:=List.length_pos_of_mem hm;omega)⟩
  ·rw[if_neg hm];obtain⟨ws',y4,y5,r1,r2,r3,r4,r5⟩:=JL ns k h0 js _ _ _ (by simp only[av,ag,bR];omega) (hd.add hm) (λx hx=>by
    rcases d4.mp hx with z | z
    ·exact hw x z
    ·rw[aQ.mp z];exact hw')
   exact⟨ws',y4,y5,r1,r2,r3,r4,λ_=>r5 (by simp only[av,ag,bR];omega)⟩
abbrev z05:En->R T:=Zv (z9 (vE 1) (z9 (zd zG (cE (.int 1)) (za 3 f_1 (z9 (vE 2) (z9 (zd zG (zd zG (vE 3) (cE (.int 30))) (vE 0)) (z9 (cE (.int 20)) (zj)))))) (zj)))
theorem Uh (ns:List Int)(k:Int)(h0:0<=k):∀(ws:List Str) (i:Nat) (x0 x1:Sl),(∀w∈ws,Zl (.str w)=true)->∃cs:List T,zQ (ZC 0 1) Zk z05 (((ws.map T.str).zipIdx i).map λp=>T.tup [.int (p.2:Nat),p.1]) [x0,x1,.vl (scr ns),.vl (.int k)]= .ok cs/\cs.all Z0=true/\cs.map ZR=ws
 | [],i,x0,x1,_=>⟨[],rfl,rfl,rfl⟩
 | w :: ws,i,x0,x1,hw=>by
  obtain⟨p,e,p0,p1⟩:=zR ns (k+30+i) 20 (by omega) (by omega)
  obtain⟨cs,r1,r2,r3⟩:=Uh ns k h0 ws _ _ _ λx hx=>hw x (ac _ hx);have ec:z05 [.vl (.int (i)),.vl (.str w),.vl (scr ns),.vl (.int k)]= .ok (.tup [.str w,.int (1+p)]):=by
   have ea:za 3 f_1 (z9 (vE 2) (z9 (zd zG (zd zG (vE 3) (cE (.int 30))) (vE 0)) (z9 (cE (.int 20)) (zj)))) [.vl (.int (i)),.vl (.str w),.vl (scr ns),.vl (.int k)]= .ok (.int p):=by
    simp only[Zq,v2,v3,v0,zv,zV,bOk,Z8,e]
   have eb:zd zG (cE (.int 1)) (za 3 f_1 (z9 (vE 2) (z9 (zd zG (zd zG (vE 3) (cE (.int 30))) (vE 0)) (z9 (cE (.int 20)) (zj))))) [.vl (.int (i)),.vl (.str w),.vl (scr ns),.vl (.int k)]= .ok (.int (1+p)):=by
    rw[zv,ea];rfl
   exact Qg v1 eb
  refine⟨.tup [.str w,.int (1+p)] :: cs, ?_, ?_, ?_⟩
  ·show ((z05 [.vl _,.vl _,.vl _,.vl _]).bind λv=>(zQ _ _ _ (((ws.map _).zipIdx _).map λp=>T.tup _) [.vl _,.vl _,.vl _,.vl _]).bind λvs=>R.ok _)=_;rw[ec,r1];rfl
  ·rw[cY,r2,Bool.and_true];show (Zl _ && decide _ && decide _)=true;rw[hw w am,decide_eq_true (by omega),decide_eq_true (by omega)];rfl
  ·rw[aI,r3];rfl
theorem Vm (i j:Int):Ya (.int i) (.int j)= .ok (.int (if j < i then j else i)):=rfl
theorem Xe (ns:List Int)(k:Int)(h0:0<=k):∃t,gs [scr ns,.int k]= .ok t/\∀d,isK (d+1) t=true:=by
 have e:gs [scr ns,.int k]=zA (GN f_1 f_y [.vl (scr ns),.vl (.int k),.un,.un,.un,.un]):=rfl;obtain⟨p,e0,p0,p1⟩:=zR ns k 3 h0 (by omega)
 rw[e,GN,Z3];simp only[ZY,zN,Zq,v0,v1,zV,bOk,e0,gtI,ZO];cases hp:decide (p > 0) with
 | true=>
  obtain⟨q,e1,q0,q1⟩:=zR ns (k+1) 7 (by omega) (by omega)
  obtain⟨q3,e3,_,_⟩:=zR ns (k+3) 8 (by omega) (by omega)
  obtain⟨q4,e4,a4,b4⟩:=zR ns (k+4) 3 (by omega) (by omega)
  obtain⟨q2,e2,a2,b2⟩:=zR ns (k+2) 4 (by omega) (by omega)
  have hset:∀t x,([.vl (scr ns),.vl (.int k),x,.un,.un,.un]:En).set 2 (.vl t)=[.vl (scr ns),.vl (.int k),.vl t,.un,.un,.un]:=λ_ _=>rfl;have fin:∀low:Int, -20<=low->low<=20->∃t,zA (zF (Zv (z9 (cE (.str "whole")) (z9 (vE 2) (z9 (zd Ya (cE (.int 20)) (zd zG (vE 2) (za 3 f_1 (z9 (vE 0) (z9 (zd zG (vE 1) (cE (.int 2))) (z9 (cE (.int 4)) (zj))))))) (zj))))) [.vl (scr ns),.vl (.int k),.vl (.int low),.un,.un,.un])= .ok t/\∀d,isK (d+1) t=true:=by
   intro low hl1 hl2;refine⟨.tup [.str "whole",.int low,.int (if low+q2 < 20 then low+q2 else 20)], ?_,λd=> ?_⟩
   ·rw[Zh,J9];refine gQ rfl rfl ?_;simp only[ja,W4,jx,zv,v2,v0,v1,Zq,zV,bOk,Z8,e2,Vm]
   ·show (decide (-20<=low) && decide (low<=_) && decide (_<=(20:Int)))=true;rw[decide_eq_true hl1,decide_eq_true (by split <;> omega),decide_eq_true (by split <;> omega)];rfl
  simp only[if_true,Z3,JJ,ZY,zv,Zq,v0,v1,zV,bOk,Z8,e1,Zm,ZO,hset,zN,e3,eqI];cases hq:(q3 == 0) with
  | true=>
   have h3:q4=0\/q4=1\/q4=2:=by omega
   rcases h3 with rfl | rfl | rfl
   ·obtain⟨t,r,s⟩:=fin (-20) (by omega) (by omega)
    refine⟨t, ?_,s⟩;rw[← r];simp only[if_true,e4,bOk];have hv:∀ρ,(j6 (z9 (Jd (cE (.int 20))) (z9 (cE (.int 17)) (z9 (cE (.int 20)) (zj)))) ρ)= .ok (.lst [.int (-20),.int 17,.int 20]):=λ_=>rfl;simp only[hv,bOk];have hx:ixT (.lst [.int (-20),.int 17,.int 20]) (.int 0)= .ok (.int (-20)):=rfl;simp only[hx,ZO,hset,Zh];generalize Zv _ _=z;cases z <;> rfl
   ·obtain⟨t,r,s⟩:=fin (17) (by omega) (by omega)
    refine⟨t, ?_,s⟩;rw[← r];simp only[if_true,e4,bOk];have hv:∀ρ,(j6 (z9 (Jd (cE (.int 20))) (z9 (cE (.int 17)) (z9 (cE (.int 20)) (zj)))) ρ)= .ok (.lst [.int (-20),.int 17,.int 20]):=λ_=>rfl;simp only[hv,bOk];have hx:ixT (.lst [.int (-20),.int 17,.int 20]) (.int 1)= .ok (.int (17)):=rfl;simp only[hx,ZO,hset,Zh];generalize Zv _ _=z;cases z <;> rfl
   ·obtain⟨t,r,s⟩:=fin (20) (by omega) (by omega)
    refine⟨t, ?_,s⟩;rw[← r];simp only[if_true,e4,bOk];have hv:∀ρ,(j6 (z9 (Jd (cE (.int 20))) (z9 (cE (.int 17)) (z9 (cE (.int 20)) (zj)))) ρ)= .ok (.lst [.int (-20),.int 17,.int 20]):=λ_=>rfl;simp only[hv,bOk];have hx:ixT (.lst [.int (-20),.int 17,.int 20]) (.int 2)= .ok (.int (20)):=rfl;simp only[hx,ZO,hset,Zh];generalize Zv _ _=z;cases z <;> rfl
  | false=>
   obtain⟨t,r,s⟩:=fin (q - 3) (by omega) (by omega)
   refine⟨t, ?_,s⟩;rw[← r];simp only[aW,if_false,nxS,Zh];generalize Zv _ _=z;cases z <;> rfl
 | false=>
  obtain⟨q,e1,q0,q1⟩:=zR ns (k+1) 4 (by omega) (by omega)
  simp only[aW,if_false,nxS,Z3];have ei:Za (zd zG (cE (.int 1)) (za 3 f_1 (z9 (vE 0) (z9 (zd zG (vE 1) (cE (.int 1))) (z9 (cE (.int 4)) (zj)))))) [.vl (scr ns),.vl (.int k),.un,.ow [],.un,.un]= .ok (rng 0 (1+q).toNat):=by
   unfold Za;simp only[zv,Zq,v0,v1,zV,bOk,Z8,e1];rw[if_pos ⟨by omega,by omega⟩]
  have el:ym 3 zj [.vl (scr ns),.vl (.int k),.un,.un,.un,.un]= .nx [.vl (scr ns),.vl (.int k),.un,.ow [],.un,.un]:=rfl;rw[el];have hn:(ba (1+q).toNat).length=(1+q).toNat:=bE;obtain⟨ws,y4,y5,r1,r2,r3,r4,r5⟩:=JL ns k h0 (ba (1+q).toNat) [] .un .un (by rw[hn,bR];omega) (λk w h=>by cases h) (λw h=>by cases h)
  have hpos:0 < ws.length:=r5 (by rw[hn,bR];omega)
  have ef:ZT (Za (zd zG (cE (.int 1)) (za 3 f_1 (z9 (vE 0) (z9 (zd zG (vE 1) (cE (.int 1))) (z9 (cE (.int 4)) (zj))))))) (zJ 4) WR [.vl (scr ns),.vl (.int k),.un,.ow [],.un,.un]= .nx [.vl (scr ns),.vl (.int k),.un,.ow (ws.map T.str),y4,y5]:=by
   unfold ZT;rw[ei,ZO];exact r1
  obtain⟨cs,s1,s2,s3⟩:=Uh ns k h0 ws 0 .un .un r4;have hcl:cs.length=ws.length:=by rw[← s3,aa]
  refine⟨.tup [.str "pick",.tup cs], ?_,λd=> ?_⟩
  ·dsimp only;rw[ef];dsimp only;rw[Zh,J9];refine Qg rfl ?_;rw[ZX,Z2];have ee:xy (vE 3) (frz [.vl (scr ns),.vl (.int k),.un,.ow (ws.map T.str),y4,y5])= .ok (jH (ws.map T.str)):=rfl;rw[ee,bOk];unfold zH;rw[if_pos (by unfold jH;rw[aa,fO,aa];exact aD r2 (by decide))]
   have ec:zQ (ZC 0 1) Zk z05 (jH (ws.map T.str)) (WB 2 [0,1] (frz [.vl (scr ns),.vl (.int k),.un,.ow (ws.map T.str),y4,y5]))= .ok cs:=s1;rw[ec];rfl
  ·show (decide (1<=cs.length) && decide (cs.length<=4) && cs.all Z0 && decide ((dd [] (cs.map ZR)).length=cs.length))=true;have hd:(dd [] (cs.map ZR)).length=cs.length:=by
    rw[s3,hcl];have:=(W6 ws []).mpr (λk w h=>by simpa using r3 k w h)
    simpa using this
   rw[decide_eq_true (by omega),decide_eq_true (by omega),s2,decide_eq_true hd];rfl
theorem WS (c:Int)(j:Int)(hc:ud c j):Z4 (.int c) (.int j)= .ok (.int (c*j)):=by
 show (if ud c j then R.ok _ else .bad)=_
 rw[if_pos hc]
theorem gR (j:Int):Z4 (.int 3) (.int j)= .ok (.int (3*j)):=WS _ _ (.inl ⟨by decide,by decide⟩)
theorem gS (j:Int):Z4 (.int 50) (.int j)= .ok (.int (50*j)):=WS _ _ (.inl ⟨by decide,by decide⟩)
abbrev z06 (c:List T->R T):En->R T:=za 3 c (z9 (vE 1) (z9 (zd zG (zd zG (zd Z4 (cE (.int 3)) (vE 2)) (cE (.int 40))) (zd Z4 (cE (.int 50)) (vE 0))) (z9 (zd jM (vE 3) (cE (.int 1))) (zj))))
theorem uB (ns:List Int):∀(d n:Nat),d<=n->1<=d->∀k:Int,0<=k->∃t,S_b n 0 [scr ns,.int k,.int (d:Int)]= .ok t/\isK d t=true
 | d+1,n+1,hn,_,k,h0=>by
  have e:S_b (n+1) 0 [scr ns,.int k,.int ((d+1:Nat))]=zA (b_b f_1 gs (S_b n 0) [.vl (scr ns),.vl (.int k),.vl _,.un,.un,.un]):=rfl;obtain⟨p,e0,p0,p1⟩:=zR ns k 5 h0 (by omega)
  obtain⟨l,el,hl⟩:=Xe ns (k+1) (by omega)
  have hset:([.vl (scr ns),.vl (.int k),.vl (.int ((d+1:Nat))),.un,.un,.un]:En).set 3 (.vl (.int p))=[.vl (scr ns),.vl (.int k),.vl _,.vl (.int p),.un,.un]:=rfl;rw[e,b_b];simp only[Z3,JJ,ZY,YS,zN,Zq,Z5,v0,v1,v2,zV,bOk,e0,ZO,hset,w2,w3,eqI,ltI,Z8,Zh,ja,W4,jx,zv,el];have hd1:((((d+1:Nat):Int) == 1))=decide (d=0):=by
   by_cases h:d=0
   ·subst h;rfl
   ·rw[decide_eq_false h,beq_eq_false_iff_ne];omega
  rw[hd1]
  by_cases hleaf:d=0\/p < 2
  ·refine⟨l, ?_,hl d⟩;rcases hleaf with h | h
   ·rw[decide_eq_true h];rfl
   ·rw[decide_eq_true h];cases decide (d=0) <;> rfl
  ·have hd0:¬ d=0:=λz=>hleaf (.inl z);have hp2:¬ p < 2:=λz=>hleaf (.inr z);have hsub:((d+1:Nat)) - 1=(d:Int):=by omega
   rw[decide_eq_false hd0,decide_eq_false hp2];simp only[aW,if_false,ZO,nxS,w3,v0,v1,v2,bOk,ltI,zV];cases hp:decide (p < 4) with
   | true=>
    obtain⟨q,e1,q0,q1⟩:=zR ns (k+1) 3 (by omega) (by omega)
    have hj:∀j:Nat,∃t,z06 (S_b n 0) [.vl (.int (0+(j:Int))),.vl (scr ns),.vl (.int k),.vl (.int ((d+1:Nat)))]= .ok t/\isK d t=true:=λj=>by
     obtain⟨t,r,s⟩:=uB ns d n (by omega) (by omega) (3*k+40+50*(0+(j:Int))) (by omega)
     refine⟨t, ?_,s⟩;simp only[z06,Zq,v0,v1,v2,v3,zv,zV,bOk,gR,gS,Z8,Zm,hsub,r]
    obtain⟨g,hg⟩:=ig.mp hj;have ei:Za (zd zG (cE (.int 1)) (za 3 f_1 (z9 (vE 0) (z9 (zd zG (vE 1) (cE (.int 1))) (z9 (cE (.int 3)) (zj)))))) [.vl (scr ns),.vl (.int k),.vl (.int ((d+1:Nat))),.vl (.int p),.un,.un]= .ok (rng 0 (1+q).toNat):=by
     unfold Za;simp only[zv,Zq,v0,v1,zV,bOk,Z8,e1];rw[if_pos ⟨by omega,by omega⟩]
    have ec:zH (zJ 0) Zk (z06 (S_b n 0)) 1 [0,1,2] [.vl (scr ns),.vl (.int k),.vl _,.vl (.int p),.un,.un] _= .ok ((rng 0 (1+q).toNat).map λt=>match t with | .int j=>g j.toNat | t=>t):=
     Zc _ (by unfold rng;rw[aa,bE];exact aD (show (1+q).toNat<=3 by omega) (by decide)) λt ht=>by
      obtain⟨j,_,rfl⟩:=aN.mp ht;show z06 (S_b n 0) [.vl _,.vl (scr ns),.vl (.int k),.vl _]= .ok (g _);rw[(hg j).1,g7,bC]
    generalize hcs:((rng 0 (1+q).toNat).map λt=>match t with | .int j=>g j.toNat | t=>t)=cs at ec
    have hlen:cs.length=(1+q).toNat:=by rw[← hcs];unfold rng;rw[aa,aa,bE]
    have hall:∀t∈cs,isK d t=true:=λt ht=>by
     rw[← hcs]at ht;obtain⟨u,hu,rfl⟩:=aN.mp ht;obtain⟨j,_,rfl⟩:=aN.mp hu;exact(hg _).2
    refine⟨.tup [.str "row",.tup cs], ?_, ?_⟩
    ·have hs4:([.vl (scr ns),.vl (.int k),.vl (.int ((d+1:Nat))),.vl (.int p),.un,.un]:En).set 4 (.vl (.lst cs))=[.vl (scr ns),.vl (.int k),.vl _,.vl (.int p),.vl (.lst cs),.un]:=rfl;simp only[if_true,Z2,ei,bOk,ec,ZO,hs4,ja,W4,jx];rfl
    ·show (decide _ && decide _ && cs.all _)=true;rw[decide_eq_true (by omega),decide_eq_true (by omega),aT.mpr hall];rfl
   | false=>
    obtain⟨q,e1,q0,q1⟩:=zR ns (k+1) 3 (by omega) (by omega)
    obtain⟨q2,e2,_,_⟩:=zR ns (k+2) 3 (by omega) (by omega)
    obtain⟨t,r,s⟩:=uB ns d n (by omega) (by omega) (3*k+40) (by omega)
    refine⟨.tup [.str "many",t,.int q,.int (if q+q2 < 3 then q+q2 else 3)], ?_, ?_⟩
    ·have hs5:([.vl (scr ns),.vl (.int k),.vl (.int ((d+1:Nat))),.vl (.int p),.un,.un]:En).set 5 (.vl (.int q))=[.vl _,.vl _,.vl _,.vl _,.un,.vl _]:=rfl;simp only[aW,if_false,v0,v1,zv,zV,bOk,Z8,e1,ZO,hs5,ja,W4,jx,J9];refine tup4 rfl ?_ rfl ?_
     ·simp only[Zq,v0,v1,v2,zv,zV,bOk,gR,Z8,Zm,hsub,r]
     ·have v5:∀{t:T} {a b c d e:Sl} {ρ:En},vE 5 (a :: b :: c :: d :: e :: .vl t :: ρ)= .ok t:=rfl;simp only[Zq,v0,v1,v5,zv,zV,bOk,Z8,e2,Vm]
    ·show (J8 0 3 _ _ && isK d t)=true;rw[s,Bool.and_true];show (decide _ && decide _ && decide _)=true;rw[decide_eq_true (by omega),decide_eq_true (by split <;> omega),decide_eq_true (by split <;> omega)];rfl
mutual
noncomputable def dep:T->Nat
 | .tup xs=>Qh xs+1
 | .lst xs=>Qh xs+1
 | _=>1
noncomputable def Qh:List T->Nat
 | []=>0
 | t :: ts=>max (dep t) (Qh ts)
end
mutual
noncomputable def siz:T->Nat
 | .tup xs=>Qi xs+1
 | .lst xs=>Qi xs+1
 | _=>1
noncomputable def Qi:List T->Nat
 | []=>0
 | t :: ts=>siz t+Qi ts
end
theorem Ja (h:isS w t=true):t= .str w:=by
 cases t with
 | str s=>
  have:=h;rw[eq_of_beq this]
 | _=>cases h
theorem Xf (h:inR lo hi t=true):∃i,t= .int i:=by
 cases t with
 | int i=>exact⟨i,rfl⟩
 | _=>cases h
theorem Jm (h:J8 lo hi a b=true):∃i j,a= .int i/\b= .int j:=by
 cases a with
 | int i=>
  cases b with
  | int j=>exact⟨i,j,rfl,rfl⟩
  | _=>cases h
 | _=>cases h
structure Fit (D S:Nat) (t:T):Prop where
 so:sOk t
 dp:dep t<=D
 sz:siz t<=S
theorem yd (h:Z0 c=true):Fit 2 3 c:=by
 unfold Z0 at h;split at h
 ·rename_i w i;have hw:=by
   rw[ae,ae]at h;exact h.1.1
  cases w with
  | str x=>
   have hx:(decide _ && decide _ && x.cps.toList.all _)=true:=hw;rw[ae,ae,decide_eq_true_eq,decide_eq_true_eq]at hx;refine⟨?_, ?_, ?_⟩
   ·simp only[sOk,Ud,and_true];exact aD hx.1.2 (by decide)
   ·simp[dep,Qh]
   ·simp[siz,Qi]
  | _=>cases hw
 ·cases h
theorem z1L {D S:Nat}:∀{cs:List T},(∀c∈cs,Fit D S c)->Ud cs/\Qh cs<=D/\Qi cs<=S*cs.length
 | [],_=>⟨by simp only[Ud],bu _,bu _⟩
 | c :: cs,h=>by
  obtain⟨a,b,d⟩:=z1L λx hx=>h x (ac _ hx);obtain⟨x,y,z⟩:=h c am;refine⟨?_, ?_, ?_⟩
  ·exact⟨x,a⟩
  ·simp only[Qh];omega
  ·simp only[Qi,ag,Nat.mul_add,Nat.mul_one];omega
theorem W7:∀(d:Nat) (t:T),isK d t=true->Fit (2*d+2) (15*4 ^ d) t
 | 0,_,h=>by cases h
 | d+1,t,h=>by
  have hone:1<=4 ^ d:=Nat.pow_pos (by omega)
  have h:ya _ t=true:=h;unfold ya at h;split at h
  ·rename_i hd r;split at h
   ·rename_i e;rw[Ja e];unfold WP at h;split at h
    ·obtain⟨i,j,rfl,rfl⟩:=Jm h;refine⟨by simp only[sOk,Ud,and_true];decide,by simp only[dep,Qh];omega,by simp only[siz,Qi];omega⟩
    ·cases h
   ·split at h
    ·rename_i e;rw[Ja e];unfold YU at h;split at h
     ·unfold Uf at h;split at h
      ·rw[ae,ae,ae,decide_eq_true_eq,decide_eq_true_eq]at h;obtain⟨a,b,z⟩:=z1L λc hc=>yd (aT.mp h.1.2 c hc);refine⟨by simp only[sOk,Ud,and_true];exact⟨by decide,a⟩,by simp only[dep,Qh];omega,by simp only[siz,Qi];omega⟩
      ·cases h
     ·cases h
    ·split at h
     ·rename_i e;rw[Ja e];unfold gJ at h;split at h
      ·unfold JK at h;split at h
       ·rename_i cs;rw[ae,ae,decide_eq_true_eq,decide_eq_true_eq]at h;obtain⟨a,b,z⟩:=z1L λc hc=>W7 d c (aT.mp h.2 c hc);have:15*4 ^ d*cs.length<=15*4 ^ d*3:=Nat.mul_le_mul_left _ h.1.2;refine⟨by simp only[sOk,Ud,and_true];exact⟨by decide,a⟩,by simp only[dep,Qh];omega,by simp only[siz,Qi];omega⟩
       ·cases h
      ·cases h
     ·split at h
      ·rename_i e;rw[Ja e];unfold YV at h;split at h
       ·rename_i c a b;rw[ae]at h;obtain⟨i,j,rfl,rfl⟩:=Jm h.1;obtain⟨x,y,z⟩:=W7 d c h.2;refine⟨by simp only[sOk,Ud,and_true];exact⟨by decide,x⟩,by simp only[dep,Qh];omega,by simp only[siz,Qi];omega⟩
       ·cases h
      ·cases h
  ·cases h
theorem gT (h:xs.length+ys.length<=bnd):zG (.tup xs) (.tup ys)= .ok (.tup (xs++ys)):=if_pos h
theorem wA (ρ:En):nxS ρ= .nx ρ:=rfl
inductive Kd where
 | whole (lo hi:Int)
 | pick (cs:List (Str×Int))
 | row (ks:List Kd)
 | many (k:Kd) (lo hi:Nat)
noncomputable def Wk (c:Str×Int):T:= .tup [.str c.1,.int c.2]
mutual
noncomputable def Kd.t:Kd->T
 | .whole lo hi=> .tup [.str "whole",.int lo,.int hi]
 | .pick cs=> .tup [.str "pick",.tup (cs.map Wk)]
 | .row ks=> .tup [.str "row",.tup (Kd.ts ks)]
 | .many k lo hi=> .tup [.str "many",k.t,.int (lo:Int),.int (hi:Int)]
noncomputable def Kd.ts:List Kd->List T
 | []=>[]
 | k :: ks=>k.t :: Kd.ts ks
end
theorem Kd.ts_map:∀ks:List Kd,Kd.ts ks=ks.map Kd.t
 | []=>by simp only[Kd.ts,cN]
 | k :: ks=>by simp only[Kd.ts,aI,Kd.ts_map ks]
def Kd.Ok:Nat->Kd->Prop
 | 0,_=>False
 | _+1,.whole lo hi=> -20<=lo/\lo<=hi/\hi<=20
 | _+1,.pick cs=>1<=cs.length/\cs.length<=4/\(∀c∈cs,Zl (.str c.1)=true/\1<=c.2/\c.2<=20)/\Dst (cs.map (·.1))
 | d+1,.row ks=>1<=ks.length/\ks.length<=3/\∀k∈ks,Kd.Ok d k
 | d+1,.many k lo hi=>lo<=hi/\hi<=3/\Kd.Ok d k
theorem YX (h:Z0 c=true):∃p:Str×Int,c=Wk p/\Zl (.str p.1)=true/\1<=p.2/\p.2<=20:=by
 unfold Z0 at h;split at h
 ·rename_i w i;rw[ae,ae,decide_eq_true_eq,decide_eq_true_eq]at h;cases w with
  | str x=>exact⟨(x,i),rfl,h.1.1,h.1.2,h.2⟩
  | _=>cases h.1.1
 ·cases h
theorem uC {α:Type}{P:T->Prop}{Q:α->Prop}{f:α->T}(H:∀t,P t->∃a,t=f a/\Q a):∀(ts:List T),(∀t∈ts,P t)->∃as:List α,ts=as.map f/\∀a∈as,Q a
 | [],_=>⟨[],rfl,λ_ h=>nomatch h⟩
 | t :: ts,h=>by
  obtain⟨a,rfl,ha⟩:=H t (h t am);obtain⟨as,rfl,has⟩:=uC H ts λu hu=>h u (ac _ hu);exact⟨a :: as,rfl,λb hb=>by
   rcases ak.mp hb with rfl | hb
   ·exact ha
   ·exact has b hb⟩
theorem uD:∀(d:Nat) (t:T),isK d t=true->∃k:Kd,t=k.t/\k.Ok d
 | 0,_,h=>by cases h
 | d+1,t,h=>by
  have h:ya _ t=true:=h;unfold ya at h;split at h
  ·rename_i hd r;split at h
   ·rename_i e;rw[Ja e];unfold WP at h;split at h
    ·obtain⟨i,j,rfl,rfl⟩:=Jm h;have h:(decide _ && decide _ && decide _)=true:=h;rw[ae,ae,decide_eq_true_eq,decide_eq_true_eq,decide_eq_true_eq]at h;exact⟨.whole i j,by simp only[Kd.t],h.1.1,h.1.2,h.2⟩
    ·cases h
   ·split at h
    ·rename_i e;rw[Ja e];unfold YU at h;split at h
     ·unfold Uf at h;split at h
      ·rename_i cs;rw[ae,ae,ae,decide_eq_true_eq,decide_eq_true_eq,decide_eq_true_eq]at h;obtain⟨⟨⟨h1,h2⟩,h3⟩,h4⟩:=h;obtain⟨as,rfl,has⟩:=uC (λt ht=>YX ht) cs λc hc=>aT.mp h3 c hc;rw[aa]at h1 h2;refine⟨.pick as,by simp only[Kd.t],h1,h2,has, ?_⟩
       have e1:(as.map Wk).map ZR=as.map (·.1):=by rw[bG];rfl
       rw[e1]at h4;have:=(W6 _ []).mp (by rw[h4,aa];simp)
       exact λk w hw hm=>this k w hw (by simpa using hm)
      ·cases h
     ·cases h
    ·split at h
     ·rename_i e;rw[Ja e];unfold gJ at h;split at h
      ·unfold JK at h;split at h
       ·rename_i cs;rw[ae,ae,decide_eq_true_eq,decide_eq_true_eq]at h;obtain⟨ks,rfl,hks⟩:=uC (λt ht=>uD d t ht) cs λc hc=>aT.mp h.2 c hc;rw[aa]at h;exact⟨.row ks,by simp only[Kd.t,Kd.ts_map],h.1.1,h.1.2,hks⟩
       ·cases h
      ·cases h
     ·split at h
      ·rename_i e;rw[Ja e];unfold YV at h;split at h
       ·rename_i c a b;rw[ae]at h;obtain⟨h1,h2⟩:=h;obtain⟨i,j,rfl,rfl⟩:=Jm h1;obtain⟨k,rfl,hk⟩:=uD d c h2;have h1:(decide _ && decide _ && decide _)=true:=h1;rw[ae,ae,decide_eq_true_eq,decide_eq_true_eq,decide_eq_true_eq]at h1;obtain⟨⟨a1,a2⟩,a3⟩:=h1;obtain⟨m,rfl⟩:=cg a1;obtain⟨n,rfl⟩:=cg (Int.le_trans a1 a2);exact⟨.many k m n,by simp only[Kd.t],by omega,by omega,hk⟩
       ·cases h
      ·cases h
  ·cases h
noncomputable def Zw (made:List (List T)):List (List T)->List (List T)
 | []=>made
 | ls :: r=>Zw (made.flatMap λa=>ls.map λx=>a++[x]) r
abbrev yt (ls:List (List T)):List T:=(Zw [[]] ls).map T.tup
mutual
noncomputable def Kd.all:Kd->List T
 | .whole lo hi=>(ba (hi+1 - lo).toNat).map λ(i:Nat)=>T.int (lo+(i:Int))
 | .pick cs=>cs.map λc=>T.str c.1
 | .row ks=>yt (Kd.alls ks)
 | .many k lo hi=>(ba (hi+1 - lo)).flatMap λi=>yt (aj (lo+i) k.all)
noncomputable def Kd.alls:List Kd->List (List T)
 | []=>[]
 | k :: ks=>k.all :: Kd.alls ks
end
theorem Kd.alls_map:∀ks:List Kd,Kd.alls ks=ks.map Kd.all
 | []=>by simp only[Kd.alls,cN]
 | k :: ks=>by simp only[Kd.alls,aI,Kd.alls_map ks]
noncomputable def prd:List Nat->Nat
 | []=>1
 | n :: r=>n*prd r
theorem JM:∀{ns:List Nat},(∀n∈ns,1<=n)->1<=prd ns
 | [],_=>ai _
 | n :: ns,h=>dY (h n am) (JM λm hm=>h m (ac _ hm))
theorem Jn {α β:Type}(f:α->List β)(n:Nat):∀as:List α,(∀a∈as,(f a).length=n)->(as.flatMap f).length=as.length*n
 | [],_=>by simp
 | a :: as,h=>by
  rw[bQ,av,h a am,Jn f n as λb hb=>h b (ac _ hb),ag,iq,c9,Nat.add_comm]
theorem JN:∀(ls:List (List T)) (made:List (List T)),(Zw made ls).length=made.length*prd (ls.map (·.length))
 | [],made=>by simp[Zw,prd]
 | l :: ls,made=>by
  rw[Zw,JN ls,Jn _ _ _ λa _=>aa ..,aI,prd,cD]
abbrev z07:En->RS:=Qa 3 (Z1 (ZU (vE 2)) (zJ 0) (Zk) (zd zG (vE 1) (Zv (z9 (vE 0) (zj)))) 1 [4])
theorem Ui (hl:l.length<=bnd):∀(as:List (List T)) (acc:List T) (x:Sl),(∀a∈as,a.length<=1000)->acc.length+as.length*l.length<=bnd->
  ∃y,Zx (zJ 4) z07 (as.map T.tup) [.vl L,.vl M,.vl (.lst l),.ow acc,x]= .nx [.vl L,.vl M,.vl (.lst l),.ow (acc++(as.flatMap λa=>l.map λx=>a++[x]).map T.tup),y]
 | [],acc,x,_,_=>⟨x,by simp[Zx]⟩
 | a :: as,acc,x,ha,hb=>by
  have ha1:=ha a am;have hb1:bnd=16777216:=rfl;rw[ag,iq]at hb;have ec:zH _ _ (zd zG (vE 1) (Zv (z9 (vE 0) (zj)))) 1 [4] [.vl L,.vl M,.vl (.lst l),.ow acc,.vl (.tup a)] l= .ok (l.map λx=>T.tup _):=
   Zc l hl λx hx=>by
    exact gT (by rw[aF];omega)
  have eb:z07 [.vl L,.vl M,.vl (.lst l),.ow acc,.vl (.tup a)]= .nx [.vl L,.vl M,.vl (.lst l),.ow (acc++l.map λx=>T.tup (a++[x])),.vl (.tup a)]:=by
   show (((zH _ _ _ _ _ _ l).bind _).s _)=_;rw[ec,bOk];show (if _ then _ else _)=_
   rw[if_pos (by rw[aa];omega)]
   rfl
  obtain⟨y,ih⟩:=Ui hl as (acc++l.map λx=>T.tup _) _ (λb hb=>ha b (ac _ hb)) (by rw[av,aa];omega)
  refine⟨y, ?_⟩;have e:Zx (zJ 4) _ ((a :: as).map T.tup) [.vl L,.vl M,.vl (.lst l),.ow acc,x]=match z07 [.vl L,.vl M,.vl _,.ow acc,.vl _] with
   | .nx ρ2=>Zx _ _ _ ρ2
   | .ct ρ2=>Zx _ _ _ ρ2
   | .bk ρ2=> .nx ρ2
   | r=>r:=rfl
  rw[e,eb];dsimp only;rw[ih,bQ,br,bG,aX];rfl
abbrev vo:En->RS:=(zB (ym 3 (zj))
  (zB (ZT (ZU (vE 1)) (zJ 4) z07)
  (mvS 1 3)))
theorem WT (m:Nat):∀(ls:List (List T)) (made:List (List T)) (k:Nat) (x y z:Sl),(∀a∈made,a.length<=k)->k+ls.length<=1000->(∀l∈ls,1<=l.length)->made.length*prd (ls.map (·.length))<=bnd->1<=made.length->
  ∃x' y' z',Zx (zJ 2) vo (ls.map T.lst) [.vl L,.vl (.lst (made.map T.tup)),x,y,z]= .nx [.vl L,.vl (.lst ((Zw made ls).map T.tup)),x',y',z']
 | [],made,k,x,y,z,_,_,_,_,_=>⟨x,y,z,by simp[Zx,Zw]⟩
 | l :: ls,made,k,x,y,z,hk,hkl,hpos,hb,hm=>by
  have hpr:=JM λn hn=>by
   obtain⟨l',hl',rfl⟩:=aN.mp hn;exact hpos l' (ac _ hl')
  rw[aI,prd,← cD]at hb;have hb1:=aD (ci _ hpr) hb;have hll:=aD (Nat.le_mul_of_pos_left _ hm) hb1;rw[ag]at hkl;obtain⟨w,er⟩:=Ui hll _ [] z (λa ha=>aD (hk a ha) (by omega)) (by rw[bR];omega)
  have es:vo [.vl L,.vl (.lst (made.map T.tup)),.vl (.lst l),y,z]= .nx [.vl L,.vl (.lst ((made.flatMap λa=>l.map λx=>a++[x]).map T.tup)),.vl (.lst l),.vl (.lst ((made.flatMap λa=>l.map λx=>a++[x]).map T.tup)),w]:=by
   have e0:ym 3 (zj) [.vl L,.vl (.lst (made.map T.tup)),.vl (.lst l),y,z]= .nx [.vl L,.vl _,.vl _,.ow [],z]:=rfl;have e1:ZT (ZU (vE 1)) _ _ [.vl L,.vl (.lst _),.vl _,.ow [],z]= .nx [.vl L,.vl _,.vl _,.ow ((made.flatMap λa=>l.map λx=>a++[x]).map _),w]:=er;unfold vo;rw[Z3,e0];dsimp only;rw[Z3,e1];rfl
  obtain⟨x',y',z',ih⟩:=WT m ls (made.flatMap λa=>l.map λx=>a++[x]) (k+1) _ (.vl (.lst ((made.flatMap λa=>l.map λx=>a++[x]).map _))) w (λa ha=>by
   obtain⟨b,hb,hx⟩:=cP.mp ha;obtain⟨u,_,rfl⟩:=aN.mp hx;have:=hk b hb;rw[av,aF];omega) (by omega) (λl' hl' =>hpos l' (ac _ hl')) (by
    rw[Jn _ _ _ λa _=>aa ..];exact hb) (by
    rw[Jn _ _ _ λa _=>aa ..];exact dY hm (hpos l am))
  refine⟨x',y',z', ?_⟩;have e:Zx (zJ 2) _ ((l :: ls).map T.lst) [.vl L,.vl (.lst (made.map T.tup)),x,y,z]=match vo [.vl L,.vl _,.vl _,y,z] with
   | .nx ρ2=>Zx _ _ _ ρ2
   | .ct ρ2=>Zx _ _ _ ρ2
   | .bk ρ2=> .nx ρ2
   | r=>r:=rfl
  rw[e,es];exact ih
theorem YY (ls:List (List T))(hl:ls.length<=1000)(hpos:∀l∈ls,1<=l.length)(hb:prd (ls.map (·.length))<=bnd):f_d [.lst (ls.map T.lst)]= .ok (.lst (yt ls)):=by
 obtain⟨x',y',z',er⟩:=WT 0 ls [[]] 0 .un .un .un (λa ha=>by rw[aQ.mp ha];exact ai _) (by omega) hpos (by rw[aF,c9];exact hb) (ai _)
 have e:f_d [.lst (ls.map T.lst)]=zA (b_d [.vl _,.un,.un,.un,.un]):=rfl;have e0:zP 1 (j6 (z9 (Zv (zj)) (zj))) [.vl (.lst (ls.map T.lst)),.un,.un,.un,.un]= .nx [.vl _,.vl _,.un,.un,.un]:=rfl;have e1:ZT (ZU (vE 0)) _ _ [.vl (.lst _),.vl (.lst [.tup []]),.un,.un,.un]= .nx _:=er;rw[e,b_d,Z3,e0];dsimp only;rw[Z3,e1];rfl
theorem jc (n:Nat):∀m:Nat,prd (aj m n)=n ^ m
 | 0=>rfl
 | m+1=>by rw[bS,prd,jc n m,g_,cM]
theorem Jo (ls:List (List T)):(yt ls).length=prd (ls.map (·.length)):=by
 rw[aa,JN,aF,c9]
noncomputable def pw (n lo hi:Nat):Nat:=((ba (hi+1 - lo)).map λi=>n ^ (lo+i)).sum
theorem ji (k:Kd)(lo hi:Nat):(Kd.many k lo hi).all.length=pw k.all.length lo hi:=by
 rw[Kd.all,List.length_flatMap,pw];congr 1
 refine cU λi _=> ?_;rw[Jo,bh,jc]
theorem jY (ks:List Kd):(Kd.row ks).all.length=prd (ks.map λk=>k.all.length):=by
 rw[Kd.all,Jo,Kd.alls_map,bG];rfl
theorem jK (lo hi:Int):(Kd.whole lo hi).all.length=(hi+1 - lo).toNat:=by
 rw[Kd.all,aa,bE]
theorem W8 (cs:List (Str×Int)):(Kd.pick cs).all.length=cs.length:=by
 rw[Kd.all,aa]
theorem Xg (h:lo<=hi)(h3:hi<=3):(lo=0/\hi=0)\/(lo=0/\hi=1)\/(lo=0/\hi=2)\/(lo=0/\hi=3)\/(lo=1/\hi=1)\/(lo=1/\hi=2)\/(lo=1/\hi=3)\/(lo=2/\hi=2)\/(lo=2/\hi=3)\/(lo=3/\hi=3):=(by decide:∀hi lo:Fin 4,lo.1<=hi.1->(lo.1=0/\hi.1=0)\/(lo.1=0/\hi.1=1)\/(lo.1=0/\hi.1=2)\/(lo.1=0/\hi.1=3)\/(lo.1=1/\hi.1=1)\/(lo.1=1/\hi.1=2)\/(lo.1=1/\hi.1=3)\/(lo.1=2/\hi.1=2)\/(lo.1=2/\hi.1=3)\/(lo.1=3/\hi.1=3)) ⟨hi,h9 h3⟩ ⟨lo,h9 (aD h h3)⟩ h
noncomputable def iv (b:Bool):Nat:=if b then 1 else 0
theorem Xh (n:Nat)(h:lo<=hi)(h3:hi<=3):pw n lo hi=iv (lo == 0)+n*iv (decide (lo<=1) && decide (1<=hi))+n*n*iv (decide (lo<=2) && decide (2<=hi))+n*n*n*iv (hi == 3):=by
 rcases Xg h h3 with ⟨rfl,rfl⟩ | ⟨rfl,rfl⟩ | ⟨rfl,rfl⟩ | ⟨rfl,rfl⟩ | ⟨rfl,rfl⟩ | ⟨rfl,rfl⟩ | ⟨rfl,rfl⟩ | ⟨rfl,rfl⟩ | ⟨rfl,rfl⟩ | ⟨rfl,rfl⟩ <;>
  simp[pw,iB,iv,g_]
 all_goals omega
theorem gU (hn:1<=n)(h:lo<=hi)(h3:hi<=3):1<=pw n lo hi:=by
 have h2:=dY hn hn;have h1:=dY h2 hn;rw[Xh n h h3];rcases Xg h h3 with ⟨rfl,rfl⟩ | ⟨rfl,rfl⟩ | ⟨rfl,rfl⟩ | ⟨rfl,rfl⟩ | ⟨rfl,rfl⟩ | ⟨rfl,rfl⟩ | ⟨rfl,rfl⟩ | ⟨rfl,rfl⟩ | ⟨rfl,rfl⟩ | ⟨rfl,rfl⟩ <;>
  simp[iv] <;> omega
theorem z1M (hn:n<=N)(h:lo<=hi)(h3:hi<=3):pw n lo hi<=1+N+N*N+N*N*N:=by
 have h2:=cj hn hn;have h1:=cj h2 hn;rw[Xh n h h3];rcases Xg h h3 with ⟨rfl,rfl⟩ | ⟨rfl,rfl⟩ | ⟨rfl,rfl⟩ | ⟨rfl,rfl⟩ | ⟨rfl,rfl⟩ | ⟨rfl,rfl⟩ | ⟨rfl,rfl⟩ | ⟨rfl,rfl⟩ | ⟨rfl,rfl⟩ | ⟨rfl,rfl⟩ <;>
  simp[iv] <;> omega
theorem Vn (hN:1<=N):∀(ns:List Nat),(∀n∈ns,n<=N)->prd ns<=N ^ ns.length
 | [],_=>ai _
 | n :: ns,h=>by
  rw[prd,cM];exact cj (Vn hN ns λm hm=>h m (ac _ hm)) (h n am)
theorem ZK:∀(d:Nat) (k:Kd),k.Ok d->1<=k.all.length
 | 0,_,h=>h.elim
 | d+1,.whole lo hi,h=>by
  obtain⟨_,h2,_⟩:=h;rw[jK];omega
 | d+1,.pick cs,h=>by
  rw[W8];exact h.1
 | d+1,.row ks,h=>by
  rw[jY];refine JM λn hn=> ?_;obtain⟨k,hk,rfl⟩:=aN.mp hn;exact ZK d k (h.2.2 k hk)
 | d+1,.many k lo hi,h=>by
  rw[ji];exact gU (ZK d k h.2.2) h.1 h.2.1
noncomputable def mx:Nat->Nat
 | 0=>0
 | 1=>41
 | d+1=>1+mx d+mx d*mx d+mx d*mx d*mx d
theorem Vo (d:Nat):41<=mx (d+1):=by
 induction d with
 | zero=>exact ai _
 | succ d ih=>
  show 41<=1+mx _+mx _*mx _+mx _*mx _*mx _;omega
theorem YZ (d:Nat)(n:Nat)(h:n<=41):n<=mx (d+1):=aD h (Vo d)
theorem Xi (hN:1<=N)(h:m<=3):N ^ m<=1+N+N*N+N*N*N:=by
 have:m=0\/m=1\/m=2\/m=3:=by omega
 rcases this with rfl | rfl | rfl | rfl <;> simp[g_] <;> omega
theorem jp:∀(d:Nat) (k:Kd),k.Ok d->k.all.length<=mx d
 | 0,_,h=>h.elim
 | d+1,.whole lo hi,h=>by
  obtain⟨h1,h2,h3⟩:=h;rw[jK];exact YZ d _ (by omega)
 | d+1,.pick cs,h=>by
  rw[W8];exact YZ d _ (aD h.2.1 (by omega))
 | 1,.row ks,h=>by
  obtain⟨h1,h2,h3⟩:=h
  match ks,h1,h3 with
  | k :: _,_,h3=>exact(h3 k am).elim
 | d+2,.row ks,h=>by
  obtain⟨h1,h2,h3⟩:=h;rw[jY];have hp:=aD (by omega:1<=41) (Vo d)
  have:=Vn hp (ks.map λk=>k.all.length) λn hn=>by
   obtain⟨k,hk,rfl⟩:=aN.mp hn;exact jp _ k (h3 k hk)
  rw[aa]at this;exact aD this (Xi hp h2)
 | 1,.many k lo hi,h=>h.2.2.elim
 | d+2,.many k lo hi,h=>by
  rw[ji];exact z1M (jp _ k h.2.2) h.1 h.2.1
theorem zb (h:f ρ= .nx ρ'):zB f g ρ=g ρ' :=by rw[Z3,h]
theorem cs0:zD eqC (zd ixT (vE 0) (cE (.int 0))) (cE (.str w)) (.vl (.tup (.str x :: r)) :: ρ)= .ok (x == w):=by
 rw[zN,zv,v0,bOk,zV,bOk,at0,zV,bOk];rfl
theorem wa:zd ixT (vE 0) (cE (.int 1)) (.vl (.tup (a :: b :: r)) :: ρ)= .ok b:=by
 rw[zv,v0,bOk,zV,bOk,at1]
theorem uE:zd ixT (vE 0) (cE (.int 2)) (.vl (.tup (a :: b :: c :: r)) :: ρ)= .ok c:=by
 rw[zv,v0,bOk,zV,bOk,at2]
theorem gW:zd ixT (vE 0) (cE (.int 3)) (.vl (.tup (a :: b :: c :: d :: r)) :: ρ)= .ok d:=by
 rw[zv,v0,bOk,zV,bOk,at3]
theorem qa (h:f ρ= .ok (.int i)):zd zG f (cE (.int 1)) ρ= .ok (.int (i+1)):=by
 rw[zv,h,bOk,zV,bOk,Z8]
theorem uF (hf:f ρ= .ok (.int i))(hg:g ρ= .ok (.int j))(h: -1000000 < i/\i < 1000000/\ -1000000 < j/\j < 1000000):Jf f g ρ= .ok (rng i (j - i).toNat):=by
 unfold Jf;rw[hf,hg];exact if_pos h
theorem qb:∀(cs:List (Str×Int)) (x y:Sl),zQ (ZC 0 1) Zk (vE 0) (cs.map Wk) [x,y]= .ok (cs.map λc=>T.str c.1)
 | [],_,_=>rfl
 | c :: cs,x,y=>by
  have e:zQ (ZC 0 1) Zk (vE 0) ((c :: cs).map Wk) [x,y]=(zQ _ _ _ _ [.vl _,.vl _]).bind λvs=> .ok _:=rfl;rw[e,qb cs];rfl
theorem qc {x:T}{m:Nat}(h:m<=3):Z4 (.lst [x]) (.int (m:Int))= .ok (.lst (aj m [x]).flatten):=by
 unfold Z4;dsimp only;have c:0<=(m:Int)/\(m:Int) < 1000000/\[x].length*(m:Int).toNat<=bnd:=by
  have hb:3<=bnd:=by decide
  refine⟨by omega,by omega, ?_⟩
  rw[aF,c9];exact aD h hb
 rw[if_pos c,bC]
theorem Jp {α:Type}(x:α):∀m:Nat,(aj m [x]).flatten=aj m x
 | 0=>rfl
 | m+1=>by rw[bS,dW,Jp x m];rfl
abbrev uG (ca cr:List T->R T):En->RS:=Qa 1 (za 1 cr (z9 (zd Z4 (j6 (z9 (za 1 ca (z9 (zd ixT (vE 0) (cE (.int 1))) (zj))) (zj))) (vE 2)) (zj)))
theorem z1N (hf:f ρ= .ok x):j6 (z9 f zj) ρ= .ok (.lst [x]):=by
 unfold j6 z9 zj;rw[hf];rfl
theorem WU {ca:List T->R T}{k:Kd}{t:T}{lo:Nat}{ws:List T}(hw:ca [t]= .ok (.lst ws))(hpos:1<=ws.length){a b c:T}:∀(js:List Nat) (acc:List T) (x:Sl),(∀j∈js,lo+j<=3)->acc.length+(js.map λj=>ws.length ^ (lo+j)).sum<=bnd->
  ∃y,Zx (zJ 2) (uG ca f_d) (js.map λ(j:Nat)=>T.int ((lo:Int)+(j:Int))) [.vl (.tup [a,t,b,c]),.ow acc,x]= .nx [.vl (.tup [a,t,b,c]),.ow (acc++js.flatMap λj=>yt (aj (lo+j) ws)),y]
 | [],acc,x,_,_=>⟨x,by simp[Zx]⟩
 | j :: js,acc,x,hj,hb=>by
  have hj1:=hj j am;rw[aI,dr]at hb;have er:f_d [.lst ((aj (lo+j) ws).map _)]= .ok _:=YY _ (by rw[aS];omega) (λl hl=>by rw[ce hl];exact hpos) (by rw[bh,jc];omega)
  have hlen:(yt (aj (lo+j) ws)).length=ws.length ^ (lo+j):=by rw[Jo,bh,jc]
  have em:Z4 (.lst [.lst ws]) (.int ((lo)+(j)))= .ok (.lst ((aj (lo+j) ws).map T.lst)):=by
   have e1:(lo:Int)+(j)=((lo+j:Nat)):=by omega
   rw[e1,qc (by omega),Jp,bh]
  have eb:uG ca f_d [.vl (.tup [a,t,b,c]),.ow acc,.vl (.int ((lo)+(j)))]= .nx [.vl (.tup [a,t,b,c]),.ow (acc++yt (aj (lo+j) ws)),.vl (.int ((lo)+(j)))]:=by
   have e1:za 1 f_d (z9 (zd Z4 (j6 (z9 (za 1 ca (z9 (zd ixT (vE 0) (cE (.int 1))) (zj))) (zj))) (vE 2)) (zj)) [.vl (.tup [a,t,b,c]),.ow acc,.vl (.int ((lo)+(j)))]= .ok (.lst (yt (aj (lo+j) ws))):=by
    have e0:za 1 ca (z9 (zd ixT (vE 0) (cE (.int 1))) (zj)) [.vl (.tup [a,t,b,c]),.ow acc,.vl (.int ((lo)+(j)))]= .ok (.lst ws):=by
     rw[zW,wa,bOk,hw]
    rw[zW,zv,z1N e0,bOk,v2,bOk,em,bOk,er]
   show ((za 1 _ _ _).s λt=>match t with | .lst us=>if acc.length+us.length<=bnd then RS.nx _ else .bad | _=> .bad)=_
   rw[e1];show (if _ then _ else _)=_
   rw[if_pos (by omega)]
   rfl
  obtain⟨y,ih⟩:=WU (k:=k) hw hpos js (acc++yt (aj (lo+j) ws)) _ (λi hi=>hj i (ac _ hi)) (by rw[av];omega)
  refine⟨y, ?_⟩;have e:Zx (zJ 2) (uG ca f_d) ((j :: js).map λ(j:Nat)=>T.int ((lo)+(j))) [.vl (.tup [a,t,b,c]),.ow acc,x]=match uG ca _ [.vl _,.ow acc,.vl _] with
   | .nx ρ2=>Zx _ _ (js.map λ(j)=>T.int _) ρ2
   | .ct ρ2=>Zx _ _ (js.map λ(j)=>T.int _) ρ2
   | .bk ρ2=> .nx ρ2
   | r=>r:=rfl
  rw[e,eb];dsimp only;rw[ih,bQ,aX]
theorem vp (h1:lo<=hi)(h2:hi<=3){r:RS}
  (el:Zx (zJ 2) (uG ca f_d) ((ba (hi+1 - lo)).map λ(j:Nat)=>T.int ((lo:Int)+(j:Int))) [.vl (.tup [a,t,.int (lo:Int),.int (hi:Int)]),.ow acc,x]=r):
  ZT (Jf (zd ixT (vE 0) (cE (.int 2))) (zd zG (zd ixT (vE 0) (cE (.int 3))) (cE (.int 1)))) (zJ 2) (uG ca f_d) [.vl (.tup [a,t,.int (lo:Int),.int (hi:Int)]),.ow acc,x]=r:=by
 have hn:((hi:Int)+1 - (lo)).toNat=hi+1 - lo:=by omega
 have hc: -1000000 < (lo:Int)/\(lo:Int) < 1000000/\ -1000000 < (hi:Int)+1/\(hi:Int)+1 < 1000000:=by omega
 have e:ZT (Jf (zd ixT (vE 0) (cE (.int 2))) (zd zG (zd ixT (vE 0) (cE (.int 3))) (cE (.int 1)))) (zJ 2) (uG ca f_d) [.vl (.tup [a,t,.int (lo),.int (hi)]),.ow acc,x]=(Jf _ _ _).s λts=>Zx _ _ ts _:=rfl;rw[e,uF uE (qa gW) hc,hn];exact el
theorem gX (e:L=pw n lo hi)(h:L<=1000000):([]:List T).length+((ba (hi+1 - lo)).map λj=>n ^ (lo+j)).sum<=bnd:=by
 have h' :pw n lo hi<=bnd:=aD (e ▸ h) (by decide)
 rw[bR,e_];exact h'
theorem qd (d:Nat)(lo hi:Int)(h:(Kd.whole lo hi).Ok (d+1))(hl:(Kd.whole lo hi).all.length<=1000000)(H:∀k' :Kd,k'.Ok d->ca [k'.t]= .ok (.lst k'.all)):zA (b_5 ca f_d (en0 3 [(Kd.whole lo hi).t]))= .ok (.lst (Kd.whole lo hi).all):=by
 have e:zA (b_5 ca f_d (en0 3 [(Kd.whole lo hi).t]))=zA (b_5 ca _ [.vl _,.un,.un]):=rfl;rw[e,b_5,Z3,ZY];obtain⟨h1,h2,h3⟩:=h;simp only[Kd.t];rw[Zh,ja,W4];unfold GJ;rw[uF wa (qa uE) ⟨by omega,by omega,by omega,by omega⟩]
 rfl
theorem vq (d:Nat)(cs:List (Str×Int))(h:(Kd.pick cs).Ok (d+1))(hl:(Kd.pick cs).all.length<=1000000)(H:∀k' :Kd,k'.Ok d->ca [k'.t]= .ok (.lst k'.all)):zA (b_5 ca f_d (en0 3 [(Kd.pick cs).t]))= .ok (.lst (Kd.pick cs).all):=by
 have hb1:bnd=16777216:=rfl;have e:zA (b_5 ca f_d (en0 3 [(Kd.pick cs).t]))=zA (b_5 ca _ [.vl _,.un,.un]):=rfl;rw[e,b_5,Z3,ZY];simp only[Kd.t];rw[cs0,ZO,show (("pick":Str) == "whole")=false from rfl,if_neg aA,wA];dsimp only;rw[Z3,ZY,Zh,ja,W4,W4,jx,Z2,jb,wa];have hc:=h.2.1;have ec:zH (ZC 0 1) Zk (vE 0) 2 [] [.vl (.tup [.str "pick",.tup (cs.map Wk)]),.un,.un] (cs.map Wk)= .ok (cs.map λc=>T.str c.1):=by
  unfold zH;rw[if_pos (by rw[aa];omega)]
  show quiet (zQ _ _ _ _ [.un,.un])=_;rw[qb];rfl
 show zA (match ((((R.ok _).bind λts=>(zH _ _ _ 2 [] _ ts).bind λvs=> .ok _)).s λt=> .rt t) with | .nx ρ' =>_ | r=>r)=_
 rw[bOk,ec];rfl
theorem Xj (d:Nat)(ks:List Kd)(h:(Kd.row ks).Ok (d+1))(hl:(Kd.row ks).all.length<=1000000)(H:∀k' :Kd,k'.Ok d->ca [k'.t]= .ok (.lst k'.all)):zA (b_5 ca f_d (en0 3 [(Kd.row ks).t]))= .ok (.lst (Kd.row ks).all):=by
 have hb1:bnd=16777216:=rfl;have e:zA (b_5 ca f_d (en0 3 [(Kd.row ks).t]))=zA (b_5 ca _ [.vl _,.un,.un]):=rfl;rw[e,b_5,Z3,ZY];obtain⟨h1,h2,h3⟩:=h;simp only[Kd.t];rw[cs0,ZO,show (("row":Str) == "whole")=false from rfl,if_neg aA,wA];dsimp only;rw[Z3,ZY,cs0,ZO,show (("row":Str) == "pick")=false from rfl,if_neg aA,wA];dsimp only;rw[Z3,ZY,Zh,ja,W4,W4,jx,zW,Kd.ts_map];have ec:zH (zJ 0) Zk (za 1 ca (z9 (vE 0) (zj))) 1 [] [.vl (.tup [.str "row",.tup (ks.map Kd.t)]),.un,.un] (ks.map Kd.t)= .ok ((ks.map Kd.all).map T.lst):=by
  unfold zH;rw[if_pos (by rw[aa];omega)]
  show quiet (zQ _ _ _ _ [.un])=_;have:∀(ks:List Kd) (x:Sl),(∀k∈ks,k.Ok d)->zQ (zJ 0) Zk (za 1 ca (z9 (vE 0) (zj))) (ks.map Kd.t) [x]= .ok ((ks.map Kd.all).map T.lst):=by
   intro ks
   induction ks with
   | nil=>intro _ _;rfl
   | cons k ks ih=>
    intro x hk;have e1:zQ (zJ 0) Zk (za 1 ca (z9 (vE 0) (zj))) ((k :: ks).map _) [x]=(za 1 ca _ [.vl k.t]).bind λv=>(zQ _ _ _ _ [.vl k.t]).bind λvs=> .ok _:=rfl;rw[e1,zW,v0,bOk,H k (hk k am),ih _ λk' hk' =>hk k' (ac _ hk')];rfl
  rw[this ks .un h3];rfl
 have hrow:=jY ks;have er:f_d [.lst ((ks.map Kd.all).map _)]= .ok _:=YY _ (by rw[aa];omega) (λl hl=>by
  obtain⟨k,hk,rfl⟩:=aN.mp hl;exact ZK d k (h3 k hk)) (by
  rw[bG];show prd (ks.map λk=>k.all.length)<=bnd;omega)
 show zA (match ((((R.ok _).bind λts=>(zH _ _ _ 1 [] _ ts).bind λvs=> .ok _).bind λx=>f_d [x]).s λt=> .rt t) with | .nx ρ' =>_ | r=>r)=_
 rw[bOk,ec,bOk,bOk,er,Kd.all,Kd.alls_map];rfl
theorem vt {ca:List T->R T}(d:Nat)(k:Kd)(lo hi:Nat)(h:(Kd.many k lo hi).Ok (d+1))(hl:(Kd.many k lo hi).all.length<=1000000)(H:∀k' :Kd,k'.Ok d->ca [k'.t]= .ok (.lst k'.all)):zA (b_5 ca f_d (en0 3 [(Kd.many k lo hi).t]))= .ok (.lst (Kd.many k lo hi).all):=by
 have hb1:bnd=16777216:=rfl;have e:zA (b_5 ca f_d (en0 3 [(Kd.many k lo hi).t]))=zA (b_5 ca f_d [.vl (Kd.many k lo hi).t,.un,.un]):=rfl;rw[e,b_5,Z3,ZY];obtain⟨h1,h2,h3⟩:=h;have hml:=ji k lo hi;simp only[Kd.t];rw[cs0,ZO,show (("many":Str) == "whole")=false from rfl,if_neg aA,wA];dsimp only;rw[Z3,ZY,cs0,ZO,show (("many":Str) == "pick")=false from rfl,if_neg aA,wA];dsimp only;rw[Z3,ZY,cs0,ZO,show (("many":Str) == "row")=false from rfl,if_neg aA,wA];dsimp only;have e0:ym 1 (zj) [.vl (.tup [.str "many",k.t,.int (lo:Int),.int (hi:Int)]),.un,.un]= .nx [.vl (.tup [.str "many",k.t,.int (lo:Int),.int (hi:Int)]),.ow [],.un]:=rfl;rw[Z3,e0];dsimp only;obtain⟨y,el⟩:=WU (k:=k) (lo:=lo) (H k h3) (ZK d k h3) (a:= .str "many") (b:= .int (lo:Int)) (c:= .int (hi:Int)) (ba (hi+1 - lo)) [] .un (λj hj=>by have:=bn.mp hj;omega) (gX hml hl)
 have e1:=vp (ca:=ca) (t:=k.t) h1 h2 el;rw[bM]at e1;rw[zb e1,Kd.all];rfl
theorem vv (d:Nat)(k:Kd)(h:k.Ok (d+1))(hl:k.all.length<=1000000)(H:∀k' :Kd,k'.Ok d->ca [k'.t]= .ok (.lst k'.all)):zA (b_5 ca f_d (en0 3 [k.t]))= .ok (.lst k.all):=by
 cases k with
 | whole lo hi=>exact qd d lo hi h hl H
 | pick cs=>exact vq d cs h hl H
 | row ks=>exact Xj d ks h hl H
 | many k lo hi=>exact vt d k lo hi h hl H
theorem qe:∀(d n:Nat),d<=n->d<=3->∀k:Kd,k.Ok d->k.all.length<=1000000->S_5 n 0 [k.t]= .ok (.lst k.all)
 | 0,_,_,_,_,h,_=>h.elim
 | d+1,0,hn,_,_,_,_=>by omega
 | d+1,n+1,hn,hd,k,h,hl=>by
  have e:S_5 (n+1) 0 [k.t]=zA (b_5 (S_5 n 0) f_d (en0 3 [k.t])):=rfl;rw[e];refine vv d k h hl λk' hk' =>qe d n (by omega) (by omega) k' hk' ?_
  have h1:=jp d k' hk';have:mx d<=1000000:=by
   have:d=0\/d=1\/d=2:=by omega
   rcases this with rfl | rfl | rfl <;> decide
  omega
theorem in2:zD inC (zd ixT (vE 0) (cE (.int 0))) (Zv (z9 (cE (.str a)) (z9 (cE (.str b)) (zj)))) (.vl (.tup (.str x :: r)) :: ρ)=inC (.str x) (.tup [.str a,.str b]):=by
 rw[zN,zv,v0,bOk,zV,bOk,at0,bOk,Qg zV zV,bOk]
theorem Jb (h:g ρ= .ok true):ifS g f1 f2 ρ=f1 ρ:=by rw[ZY,h,ZO,if_pos rfl]
theorem if_f (h:g ρ= .ok false):ifS g f1 f2 ρ=f2 ρ:=by rw[ZY,h,ZO,if_neg aA]
theorem zw (h:g ρ= .ok false):ifS g f1 nxS ρ= .nx ρ:=by rw[if_f h];rfl
theorem zS (h:f ρ= .ok t):zP i f ρ= .nx (ρ.set i (.vl t)):=by rw[JJ,h,ZO]
theorem zz (h:f (frz ρ)= .ok t):zF f ρ= .rt t:=by rw[Zh,h,ZO]
theorem jd {g:T->En->R En}(hg:g t ρ= .ok ρ1)(hb:fb ρ1= .nx ρ2):Zx g fb (t :: ts) ρ=Zx g fb ts ρ2:=by
 rw[Zx,hg];dsimp only;rw[hb]
theorem zK (h:f ρ= .rt t):zB f g ρ= .rt t:=by rw[Z3,h]
theorem qf {i j:Nat}(h:i < 2 ^ 60):Z4 (.int (i:Int)) (.int (j:Int))= .ok (.int ((i*j:Nat):Int)):=by
 rw[WS _ _ (.inl ⟨by omega,by omega⟩),iy]
theorem gY (h:n<=mx d)(hd:d<=3):n < 2 ^ 60:=by
 have:d=0\/d=1\/d=2\/d=3:=by omega
 have h3:mx 3 < 2 ^ 60:=by decide
 have h2:mx 2 < 2 ^ 60:=by decide
 have h1:mx 1 < 2 ^ 60:=by decide
 have h0:mx 0 < 2 ^ 60:=by decide
 rcases this with rfl | rfl | rfl | rfl <;> omega
theorem Uj {a b:Sl}:∀(ns:List Nat) (m:Nat) (x y:Sl),(∀n∈ns,1<=n)->m*prd ns < 2 ^ 60->∃x',Zx (zJ 3) (zP 2 (zd Z4 (vE 2) (vE 3))) (ns.map λ(n:Nat)=>T.int (n:Int)) [a,b,.vl (.int (m:Int)),x,y]= .nx [a,b,.vl (.int ((m*prd ns:Nat):Int)),x',y]
 | [],m,x,y,_,_=>⟨x,by simp[Zx,prd]⟩
 | n :: ns,m,x,y,hp,hb=>by
  have hpr:=JM λk hk=>hp k (ac _ hk);have hn:=hp n am;have hmm:m<=m*prd (n :: ns):=ci _ (dY hn hpr);have hb2:=bU hmm hb;rw[prd,← cD]at hb;obtain⟨x',ih⟩:=Uj ns _ _ y (λk hk=>hp k (ac _ hk)) hb;refine⟨x', ?_⟩;have es:zP 2 (zd Z4 (vE 2) (vE 3)) [a,b,.vl (.int (m)),.vl (.int (n)),y]= .nx [a,b,.vl (.int ((m*n):Int)),.vl (.int (n)),y]:=by
   rw[JJ,zv,v2,bOk,v3,bOk,qf hb2];rfl
  have s3:zJ 3 (T.int (n)) [a,b,.vl (.int (m)),x,y]= .ok _:=rfl;rw[aI,jd s3 es,prd,← cD];exact ih
theorem vw:∀(d:Nat) (lo hi:Int),(Kd.whole lo hi).Ok (d+1)->(Kd.whole lo hi).Ok 1
 | _,_,_,h=>h
theorem vx:∀(d:Nat) (cs:List (Str×Int)),(Kd.pick cs).Ok (d+1)->(Kd.pick cs).Ok 1
 | _,_,h=>h
theorem WV (k:Kd)(h:k.Ok 1)(ht:k.t= .tup (.str x :: r))(hx:inC (.str x) (.tup [.str "whole",.str "pick"])= .ok true):zA (b_9 (f_5 8) cs (en0 5 [k.t]))= .ok (.int (k.all.length:Int)):=by
 have ha:f_5 8 _= .ok _:=qe 1 8 (by omega) (by omega) k h (aD (jp 1 k h) (by decide))
 have e:zA (b_9 (f_5 8) cs (en0 5 [k.t]))=zA (b_9 _ cs [.vl k.t,.un,.un,.un,.un]):=rfl;have e1:zD inC (zd ixT (vE 0) (cE (.int 0))) (Zv (z9 (cE (.str "whole")) (z9 (cE (.str "pick")) (zj)))) [.vl k.t,.un,.un,.un,.un]= .ok true:=by
  rw[ht,in2,hx]
 have e2:zF (ap1 Zp (za 1 (f_5 8) (z9 (vE 0) (zj)))) [.vl k.t,.un,.un,.un,.un]= .rt (.int (k.all.length)):=by
  refine zz ?_;rw[ja,ZX,zW,v0,bOk,ha,bOk,gI]
 rw[e,b_9,zK (by rw[Jb e1,e2])]
 rfl
theorem z1O (b:Bool):b2 b=(iv b:Int):=by cases b <;> rfl
theorem vy (hd:d+1<=3)(ks:List Kd)(h:(Kd.row ks).Ok (d+1))(H:∀k:Kd,k.Ok d->cs [k.t]= .ok (.int (k.all.length:Int))):zA (b_9 (f_5 8) cs (en0 5 [(Kd.row ks).t]))= .ok (.int ((Kd.row ks).all.length:Int)):=by
 have hlt:=gY (jp _ _ h) hd;rw[jY]at hlt ⊢;obtain⟨h1,h2,h3⟩:=h;simp only[Kd.t,Kd.ts_map];have e:zA (b_9 (f_5 8) cs (en0 5 [.tup [.str "row",.tup (ks.map Kd.t)]]))=zA (b_9 _ cs [.vl _,.un,.un,.un,.un]):=rfl;have e1:zD inC (zd ixT (vE 0) (cE (.int 0))) (Zv (z9 (cE (.str "whole")) (z9 (cE (.str "pick")) (zj)))) [.vl (.tup [.str "row",.tup (ks.map Kd.t)]),.un,.un,.un,.un]= .ok false:=by
  rfl
 have ec:zH (zJ 0) Zk (za 1 cs (z9 (vE 0) (zj))) 1 [] [.vl (.tup [.str "row",.tup (ks.map Kd.t)]),.un,.un,.un,.un] (ks.map Kd.t)= .ok ((ks.map λk=>k.all.length).map λ(n:Nat)=>T.int (n)):=by
  unfold zH;rw[if_pos (by rw[aa];exact aD h2 (by decide))]
  have:∀(ks:List Kd) (x:Sl),(∀k∈ks,k.Ok d)->zQ (zJ 0) Zk (za 1 cs (z9 (vE 0) (zj))) (ks.map Kd.t) [x]= .ok ((ks.map λk=>k.all.length).map λ(n:Nat)=>T.int (n)):=by
   intro ks
   induction ks with
   | nil=>intro _ _;rfl
   | cons k ks ih=>
    intro x hk;have e1:zQ (zJ 0) Zk (za 1 cs (z9 (vE 0) (zj))) ((k :: ks).map _) [x]=(za 1 cs _ [.vl k.t]).bind λv=>(zQ _ _ _ _ [.vl k.t]).bind λvs=> .ok _:=rfl;rw[e1,zW,v0,bOk,H k (hk k am),ih _ λk' hk' =>hk k' (ac _ hk')];rfl
  show quiet (zQ _ _ _ _ [.un])=_;rw[this ks .un h3];rfl
 have e2:ifE (zD eqC (zd ixT (vE 0) (cE (.int 0))) (cE (.str "row"))) (Z1 (ZU (zd ixT (vE 0) (cE (.int 1)))) (zJ 0) (Zk) (za 1 cs (z9 (vE 0) (zj))) 1 []) (j6 (zj)) [.vl (.tup [.str "row",.tup (ks.map Kd.t)]),.un,.un,.un,.un]= .ok (.lst ((ks.map λk=>k.all.length).map λ(n:Nat)=>T.int (n))):=by
  unfold ifE;rw[cs0,bOk,show (("row":Str) == "row")=true from rfl,if_pos rfl,Z2,jb,wa];show ((R.ok _).bind _)=_;rw[bOk,ec,bOk]
 obtain⟨x',el⟩:=Uj (a:= .vl _) (ks.map λk=>k.all.length) 1 .un .un (λn hn=>by
  obtain⟨k,hk,rfl⟩:=aN.mp hn;exact ZK d k (h3 k hk)) (by rw[c9];exact hlt)
 rw[c9]at el;have e3:ZT (ZU (vE 1)) _ _ [.vl _,.vl (.lst ((ks.map λk=>k.all.length).map λ(n:Nat)=>T.int (n))),.vl (.int 1),.un,.un]=_:=el;rw[e,b_9,zb (zw e1),zb (zS e2)];have s1:([.vl (.tup [.str "row",.tup (ks.map Kd.t)]),.un,.un,.un,.un]:En).set 1 (.vl (.lst ((ks.map λk=>k.all.length).map λ(n:Nat)=>T.int (n))))=[.vl _,.vl (.lst ((ks.map λk=>k.all.length).map λ(n:Nat)=>T.int (n))),.un,.un,.un]:=rfl;rw[s1,zb (zS zV)];have s2:([.vl (.tup [.str "row",.tup (ks.map Kd.t)]),.vl (.lst ((ks.map λk=>k.all.length).map λ(n:Nat)=>T.int (n))),.un,.un,.un]:En).set 2 (.vl (.int 1))=[.vl _,.vl (.lst ((ks.map λk=>k.all.length).map λ(n)=>T.int _)),.vl _,.un,.un]:=rfl;rw[s2,zb e3];rfl
theorem gZ (hf:f ρ= .ok (.int i))(hg:g ρ= .ok (.int j)):chE leC leC f (cE (.int c)) g ρ= .ok (.bl (decide (i<=c) && decide (c<=j))):=by
 rw[vn,hf,bOk,zV,bOk,WM,hg];cases decide (i<=c) <;> rfl
theorem wB (a b:Nat):decide ((a:Int)<=(b:Int))=decide (a<=b):=by
 by_cases h:a<=b
 ·rw[decide_eq_true h];exact decide_eq_true (by omega)
 ·rw[decide_eq_false h];exact decide_eq_false (by omega)
theorem qg (a b:Nat):((a:Int) == (b:Int))=(a == b):=by
 by_cases h:a=b
 ·subst h;simp
 ·rw[beq_eq_false_iff_ne.mpr h,beq_eq_false_iff_ne];omega
theorem z08 (h:f ρ= .ok (.bl b)):ap1 Yn f ρ= .ok (.int ((iv b:Nat):Int)):=by
 rw[ZX,h];show R.ok _=_;rw[z1O]
theorem qh (hf:f ρ= .ok (.int (i:Int)))(hg:g ρ= .ok (.int (j:Int))):zd zG f g ρ= .ok (.int ((i+j:Nat):Int)):=by
 rw[zv,hf,bOk,hg,bOk,Z8,Int.natCast_add]
theorem jZ (h:i < 2 ^ 60)(hf:f ρ= .ok (.int (i:Int)))(hg:g ρ= .ok (.int (j:Int))):zd Z4 f g ρ= .ok (.int ((i*j:Nat):Int)):=by
 rw[zv,hf,bOk,hg,bOk,qf h]
theorem Xk (h:n<=mx d)(hd:d+1<=3)(h0:1<=d):n*n*n < 2 ^ 60/\n*n < 2 ^ 60/\n < 2 ^ 60:=by
 have h1:n<=70644:=by
  have:d=1\/d=2:=by omega
  have h2:mx 2=70644:=by decide
  have h1:mx 1=41:=by decide
  rcases this with rfl | rfl <;> omega
 have h2:=cj h1 h1;have h3:=cj h2 h1;have h4:70644*70644*70644 < 2 ^ 60:=by decide
 have h5:70644*70644 < 2 ^ 60:=by decide
 have h6:70644 < 2 ^ 60:=by decide
 exact⟨bU h3 h4,bU h2 h5,bU h1 h6⟩
noncomputable abbrev mt (t:T)(lo hi:Nat):T:= .tup [.str "many",t,.int (lo:Int),.int (hi:Int)]
theorem v4' :vE 4 (a :: b :: c :: d :: .vl t :: ρ)= .ok t:=rfl
theorem qi {t:T}{a x:Sl}{lo hi n:Nat}(h3:n*n*n < 2 ^ 60)(h2:n*n < 2 ^ 60)(h1:n < 2 ^ 60):
  zB (zP 2 (zd zG (ap1 Yn (ZS eqC (zd ixT (vE 0) (cE (.int 2))) (cE (.int 0)))) (zd Z4 (vE 4) (ap1 Yn (chE leC leC (zd ixT (vE 0) (cE (.int 2))) (cE (.int 1)) (zd ixT (vE 0) (cE (.int 3))))))))
  (zB (zP 2 (zd zG (vE 2) (zd Z4 (zd Z4 (vE 4) (vE 4)) (ap1 Yn (chE leC leC (zd ixT (vE 0) (cE (.int 2))) (cE (.int 2)) (zd ixT (vE 0) (cE (.int 3))))))))
  (zP 2 (zd zG (vE 2) (zd Z4 (zd Z4 (zd Z4 (vE 4) (vE 4)) (vE 4)) (ap1 Yn (ZS eqC (zd ixT (vE 0) (cE (.int 3))) (cE (.int 3))))))))
  [.vl (mt t lo hi),a,.vl (.int 1),x,.vl (.int (n:Int))]= .nx [.vl (mt t lo hi),a,.vl (.int ((iv (lo == 0)+n*iv (decide (lo<=1) && decide (1<=hi))+n*n*iv (decide (lo<=2) && decide (2<=hi))+n*n*n*iv (hi == 3):Nat):Int)),x,.vl (.int (n:Int))]:=by
 have le1:∀{p q r s:Sl},ap1 _ (chE leC leC _ _ _) [.vl (mt t lo hi),p,q,r,s]= .ok (.int ((iv (decide (lo<=1) && decide (1<=hi))):Int)):=λ{p q r s}=>z08 (by
  rw[gZ uE gW];rw[show decide ((lo:Int)<=1)=decide _ from wB lo 1,show decide ((1:Int)<=(hi))=decide _ from wB 1 hi])
 have le2:∀{p q r s:Sl},ap1 _ (chE leC leC _ _ _) [.vl (mt t lo hi),p,q,r,s]= .ok (.int ((iv (decide (lo<=2) && decide (2<=hi))):Int)):=λ{p q r s}=>z08 (by
  rw[gZ uE gW];rw[show decide ((lo:Int)<=2)=decide _ from wB lo 2,show decide ((2:Int)<=(hi))=decide _ from wB 2 hi])
 have eq0:∀{p q r s:Sl},ap1 _ (ZS eqC (zd ixT _ _) (cE _)) [.vl (mt t lo hi),p,q,r,s]= .ok _:=λ{p q r s}=>z08 (by
  rw[Zi,uE,bOk,zV,bOk,eqI,bOk,show ((lo:Int) == 0)=(lo == 0) from qg lo 0])
 have eq3:∀{p q r s:Sl},ap1 _ (ZS eqC (zd ixT _ _) (cE _)) [.vl (mt t lo hi),p,q,r,s]= .ok _:=λ{p q r s}=>z08 (by
  rw[Zi,gW,bOk,zV,bOk,eqI,bOk,show ((hi:Int) == 3)=(hi == 3) from qg hi 3])
 have a1:=zS (i:=2) (qh (eq0 (p:=a) (q:= .vl (.int 1)) (r:=x)) (jZ h1 v4' le1));have a1:zP 2 _ _= .nx [.vl _,a,.vl _,x,.vl _]:=a1;rw[zb a1];generalize iv _+n*iv _=m1;have a2:=zS (i:=2) (qh (v2 (t:= .int (m1)) (b:=a) (ρ:=[x,.vl _])) (jZ h2 (jZ h1 v4' v4') le2));rw[zb a2];generalize m1+n*n*iv _=m2;have a3:=zS (i:=2) (qh (v2 (t:= .int (m2)) (b:=a) (ρ:=[x,.vl _])) (jZ h3 (jZ h2 (jZ h1 v4' v4') v4') eq3));exact a3
theorem qj {cs:List T->R T}{d:Nat}(hd:d+1<=3)(k:Kd)(lo hi:Nat)(h:(Kd.many k lo hi).Ok (d+1))(H:∀k:Kd,k.Ok d->cs [k.t]= .ok (.int (k.all.length:Int))):zA (b_9 (f_5 8) cs (en0 5 [(Kd.many k lo hi).t]))= .ok (.int ((Kd.many k lo hi).all.length:Int)):=by
 obtain⟨h1,h2,h3⟩:=h;have hd0:1<=d:=by
  cases d with
  | zero=>exact h3.elim
  | succ d=>omega
 obtain⟨c3,c2,c1⟩:=Xk (jp d k h3) hd hd0;rw[ji,Xh _ h1 h2];simp only[Kd.t];have hk:=H k h3;generalize k.all.length=n at*;generalize k.t=t at*;have e:zA (b_9 (f_5 8) cs (en0 5 [mt t lo hi]))=zA (b_9 _ cs [.vl _,.un,.un,.un,.un]):=rfl;have e1:zD inC (zd ixT (vE 0) (cE (.int 0))) (Zv (z9 (cE (.str "whole")) (z9 (cE (.str "pick")) (zj)))) [.vl (mt t lo hi),.un,.un,.un,.un]= .ok false:=by
  rfl
 have e2:ifE (zD eqC (zd ixT (vE 0) (cE (.int 0))) (cE (.str "row"))) (Z1 (ZU (zd ixT (vE 0) (cE (.int 1)))) (zJ 0) (Zk) (za 1 cs (z9 (vE 0) (zj))) 1 []) (j6 (zj)) [.vl (mt t lo hi),.un,.un,.un,.un]= .ok (.lst []):=by
  rfl
 have s1:([.vl (mt t lo hi),.un,.un,.un,.un]:En).set 1 (.vl (.lst []))=[.vl _,.vl _,.un,.un,.un]:=rfl;have s2:([.vl (mt t lo hi),.vl (.lst []),.un,.un,.un]:En).set 2 (.vl (.int 1))=[.vl _,.vl _,.vl _,.un,.un]:=rfl;have e3:ZT (ZU (vE 1)) (zJ 3) (zP 2 (zd Z4 (vE 2) (vE 3))) [.vl (mt t lo hi),.vl (.lst []),.vl (.int 1),.un,.un]= .nx _:=rfl;have e4:zD eqC (zd ixT (vE 0) (cE (.int 0))) (cE (.str "many")) [.vl (mt t lo hi),.vl (.lst []),.vl (.int 1),.un,.un]= .ok true:=by
  rfl
 have e5:za 1 cs (z9 (zd ixT (vE 0) (cE (.int 1))) (zj)) [.vl (mt t lo hi),.vl (.lst []),.vl (.int 1),.un,.un]= .ok (.int (n)):=by
  rw[zW,wa,bOk,hk]
 have s5:([.vl (mt t lo hi),.vl (.lst []),.vl (.int 1),.un,.un]:En).set 4 (.vl (.int (n)))=[.vl _,.vl _,.vl _,.un,.vl _]:=rfl;have e6:=qi (t:=t) (a:= .vl (.lst [])) (x:= .un) (lo:=lo) (hi:=hi) c3 c2 c1;rw[e,b_9,zb (zw e1),zb (zS e2),s1,zb (zS zV),s2,zb e3];have e7:∀(P:En->RS),ifS _ (zB _ P) nxS _=P _:=λP=>by
  rw[Jb e4,zb (zS e5),s5]
 rw[zb (Eq.trans (e7 _) e6)];rfl
theorem qk:∀(d n:Nat),d<=n->d<=3->∀k:Kd,k.Ok d->S_9 n 0 [k.t]= .ok (.int (k.all.length:Int))
 | 0,_,_,_,_,h=>h.elim
 | d+1,0,hn,_,_,_=>by omega
 | d+1,n+1,hn,hd,k,h=>by
  have H:=λk' hk' =>qk d n (by omega) (by omega) k' hk'
  cases k with
  | whole lo hi=>exact WV _ (vw d lo hi h) (x:="whole") (r:=[.int lo,.int hi]) (by simp only[Kd.t]) rfl
  | pick cs=>exact WV _ (vx d cs h) (x:="pick") (r:=[.tup (cs.map Wk)]) (by simp only[Kd.t]) rfl
  | row ks=>exact vy (by omega) ks h H
  | many k lo hi=>exact qj (by omega) k lo hi h H
theorem Ok.mono:∀(d:Nat) (k:Kd),k.Ok d->k.Ok (d+1)
 | 0,_,h=>h.elim
 | d+1,.whole _ _,h=>h
 | d+1,.pick _,h=>h
 | d+1,.row ks,h=>⟨h.1,h.2.1,λk hk=>Ok.mono d k (h.2.2 k hk)⟩
 | d+1,.many k _ _,h=>⟨h.1,h.2.1,Ok.mono d k h.2.2⟩
theorem Xl (j:Int):Z4 (.int 700) (.int j)= .ok (.int (700*j)):=WS _ _ (.inl ⟨by decide,by decide⟩)
theorem G1 (ns:List Int)(d:Nat)(h1:1<=d)(h8:d<=8)(k:Int)(h0:0<=k):∃q:Kd,f_b 8 [scr ns,.int k,.int (d:Int)]= .ok q.t/\q.Ok d:=by
 obtain⟨t,ht,hi⟩:=uB ns d 8 h8 h1 k h0;obtain⟨q,rfl,hq⟩:=uD d t hi;exact⟨q,ht,hq⟩
abbrev smB:En->RS:=zB (ifS (zD leC (za 1 (f_9 8) (z9 (vE 3) (zj))) (vB 2)) (zF (vE 3)) (nxS))
  (zP 3 (za 3 (f_b 8) (z9 (vE 0) (z9 (zd zG (zd zG (vE 1) (cE (.int 500))) (zd Z4 (cE (.int 700)) (vE 4))) (z9 (cE (.int 2)) (zj))))))
abbrev en5 (ns:List Int)(a:Int)(m:Nat)(k:Kd)(x:Sl):En:=[.vl (scr ns),.vl (.int a),.vl (.int (m:Int)),.vl k.t,x]
theorem qm (hk:k.Ok 3):zD leC (za 1 (f_9 8) (z9 (vE 3) (zj))) (vB 2) (en5 ns a m k x)= .ok (decide (k.all.length<=m)):=by
 have e:f_9 8 _= .ok _:=qk 3 8 (by omega) (by omega) k hk
 rw[zN,zW,v3,bOk,e,bOk,w2,bOk,WM,wB]
theorem Xm (ns:List Int)(ha:0<=a)(hk:k.Ok 3)(j:Nat):(k.all.length<=m/\smB (en5 ns a m k (.vl (.int (0+(j:Int)))))= .rt k.t)\/∃k' :Kd,k'.Ok 3/\smB (en5 ns a m k (.vl (.int (0+(j:Int)))))= .nx (en5 ns a m k' (.vl (.int (0+(j:Int))))):=by
 by_cases h:k.all.length<=m
 ·refine .inl ⟨h, ?_⟩;refine zK ?_;rw[Jb (by rw[qm hk,decide_eq_true h])]
  exact zz rfl
 ·obtain⟨q,hq,ho⟩:=G1 ns 2 (by omega) (by omega) (a+500+700*(0+(j))) (by omega)
  refine .inr ⟨q,Ok.mono 2 q ho, ?_⟩;unfold smB;rw[zb (zw (by rw[qm hk,decide_eq_false h]))]
  have hq:f_b 8 [scr ns,.int _,.int 2]= .ok q.t:=hq;have e:za 3 (f_b 8) (z9 (vE 0) (z9 (zd zG (zd zG (vE 1) (cE (.int 500))) (zd Z4 (cE (.int 700)) (vE 4))) (z9 (cE (.int 2)) (zj)))) (en5 ns a m k (.vl (.int (0+(j)))))= .ok q.t:=by
   rw[Zq,v0,bOk,zv,zv,v1,bOk,zV,bOk,Z8,bOk,zv,zV,bOk,v4,bOk,Xl,bOk,Z8,bOk,zV,bOk,hq]
  rw[zS e];rfl
theorem G2 {g:T->En->R En}(hg:g t ρ= .ok ρ1)(hb:fb ρ1= .rt r):Zx g fb (t :: ts) ρ= .rt r:=by
 rw[Zx,hg];dsimp only;rw[hb]
theorem qo (ns:List Int)(ha:0<=a):∀(js:List Nat) (k:Kd) (x:Sl),k.Ok 3->(∃k' :Kd,k'.Ok 3/\k'.all.length<=m/\Zx (zJ 4) smB (js.map λ(j:Nat)=>T.int (0+(j:Int))) (en5 ns a m k x)= .rt k'.t)\/
  ∃(k' :Kd) (x' :Sl),k'.Ok 3/\Zx (zJ 4) smB (js.map λ(j:Nat)=>T.int (0+(j:Int))) (en5 ns a m k x)= .nx (en5 ns a m k' x')
 | [],k,x,hk=> .inr ⟨k,x,hk,rfl⟩
 | j :: js,k,x,hk=>by
  have s3:zJ 4 (T.int (0+(j))) (en5 ns a m k x)= .ok _:=rfl;rw[aI];rcases Xm ns ha hk j with ⟨h1,h2⟩ | ⟨k',h1,h2⟩
  ·exact .inl ⟨k,hk,h1,G2 s3 h2⟩
  ·rw[jd s3 h2];exact qo ns ha js k' _ h1
theorem vz (ns:List Int)(a:Int)(ha:0<=a)(m:Nat)(hm:4<=m):∃k:Kd,k.Ok 3/\k.all.length<=m/\gu [scr ns,.int a,.int (m:Int)]= .ok k.t:=by
 obtain⟨q,hq,ho⟩:=G1 ns 3 (by omega) (by omega) a ha
 have hq:f_b 8 [scr ns,.int a,.int 3]= .ok q.t:=hq;have e:gu [scr ns,.int a,.int (m)]=zA (GO _ _ [.vl _,.vl _,.vl _,.un,.un]):=rfl;have e1:za 3 (f_b 8) (z9 (vE 0) (z9 (vE 1) (z9 (cE (.int 3)) (zj)))) [.vl (scr ns),.vl (.int a),.vl (.int (m)),.un,.un]= .ok q.t:=by
  rw[Zq,v0,bOk,v1,bOk,zV,bOk,hq]
 have s1:([.vl _,.vl _,.vl _,.un,.un]:En).set 3 _=en5 ns a m q .un:=rfl;rw[e,GO,zb (zS e1),s1];rcases qo ns ha _ q .un ho with ⟨k,h1,h2,h3⟩ | ⟨k,x,h1,h3⟩
 ·refine⟨k,h1,h2, ?_⟩;have e2:ZT (Za (cE (.int 3))) (zJ 4) smB _= .rt k.t:=h3;rw[zK e2];rfl
 ·have e2:ZT (Za (cE (.int 3))) (zJ 4) smB _= .nx _:=h3;rw[zb e2];have ec:zD leC _ _ (frz (en5 ns a m k x))= .ok _:=qm h1
  by_cases h:k.all.length<=m
  ·refine⟨k,h1,h, ?_⟩;rw[zz]
   ·rfl
   ·unfold ifE;rw[ec,decide_eq_true h];rfl
  ·refine⟨.whole (-1) 2,⟨by omega,by omega,by omega⟩,by exact hm, ?_⟩
   rw[zz]
   ·rfl
   ·unfold ifE;rw[ec,bOk,decide_eq_false h,if_neg aA];rfl
mutual
noncomputable def Kd.has:Kd->T->Bool
 | .whole lo hi=>λt=>inR lo hi t
 | .pick cs=>λt=>match t with | .str x=>cs.any λc=>c.1 == x | _=>false
 | .row ks=>λt=>match t with | .tup xs=>xs.length == ks.length && Kd.hass ks xs | _=>false
 | .many k lo hi=>λt=>match t with | .tup xs=>decide (lo<=xs.length) && decide (xs.length<=hi) && xs.all k.has | _=>false
noncomputable def Kd.hass:List Kd->List T->Bool
 | []=>λ_=>true
 | k :: ks=>λxs=>match xs with | []=>true | x :: xs=>k.has x && Kd.hass ks xs
end
noncomputable def ye:List (List T)->List T->Prop
 | [],[]=>True
 | l :: ls,x :: xs=>x∈l/\ye ls xs
 | _,_=>False
theorem JO:∀(ls made:List (List T)) (xs:List T),xs∈Zw made ls↔∃a∈made,∃b,ye ls b/\xs=a++b
 | [],made,xs=>by
  rw[Zw];constructor
  ·exact λh=>⟨xs,h,[],trivial,by simp⟩
  ·rintro⟨a,ha,b,hb,rfl⟩
   cases b with
   | nil=>simpa using ha
   | cons=>exact hb.elim
 | l :: ls,made,xs=>by
  rw[Zw,JO ls];constructor
  ·rintro⟨a',ha',b,hb,rfl⟩
   obtain⟨a,ha,hx⟩:=cP.mp ha';obtain⟨x,hl,e⟩:=aN.mp hx;exact⟨a,ha,x :: b,⟨hl,hb⟩,by rw[← e];simp⟩
  ·rintro⟨a,ha,b,hb,rfl⟩
   cases b with
   | nil=>exact hb.elim
   | cons x b=>exact⟨a++[x],cP.mpr ⟨a,ha,aN.mpr ⟨x,hb.1,rfl⟩⟩,b,hb.2,by simp⟩
theorem W9 (ls:List (List T))(t:T):t∈yt ls↔∃xs,ye ls xs/\t= .tup xs:=by
 rw[aN];constructor
 ·rintro⟨xs,h,rfl⟩
  obtain⟨a,ha,b,hb,rfl⟩:=(JO ls _ xs).mp h;rw[aQ.mp ha];exact⟨b,hb,rfl⟩
 ·rintro⟨xs,h,rfl⟩
  exact⟨xs,(JO ls _ xs).mpr ⟨[],aQ.mpr rfl,xs,h,rfl⟩,rfl⟩
theorem Wa (l:List T):∀(m:Nat) (xs:List T),ye (aj m l) xs↔xs.length=m/\∀x∈xs,x∈l
 | 0,[]=>by simp[ye]
 | 0,x :: xs=>by simp[ye]
 | m+1,[]=>by simp[ye,bS]
 | m+1,x :: xs=>by
  show x∈l/\ye _ xs↔_;rw[Wa l m xs];simp;constructor
  ·rintro⟨a,b,c⟩;exact⟨b,a,c⟩
  ·rintro⟨a,b,c⟩;exact⟨b,a,c⟩
theorem WW:∀(ks:List Kd),(∀k∈ks,∀x,x∈k.all↔k.has x=true)->∀xs,ye (ks.map Kd.all) xs↔(xs.length == ks.length && Kd.hass ks xs)=true
 | [],_,[]=>by simp[ye,Kd.hass]
 | [],_,x :: xs=>by simp[ye]
 | k :: ks,h,[]=>by simp[ye]
 | k :: ks,h,x :: xs=>by
  show x∈k.all/\ye _ xs↔_;rw[WW ks (λk' hk' =>h k' (ac _ hk')) xs,h k am x];simp[Kd.hass];constructor
  ·rintro⟨a,b,c⟩;exact⟨b,a,c⟩
  ·rintro⟨a,b,c⟩;exact⟨b,a,c⟩
mutual
theorem Wb:∀(k:Kd) (x:T),x∈k.all↔k.has x=true
 | .whole lo hi,x=>by
  rw[Kd.all,Kd.has,aN];constructor
  ·rintro⟨i,hi',rfl⟩
   rw[bn]at hi';simp[inR];omega
  ·intro h;obtain⟨i,rfl⟩:=Xf h;simp[inR]at h;exact⟨(i - lo).toNat,by rw[bn];omega,by congr 1;omega⟩
 | .pick cs,x=>by
  rw[Kd.all,Kd.has,aN];constructor
  ·rintro⟨c,hc,rfl⟩
   simp only[ii];exact⟨c,hc,by simp⟩
  ·intro h;dsimp only at h;split at h
   ·rw[ii]at h;obtain⟨c,hc,e⟩:=h;exact⟨c,hc,by rw[eq_of_beq e]⟩
   ·cases h
 | .row ks,x=>by
  rw[Kd.all,Kd.has,W9,Kd.alls_map];have:=WW ks (Uk ks);constructor
  ·rintro⟨xs,h,rfl⟩
   exact(this xs).mp h
  ·intro h;dsimp only at h;split at h
   ·rename_i xs;exact⟨xs,(this xs).mpr h,rfl⟩
   ·cases h
 | .many k lo hi,x=>by
  rw[Kd.all,Kd.has,cP];constructor
  ·rintro⟨i,hi',h⟩
   rw[W9]at h;obtain⟨xs,h,rfl⟩:=h;rw[Wa]at h;rw[bn]at hi';simp only[ae,decide_eq_true_eq,aT];exact⟨⟨by omega,by omega⟩,λy hy=>(Wb k y).mp (h.2 y hy)⟩
  ·intro h;dsimp only at h;split at h
   ·rename_i xs;simp only[ae,decide_eq_true_eq,aT]at h;refine⟨xs.length - lo,by rw[bn];omega, ?_⟩
    rw[W9];exact⟨xs,(Wa _ _ _).mpr ⟨by omega,λy hy=>(Wb k y).mpr (h.2 y hy)⟩,rfl⟩
   ·cases h
theorem Uk:∀(ks:List Kd),∀k∈ks,∀x,x∈k.all↔k.has x=true
 | [],_,h=>nomatch h
 | k :: ks,k',h=>by
  rcases ak.mp h with e | h
  ·intro x;rw[e];exact Wb k x
  ·exact Uk ks k' h
end
theorem Ul {α:Type}(p:α->Bool):∀qs:List α,uf (qs.map λq=>T.bl (p q))=some (qs.all p)
 | []=>rfl
 | q :: qs=>by
  have e:uf ((q :: qs).map λq=>T.bl (p q))=match uf (qs.map λq=>T.bl _) with | some j=>some _ | none=>none:=rfl
  rw[e,Ul p qs];rfl
theorem vA (cs:List (Str×Int))(h:cs.length<=4):gy [(Kd.pick cs).t]= .ok (.lst (cs.map λc=>T.str c.1)):=by
 have e:gy [(Kd.pick cs).t]=zA (GV [.vl (.tup [.str "pick",.tup (cs.map Wk)])]):=by rfl
 have hb:(cs.map Wk).length<=bnd:=by rw[aa];exact aD h (by decide)
 have ec:zH _ _ (zd ixT (vE 0) (cE (.int 0))) 1 [] [.vl (.tup [.str "pick",.tup (cs.map Wk)])] _= .ok ((cs.map Wk).map λc=>match c with | .tup (w :: _)=>w | _=>c):=
  Zc _ hb λt ht=>by
   obtain⟨c,_,rfl⟩:=aN.mp ht;rfl
 rw[e,GV,zz]
 ·rfl
 ·show Z1 _ _ _ _ _ _ [.vl _]=_;show ((zH _ _ _ _ _ _ _).bind _)=_;rw[ec,bG];rfl
abbrev en2 (a b:T):En:=[.vl a,.vl b]
theorem XT (h:(x == w)=false):ifS (zD eqC (zd ixT (vE 0) (cE (.int 0))) (cE (.str w))) f nxS (en2 (.tup (.str x :: r)) b)= .nx (en2 (.tup (.str x :: r)) b):=
 zw (by rw[cs0,h])
theorem cs0t:ifS (zD eqC (zd ixT (vE 0) (cE (.int 0))) (cE (.str x))) f nxS (en2 (.tup (.str x :: r)) b)=f (en2 (.tup (.str x :: r)) b):=
 Jb (by rw[cs0,beq_self_eq_true])
theorem qp:∀(d:Nat) (k:Kd),k.Ok d->isK d k.t=true
 | 0,_,h=>h.elim
 | d+1,.whole lo hi,h=>by
  have e:isK (d+1) (Kd.whole lo hi).t=(decide (-20<=lo) && decide (lo<=hi) && decide (hi<=20)):=by rfl
  obtain⟨h1,h2,h3⟩:=h;rw[e];simp;omega
 | d+1,.pick cs,h=>by
  have e:isK (d+1) (Kd.pick cs).t=(decide (1<=(cs.map Wk).length) && decide ((cs.map Wk).length<=4) && (cs.map Wk).all Z0 && decide ((dd [] ((cs.map Wk).map ZR)).length=(cs.map Wk).length)):=by rfl
  obtain⟨h1,h2,h3,h4⟩:=h;have e1:(cs.map Wk).map ZR=cs.map (·.1):=by rw[bG];rfl
  have e2:=(W6 _ []).mpr λk w hw=>by simpa using h4 k w hw
  rw[e,e1,e2,aa];simp only[ae,decide_eq_true_eq,aT];refine⟨⟨⟨h1,h2⟩,λc hc=> ?_⟩,by simp⟩
  obtain⟨p,hp,rfl⟩:=aN.mp hc;obtain⟨a,b,c⟩:=h3 p hp;show (Zl _ && decide _ && decide _)=true;rw[a];simp;omega
 | d+1,.row ks,h=>by
  have e:isK (d+1) (Kd.row ks).t=(decide (1<=(ks.map Kd.t).length) && decide ((ks.map Kd.t).length<=3) && (ks.map Kd.t).all (isK d)):=by rw[Kd.t,Kd.ts_map];rfl
  obtain⟨h1,h2,h3⟩:=h;rw[e,aa];simp only[ae,decide_eq_true_eq,aT];refine⟨⟨h1,h2⟩,λc hc=> ?_⟩;obtain⟨k,hk,rfl⟩:=aN.mp hc;exact qp d k (h3 k hk)
 | d+1,.many k lo hi,h=>by
  have e:isK (d+1) (Kd.many k lo hi).t=((decide ((0:Int)<=(lo:Int)) && decide ((lo:Int)<=(hi)) && decide ((hi:Int)<=3)) && isK d k.t):=by rfl
  obtain⟨h1,h2,h3⟩:=h;rw[e,qp d k h3];simp;omega
theorem Um:∀(ks:List Kd) (xs:List T),xs.length=ks.length->Kd.hass ks xs=true->∀x∈xs,∃k∈ks,k.has x=true
 | [],[],_,_,_,h=>nomatch h
 | k :: ks,[],h,_,_,_=>by cases h
 | [],x :: xs,h,_,_,_=>by cases h
 | k :: ks,x :: xs,hl,h,y,hy=>by
  rw[Kd.hass]at h;rw[ae]at h;rcases ak.mp hy with rfl | hy
  ·exact⟨k,am,h.1⟩
  ·obtain⟨k',hk,hh⟩:=Um ks xs (by simpa using hl) h.2 y hy
   exact⟨k',ac _ hk,hh⟩
theorem Uo {α β:Type}(f:α->List β)(m:Nat):∀(as:List α) (i j:Nat),(∀a∈as,(f a).length=m)->j < m->(as.flatMap f)[i*m+j]? =(as[i]?).bind λa=>(f a)[j]?
 | [],i,j,_,_=>by simp
 | a :: as,0,j,h,hj=>by
  have ha:=h a am;rw[bQ,Nat.zero_mul,e_,ax (by omega)]
  rfl
 | a :: as,i+1,j,h,hj=>by
  have ha:=h a am;have e:(i+1)*m=i*m+m:=by rw[iq,c9]
  rw[bQ,au (by omega),ha,e,show i*m+m+j - m=i*m+j by omega,Uo f m as i j (λb hb=>h b (ac _ hb)) hj]
  rfl
theorem WX {α β:Type}(f:α->List β):∀(as:List α) (q j:Nat) (a:α),as[q]? =some a->j < (f a).length->(as.flatMap f)[((as.take q).map λb=>(f b).length).sum+j]? =(f a)[j]?
 | [],q,j,a,h,_=>by simp at h
 | b :: as,0,j,a,h,hj=>by
  have e:=by simpa using h
  subst e;rw[bQ,List.take_zero,cN,List.sum_nil,e_,ax hj]
 | b :: as,q+1,j,a,h,hj=>by
  rw[bQ,List.take_succ_cons,aI,dr,Nat.add_assoc,au (by omega),eQ]
  exact WX f as q j a (by simpa using h) hj
theorem wC:∀(ls made:List (List T)) (l:List T),Zw made (ls++[l])=(Zw made ls).flatMap λa=>l.map λx=>a++[x]
 | [],made,l=>rfl
 | _ :: ls,made,l=>by
  rw[dq,Zw,Zw,wC ls]
theorem vC {ls:List (List T)}(h:(Zw [[]] ls)[i]? =some xs)(hx:l[j]? =some x):(Zw [[]] (ls++[l]))[i*l.length+j]? =some (xs++[x]):=by
 have hj:=(ar.mp hx).1;rw[wC,Uo _ _ _ i j (λa _=>aa ..) hj,h];show (l.map λx=>xs++[x])[j]? =_;rw[ay,hx];rfl
theorem Up:∀(ns:List Nat) (n:Nat),prd (ns++[n])=prd ns*n
 | [],n=>by simp[prd]
 | m :: ns,n=>by rw[dq,prd,prd,Up ns n,cD]
theorem wD (ls:List (List T)):(Zw [[]] ls).length=prd (ls.map (·.length)):=by rw[JN,aF,c9]
theorem Uq {α:Type}{xs:List α}(h:i < xs.length):∃x,xs[i]? =some x:=⟨_,ah h⟩
theorem Vp {xs:List T}{j:Nat}{v:T}(h:xs[j]? =some v):atT xs (j:Int)= .ok v:=by unfold atT;rw[j3 h]
noncomputable def shr (c lo q:Nat):Nat:=((ba q).map λi=>c ^ (lo+i)).sum
theorem vD (c lo q:Nat):shr c lo (q+1)=shr c lo q+c ^ (lo+q):=by
 unfold shr;rw[iB,br];simp
theorem Xn (hq:q < hi+1 - lo)(h:(Zw [[]] (aj (lo+q) k.all))[j]? =some xs):(Kd.many k lo hi).all[shr k.all.length lo q+j]? =some (.tup xs):=by
 have hj:=(ar.mp h).1;have e:=WX (λi=>yt (aj _ _)) _ q j q (by rw[cT hq]) (by rw[aa];exact hj)
 have e2:(((ba (hi+1 - lo)).take q).map λb=>(yt (aj (lo+b) k.all)).length).sum=shr k.all.length lo q:=by
  rw[List.take_range,iC (eS hq),shr];congr 1
  refine cU λi _=> ?_;rw[Jo,bh,jc]
 rw[e2]at e;rw[Kd.all,e];rw[ay,h];rfl
abbrev cpB (c:List T->R T):En->RS:=zP 1 (zd Z4 (vE 1) (za 1 c (z9 (vE 2) (zj))))
theorem qq:∀(ks:List Kd) (m:Nat) (x:Sl),(∀k∈ks,c [k.t]= .ok (.int (k.all.length:Int))/\1<=k.all.length)->m*prd (ks.map λk=>k.all.length) < 2 ^ 60->
  ∃y,Zx (zJ 2) (cpB c) (ks.map Kd.t) [S,.vl (.int (m:Int)),x]= .nx [S,.vl (.int ((m*prd (ks.map λk=>k.all.length):Nat):Int)),y]
 | [],m,x,_,_=>⟨x,by simp[Zx,prd]⟩
 | k :: ks,m,x,H,hb=>by
  obtain⟨hc,h1⟩:=H k am;have hp:=JM λn hn=>by
   obtain⟨k',hk',rfl⟩:=aN.mp hn;exact(H k' (ac _ hk')).2
  rw[aI,prd,← cD]at hb;have hm:m < 2 ^ 60:=by
   have h2:m<=m*k.all.length:=ci _ h1;have h3:m*k.all.length<=m*k.all.length*prd (ks.map λk=>k.all.length):=ci _ hp;omega
  have eb:cpB c [S,.vl (.int (m)),.vl k.t]= .nx [S,.vl (.int ((m*k.all.length:Nat))),.vl k.t]:=by
   rw[cpB,zS]
   ·rfl
   ·rw[zv,v1,bOk,zW,v2,bOk,hc,bOk,qf hm]
  obtain⟨y,ih⟩:=qq (S:=S) ks _ _ (λk' hk' =>H k' (ac _ hk')) hb;refine⟨y, ?_⟩;rw[aI,jd rfl eb,ih,aI,prd,cD]
theorem JP (ks:List Kd)(hs:JD s= .ok (ks.map Kd.t))(H:∀k∈ks,c [k.t]= .ok (.int (k.all.length:Int))/\1<=k.all.length)(hb:prd (ks.map λk=>k.all.length) < 2 ^ 60):
  zA (b_w c (en0 3 [s]))= .ok (.int ((prd (ks.map λk=>k.all.length):Nat):Int)):=by
 obtain⟨y,e⟩:=qq ks 1 .un H (by rw[c9];exact hb)
 rw[c9]at e;have e0:zP 1 (cE (.int 1)) [.vl s,.un,.un]= .nx [.vl s,.vl _,.un]:=rfl;have e1:ZT (ZU (vE 0)) (zJ 2) (cpB c) [.vl s,.vl (.int 1),.un]= .nx [.vl s,.vl (.int ((prd (ks.map λk=>k.all.length)):Int)),y]:=by
  show ((JD s).s λts=>Zx _ _ ts _)=_;rw[hs];exact e
 show zA (b_w c [.vl s,.un,.un])=_;rw[b_w,zb e0,zb e1];rfl
theorem qr {α:Type}(g:α->Nat):∀l:List α,ZE (l.map λa=>T.int ((g a:Nat):Int))=some (l.map λa=>((g a:Nat):Int))
 | []=>rfl
 | a :: l=>by
  show (match ZE (l.map λa=>T.int _) with | some l=>some _ | none=>none)=_
  rw[qr g l];rfl
theorem Ur {α:Type}(g:α->Nat):∀l:List α,(l.map λa=>((g a:Nat):Int)).sum=(((l.map g).sum:Nat):Int)
 | []=>rfl
 | a :: l=>by rw[aI,dr,aI,dr,Ur g l];omega
theorem G4 {α:Type}(g:α->Nat)(l:List α):xQ (.lst (l.map λa=>T.int ((g a:Nat):Int)))= .ok (.int (((l.map g).sum:Nat):Int)):=by
 unfold xQ;dsimp only;rw[qr,← Ur]
theorem jQ (k:Kd)(m:Nat):((aj m k).map λk=>k.all.length)=aj m k.all.length:=by rw[bh]
theorem qt (h4:lo+q<=4)(H:∀m,m<=3->c [.lst (aj m t)]= .ok (.int ((n ^ m:Nat):Int))):
  zA (b_m c (en0 2 [mt t lo hi,.int ((lo+q:Nat):Int)]))= .ok (.int ((shr n lo q:Nat):Int)):=by
 have er:Jf (zd ixT (vE 0) (cE (.int 2))) (vE 1) [.vl (mt t lo hi),.vl (.int ((lo+q:Nat)))]= .ok (rng (lo) q):=by
  rw[uF rfl rfl ⟨by omega,by omega,by omega,by omega⟩]
  congr 2;omega
 have ec:zH _ _ (za 1 c (z9 (zd _ _ _) _)) 1 [0] [.vl _,.vl (.int ((lo+q:Nat)))] _= .ok ((rng (lo) q).map λx=>match x with | .int i=>T.int ((n ^ i.toNat:Nat)) | y=>y):=
  Zc _ (by unfold rng;rw[aa,bE];have:bnd=16777216:=rfl;omega) λx hx=>by
   obtain⟨i,hi',rfl⟩:=aN.mp hx;have hi2:=bn.mp hi';show za 1 c _ [.vl _,.vl _]=_;have e1:zd Z4 (j6 (z9 (zd ixT (vE 1) (cE (.int 1))) (zj))) (vE 0) [.vl (.int ((lo)+(i))),.vl (mt t lo hi)]= .ok (.lst (aj (lo+i) t)):=by
    have e0:zd ixT (vE 1) (cE (.int 1)) [.vl (.int ((lo)+(i))),.vl (mt t lo hi)]= .ok t:=rfl;rw[zv,z1N e0,bOk,v0,bOk,show (lo:Int)+(i)=((lo+i:Nat)) by omega,qc (by omega),Jp]
   rw[zW,e1,bOk,H _ (by omega)]
   show _=R.ok (T.int _);rw[show ((lo:Int)+(i)).toNat=lo+i by omega]
 rw[b_m,zz]
 ·rfl
 ·show ap1 _ _ [.vl _,.vl _]=_;rw[ZX,Z2,er,bOk,ec,bOk,bOk];have e2:((rng (lo) q).map λx=>match x with | .int i=>T.int ((n ^ i.toNat:Nat)) | y=>y)=(ba q).map λi=>T.int ((n ^ (lo+i):Nat)):=by
   unfold rng;rw[bG];refine cU λi _=> ?_;show T.int _=_;rw[show ((lo:Int)+(i)).toNat=lo+i by omega]
  rw[e2,G4 (λi=>n ^ (lo+i))];rfl
theorem Vq (h:n<=mx d)(hd:d<=2)(hm:m<=3):n ^ m < 2 ^ 60:=by
 have h2:mx d<=70644:=by
  have:d=0\/d=1\/d=2:=by omega
  rcases this with rfl | rfl | rfl <;> decide
 have h3:=aD (Nat.pow_le_pow_left (aD h h2) m) (cK (by omega) hm)
 omega
theorem Us:∀(d n:Nat),3*d<=n->d<=3->∀k:Kd,k.Ok d->S_2 n 0 [k.t]= .ok (.int (k.all.length:Int))
 | 0,_,_,_,_,h=>h.elim
 | d+1,n+3,hn,hd,k,h=>by
  have ih:=Us d n (by omega) (by omega)
  have ih1:=Us d (n+1) (by omega) (by omega)
  have e:S_2 (n+3) 0 [k.t]=zA (b_2 _ _ [.vl k.t]):=rfl;have e2:∀s u,S_2 (n+2) 2 [s,u]=zA _:=λs u=>rfl;rw[e,b_2];cases k with
  | whole lo hi=>
   obtain⟨h1,h2,h3⟩:=h;rw[jK];simp only[Kd.t];rw[zK (t:= .int _)]
   ·rfl
   ·rw[Jb (by rw[cs0,beq_self_eq_true]),zz]
    show R.ok _=_;congr 2;omega
  | pick cs=>
   rw[W8];simp only[Kd.t];rw[zb (zw (by rfl)),zK]
   ·rfl
   ·rw[Jb (by rw[cs0,beq_self_eq_true]),zz]
    show R.ok _=_;rw[aa]
  | row ks=>
   obtain⟨h1,h2,h3⟩:=h;rw[jY];simp only[Kd.t];rw[Kd.ts_map,zb (zw (by rfl)),zb (zw (by rfl)),zK]
   ·rfl
   ·rw[Jb (by rw[cs0,beq_self_eq_true]),zz]
    have hl:=jp (d+1) (.row ks) ⟨h1,h2,h3⟩;rw[jY]at hl;exact JP ks rfl (λk hk=>⟨ih1 k (h3 k hk),ZK d k (h3 k hk)⟩) (gY hl hd)
  | many k lo hi=>
   obtain⟨h1,h2,h3⟩:=h;rw[ji];simp only[Kd.t];rw[zb (zw (by rfl)),zb (zw (by rfl)),zb (zw (by rfl)),zz]
   ·rfl
   ·show za 2 _ _ [.vl _]=_;rw[Z5,v0,bOk,qa gW,bOk,e2,show (hi:Int)+1=((lo+(hi+1 - lo):Nat)) by omega]
    refine qt (by omega) λm hm=> ?_
    have hp:prd ((aj m k).map λk=>k.all.length)=k.all.length ^ m:=by rw[jQ,jc]
    rw[← hp];refine JP _ (by rw[bh];rfl) (λk' hk' => ?_) (by rw[hp];exact Vq (jp d k h3) (by omega) hm)
    rw[ce hk'];exact⟨ih k h3,ZK d k h3⟩
theorem jI {d:Nat}(hd:d<=3){k:Kd}(h:k.Ok d):f_2 20 [k.t]= .ok (.int (k.all.length:Int)):=Us d 20 (by omega) hd k h
theorem Ut {d:Nat}(hd:d<=2){k:Kd}(h:k.Ok d){lo hi q:Nat}(h4:lo+q<=4):f_m 20 [mt k.t lo hi,.int ((lo+q:Nat):Int)]= .ok (.int ((shr k.all.length lo q:Nat):Int)):=by
 have e:f_m 20 [mt k.t lo hi,.int ((lo+q:Nat))]=zA (b_m (S_2 19 1) (en0 2 [mt k.t lo hi,.int ((lo+q):Int)])):=rfl;rw[e];refine qt h4 λm hm=> ?_;have hp:prd ((aj m k).map λk=>k.all.length)=k.all.length ^ m:=by rw[jQ,jc]
 rw[← hp];refine JP _ (by rw[bh];rfl) (λk' hk' => ?_) (by rw[hp];exact Vq (jp d k h) hd hm)
 rw[ce hk'];exact⟨Us d 18 (by omega) (by omega) k h,ZK d k h⟩
abbrev paB (cc cw:List T->R T):En->RS:=zB (zP 5 (za 1 cc (z9 (vE 4) (zj))))
  (zB (yn 2 (za 2 cw (z9 (vE 4) (z9 (zd jS (vE 3) (vE 5)) (zj)))))
  (zP 3 (zd wN (vE 3) (vE 5))))
structure AtOk (cc cw:List T->R T) (k:Kd):Prop where
 cnt:cc [k.t]= .ok (.int (k.all.length:Int))
 at_:∀(i:Nat) x,k.all[i]? =some x->cw [k.t,.int (i:Int)]= .ok x
 pos:1<=k.all.length
 le:k.all.length < 1000000
theorem v5' :vE 5 (a :: b :: c :: d :: e :: .vl t :: ρ)= .ok t:=rfl
theorem Vr {n c:Nat}(h:1<=c):jS (.int (n:Int)) (.int (c:Int))= .ok (.int ((n % c:Nat):Int)):=by
 unfold jS;dsimp only;rw[if_pos (by omega)];rfl
theorem Xo {n c:Nat}(h:1<=c)(h' :c < 1000000):wN (.int (n:Int)) (.int (c:Int))= .ok (.int ((n / c:Nat):Int)):=by
 unfold wN;dsimp only;rw[if_pos (by omega)];rfl
theorem Vs (hi:ρ[i]? =some (.ow ts))(hl:ts.length < bnd)(h:f ρ= .ok t):yn i f ρ= .nx (ρ.set i (.ow (ts++[t]))):=by
 unfold yn;rw[hi];dsimp only;rw[h,ZO,if_pos hl]
theorem qu {cc cw:List T->R T}{S N:Sl}:∀(rs:List Kd) (acc:List T) (n:Nat) (x y:Sl),(∀k∈rs,AtOk cc cw k)->n < prd (rs.map λk=>k.all.length)->acc.length+rs.length<=1000->
  ∃xs r x' y',(Zw [[]] (rs.reverse.map Kd.all))[n]? =some xs/\Zx (zJ 4) (paB cc cw) (rs.map Kd.t) [S,N,.ow acc,.vl (.int (n:Int)),x,y]= .nx [S,N,.ow (acc++xs.reverse),r,x',y']
 | [],acc,n,x,y,_,hn,_=>⟨[],.vl (.int (n)),x,y,by
   have:=by simp[prd]at hn;exact hn
   subst this;rfl,by simp[Zx]⟩
 | k :: rs,acc,n,x,y,H,hn,hl=>by
  obtain⟨hc,hw,h1,hle⟩:=H k am;rw[ag]at hl;have hb:bnd=16777216:=rfl;have hmod:n % k.all.length < k.all.length:=Nat.mod_lt _ h1;obtain⟨v,hv⟩:=Uq hmod;have hdiv:=Nat.div_lt_of_lt_mul hn;obtain⟨xs,r,x',y',e1,e2⟩:=qu rs (acc++[v]) _ _ _ (λk' hk' =>H k' (ac _ hk')) hdiv (by rw[av,aF];omega)
  have b1:zP 5 (za 1 cc (z9 (vE 4) (zj))) [S,N,.ow acc,.vl (.int (n)),.vl k.t,y]= .nx [S,N,.ow acc,.vl (.int (n)),.vl k.t,.vl (.int (k.all.length))]:=by
   rw[zS]
   ·rfl
   ·rw[zW,v4,bOk,hc]
  have b2:yn 2 (za 2 cw (z9 (vE 4) (z9 (zd jS (vE 3) (vE 5)) (zj)))) [S,N,.ow acc,.vl (.int (n)),.vl k.t,.vl (.int (k.all.length))]= .nx [S,N,.ow (acc++[v]),.vl (.int (n)),.vl k.t,.vl (.int (k.all.length))]:=by
   rw[Vs rfl (by omega)]
   ·rfl
   ·rw[Z5,v4,bOk,zv,v3,bOk,v5',bOk,Vr h1,bOk,hw _ v hv]
  have b3:zP 3 (zd wN (vE 3) (vE 5)) [S,N,.ow (acc++[v]),.vl (.int (n)),.vl k.t,.vl (.int (k.all.length))]= .nx [S,N,.ow (acc++[v]),.vl (.int ((n / k.all.length:Nat))),.vl k.t,.vl (.int (k.all.length))]:=by
   rw[zS]
   ·rfl
   ·rw[zv,v3,bOk,v5',bOk,Xo h1 hle]
  have eb:paB cc cw [S,N,.ow acc,.vl (.int (n)),.vl k.t,y]= .nx [S,N,.ow (acc++[v]),.vl (.int ((n / k.all.length:Nat))),.vl k.t,.vl (.int (k.all.length))]:=by
   rw[paB,zb b1,zb b2,b3]
  refine⟨xs++[v],r,x',y', ?_, ?_⟩
  ·have:=vC e1 hv;rw[cM,Nat.div_add_mod]at this;rw[aV,br];exact this
  ·rw[aI,jd rfl eb,e2];simp
theorem qw:∀ns:List Nat,prd ns.reverse=prd ns
 | []=>rfl
 | n :: ns=>by rw[aV,Up,qw ns,prd,cM]
theorem JQ {cc cw:List T->R T}{s:T}(ks:List Kd)(hs:wV s= .ok (ks.map Kd.t))(hl:ks.length<=3)(H:∀k∈ks,AtOk cc cw k){n:Nat}{xs:List T}(hx:(Zw [[]] (ks.map Kd.all))[n]? =some xs):
  zA (b_z cc cw (en0 6 [s,.int (n:Int)]))= .ok (.tup xs):=by
 have hn:=(ar.mp hx).1;rw[wD,bG]at hn;have hr:(ks.reverse.map λk=>k.all.length)=(ks.map λk=>k.all.length).reverse:=by rw[ij]
 obtain⟨ys,r,x',y',e1,e2⟩:=qu _ [] n .un .un (λk hk=>H k (ik.mp hk)) (by rw[hr,qw];exact hn) (by rw[aR,bR];omega)
 rw[dy,hx]at e1;cases e1;have e0:ym 2 (zj) [.vl s,.vl (.int (n)),.un,.un,.un,.un]= .nx [.vl s,.vl _,.ow [],.un,.un,.un]:=rfl;have e3:zP 3 (vE 1) [.vl s,.vl (.int (n)),.ow [],.un,.un,.un]= .nx [.vl s,.vl _,.ow [],.vl _,.un,.un]:=rfl;have e4:ZT (z1f (vE 0)) (zJ 4) (paB cc cw) [.vl s,.vl (.int (n)),.ow [],.vl (.int (n)),.un,.un]= .nx [.vl s,.vl (.int (n)),.ow xs.reverse,r,x',y']:=by
  show (((wV s).bind λxs=>R.ok _).s λts=>Zx _ _ ts _)=_;rw[hs,bOk,← ij];exact e2
 have hlen:xs.reverse.length<=bnd:=by
  have:∀(ls made:List _) (m:Nat),(∀a∈made,a.length<=m)->∀a∈Zw made ls,a.length<=m+ls.length:=by
   intro ls
   induction ls with
   | nil=>intro made m h a ha;exact h a ha
   | cons l ls ih=>
    intro made m h a ha;have:=ih (made.flatMap λa=>l.map λx=>a++[x]) (m+1) (λb hb=>by
     obtain⟨c,hc,hb⟩:=cP.mp hb;obtain⟨z,_,rfl⟩:=aN.mp hb;have:=h c hc;rw[av,aF];omega) a ha
    rw[ag];omega
  have h1:=this _ _ 0 (λa ha=>by rw[aQ.mp ha];exact ai _) xs (fo hx)
  rw[aa]at h1;rw[aR];have hb:bnd=16777216:=rfl;omega
 show zA (b_z cc cw [.vl s,.vl _,.un,.un,.un,.un])=_;rw[b_z,zb e0,zb e3,zb e4,zz]
 ·rfl
 ·show v9 (.lst _)=_;unfold v9;dsimp only;rw[if_pos hlen,dy]
abbrev mtT:En->R Bool:=zD leC (za 2 (f_m 20) (z9 (vE 0) (z9 (zd zG (vE 2) (cE (.int 1))) (zj)))) (vB 1)
abbrev mtB:En->RS:=zP 2 (zd zG (vE 2) (cE (.int 1)))
theorem w1n:vB 1 (a :: .vl t :: ρ)= .ok t:=rfl
theorem qx {d:Nat}(hd:d<=2){k:Kd}(h:k.Ok d){lo hi n:Nat}(h1:lo<=hi)(h3:hi<=3)(hn:n < shr k.all.length lo (hi+1 - lo)):∀(f q:Nat),q<=hi - lo->hi - lo - q < f->shr k.all.length lo q<=n->
  ∃q',q' <=hi - lo/\shr k.all.length lo q' <=n/\n < shr k.all.length lo (q' +1)/\jn mtT mtB f [.vl (mt k.t lo hi),.vl (.int (n:Int)),.vl (.int ((lo+q:Nat):Int))]= .nx [.vl (mt k.t lo hi),.vl (.int (n:Int)),.vl (.int ((lo+q' :Nat):Int))]
 | 0,q,_,hf,_=>by omega
 | f+1,q,hq,hf,hs=>by
  have et:mtT [.vl (mt k.t lo hi),.vl (.int (n)),.vl (.int ((lo+q:Nat)))]= .ok (decide (shr k.all.length lo (q+1)<=n)):=by
   rw[mtT,zN,Z5,v0,bOk,qa v2,bOk,show ((lo+q:Nat):Int)+1=((lo+(q+1):Nat)) by omega,Ut hd h (by omega),bOk,w1n,bOk,WM,wB]
  have eu:jn mtT mtB (f+1) [.vl (mt k.t lo hi),.vl (.int (n)),.vl (.int ((lo+q:Nat)))]=(mtT _).s λk' =>if k' =true then match mtB [.vl _,.vl _,.vl (.int _)] with
    | .nx ρ2=>jn mtT mtB f ρ2
    | .ct ρ2=>jn mtT mtB f ρ2
    | .bk ρ2=> .nx ρ2
    | r=>r
   else .nx _:=rfl
  rw[eu,et,ZO]
  by_cases hc:shr k.all.length lo (q+1)<=n
  ·rw[if_pos (decide_eq_true hc)];have hq2:q+1<=hi - lo:=by
    rcases Nat.lt_or_ge q _ with z | z
    ·exact z
    ·have:q=hi - lo:=by omega
     rw[this,show hi - lo+1=hi+1 - lo by omega]at hc
     omega
   have eb:mtB [.vl (mt k.t lo hi),.vl (.int (n)),.vl (.int ((lo+q:Nat)))]= .nx [.vl (mt k.t lo hi),.vl (.int (n)),.vl (.int ((lo+(q+1):Nat)))]:=by
    rw[mtB,zS]
    ·rfl
    ·rw[qa v2,show ((lo+q:Nat):Int)+1=((lo+(q+1):Nat)) by omega]
   exact qx hd h h1 h3 hn f _ hq2 (by omega) hc
  ·rw[if_neg (by simpa using hc)]
   exact⟨q,hq,hs,by omega,rfl⟩
theorem G5 {i j:Nat}(h:j<=i):jM (.int (i:Int)) (.int (j:Int))= .ok (.int ((i - j:Nat):Int)):=by
 rw[Zm];congr 2;omega
theorem yf {d:Nat}(hd:d<=2){k:Kd}(h:k.Ok d){cp:List T->R T}{lo hi n:Nat}(h1:lo<=hi)(h3:hi<=3)(hn:n < shr k.all.length lo (hi+1 - lo))
  (H:∀(m:Nat),m<=3->∀(j:Nat) (xs:List T),(Zw [[]] (aj m k.all))[j]? =some xs->cp [.lst (aj m k.t),.int (j:Int)]= .ok (.tup xs)):
  ∃x,(Kd.many k lo hi).all[n]? =some x/\zA (gz (f_m 20) cp (en0 3 [mt k.t lo hi,.int (n:Int)]))= .ok x:=by
 obtain⟨q,hq,hs,hs',e⟩:=qx hd h h1 h3 hn 8 0 (by omega) (by omega) (by unfold shr;simp)
 rw[vD]at hs';have hj:n - shr k.all.length lo q < (Zw [[]] (aj (lo+q) k.all)).length:=by
  rw[wD,bh,jc];omega
 obtain⟨xs,hx⟩:=Uq hj;have ha:=Xn (hi:=hi) (by omega) hx
 rw[show shr _ lo q+(n - shr _ lo q)=n by omega]at ha
 refine⟨_,ha, ?_⟩;have e0:zP 2 (zd ixT (vE 0) (cE (.int 2))) [.vl (mt k.t lo hi),.vl (.int (n:Int)),.un]= .nx [.vl _,.vl _,.vl (.int ((lo+0:Nat)))]:=rfl;show zA (gz _ cp [.vl _,.vl _,.un])=_;rw[gz,zb e0,zb e,zz]
 ·rfl
 ·show za 2 cp _ [.vl _,.vl _,.vl _]=_;have em:zd Z4 (j6 (z9 (zd ixT (vE 0) (cE (.int 1))) (zj))) (vE 2) [.vl (mt k.t lo hi),.vl (.int (n)),.vl (.int ((lo+q:Nat)))]= .ok (.lst (aj (lo+q) k.t)):=by
   rw[zv,z1N wa,bOk,v2,bOk,qc (by omega),Jp]
  rw[Z5,em,bOk,zv,v1,bOk,Z5,v0,bOk,v2,bOk,Ut hd h (by omega),bOk,G5 hs,bOk,H _ (by omega) _ xs hx]
theorem qy {d:Nat}(hd:d<=2){k:Kd}(h:k.Ok d):k.all.length < 1000000:=by
 have h1:=jp d k h;have h2:mx d<=70644:=by
  have:d=0\/d=1\/d=2:=by omega
  rcases this with rfl | rfl | rfl <;> decide
 omega
theorem jy:∀(d n:Nat),3*d<=n->d<=3->∀k:Kd,k.Ok d->∀(i:Nat) (x:T),k.all[i]? =some x->S_a n 0 [k.t,.int (i:Int)]= .ok x
 | 0,_,_,_,_,h=>h.elim
 | d+1,n+3,hn,hd,k,h=>by
  intro i x hx;have ih:=jy d n (by omega) (by omega)
  have ih1:=jy d (n+1) (by omega) (by omega)
  have e:S_a (n+3) 0 [k.t,.int (i:Int)]=zA (b_a gy _ _ (en2 k.t (.int (i:Int)))):=rfl;have hi' :=(ar.mp hx).1;rw[e,b_a];cases k with
  | whole lo hi=>
   rw[Kd.all,ay]at hx;rw[jK]at hi';rw[cT hi']at hx;cases hx;rw[zK]
   ·rfl
   ·rfl
  | pick cs=>
   have hw:=vA cs h.2.1;simp only[Kd.t]at hw ⊢;rw[zb (XT (by decide)),zK]
   ·rfl
   ·rw[cs0t,zz];show zd ixT _ _ (en2 _ _)=_;rw[zv,zW,v0,bOk,hw,v1];exact Vp hx
  | row ks=>
   obtain⟨h1,h2,h3⟩:=h;rw[Kd.all,Kd.alls_map,ay]at hx;cases hr:(Zw _ _)[i]? with
   | none=>rw[hr]at hx;cases hx
   | some xs=>
    rw[hr]at hx;cases hx;simp only[Kd.t];rw[Kd.ts_map,zb (XT (by decide)),zb (XT (by decide)),zK]
    ·rfl
    ·rw[cs0t,zz];refine JQ ks rfl h2 (λk hk=>⟨jI (by omega) (h3 k hk),ih1 k (h3 k hk),ZK d k (h3 k hk),qy (by omega) (h3 k hk)⟩) hr
  | many k lo hi=>
   obtain⟨h1,h2,h3⟩:=h;rw[ji]at hi';obtain⟨x',hx',hv⟩:=yf (cp:=S_a (n+1) 2) (by omega) h3 h1 h2 hi' (λm hm j xs hr=>by
    refine JQ _ (by rw[bh];rfl) (by rw[aS];exact hm) (λk' hk' => ?_) (by rw[bh];exact hr)
    rw[ce hk'];exact⟨jI (by omega) h3,ih k h3,ZK d k h3,qy (by omega) h3⟩)
   rw[hx]at hx';cases hx';simp only[Kd.t];rw[zb (XT (by decide)),zb (XT (by decide)),zb (XT (by decide)),zz]
   ·rfl
   ·show za 2 _ _ (en2 _ _)=_;rw[Z5,v0,bOk,v1,bOk];exact hv
theorem G6 {k:Kd}(h:k.Ok 3){i:Nat}{x:T}(hx:k.all[i]? =some x):f_a 20 [k.t,.int (i:Int)]= .ok x:=jy 3 20 (by omega) (by omega) k h i x hx
noncomputable def Pl:Nat->T->Prop
 | 0,_=>False
 | n+1,.tup xs=>∀x∈xs,Pl n x
 | n+1,.lst xs=>∀x∈xs,Pl n x
 | _+1,.fz _=>False
 | _+1,_=>True
theorem Jq {f:T->T->Option Bool}:∀(xs ys:List T),(∀x∈xs,∀y,∃b,f x y=some b)->∃b,eqL f xs ys=some b
 | [],[],_=>⟨_,rfl⟩
 | [],_ :: _,_=>⟨_,rfl⟩
 | _ :: _,[],_=>⟨_,rfl⟩
 | x :: xs,y :: ys,h=>by
  obtain⟨b,hb⟩:=h x am y;obtain⟨c,hc⟩:=Jq xs ys λz hz=>h z (ac _ hz);exact⟨b && c,by unfold eqL;rw[hb,hc]⟩
theorem Zj {f:T->T->Option Bool}:∀(xs:List T),(∀x∈xs,f x x=some true)->eqL f xs xs=some true
 | [],_=>rfl
 | x :: xs,h=>by
  unfold eqL;rw[h x am,Zj xs λz hz=>h z (ac _ hz)];rfl
theorem Jr:∀(n:Nat) (y x:T),Pl n y->∃b,eqF n y x=some b
 | 0,_,_,h=>h.elim
 | n+1,y,x,h=>by
  cases y with
  | tup xs=>
   cases x with
   | tup ys=>exact Jq xs ys λz hz u=>Jr n z u (h z hz)
   | _=>exact⟨false,by rw[eqF] <;> intros <;> first | rfl | contradiction | (intro z)⟩
  | lst xs=>
   cases x with
   | lst ys=>exact Jq xs ys λz hz u=>Jr n z u (h z hz)
   | fz ys=>exact Jq xs ys λz hz u=>Jr n z u (h z hz)
   | _=>exact⟨false,by rw[eqF] <;> intros <;> first | rfl | contradiction | (intro z)⟩
  | fz xs=>exact h.elim
  | non=>cases x <;> exact⟨_,rfl⟩
  | bl b=>cases x <;> exact⟨_,rfl⟩
  | int i=>cases x <;> exact⟨_,rfl⟩
  | str i=>cases x <;> exact⟨_,rfl⟩
theorem Ze:∀(n:Nat) (y:T),Pl n y->eqF n y y=some true
 | 0,_,h=>h.elim
 | n+1,y,h=>by
  cases y with
  | tup xs=>exact Zj xs λz hz=>Ze n z ((h) z hz)
  | lst xs=>exact Zj xs λz hz=>Ze n z ((h) z hz)
  | fz xs=>exact h.elim
  | non=>rfl
  | bl b=>show some _=_;simp
  | int i=>show some _=_;simp
  | str i=>show some _=_;simp
theorem Pl.up:∀(n:Nat) (y:T),Pl n y->Pl (n+1) y
 | 0,_,h=>h.elim
 | n+1,y,h=>by
  cases y with
  | tup xs=>exact λz hz=>Pl.up n z ((h) z hz)
  | lst xs=>exact λz hz=>Pl.up n z ((h) z hz)
  | fz xs=>exact h.elim
  | _=>exact trivial
theorem Pl.le (hm:n<=m)(h:Pl n y):Pl m y:=by
 obtain⟨j,rfl⟩:∃j,m=n+j:=⟨m - n,by omega⟩
 clear hm
 induction j with
 | zero=>exact h
 | succ j ih=>exact Pl.up _ _ ih
theorem qz (h:Pl 30 t):neC t t= .ok false:=by unfold neC;rw[Ze 30 t h];rfl
theorem WY {f:T->Option Bool}:∀(ts:List T),(∀t∈ts,∃b,f t=some b)->∃b,Wi f ts=some b/\(b=false->∀t∈ts,f t=some false)
 | [],_=>⟨false,rfl,λ_ _ h=>nomatch h⟩
 | t :: ts,h=>by
  obtain⟨b,hb⟩:=h t am;obtain⟨c,hc,h'⟩:=WY ts λu hu=>h u (ac _ hu);refine⟨b || c,by unfold Wi;rw[hb,hc],λe u hu=> ?_⟩
  rw[fA]at e;rcases ak.mp hu with rfl | hu
  ·rw[hb,e.1]
  ·exact h' e.2 u hu
theorem qA (h:f ρ= .ok t):UT f ρ= .nx ρ:=by unfold UT;rw[h,ZO]
theorem all_map (k:Kd):((rng 0 k.all.length).map λt=>match t with | .int i=>(k.all[i.toNat]?).getD .non | y=>y)=k.all:=by
 unfold rng;rw[bG];refine dX λi=> ?_;rw[ay]
 by_cases hi:i < k.all.length
 ·rw[cT hi];show some ((k.all[((0:Int)+(i)).toNat]?).getD _)=_;rw[show ((0:Int)+(i)).toNat=i by omega]
  obtain⟨x,hx⟩:=Uq hi;rw[hx];rfl
 ·rw[a_ (by simpa using hi),a_ (by omega)];rfl
theorem qB (hf:f ρ= .ok (.int j))(h: -1000000 < j/\j < 1000000):Za f ρ= .ok (rng 0 j.toNat):=by
 unfold Za;rw[hf];exact if_pos h
theorem Xp:gtC (.int i) (.int j)= .ok (decide (j < i)):=rfl
inductive W:Nat->T->Prop where
 | int (d:Nat) (i:Int):W d (.int i)
 | str (d:Nat) (s:Str):W d (.str s)
 | tup {d:Nat} {xs:List T} (h:xs.length<=3) (r:∀x∈xs,W d x):W (d+1) (.tup xs)
theorem Xq:∀(d:Nat) (k:Kd) (x:T),k.Ok (d+1)->k.has x=true->W d x
 | d,.whole lo hi,x,_,h=>by
  cases x <;> first | exact .int _ _ | (simp[Kd.has,inR]at h)
 | d,.pick cs,x,_,h=>by
  cases x <;> first | exact .str _ _ | (simp[Kd.has]at h)
 | 0,.row ks,x,hk,h=>by
  obtain⟨h1,h3,hk⟩:=hk
  match ks,h1,hk with
  | k :: _,_,hk=>exact(hk k am).elim
 | 0,.many k lo hi,x,hk,h=>hk.2.2.elim
 | d+1,.row ks,x,hk,h=>by
  obtain⟨h1,h3,hk⟩:=hk;cases x with
  | tup xs=>
   rw[Kd.has]at h;simp only[ae,beq_iff_eq]at h;obtain⟨hl,hh⟩:=h;refine .tup (by omega) λx hx=> ?_
   obtain⟨k,hm,hx'⟩:=Um ks xs hl hh x hx;exact Xq d k x (hk k hm) hx'
  | _=>simp[Kd.has]at h
 | d+1,.many k lo hi,x,hk,h=>by
  obtain⟨h1,h3,hk⟩:=hk;cases x with
  | tup xs=>
   rw[Kd.has]at h;simp only[ae,decide_eq_true_eq,aT]at h;obtain⟨⟨hl,hl'⟩,hh⟩:=h;refine .tup (by omega) λx hx=> ?_
   exact Xq d k x hk (hh x hx)
  | _=>simp[Kd.has]at h
mutual
noncomputable def lv:T->List T
 | .tup xs=>lvs xs
 | .non=>[.non]
 | .bl b=>[.bl b]
 | .int b=>[.int b]
 | .str b=>[.str b]
 | .lst b=>[.lst b]
 | .fz b=>[.fz b]
noncomputable def lvs:List T->List T
 | []=>[]
 | x :: xs=>lv x++lvs xs
end
theorem G7 (xs:List T):lv (.tup xs)=lvs xs:=by rw[lv]
theorem Wc (x:T)(xs:List T):lvs (x :: xs)=lv x++lvs xs:=by rw[lvs]
theorem qC:lvs []=[]:=by rw[lvs]
theorem qD:∀xs:List T,(∀x∈xs,(lv x).length<=n)->(lvs xs).length<=xs.length*n
 | [],_=>by exact bu _
 | x :: xs,h=>by
  rw[Wc,av,ag,eW];have h1:=h x am;have h2:=qD xs λy hy=>h y (ac _ hy);omega
theorem pow3 (d:Nat):1<=3 ^ d:=Nat.one_le_pow _ _ (by omega)
theorem qE (h:W d x):(lv x).length<=3 ^ d:=by
 induction h with
 | int d i=>exact pow3 d
 | str d i=>exact pow3 d
 | @tup d xs h r ih=>
  rw[G7];have:=qD xs ih;have h3:=Nat.mul_le_mul_right (3 ^ d) h;omega
inductive Lf:T->Prop where
 | int (i:Int):Lf (.int i)
 | str (i:Str):Lf (.str i)
theorem Vt:∀(xs:List T),(∀x∈xs,∀y∈lv x,Lf y)->∀y∈lvs xs,Lf y
 | [],_,y,hy=>by cases hy
 | x :: xs,h,y,hy=>by
  rcases d4.mp hy with hy | hy
  ·exact h x am y hy
  ·exact Vt xs (λz hz=>h z (ac _ hz)) y hy
theorem z1P (h:W d x):∀y∈lv x,Lf y:=by
 induction h with
 | int d i=>intro y hy;rw[aQ.mp hy];exact .int _
 | str d i=>intro y hy;rw[aQ.mp hy];exact .str _
 | @tup d xs h r ih=>intro y hy;exact Vt xs ih y hy
theorem G8 (hi:ρ[i]? =some (.ow ts))(h:f ρ= .ok (.lst us))(hl:ts.length+us.length<=bnd):Qa i f ρ= .nx (ρ.set i (.ow (ts++us))):=by
 unfold Qa;rw[hi];dsimp only;rw[h,ZO];dsimp only;rw[if_pos hl]
abbrev loB (c:List T->R T):En->RS:=Qa 1 (za 1 c (z9 (vE 2) (zj)))
theorem qF (hn:n<=1000):∀(xs:List T) (acc:List T) (x:Sl),(∀x∈xs,c [x]= .ok (.lst (lv x))/\(lv x).length<=n)->acc.length+xs.length*n<=1000000->
  ∃x',Zx (zJ 2) (loB c) xs [a,.ow acc,x]= .nx [a,.ow (acc++lvs xs),x']
 | [],acc,x,_,_=>⟨x,by rw[qC,aP];rfl⟩
 | y :: xs,acc,x,H,hb=>by
  obtain⟨e,hl⟩:=H y am;rw[ag,eW]at hb;have hB:bnd=16777216:=rfl;obtain⟨x',h⟩:=qF hn xs (acc++lv y) _ (λz hz=>H z (ac _ hz)) (by rw[av];omega)
  refine⟨x', ?_⟩;have s2:zJ 2 y [a,.ow acc,x]= .ok _:=rfl;have b2:loB c [a,.ow acc,.vl y]= .nx [a,.ow (acc++lv y),.vl y]:=by
   have z:za 1 c (z9 (vE 2) (zj)) [a,.ow acc,.vl y]= .ok (.lst (lv y)):=by rw[zW,v2,bOk,e]
   exact G8 rfl z (by omega)
  rw[jd s2 b2,h,Wc,aX]
theorem Vu:ue (Jk (ap1 (Wj "tuple") (vB 0))) (.vl x :: r)= .ok (!(match x with | .tup _=>true | _=>false)):=by
 all_goals (cases x <;> rfl)
theorem JR:∀(n d:Nat),d < n->d<=3->∀x:T,W d x->S_e n 0 [x]= .ok (.lst (lv x))
 | 0,d,h,_,_,_=>absurd h (f8 _)
 | n+1,d,h,h3,x,hx=>by
  show zA (b_e _ [.vl x,.un,.un])=_;rw[b_e];cases hx with
  | int d i=>
   rfl
  | str d i=>
   rfl
  | @tup d xs hl r=>
   have hp:3 ^ d<=27:=cK (by omega) (show d<=3 by omega)
   obtain⟨x',el⟩:=qF (by omega) xs [] .un (λy hy=>⟨JR n d (by omega) (by omega) y (r y hy),qE (r y hy)⟩) (by have:=cj hl hp;simp;omega)
   have e1:ym 1 zj [.vl (.tup xs),.un,.un]= .nx [.vl _,.ow [],.un]:=rfl;have e2:ZT (ZU (vE 0)) (zJ 2) (loB (S_e n 0)) [.vl (.tup xs),.ow [],.un]= .nx [.vl (.tup xs),.ow ([]++lvs xs),x']:=by
    exact el
   rw[zb (zw Vu),zb e1,zb e2,bM];rfl
abbrev llB (c:List T->R T):En->RS:=zP 1 (zd zG (vE 1) (za 1 c (z9 (vE 2) (zj))))
theorem G9 (h:xs.length+ys.length<=1000000):zG (.lst xs) (.lst ys)= .ok (.lst (xs++ys)):=by
 unfold zG;dsimp only;rw[if_pos (by have hB:bnd=16777216:=rfl;omega)]
theorem qG (hn:n<=1000):∀(xs:List T) (acc:List T) (x:Sl),(∀x∈xs,c [x]= .ok (.lst (lv x))/\(lv x).length<=n)->acc.length+xs.length*n<=1000000->
  ∃x',Zx (zJ 2) (llB c) xs [a,.vl (.lst acc),x]= .nx [a,.vl (.lst (acc++lvs xs)),x']
 | [],acc,x,_,_=>⟨x,by rw[qC,aP];rfl⟩
 | y :: xs,acc,x,H,hb=>by
  obtain⟨e,hl⟩:=H y am;rw[ag,eW]at hb;obtain⟨x',h⟩:=qG hn xs (acc++lv y) _ (λz hz=>H z (ac _ hz)) (by rw[av];omega)
  refine⟨x', ?_⟩;have s2:zJ 2 y [a,.vl (.lst acc),x]= .ok _:=rfl;have b2:llB c [a,.vl (.lst acc),.vl y]= .nx [a,.vl (.lst (acc++lv y)),.vl y]:=by
   have z:zd zG (vE 1) (za 1 c (z9 (vE 2) (zj))) [a,.vl (.lst acc),.vl y]= .ok (.lst (acc++lv y)):=by rw[zv,v1,bOk,zW,v2,bOk,e,bOk,G9 (by omega)]
   exact zS z
  rw[jd s2 b2,h,Wc,aX]
theorem Uu:∀(n d:Nat),d < n->d<=3->∀x:T,W d x->S_h n 0 [x]= .ok (.lst (lv x))
 | 0,d,h,_,_,_=>absurd h (f8 _)
 | n+1,d,h,h3,x,hx=>by
  show zA (b_h _ [.vl x,.un,.un])=_;rw[b_h];cases hx with
  | int d i=>
   rfl
  | str d i=>
   rfl
  | @tup d xs hl r=>
   have hp:3 ^ d<=27:=cK (by omega) (show d<=3 by omega)
   obtain⟨x',el⟩:=qG (by omega) xs [] .un (λy hy=>⟨Uu n d (by omega) (by omega) y (r y hy),qE (r y hy)⟩) (by have:=cj hl hp;simp;omega)
   have e1:zP 1 (j6 zj) [.vl (.tup xs),.un,.un]= .nx [.vl _,.vl _,.un]:=rfl;have e2:ZT (ZU (vE 0)) (zJ 2) (llB (S_h n 0)) [.vl (.tup xs),.vl (.lst []),.un]= .nx [.vl (.tup xs),.vl (.lst ([]++lvs xs)),x']:=by
    exact el
   rw[zb (zw Vu),zb e1,zb e2,bM];rfl
theorem Zy {p:T->Bool}{js:List Nat}(ts:List T)(hl:ts.length<=bnd)(H:∀t∈ts,ft ((WB k js ρ).set 0 (.vl t))= .ok (p t)/\fe ((WB k js ρ).set 0 (.vl t))= .ok t):zH (zJ 0) ft fe k js ρ ts= .ok (ts.filter p):=by
 unfold zH;rw[if_pos hl,j9 (h:=id) ts _ λt ht=>⟨(H t ht).1,λ_=>(H t ht).2⟩,List.map_id];rfl
noncomputable def ZL:List T->List Int
 | []=>[]
 | .int i :: r=>i :: ZL r
 | .non :: r=>ZL r
 | .bl _ :: r=>ZL r
 | .str _ :: r=>ZL r
 | .tup _ :: r=>ZL r
 | .lst _ :: r=>ZL r
 | .fz _ :: r=>ZL r
theorem JT:∀ts:List T,ts.filter isW=(ZL ts).map T.int
 | []=>rfl
 | t :: ts=>by
  have ih:=JT ts;rw[il,ih];cases t <;> rfl
theorem uH:∀is:List Int,ZE (is.map T.int)=some is
 | []=>rfl
 | i :: is=>by
  have e:ZE ((i :: is).map T.int)=match ZE _ with | some l=>some _ | none=>none:=rfl
  rw[e,uH is]
theorem Wd:∀ts:List T,(ZL ts).length<=ts.length
 | []=>ai _
 | t :: ts=>by
  have ih:=Wd ts;cases t <;> simp only[ZL,ag] <;> omega
theorem w9 (hd:d<=2)(h:W d x):(lv x).length<=9:=aD (qE h) (cK (by omega) hd)
theorem yg (hd:d<=2)(h:W d x):GY [x]= .ok (.lst ((ZL (lv x)).map T.int)):=by
 show zA _=_;have hl:=w9 hd h;have ec:zH _ (Jk (za 1 f_f (z9 (vE 0) _))) (vE 0) 1 [] [.vl x] (lv x)= .ok _:=
  Zy _ (by have hB:bnd=16777216:=rfl;omega) λt _=>⟨by
   show Jk _ [.vl t]=_;rw[WN,zW,v0,bOk,Uc,bOk,YT],rfl⟩
 rw[z1D,zz]
 ·rfl
 ·show Z1 _ _ _ _ _ _ [.vl x]=_;have hv:f_e 8 [x]= .ok _:=JR 8 d (by omega) (by omega) x h
  rw[Z2,jb,zW,v0,bOk,hv];show ((zH _ _ _ _ _ _ _).bind _)=_;rw[ec,bOk,JT]
noncomputable def asc (is:List Int):Bool:=(is.zip (is.drop 1)).all λq=>decide (q.1<=q.2)
theorem qH:∀(qs:List (Int×Int)) (x y:Sl),zQ (ZC 0 1) Zk (ZS leC (vB 0) (vB 1)) (qs.map λq=>T.tup [.int q.1,.int q.2]) [x,y]= .ok (qs.map λq=>T.bl (decide (q.1<=q.2)))
 | [],_,_=>rfl
 | q :: qs,x,y=>by
  have ih:=qH qs (.vl (.int q.1)) (.vl (.int q.2));have e0:zQ (ZC 0 1) Zk (ZS leC (vB 0) (vB 1)) ((q :: qs).map λq=>T.tup [.int q.1,.int q.2]) [x,y]=
   (R.ok (T.bl _)).bind λv=>(zQ _ _ _ (qs.map λq=>T.tup [.int q.1,.int q.2]) [.vl _,.vl _]).bind λvs=> .ok _:=rfl
  rw[e0,bOk,ih,bOk,aI]
theorem Xr (xs:List T):cut xs (some ((1:Nat):Int)) none=xs.drop 1:=by
 unfold cut;rw[HT.sIx_nat,HT.sIx_none]
 by_cases h:1<=xs.length
 ·rw[iC h,eZ (by rw[eH];omega)]
 ·have:xs=[]:=eJ.mp (by omega)
  subst this;rfl
theorem qJ (is:List Int)(hl:is.length<=100):z1F [.lst (is.map T.int)]= .ok (.bl (asc is)):=by
 show zA _=_;have hz:z16 (vE 0) (slE (vE 0) (Je (cE (.int 1))) (noO)) [.vl (.lst (is.map T.int))]= .ok ((is.zip (is.drop 1)).map λq=>T.tup [.int q.1,.int q.2]):=by
  show R.ok (V8 _ (cut _ (some ((1:Nat))) _))=_;rw[Xr,← List.map_drop];unfold V8;rw[List.zip_map,bG];rfl
 have ec:zH (ZC 0 1) Zk (ZS leC (vB 0) (vB 1)) 2 [] [.vl (.lst (is.map T.int))] ((is.zip (is.drop 1)).map λq=>T.tup [.int q.1,.int q.2])= .ok ((is.zip (is.drop 1)).map λq=>T.bl (decide (q.1<=q.2))):=by
  unfold zH;rw[if_pos (by rw[aa,List.length_zip];have hB:bnd=16777216:=rfl;omega)]
  show quiet (zQ _ _ _ _ [.un,.un])=_;rw[qH];rfl
 rw[z1E,zz]
 ·rfl
 ·show ap1 _ _ [.vl _]=_;rw[ZX,Z2,hz,bOk,ec,bOk];show (match uf _ with | some k=>R.ok _ | none=> .bad)=_
  rw[Ul (λq=>decide _)];rfl
theorem Zn (x y:Int)(r:List Int):asc (x :: y :: r)=(decide (x<=y) && asc (y :: r)):=by
 unfold asc;rw[fE,dN,List.zip_cons_cons,cY,fE,dN]
theorem qK (x:Int):∀l:List Int,asc l=true->asc (U3 x l)=true/\∀y,(∀z∈l,y<=z)->y<=x->∀z∈U3 x l,y<=z
 | [],_=>⟨rfl,λy _ h z hz=>by rw[aQ.mp hz];exact h⟩
 | [a],_=>by
  rw[U3];split
  ·rename_i h;exact⟨by rw[Zn,decide_eq_true h];rfl,λy h1 h2 z hz=>by
    rcases ak.mp hz with rfl | hz
    ·exact h2
    ·exact h1 z hz⟩
  ·rw[U3];exact⟨by rw[Zn,decide_eq_true (by omega)];rfl,λy h1 h2 z hz=>by
    rcases ak.mp hz with rfl | hz
    ·exact h1 _ am
    ·rw[aQ.mp hz];exact h2⟩
 | a :: b :: r,h=>by
  rw[Zn,ae,decide_eq_true_eq]at h;obtain⟨ih1,ih2⟩:=qK x _ h.2;rw[U3];split
  ·rename_i hx;exact⟨by rw[Zn,decide_eq_true hx,Zn,decide_eq_true h.1,h.2];rfl,λy h1 h2 z hz=>by
    rcases ak.mp hz with rfl | hz
    ·exact h2
    ·exact h1 z hz⟩
  ·refine⟨?_,λy h1 h2 z hz=>by
    rcases ak.mp hz with rfl | hz
    ·exact h1 _ am
    ·exact ih2 y (λw hw=>h1 w (ac _ hw)) h2 z hz⟩
   rw[U3]at ih1 ⊢;split
   ·rename_i hb;rw[if_pos hb]at ih1;rw[Zn,decide_eq_true (by omega),ih1];rfl
   ·rename_i hb;rw[if_neg hb]at ih1;rw[Zn,decide_eq_true h.1,ih1];rfl
theorem qL:∀l:List Int,asc (Yz l)=true
 | []=>rfl
 | x :: l=>by rw[Yz];exact(qK x _ (qL l)).1
theorem qN:∀l:List Int,asc l=true->Yz l=l
 | [],_=>rfl
 | [x],_=>rfl
 | x :: y :: r,h=>by
  rw[Zn,ae,decide_eq_true_eq]at h;rw[Yz,qN _ h.2,U3,if_pos h.1]
theorem Uv:∀xs ys:List Int,∃b,eqL (eqF n) (xs.map T.int) (ys.map T.int)=some b/\(b=true↔xs=ys)
 | [],[]=>⟨true,rfl,by simp⟩
 | [],y :: ys=>⟨false,rfl,by simp⟩
 | x :: xs,[]=>⟨false,rfl,by simp⟩
 | x :: xs,y :: ys=>by
  obtain⟨b,e,h⟩:=Uv xs ys;have e0:eqL _ ((x :: xs).map T.int) ((y :: ys).map T.int)=match eqF n _ _ with
   | none=>none
   | some b=>match eqL _ _ _ with
    | none=>none
    | some c=>some _:=rfl
  have e1:eqF n (.int x) (.int y)=some (x == y):=by cases n <;> rfl
  refine⟨(x == y) && b,by rw[e0,e1,e], ?_⟩
  rw[ae,beq_iff_eq,h,List.cons.injEq]
theorem qQ (is:List Int):eqC (.lst (is.map T.int)) (.lst ((Yz is).map T.int))= .ok (asc is):=by
 obtain⟨b,e,h⟩:=Uv is _;have e0:eqF 30 (.lst _) (.lst _)=some b:=e;unfold eqC;rw[e0];show R.ok b=_;congr 1
 cases hb:b with
 | true=>
  have:=h.mp hb;rw[this];exact(qL is).symm
 | false=>
  cases ha:asc is with
  | false=>rfl
  | true=>rw[hb]at h;exact absurd (h.mpr (qN is ha).symm) aA
theorem YF (is:List Int)(hl:is.length<=60):va (.lst (is.map T.int))= .ok (.lst ((Yz is).map T.int)):=by
 unfold va;dsimp only;rw[uH];dsimp only;rw[if_pos (by rw[aa];omega)]
theorem Ga (is:List Int):xQ (.lst (is.map T.int))= .ok (.int is.sum):=by
 unfold xQ;dsimp only;rw[uH]
def inB (xs:List T)(x:T):Bool:=(Wi (λy=>eqF 30 y x) xs).getD false
theorem Gb (x:T)(h:∀y∈xs,Pl 30 y):Wi (λy=>eqF 30 y x) xs=some (inB xs x):=by
 obtain⟨b,e,_⟩:=WY xs λt ht=>Jr 30 t x (h t ht);unfold inB;rw[e];rfl
theorem W.pl (h:W d x):Pl (d+1) x:=by
 induction h with
 | int d i=>exact trivial
 | str d i=>exact trivial
 | @tup d xs h r ih=>exact ih
theorem W.pl30 (h:W d x)(hd:d<=2):Pl 30 x:=h.pl.le (by omega)
noncomputable def Zf:T->List T
 | .tup xs=>xs
 | .non=>[.non]
 | .bl b=>[.bl b]
 | .int b=>[.int b]
 | .str b=>[.str b]
 | .lst b=>[.lst b]
 | .fz b=>[.fz b]
theorem Xs (h:W d x):GZ [x]= .ok (.tup (Zf x)):=by cases h <;> rfl
theorem WZ (h:W d x):(Zf x).length<=3:=by
 cases h with
 | int=>exact(by decide:1<=3)
 | str=>exact(by decide:1<=3)
 | tup h _=>exact h
theorem Uw (h:W d x)(hd:d<=2):∀y∈Zf x,Pl 30 y:=by
 cases h with
 | int=>intro y hy;rw[aQ.mp hy];exact trivial
 | str=>intro y hy;rw[aQ.mp hy];exact trivial
 | @tup d xs h r=>intro y hy;exact(r y hy).pl30 (by omega)
def un (ps:List T):Bool:= !(ps.zipIdx.any λp=>inB (ps.take p.2) p.1)
theorem u6 {xs:List T}{k:Nat}:slT (.tup xs) none (some (k:Int))= .ok (.tup (xs.take k)):=by
 show R.ok _=_;have:cut xs none (some (k))=xs.take k:=by
  unfold cut;rw[HT.sIx_none,HT.sIx_nat];simp only[dN,Nat.sub_zero];rw[List.take_eq_take_iff];omega
 rw[this]
theorem qR {ps:List T}(h:∀y∈ps,Pl 30 y)(k:Nat)(x:T):inC x (.tup (ps.take k))= .ok (inB (ps.take k) x):=by
 show (match Wi (λy=>eqF 30 y x) _ with | some b=>R.ok b | none=> .bad)=_
 rw[Gb x λy hy=>h y (List.mem_of_mem_take hy)]
abbrev ulE:En->R T:=ZS inC (vB 1) (slE (vE 2) (noO) (Je (vE 0)))
theorem qS {ps:List T}(h:∀y∈ps,Pl 30 y):∀(qs:List (T×Nat)) (x y:Sl),zQ (ZC 0 1) Zk ulE (qs.map λp=>T.tup [.int (p.2:Nat),p.1]) [x,y,.vl (.tup ps)]= .ok (qs.map λp=>T.bl (inB (ps.take p.2) p.1))
 | [],_,_=>rfl
 | q :: qs,x,y=>by
  have ih:=qS h qs (.vl (.int (q.2))) (.vl q.1);have e:ulE [.vl (.int (q.2)),.vl q.1,.vl (.tup ps)]= .ok (.bl (inB (ps.take q.2) q.1)):=by
   have e2:slE (vE 2) noO (Je (vE 0)) [.vl (.int (q.2)),.vl q.1,.vl (.tup ps)]=slT (.tup ps) _ _:=rfl;unfold ulE;rw[Zi,w1,bOk,e2,u6,bOk,qR h,bOk]
  have e0:zQ (ZC 0 1) Zk ulE ((q :: qs).map λp=>T.tup [.int (p.2),p.1]) [x,y,.vl (.tup ps)]=
   (ulE [.vl _,.vl q.1,.vl _]).bind λv=>(zQ _ _ ulE (qs.map λp=>T.tup _) [.vl _,.vl q.1,.vl _]).bind λvs=> .ok _:=rfl
  rw[e0,e,bOk,ih,bOk,aI]
theorem u7 {α:Type}(p:α->Bool):∀qs:List α,JZ (qs.map λq=>T.bl (p q))=some (qs.any p)
 | []=>rfl
 | q :: qs=>by
  have e:JZ ((q :: qs).map λq=>T.bl (p q))=match JZ (qs.map λq=>T.bl _) with | some j=>some _ | none=>none:=rfl
  rw[e,u7 p qs];rfl
theorem qT (h:∀y∈ps,Pl 30 y)(hl:ps.length<=100):z1H [.tup ps]= .ok (.bl (un ps)):=by
 show zA _=_;have ec:zH (ZC 0 1) Zk ulE 2 [0] [.vl (.tup ps)] (jH ps)= .ok (ps.zipIdx.map λp=>T.bl (inB (ps.take p.2) p.1)):=by
  unfold zH;rw[if_pos (by unfold jH;rw[aa,fO];have hB:bnd=16777216:=rfl;omega)]
  show quiet (zQ _ _ _ _ [.un,.un,.vl _])=_;unfold jH;rw[qS h];rfl
 rw[z1G,zz]
 ·rfl
 ·have e1:Z1 (U5 (vE 0)) (ZC 0 1) Zk ulE 2 [0] [.vl (.tup ps)]= .ok (.lst (ps.zipIdx.map λp=>T.bl (inB (ps.take p.2) p.1))):=by
   show ((R.ok _).bind _)=_;rw[bOk,ec,bOk]
  have e2:ap1 z1h (Z1 (U5 (vE 0)) (ZC 0 1) Zk ulE 2 [0]) [.vl (.tup ps)]= .ok (.bl (ps.zipIdx.any λp=>inB (ps.take p.2) p.1)):=by
   rw[ZX,e1];show (match JZ _ with | some k=>R.ok _ | none=> .bad)=_
   rw[u7 (λp:T×Nat=>inB _ p.1)]
  show Q9 _ [.vl _]=_;unfold Q9;rw[e2];rfl
theorem vF {ps:List T}(h:∀y∈ps,Pl 30 y)(hl:ps.length<=100){a b c:Sl}{ρ:En}:∃r,zH (zJ 0) (zD inC (zd ixT (vE 1) (vE 0)) (slE (vE 1) (noO) (Je (vE 0)))) (vE 0) 1 [3] (a :: b :: c :: .vl (.tup ps) :: ρ) (rng 0 ps.length)= .ok r/\r.isEmpty=un ps:=by
 let p:T->Bool:=λt=>match t with
  | .int i=>match ps[i.toNat]? with | some w=>inB (ps.take i.toNat) w | none=>false
  | _=>false
 refine⟨(rng 0 _).filter p,Zy _ (by unfold rng;rw[aa,bE];have hB:bnd=16777216:=rfl;omega) λt ht=> ?_, ?_⟩
 ·obtain⟨k,hk,rfl⟩:=aN.mp ht;have hk' :=bn.mp hk;refine⟨?_,rfl⟩;show zD inC _ _ [.vl _,.vl _]=_;rw[show (0:Int)+(k)=(k) by omega]
  have e1:ixT (.tup ps) (.int k)= .ok ps[k]:=by
   show atT ps k=_;unfold atT;rw[j3 (ah hk')]
  have e2:slE (vE 1) noO (Je (vE 0)) [.vl (.int (k)),.vl (.tup ps)]=slT (.tup ps) _ _:=rfl;rw[zN,zv,v1,bOk,v0,bOk,e1,bOk,e2,u6,bOk,qR h];show _=R.ok (match ps[((k:Int)).toNat]? with | some w=>inB _ w | none=>false)
  rw[bC,ah hk']
 ·rw[f9,List.isEmpty_iff,List.filter_eq_nil_iff];unfold un;rw[hJ,fP];constructor
  ·intro H q hq;obtain⟨x,k⟩:=q;have hk:=List.mem_zipIdx' hq;have:=H _ (by exact aN.mpr ⟨k,bn.mpr hk.1,rfl⟩)
   intro hb;apply this
   show (match ps[((0:Int)+(k)).toNat]? with | some w=>inB _ w | none=>false)=true
   rw[show ((0:Int)+(k)).toNat=k by omega,ah hk.1,← hk.2]
   exact hb
  ·intro H t ht hb;obtain⟨k,hk,rfl⟩:=aN.mp ht;have hk' :=bn.mp hk;have hb:(match ps[((0:Int)+(k)).toNat]? with | some w=>inB _ w | none=>false)=true:=hb
   rw[show ((0:Int)+(k)).toNat=k by omega,ah hk']at hb
   exact H _ (List.mk_mem_zipIdx_iff_getElem?.mpr (ah hk')) hb
noncomputable def Qj (w:Str):T->Bool
 | .str x=>x == w
 | _=>false
theorem Gc (w:Str)(n:Nat):∀t:T,eqF n t (.str w)=some (Qj w t)
 | .str x=>by cases n <;> rfl
 | .non=>by cases n <;> rfl
 | .bl _=>by cases n <;> rfl
 | .int _=>by cases n <;> rfl
 | .tup _=>by cases n <;> rfl
 | .lst _=>by cases n <;> rfl
 | .fz _=>by cases n <;> rfl
theorem qU (w:Str):∀ts:List T,Wi (λy=>eqF 30 y (.str w)) ts=some (ts.any (Qj w))
 | []=>rfl
 | t :: ts=>by
  have e:Wi (λy=>eqF 30 y (.str w)) (t :: ts)=match eqF 30 t _ with
   | none=>none
   | some b=>match Wi (λy=>eqF 30 y _) ts with
    | none=>none
    | some d=>some _:=rfl
  rw[e,Gc,qU w ts];rfl
theorem Xt (w:Str)(ts:List T):(ts.filter (Qj w)).isEmpty= !(ts.any (Qj w)):=by
 induction ts with
 | nil=>rfl
 | cons t ts ih=>
  rw[il,fH];cases Qj w t with
  | true=>rfl
  | false=>rw[if_neg aA,ih,Bool.false_or]
inductive Ru where
 | sum (a b:Int) | size (a b:Int) | word (w:Str) | rising | unlike | no (r:Ru) | all (r s:Ru) | some (r s:Ru)
def Ru.t:Ru->T
 | .sum a b=> .tup [.str "sum",.int a,.int b]
 | .size a b=> .tup [.str "size",.int a,.int b]
 | .word w=> .tup [.str "word",.str w]
 | .rising=> .tup [.str "rising"]
 | .unlike=> .tup [.str "unlike"]
 | .no r=> .tup [.str "no",r.t]
 | .all r s=> .tup [.str "all",r.t,s.t]
 | .some r s=> .tup [.str "some",r.t,s.t]
inductive ZM:Nat->Ru->Prop where
 | sum {d:Nat} {a b:Int} (ha: -50<=a/\a<=50) (hb: -50<=b/\b<=50):ZM (d+1) (.sum a b)
 | size {d:Nat} {a b:Int} (ha: -50<=a/\a<=50) (hb: -50<=b/\b<=50):ZM (d+1) (.size a b)
 | word {d:Nat} {w:Str} (h:Zl (.str w)=true):ZM (d+1) (.word w)
 | rising {d:Nat}:ZM (d+1) .rising
 | unlike {d:Nat}:ZM (d+1) .unlike
 | no {d:Nat} {r:Ru} (h:ZM d r):ZM (d+1) (.no r)
 | all {d:Nat} {r s:Ru} (h:ZM d r) (h' :ZM d s):ZM (d+1) (.all r s)
 | some {d:Nat} {r s:Ru} (h:ZM d r) (h' :ZM d s):ZM (d+1) (.some r s)
theorem ZM.up (h:ZM d r):ZM (d+1) r:=by
 induction h with
 | sum ha hb=>exact .sum ha hb
 | size ha hb=>exact .size ha hb
 | word h=>exact .word h
 | rising=>exact .rising
 | unlike=>exact .unlike
 | no h ih=>exact .no ih
 | all h h' ih ih' =>exact .all ih ih'
 | some h h' ih ih' =>exact .some ih ih'
def kp:Ru->T->Bool
 | .sum a b,x=>decide (a<=(ZL (lv x)).sum) && decide ((ZL (lv x)).sum<=b)
 | .size a b,x=>decide (a<=((Zf x).length:Int)) && decide (((Zf x).length:Int)<=b)
 | .word w,x=>(lv x).any (Qj w)
 | .rising,x=>asc (ZL (lv x))
 | .unlike,x=>un (Zf x)
 | .no r,x=> !kp r x
 | .all r s,x=>kp r x && kp s x
 | .some r s,x=>kp r x || kp s x
theorem Js (h: -50<=i/\i<=50):GW [.int i]= .ok (.bl true):=by
 show zA _=_;rw[z1C,zz]
 ·rfl
 ·show jr _ _ [.vl _]=_;rw[wy,zW,v0,bOk,vn,Vl,zV,bOk];rw[bOk,w0,bOk,WM,decide_eq_true h.1,bOk,bOk,WM,decide_eq_true h.2];rfl
theorem Zr (b:Bool)(h:(x == w)=b):zD eqC (zd ixT (vE 0) (cE (.int 0))) (cE (.str w)) (.vl (.tup (.str x :: r)) :: ρ)= .ok b:=by rw[cs0,h]
theorem uh (h:f ρ= .ok false)(h' :g ρ= .ok b):orT f g ρ= .ok b:=by rw[YS,h,bOk,if_neg aA,h']
theorem or_t (h:f ρ= .ok true):orT f g ρ= .ok true:=by rw[YS,h,bOk,if_pos rfl]
theorem wb (h:f ρ= .ok (.bl true))(h' :g ρ=r):jr f g ρ=r:=by rw[wy,h,ZJ,if_pos rfl,h']
theorem Vv (h:((xs.length:Int) == n)=true):ZS eqC (ap1 Zp (vB 0)) (cE (.int n)) (.vl (.tup xs) :: ρ)= .ok (.bl true):=by
 rw[Zi,ZX,w0,bOk,uz,bOk,zV,bOk,eqI,h,bOk]
theorem je:orT (zD eqC (vB 1) (cE (.int 0))) (orT (ue (Jk (ap1 (Wj "tuple") (vB 0)))) (zD eqC (ap1 Zp (vB 0)) (cE (.int 0)))) (en2 (.tup (x :: xs)) (.int ((d+1:Nat):Int)))= .ok false:=by
 refine uh ?_ (uh ?_ ?_)
 ·rw[zN,w1,bOk,zV,bOk,eqI,beq_eq_false_iff_ne.mpr (by omega)]
 ·rfl
 ·rw[zN,ZX,w0,bOk,uz,bOk,zV,bOk,eqI,beq_eq_false_iff_ne.mpr (by rw[ag];omega)]
theorem vG (h:Zl (.str w)=true):Xb (.str w):=by
 have h:(decide _ && decide _ && w.cps.toList.all _)=true:=h;simp only[ae,decide_eq_true_eq]at h;exact aD h.1.2 (by decide)
theorem J0:∀(n d:Nat),d<=n->∀r:Ru,ZM d r->S_i n 0 [r.t,.int (d:Int)]= .ok (.bl true)
 | 0,d,h,r,hr=>by
  have:d=0:=by omega
  subst this;cases hr
 | n+1,d,h,r,hr=>by
  show zA (b_i f_s (S_i n 0) GW (en2 r.t (.int (d:Int))))=_;rw[b_i];cases hr with
  | @sum d a b ha hb=>
   rw[Ru.t,zb (zw je),zK (t:= .bl true)]
   ·rfl
   ·exact zz (wb (Vv rfl) (wb (by show za 1 _ _ (en2 _ _)=_;rw[zW,wa,bOk,Js ha]) (by show za 1 _ _ (en2 _ _)=_;rw[zW,uE,bOk,Js hb])))
  | @size d a b ha hb=>
   rw[Ru.t,zb (zw je),zK (t:= .bl true)]
   ·rfl
   ·exact zz (wb (Vv rfl) (wb (by show za 1 _ _ (en2 _ _)=_;rw[zW,wa,bOk,Js ha]) (by show za 1 _ _ (en2 _ _)=_;rw[zW,uE,bOk,Js hb])))
  | @word d w hw=>
   rw[Ru.t,zb (zw je),zb (zw (uh (Zr false (by decide)) (Zr false (by decide)))),zK (t:= .bl true)]
   ·rfl
   ·exact zz (wb (Vv rfl) (by show za 1 _ _ (en2 _ _)=_;rw[zW,wa,bOk,YQ _ (vG hw),hw]))
  | rising=>
   rw[Ru.t,zb (zw je),zb (zw (uh (Zr false (by decide)) (Zr false (by decide)))),zb (zw (Zr false (by decide))),zK (t:= .bl true)]
   ·rfl
   ·rw[Jb (or_t (Zr true (by decide)))]
    exact zz (Vv rfl)
  | unlike=>
   rw[Ru.t,zb (zw je),zb (zw (uh (Zr false (by decide)) (Zr false (by decide)))),zb (zw (Zr false (by decide))),zK (t:= .bl true)]
   ·rfl
   ·rw[Jb (uh (Zr false (by decide)) (Zr true (by decide)))]
    exact zz (Vv rfl)
  | @no d r hr=>
   have ih:=J0 n d (by omega) r hr
   rw[Ru.t,zb (zw je),zb (zw (uh (Zr false (by decide)) (Zr false (by decide)))),zb (zw (Zr false (by decide))),zb (zw (uh (Zr false (by decide)) (Zr false (by decide)))),zK (t:= .bl true)]
   ·rfl
   ·rw[Jb (Zr true (by decide))]
    exact zz (wb (Vv rfl) (by show za 2 _ _ (en2 _ _)=_;rw[Z5,wa,bOk,zv,v1,bOk,zV,bOk,Zm,bOk,show ((d+1:Nat)) - 1=(d:Int) by omega,ih]))
  | @all d r s hr hs=>
   have ih:=J0 n d (by omega) r hr
   have ih' :=J0 n d (by omega) s hs
   rw[Ru.t,zb (zw je),zb (zw (uh (Zr false (by decide)) (Zr false (by decide)))),zb (zw (Zr false (by decide))),zb (zw (uh (Zr false (by decide)) (Zr false (by decide)))),zb (zw (Zr false (by decide))),zK (t:= .bl true)]
   ·rfl
   ·exact zz (wb (Vv rfl) (wb (by show za 2 _ _ (en2 _ _)=_;rw[Z5,wa,bOk,zv,v1,bOk,zV,bOk,Zm,bOk,show ((d+1:Nat):Int) - 1=(d) by omega,ih]) (by show za 2 _ _ (en2 _ _)=_;rw[Z5,uE,bOk,zv,v1,bOk,zV,bOk,Zm,bOk,show ((d+1:Nat):Int) - 1=(d) by omega,ih'])))
  | @some d r s hr hs=>
   have ih:=J0 n d (by omega) r hr
   have ih' :=J0 n d (by omega) s hs
   rw[Ru.t,zb (zw je),zb (zw (uh (Zr _ (by decide)) (Zr _ (by decide)))),zb (zw (Zr _ (by decide))),zb (zw (uh (Zr _ (by decide)) (Zr _ (by decide)))),zb (zw (Zr _ (by decide))),zK]
   ·rfl
   ·exact zz (wb (Vv rfl) (wb (by show za 2 _ _ (en2 _ _)=_;rw[Z5,wa,bOk,zv,v1,bOk,zV,bOk,Zm,bOk,show ((d+1:Nat):Int) - 1=(d) by omega,ih]) (by show za 2 _ _ (en2 _ _)=_;rw[Z5,uE,bOk,zv,v1,bOk,zV,bOk,Zm,bOk,show ((d+1:Nat):Int) - 1=(d) by omega,ih'])))
theorem Ge (hf:f ρ= .ok (.int i))(hg:g ρ= .ok (.int j))(hh:h ρ= .ok (.int k)):chE leC leC f g h ρ= .ok (.bl (decide (i<=j) && decide (j<=k))):=by
 rw[vn,hf,bOk,hg,bOk,WM,bOk];cases decide (i<=j) with
 | true=>rw[if_pos rfl,hh,bOk,WM,bOk,fI]
 | false=>rw[if_neg aA,Bool.false_and]
theorem qW (hd:d<=2)(h:W d x)(b:Bool)(hr:(match r with | .no _=>False | .all _ _=>False | .some _ _=>False | _=>True)):gC [r.t,x]= .ok (.bl (kp r x)):=by
 have hn:=yg hd h;have hp:=Xs h;have hv:f_e 8 [x]= .ok (.lst (lv x)):=JR 8 d (by omega) (by omega) x h
 have hi:=aD (Wd _) (w9 hd h);show zA (z00 GZ (f_e 8) GY _ _ (en2 r.t x))=_;rw[z00];cases r with
 | sum a b=>
  rw[zK]
  ·rfl
  ·refine zz ?_;show chE _ _ _ _ _ (en2 _ x)=_;exact Ge wa (by rw[ZX,zW,v1,bOk,hn,bOk,Ga]) uE
 | size a b=>
  rw[Ru.t,zb (zw (Zr _ (by decide))),zK]
  ·rfl
  ·rw[Jb (Zr _ (by decide))]
   refine zz ?_;show chE _ _ _ _ _ (en2 _ x)=_;exact Ge wa (by rw[ZX,zW,v1,bOk,hp,bOk,uz]) uE
 | word w=>
  rw[Ru.t,zb (zw (Zr false (by decide))),zb (zw (Zr false (by decide))),zK]
  ·rfl
  ·rw[Jb (Zr true (by decide))]
   refine zz ?_;show ZS _ _ _ (en2 _ x)=_;rw[Zi,wa,bOk,zW,v1,bOk,hv];show ((match Wi (λy=>eqF 30 y (.str w)) (lv x) with | some b=>R.ok b | none=> .bad).bind _)=_
   rw[qU];rfl
 | rising=>
  rw[Ru.t,zb (zw (Zr false (by decide))),zb (zw (Zr _ (by decide))),zb (zw (Zr _ (by decide))),zK (t:= .bl (kp _ x))]
  ·rfl
  ·rw[Jb (Zr true (by decide))]
   refine zz ?_;show za 1 _ _ (en2 _ x)=_;rw[zW,zW,v1,bOk,hn,bOk,qJ _ (by omega)]
   rfl
 | unlike=>
  rw[Ru.t,zb (zw (Zr false (by decide))),zb (zw (Zr _ (by decide))),zb (zw (Zr false (by decide))),zb (zw (Zr _ (by decide))),zz]
  ·rfl
  ·show za 1 _ _ (en2 _ x)=_;rw[zW,zW,v1,bOk,hp,bOk,qT (Uw h hd) (aD (WZ h) (by omega))]
   rfl
 | no=>exact hr.elim
 | all=>exact hr.elim
 | some=>exact hr.elim
theorem qX (h:f ρ= .ok (.bl b)):Q9 f ρ= .ok (.bl (!b)):=by unfold Q9;rw[h];rfl
theorem We (h:f ρ= .ok (.bl a))(h' :g ρ= .ok (.bl b)):jr f g ρ= .ok (.bl (a && b)):=by
 rw[wy,h,h'];cases a <;> rfl
theorem Vw (h:f ρ= .ok (.bl a))(h' :g ρ= .ok (.bl b)):orE f g ρ= .ok (.bl (a || b)):=by
 unfold orE;rw[h];cases a with
 | true=>rfl
 | false=>exact h'
theorem J4 (he:e<=2)(hx:W e x):∀(n d:Nat),d<=n->∀r:Ru,ZM d r->S_c n 0 [r.t,x]= .ok (.bl (kp r x))
 | 0,d,h,r,hr=>by
  have:d=0:=by omega
  subst this;cases hr
 | n+1,d,h,r,hr=>by
  show zA (b_c (S_c n 0) gC (en2 r.t x))=_;rw[b_c];have fin:∀(r:Ru) (s:Str) (q:List T),r.t= .tup (.str s :: q)->(s == "no")=false->(s == "all")=false->(s == "some")=false->(match r with | .no _=>False | .all _ _=>False | .some _ _=>False | _=>True)->
    zA (zB (ifS (zD eqC (zd ixT (vE 0) (cE (.int 0))) (cE (.str "no"))) (zF (Q9 (za 2 (S_c n 0) (z9 (zd ixT (vE 0) (cE (.int 1))) (z9 (vE 1) (zj)))))) (nxS))
  (zB (ifS (zD eqC (zd ixT (vE 0) (cE (.int 0))) (cE (.str "all"))) (zF (jr (za 2 (S_c n 0) (z9 (zd ixT (vE 0) (cE (.int 1))) (z9 (vE 1) (zj)))) (za 2 (S_c n 0) (z9 (zd ixT (vE 0) (cE (.int 2))) (z9 (vE 1) (zj)))))) (nxS))
  (zB (ifS (zD eqC (zd ixT (vE 0) (cE (.int 0))) (cE (.str "some"))) (zF (orE (za 2 (S_c n 0) (z9 (zd ixT (vE 0) (cE (.int 1))) (z9 (vE 1) (zj)))) (za 2 (S_c n 0) (z9 (zd ixT (vE 0) (cE (.int 2))) (z9 (vE 1) (zj)))))) (nxS))
  (zF (za 2 gC (z9 (vE 0) (z9 (vE 1) (zj))))))) (en2 r.t x))= .ok (.bl (kp r x)):=by
   intro r s q e h1 h2 h3 hm;have hs:=qW he hx true hm;rw[e]at hs ⊢;rw[zb (zw (Zr _ h1)),zb (zw (Zr false h2)),zb (zw (Zr _ h3)),zz]
   ·rfl
   ·show za 2 _ _ (en2 _ x)=_;rw[Z5,v0,bOk,v1,bOk,hs]
  cases hr with
  | @sum d a b ha hb=>exact fin (.sum a b) "sum" _ rfl (by decide) (by decide) (by decide) trivial
  | @size d a b ha hb=>exact fin _ "size" _ rfl (by decide) (by decide) (by decide) trivial
  | @word d w hw=>exact fin _ _ _ rfl (by decide) (by decide) (by decide) trivial
  | rising=>exact fin .rising _ _ rfl (by decide) (by decide) (by decide) trivial
  | unlike=>exact fin .unlike _ _ rfl (by decide) (by decide) (by decide) trivial
  | @no d r hr=>
   have ih:=J4 he hx n d (by omega) r hr
   rw[Ru.t,zK]
   ·rfl
   ·exact zz (qX (by show za 2 _ _ (en2 _ x)=_;rw[Z5,wa,bOk,v1,bOk,ih]))
  | @all d r s hr hs=>
   have ih:=J4 he hx n d (by omega) r hr
   have ih' :=J4 he hx n d (by omega) s hs
   rw[Ru.t,zb (zw (Zr _ (by decide))),zK]
   ·rfl
   ·exact zz (We (by show za 2 _ _ (en2 _ x)=_;rw[Z5,wa,bOk,v1,bOk,ih]) (by show za 2 _ _ (en2 _ x)=_;rw[Z5,uE,bOk,v1,bOk,ih']))
  | @some d r s hr hs=>
   have ih:=J4 he hx n d (by omega) r hr
   have ih' :=J4 he hx n d (by omega) s hs
   rw[Ru.t,zb (zw (Zr _ (by decide))),zb (zw (Zr _ (by decide))),zK]
   ·rfl
   ·exact zz (Vw (by show za 2 _ _ (en2 _ x)=_;rw[Z5,wa,bOk,v1,bOk,ih]) (by show za 2 _ _ (en2 _ x)=_;rw[Z5,uE,bOk,v1,bOk,ih']))
abbrev lk (r x a b:T):En:=[.vl r,.vl x,.vl a,.vl b,.un,.un,.un]
theorem lk0 (c:Bool)(h:(x == w)=c):zD eqC (zd ixT (vE 0) (cE (.int 0))) (cE (.str w)) (lk (.tup (.str x :: r)) y a b)= .ok c:=Zr c h
theorem Ux:∀(is:List Int) (m:Int) (y:Sl),∃y',Zx (zJ 5) (zP 4 (zd zG (vE 4) (vE 5))) (is.map T.int) [.vl r,.vl x,.vl a,.vl b,.vl (.int m),y,z]= .nx [.vl r,.vl x,.vl a,.vl b,.vl (.int (m+is.sum)),y',z]
 | [],m,y=>⟨y,by rw[List.sum_nil,Int.add_zero];rfl⟩
 | i :: is,m,y=>by
  obtain⟨y',h⟩:=Ux (r:=r) (x:=x) (a:=a) (b:=b) (z:=z) is (m+i) (.vl (.int i));refine⟨y', ?_⟩;have s2:zJ 5 (.int i) [.vl r,.vl x,.vl a,.vl b,.vl (.int m),y,z]= .ok [.vl r,.vl x,.vl a,.vl b,.vl (.int m),.vl (.int i),z]:=rfl;have b2:zP 4 (zd zG (vE 4) (vE 5)) [.vl r,.vl x,.vl a,.vl b,.vl (.int m),.vl (.int i),z]= .nx [.vl r,.vl x,.vl a,.vl b,.vl (.int (m+i)),.vl (.int i),z]:=rfl;rw[aI,jd s2 b2,h,dr,Int.add_assoc]
theorem z1Q (hf:f ρ= .ok (.int i))(hg:g ρ= .ok (.int j)):ZS leC f g ρ= .ok (.bl (decide (i<=j))):=by rw[Zi,hf,bOk,hg,bOk,WM,bOk]
theorem ge_E (hf:f ρ= .ok (.int i))(hg:g ρ= .ok (.int j)):ZS geC f g ρ= .ok (.bl (decide (j<=i))):=by
 rw[Zi,hf,bOk,hg,bOk];rfl
theorem u8:frz (lk r x a b)=lk r x a b:=rfl
theorem jj (he:e<=2)(hx:W e x):∀(n d:Nat),d<=n->∀r:Ru,ZM d r->S_8 n 0 [r.t,x]= .ok (.bl (kp r x))
 | 0,d,h,r,hr=>by
  have:d=0:=by omega
  subst this;cases hr
 | n+1,d,h,r,hr=>by
  show zA (b_8 (f_h 8) (S_8 n 0) [.vl r.t,.vl x,.un,.un,.un,.un,.un])=_;have hv:f_h 8 [x]= .ok (.lst (lv x)):=Uu 8 e (by omega) (by omega) x hx
  have hl:=w9 he hx;have hB:bnd=16777216:=rfl;have hi:(ZL (lv x)).length<=9:=aD (Wd _) hl;have e1:zP 2 (Z1 (ZU (za 1 (f_h 8) (z9 (vE 1) (zj)))) (zJ 0) (Jk (ap1 (Wj "int") (vB 0))) (vE 0) 1 []) [.vl r.t,.vl x,.un,.un,.un,.un,.un]= .nx [.vl r.t,.vl x,.vl (.lst ((ZL (lv x)).map T.int)),.un,.un,.un,.un]:=by
   have ec:zH (zJ 0) (Jk (ap1 (Wj "int") (vB 0))) (vE 0) 1 [] [.vl r.t,.vl x,.un,.un,.un,.un,.un] (lv x)= .ok ((lv x).filter isW):=
    Zy _ (by omega) λt ht=>⟨by cases z1P hx t ht <;> rfl,rfl⟩
   rw[zS (t:= .lst ((ZL (lv x)).map T.int))]
   ·rfl
   ·rw[Z2,jb,zW,v1,bOk,hv,bOk];show ((zH _ _ _ _ _ _ (lv x)).bind _)=_;rw[ec,bOk,JT]
  have e2:zP 3 (ifE (Jk (ap1 (Wj "tuple") (vB 1))) (vE 1) (Zv (z9 (vE 1) (zj)))) [.vl r.t,.vl x,.vl (.lst ((ZL (lv x)).map T.int)),.un,.un,.un,.un]= .nx (lk r.t x (.lst ((ZL (lv x)).map T.int)) (.tup (Zf x))):=by
   cases hx <;> rfl
  rw[b_8,zb e1,zb e2];cases hr with
  | @sum d a b ha hb=>
   obtain⟨y',el⟩:=Ux (r:=(Ru.sum a b).t) (x:=x) (a:= .lst ((ZL (lv x)).map T.int)) (b:= .tup (Zf x)) (z:= .un) (ZL (lv x)) 0 .un;rw[g7]at el;have e3:zP 4 (cE (.int 0)) (lk (Ru.sum a b).t x (.lst ((ZL (lv x)).map T.int)) (.tup (Zf x)))= .nx [.vl (Ru.sum a b).t,.vl x,.vl (.lst ((ZL (lv x)).map T.int)),.vl (.tup (Zf x)),.vl (.int 0),.un,.un]:=rfl;have e4:ZT (ZU (vE 2)) (zJ 5) (zP 4 (zd zG (vE 4) (vE 5))) [.vl (Ru.sum a b).t,.vl x,.vl (.lst ((ZL (lv x)).map T.int)),.vl (.tup (Zf x)),.vl (.int 0),.un,.un]= .nx [.vl (Ru.sum a b).t,.vl x,.vl (.lst ((ZL (lv x)).map T.int)),.vl (.tup (Zf x)),.vl (.int (ZL (lv x)).sum),y',.un]:=by
    unfold ZT;rw[jb,v2,bOk];exact el
   rw[zK (t:= .bl (kp (.sum a b) x))]
   ·rfl
   ·rw[Jb (by rw[Ru.t];exact lk0 true (by decide)),zb e3,zb e4,zz (t:= .bl (kp (.sum a b) x))]
    show jr _ _ [.vl (Ru.sum a b).t,.vl x,.vl (.lst ((ZL (lv x)).map T.int)),.vl (.tup (Zf x)),.vl (.int (ZL (lv x)).sum),frz1 y',.un]=_;rw[Ru.t];exact We (z1Q wa rfl) (z1Q rfl uE)
  | @size d a b ha hb=>
   rw[Ru.t,zb (zw (lk0 false (by decide))),zK (t:= .bl (kp (.size a b) x))]
   ·rfl
   ·rw[Jb (lk0 true (by decide)),zz (t:= .bl (kp (.size a b) x))]
    rw[u8];exact We (ge_E (i:=((Zf x).length:Int)) rfl wa) (z1Q (i:=((Zf x).length:Int)) rfl uE)
  | @word d w hw=>
   rw[Ru.t,zb (zw (lk0 false (by decide))),zb (zw (lk0 false (by decide))),zK (t:= .bl (kp (.word w) x))]
   ·rfl
   ·rw[Jb (lk0 true (by decide)),zz (t:= .bl (kp (.word w) x))]
    rw[u8];have ec:zH (zJ 0) (zD eqC (vB 0) (zd ixT (vE 1) (cE (.int 1)))) (vE 0) 1 [0] (lk (.tup [.str "word",.str w]) x (.lst ((ZL (lv x)).map T.int)) (.tup (Zf x))) (lv x)= .ok ((lv x).filter (Qj w)):=
     Zy _ (by omega) λt ht=>⟨by
      show zD eqC (vB 0) (zd ixT (vE 1) (cE (.int 1))) [.vl t,.vl (.tup [.str "word",.str w])]=_;rw[zN,w0,bOk,zv,v1,bOk,zV,bOk,at1,bOk];unfold eqC;rw[Gc],rfl⟩
    rw[Zi,Z2,jb,zW,v1,bOk,hv,bOk];show (((zH _ _ _ _ _ _ (lv x)).bind _).bind _)=_;rw[ec,bOk,bOk,show j6 zj (lk (.tup [.str "word",.str w]) x (.lst ((ZL (lv x)).map T.int)) (.tup (Zf x)))= .ok (.lst []) from rfl,bOk];have en:neC (.lst ((lv x).filter (Qj w))) (.lst [])= .ok (!((lv x).filter (Qj w)).isEmpty):=by cases (lv x).filter (Qj w) <;> rfl
    rw[en,bOk,Xt,Bool.not_not];rfl
  | rising=>
   rw[Ru.t,zb (zw (lk0 false (by decide))),zb (zw (lk0 false (by decide))),zb (zw (lk0 false (by decide))),zK (t:= .bl (kp .rising x))]
   ·rfl
   ·rw[Jb (lk0 true (by decide)),zz (t:= .bl (kp .rising x))]
    rw[u8,Zi,ZX,w2,bOk,bOk,YF _ (by omega),bOk,qQ,bOk]
    rfl
  | unlike=>
   rw[Ru.t,zb (zw (lk0 false (by decide))),zb (zw (lk0 false (by decide))),zb (zw (lk0 false (by decide))),zb (zw (lk0 false (by decide))),zK (t:= .bl (kp .unlike x))]
   ·rfl
   ·rw[Jb (lk0 true (by decide)),zz (t:= .bl (kp .unlike x))]
    rw[u8];have hp3:=WZ hx;obtain⟨q,eq,hq⟩:=vF (Uw hx he) (by omega) (a:= .vl (.tup [.str "unlike"])) (b:= .vl x) (c:= .vl (.lst ((ZL (lv x)).map T.int))) (ρ:=[.un,.un,.un])
    have er:Za (ap1 Zp (vB 3)) (lk (.tup [.str "unlike"]) x (.lst ((ZL (lv x)).map T.int)) (.tup (Zf x)))= .ok (rng 0 (Zf x).length):=by
     rw[qB (j:=((Zf x).length:Int)) rfl ⟨by omega,by omega⟩,bC]
    rw[Zi,Z2,er,bOk,eq,bOk,bOk,show j6 zj (lk (.tup [.str "unlike"]) x (.lst ((ZL (lv x)).map T.int)) (.tup (Zf x)))= .ok (.lst []) from rfl,bOk,gL,bOk,hq];rfl
  | @no d r hr=>
   have ih:=jj he hx n d (by omega) r hr
   rw[Ru.t,zb (zw (lk0 false (by decide))),zb (zw (lk0 false (by decide))),zb (zw (lk0 false (by decide))),zb (zw (lk0 false (by decide))),zb (zw (lk0 false (by decide))),zK (t:= .bl (kp (.no r) x))]
   ·rfl
   ·rw[Jb (lk0 true (by decide)),zz (t:= .bl (kp (.no r) x))]
    rw[u8];exact qX (by rw[Z5,wa,bOk,v1,bOk,ih])
  | @all d r s hr hs=>
   have ih:=jj he hx n d (by omega) r hr
   have ih' :=jj he hx n d (by omega) s hs
   have e3:zP 6 (Z1 (ZU (slE (vE 0) (Je (cE (.int 1))) (noO))) (zJ 0) (Zk) (za 2 (S_8 n 0) (z9 (vE 0) (z9 (vE 1) (zj)))) 1 [1]) (lk (.tup [.str "all",r.t,s.t]) x (.lst ((ZL (lv x)).map T.int)) (.tup (Zf x)))= .nx [.vl (.tup [.str "all",r.t,s.t]),.vl x,.vl (.lst ((ZL (lv x)).map T.int)),.vl (.tup (Zf x)),.un,.un,.vl (.lst [.bl (kp r x),.bl (kp s x)])]:=by
    rw[zS (t:= .lst [.bl (kp r x),.bl (kp s x)])]
    ·rfl
    ·rw[Z2];show ((zH (zJ 0) Zk (za 2 (S_8 n 0) (z9 (vE 0) (z9 (vE 1) (zj)))) 1 [1] (lk (.tup [.str "all",r.t,s.t]) x (.lst ((ZL (lv x)).map T.int)) (.tup (Zf x))) [r.t,s.t]).bind _)=_;have ec:zH (zJ 0) Zk (za 2 (S_8 n 0) (z9 (vE 0) (z9 (vE 1) (zj)))) 1 [1] (lk (.tup [.str "all",r.t,s.t]) x (.lst ((ZL (lv x)).map T.int)) (.tup (Zf x))) [r.t,s.t]= .ok [.bl (kp r x),.bl (kp s x)]:=by
      unfold zH;rw[if_pos (by show 2<=bnd;omega)]
      have c1:za 2 (S_8 n 0) (z9 (vE 0) (z9 (vE 1) (zj))) [.vl r.t,.vl x]= .ok (.bl (kp r x)):=by rw[Z5,v0,bOk,v1,bOk,ih]
      have c2:za 2 (S_8 n 0) (z9 (vE 0) (z9 (vE 1) (zj))) [.vl s.t,.vl x]= .ok (.bl (kp s x)):=by rw[Z5,v0,bOk,v1,bOk,ih']
      show quiet ((za 2 (S_8 n 0) (z9 (vE 0) (z9 (vE 1) (zj))) [.vl r.t,.vl x]).bind λv=>((za 2 (S_8 n 0) (z9 (vE 0) (z9 (vE 1) (zj))) [.vl s.t,.vl x]).bind λv=>(R.ok []).bind λvs=> .ok (v :: vs)).bind λvs=> .ok (v :: vs))=_;rw[c1,c2];rfl
     rw[ec,bOk]
   rw[Ru.t,zb (zw (lk0 false (by decide))),zb (zw (lk0 false (by decide))),zb (zw (lk0 false (by decide))),zb (zw (lk0 false (by decide))),zb (zw (lk0 false (by decide))),zb (zw (lk0 false (by decide))),zb e3,zz (t:= .bl (kp (.all r s) x))]
   ·rfl
   ·show ifE _ _ _ [.vl (.tup [.str "all",r.t,s.t]),.vl x,.vl (.lst ((ZL (lv x)).map T.int)),.vl (.tup (Zf x)),.un,.un,.vl (.lst [.bl (kp r x),.bl (kp s x)])]=_;unfold ifE;rw[Zr true (by decide),bOk,if_pos rfl]
    exact We rfl rfl
  | @some d r s hr hs=>
   have ih:=jj he hx n d (by omega) r hr
   have ih' :=jj he hx n d (by omega) s hs
   have e3:zP 6 (Z1 (ZU (slE (vE 0) (Je (cE (.int 1))) (noO))) (zJ 0) (Zk) (za 2 (S_8 n 0) (z9 (vE 0) (z9 (vE 1) (zj)))) 1 [1]) (lk (.tup [.str "some",r.t,s.t]) x (.lst ((ZL (lv x)).map T.int)) (.tup (Zf x)))= .nx [.vl (.tup [.str "some",r.t,s.t]),.vl x,.vl (.lst ((ZL (lv x)).map T.int)),.vl (.tup (Zf x)),.un,.un,.vl (.lst [.bl (kp r x),.bl (kp s x)])]:=by
    rw[zS (t:= .lst [.bl (kp r x),.bl (kp s x)])]
    ·rfl
    ·rw[Z2];show ((zH (zJ 0) Zk (za 2 (S_8 n 0) (z9 (vE 0) (z9 (vE 1) (zj)))) 1 [1] (lk (.tup [.str "some",r.t,s.t]) x (.lst ((ZL (lv x)).map T.int)) (.tup (Zf x))) [r.t,s.t]).bind _)=_;have ec:zH (zJ 0) Zk (za 2 (S_8 n 0) (z9 (vE 0) (z9 (vE 1) (zj)))) 1 [1] (lk (.tup [.str "some",r.t,s.t]) x (.lst ((ZL (lv x)).map T.int)) (.tup (Zf x))) [r.t,s.t]= .ok [.bl (kp r x),.bl (kp s x)]:=by
      unfold zH;rw[if_pos (by show 2<=bnd;omega)]
      have c1:za 2 (S_8 n 0) (z9 (vE 0) (z9 (vE 1) (zj))) [.vl r.t,.vl x]= .ok (.bl (kp r x)):=by rw[Z5,v0,bOk,v1,bOk,ih]
      have c2:za 2 (S_8 n 0) (z9 (vE 0) (z9 (vE 1) (zj))) [.vl s.t,.vl x]= .ok (.bl (kp s x)):=by rw[Z5,v0,bOk,v1,bOk,ih']
      show quiet ((za 2 (S_8 n 0) (z9 (vE 0) (z9 (vE 1) (zj))) [.vl r.t,.vl x]).bind λv=>((za 2 (S_8 n 0) (z9 (vE 0) (z9 (vE 1) (zj))) [.vl s.t,.vl x]).bind λv=>(R.ok []).bind λvs=> .ok (v :: vs)).bind λvs=> .ok (v :: vs))=_;rw[c1,c2];rfl
     rw[ec,bOk]
   rw[Ru.t,zb (zw (lk0 false (by decide))),zb (zw (lk0 false (by decide))),zb (zw (lk0 false (by decide))),zb (zw (lk0 false (by decide))),zb (zw (lk0 false (by decide))),zb (zw (lk0 false (by decide))),zb e3,zz (t:= .bl (kp (.some r s) x))]
   ·rfl
   ·show ifE _ _ _ [.vl (.tup [.str "some",r.t,s.t]),.vl x,.vl (.lst ((ZL (lv x)).map T.int)),.vl (.tup (Zf x)),.un,.un,.vl (.lst [.bl (kp r x),.bl (kp s x)])]=_;unfold ifE;rw[Zr false (by decide),bOk,if_neg aA]
    exact Vw rfl rfl
abbrev lr (ns:List Int)(k:Int)(d:Nat)(p:Int)(a b:Sl):En:=[.vl (scr ns),.vl (.int k),.vl (.int (d:Int)),.vl (.int p),a,b]
theorem qY (h:f_1 [scr ns,.int (k+j),.int m]= .ok (.int q)):za 3 f_1 (z9 (vE 0) (z9 (zd zG (vE 1) (cE (.int j))) (z9 (cE (.int m)) (zj)))) (lr ns k d p a b)= .ok (.int q):=by
 rw[Zq,v0,bOk,zv,v1,bOk,zV,bOk,Z8,bOk,zV,bOk,h]
theorem Wf (ns:List Int):∀(n d:Nat),d<=n->1<=d->∀k:Int,0<=k->∃r:Ru,S_g n 0 [scr ns,.int k,.int (d:Int)]= .ok r.t/\ZM d r
 | 0,d,h,h1,k,hk=>by omega
 | n+1,d,h,h1,k,hk=>by
  obtain⟨p,hp,p0,p9⟩:=zR ns k 9 hk (by omega)
  have e1:zP 3 (za 3 f_1 (z9 (vE 0) (z9 (vE 1) (z9 (cE (.int 9)) (zj))))) [.vl (scr ns),.vl (.int k),.vl (.int (d:Int)),.un,.un,.un]= .nx (lr ns k d p .un .un):=by
   rw[zS (t:= .int p)]
   ·rfl
   ·rw[Zq,v0,bOk,v1,bOk,zV,bOk,hp]
  have e:S_g (n+1) 0 [scr ns,.int k,.int (d:Int)]=zA (b_g f_1 (S_g n 0) [.vl (scr ns),.vl (.int k),.vl (.int (d:Int)),.un,.un,.un]):=rfl;rw[e,b_g,zb e1];have et:kT (zD gtC (vB 2) (cE (.int 1))) (zD gtC (vB 3) (cE (.int 5))) (lr ns k d p .un .un)= .ok (decide (1 < d) && decide (5 < p)):=by
   rw[Xd,zN,w2,bOk,zV,bOk,Xp,bOk,show decide ((1:Int) < (d:Int))=decide (1 < d) by rw[f9,decide_eq_true_eq,decide_eq_true_eq];omega]
   cases decide (1 < d) with
   | true=>rw[if_pos rfl,zN,w3,bOk,zV,bOk,Xp,fI]
   | false=>rfl
  by_cases hb:1 < d/\5 < p
  ·rw[decide_eq_true hb.1,decide_eq_true hb.2]at et;obtain⟨d,rfl⟩:∃d',d=d' +1:=⟨d - 1,by omega⟩
   obtain⟨r1,hr1,o1⟩:=Wf ns n d (by omega) (by omega) (2*k+11) (by omega)
   obtain⟨r2,hr2,o2⟩:=Wf ns n d (by omega) (by omega) (2*k+24) (by omega)
   have m2:Z4 (.int 2) (.int k)= .ok (.int (2*k)):=WS _ _ (.inl ⟨by decide,by decide⟩)
   have e2:zP 4 (za 3 (S_g n 0) (z9 (vE 0) (z9 (zd zG (zd Z4 (cE (.int 2)) (vE 1)) (cE (.int 11))) (z9 (zd jM (vE 2) (cE (.int 1))) (zj))))) (lr ns k (d+1) p .un .un)= .nx (lr ns k (d+1) p (.vl r1.t) .un):=by
    rw[zS (t:=r1.t)]
    ·rfl
    ·rw[Zq,v0,bOk,zv,zv,zV,bOk,v1,bOk,m2,bOk,zV,bOk,Z8,bOk,zv,v2,bOk,zV,bOk,Zm,bOk,show ((d+1:Nat):Int) - 1=(d:Int) by omega,hr1]
   have c2:za 3 (S_g n 0) (z9 (vE 0) (z9 (zd zG (zd Z4 (cE (.int 2)) (vE 1)) (cE (.int 24))) (z9 (zd jM (vE 2) (cE (.int 1))) (zj)))) (lr ns k (d+1) p (.vl r1.t) .un)= .ok r2.t:=by
    rw[Zq,v0,bOk,zv,zv,zV,bOk,v1,bOk,m2,bOk,zV,bOk,Z8,bOk,zv,v2,bOk,zV,bOk,Zm,bOk,show ((d+1:Nat):Int) - 1=(d:Int) by omega,hr2]
   by_cases h6:p=6
   ·subst h6;refine⟨.no r1, ?_,.no o1⟩;rw[zK (t:=(Ru.no r1).t)]
    ·rfl
    ·rw[Jb et,zb e2,zK (t:=(Ru.no r1).t)];rw[Jb rfl,Ru.t];exact zz (Qg rfl rfl)
   ·have h6' :zD eqC (vB 3) (cE (.int 6)) (lr ns k (d+1) p (.vl r1.t) .un)= .ok false:=by
     rw[zN,w3,bOk,zV,bOk,eqI,beq_eq_false_iff_ne.mpr h6]
    by_cases h7:p=7
    ·subst h7;refine⟨.all r1 r2, ?_,.all o1 o2⟩;rw[zK (t:=(Ru.all r1 r2).t)]
     ·rfl
     ·rw[Jb et,zb e2,zb (zw h6'),Ru.t];exact zz (gQ rfl rfl c2)
    ·have h8:p=8:=by omega
     subst h8;refine⟨.some r1 r2, ?_,.some o1 o2⟩;rw[zK (t:=(Ru.some r1 r2).t)]
     ·rfl
     ·rw[Jb et,zb e2,zb (zw h6'),Ru.t];exact zz (gQ rfl rfl c2)
  ·have et:kT (zD gtC (vB 2) (cE (.int 1))) (zD gtC (vB 3) (cE (.int 5))) (lr ns k d p .un .un)= .ok false:=by
    rw[et];congr 1
    rw[Bool.and_eq_false_iff,decide_eq_false_iff_not,decide_eq_false_iff_not];omega
   obtain⟨d,rfl⟩:∃d',d=d' +1:=⟨d - 1,by omega⟩
   obtain⟨q,hq,q0,q9⟩:=zR ns (k+1) 9 (by omega) (by omega)
   have e2:zP 5 (zd jM (za 3 f_1 (z9 (vE 0) (z9 (zd zG (vE 1) (cE (.int 1))) (z9 (cE (.int 9)) (zj))))) (cE (.int 4))) (lr ns k (d+1) p .un .un)= .nx (lr ns k (d+1) p .un (.vl (.int (q - 4)))):=by
    rw[zS (t:= .int (q - 4))]
    ·rfl
    ·rw[zv,qY hq,bOk,zV,bOk,Zm]
   rw[zb (zw et),zb e2];have hm:∃m:Nat,m < 6/\zd jS (vE 3) (cE (.int 6)) (lr ns k (d+1) p .un (.vl (.int (q - 4))))= .ok (.int (m:Int)):=by
    obtain⟨w,rfl⟩:=cg p0;exact⟨w % 6,Nat.mod_lt _ (by omega),by rw[zv,v3,bOk,zV,bOk];exact Vr (c:=6) (by omega)⟩
   obtain⟨m,m6,hm⟩:=hm;have t2:zD ltC (zd jS (vE 3) (cE (.int 6))) (cE (.int 2)) (lr ns k (d+1) p .un (.vl (.int (q - 4))))= .ok (decide (m < 2)):=by
    rw[zN,hm,bOk,zV,bOk,ltI];congr 1;rw[f9,decide_eq_true_eq,decide_eq_true_eq];omega
   have tk:∀j:Nat,zD eqC (zd jS (vE 3) (cE (.int 6))) (cE (.int (j:Int))) (lr ns k (d+1) p .un (.vl (.int (q - 4))))= .ok (m == j):=λj=>by
    rw[zN,hm,bOk,zV,bOk,eqI,qg]
   have tk2:zD eqC (zd jS (vE 3) (cE (.int 6))) (cE (.int 2)) (lr ns k (d+1) p .un (.vl (.int (q - 4))))= .ok (m == 2):=tk 2;have tk3:zD eqC (zd jS (vE 3) (cE (.int 6))) (cE (.int 3)) (lr ns k (d+1) p .un (.vl (.int (q - 4))))= .ok (m == 3):=tk 3;have tk4:zD eqC (zd jS (vE 3) (cE (.int 6))) (cE (.int 4)) (lr ns k (d+1) p .un (.vl (.int (q - 4))))= .ok (m == 4):=tk 4
   by_cases h2:m < 2
   ·obtain⟨u,hu,u0,u5⟩:=zR ns (k+2) 5 (by omega) (by omega)
    refine⟨.sum (q - 4) (q - 4+u - 1), ?_,.sum ⟨by omega,by omega⟩ ⟨by omega,by omega⟩⟩
    rw[zK (t:=(Ru.sum (q - 4) (q - 4+u - 1)).t)]
    ·rfl
    ·rw[Jb (by rw[t2,decide_eq_true h2]),Ru.t]
     refine zz (gQ rfl rfl ?_);show zd jM _ _ (lr ns k (d+1) p .un (.vl (.int (q - 4))))=_;rw[zv,zv,qY hu,show vE 5 (lr ns k (d+1) p .un (.vl (.int (q - 4))))= .ok (.int (q - 4)) from rfl,bOk,bOk,Z8,bOk,zV,bOk,Zm]
   rw[zb (zw (by rw[t2,decide_eq_false h2]))]
   by_cases h3:m=2
   ·subst h3;obtain⟨q',hq',q'0,q'3⟩:=zR ns (k+1) 3 (by omega) (by omega)
    obtain⟨u,hu,u0,u4⟩:=zR ns (k+2) 4 (by omega) (by omega)
    refine⟨.size q' u, ?_,.size ⟨by omega,by omega⟩ ⟨by omega,by omega⟩⟩
    rw[zK (t:=(Ru.size q' u).t)]
    ·rfl
    ·rw[Jb tk2,Ru.t];exact zz (gQ rfl (qY hq') (qY hu))
   rw[zb (zw (by rw[tk2,beq_eq_false_iff_ne.mpr h3]))]
   by_cases h4:m=3
   ·subst h4;obtain⟨q',hq',q'0,q'3⟩:=zR ns (k+1) 4 (by omega) (by omega)
    have hw:∃w:Str,Zl (.str w)=true/\ixT (.lst [.str "a",.str "b",.str "ab",.str "zz"]) (.int q')= .ok (.str w):=by
     have hq4:q' =0\/q' =1\/q' =2\/q' =3:=by omega
     rcases hq4 with rfl | rfl | rfl | rfl
     ·exact⟨"a",by decide,rfl⟩
     ·exact⟨"b",by decide,rfl⟩
     ·exact⟨"ab",by decide,rfl⟩
     ·exact⟨"zz",by decide,rfl⟩
    obtain⟨w,hw,hx⟩:=hw;refine⟨.word w, ?_,.word hw⟩;rw[zK (t:=(Ru.word w).t)]
    ·rfl
    ·rw[Jb tk3,Ru.t];refine zz (Qg rfl ?_);show zd ixT _ _ (lr ns k (d+1) p .un (.vl (.int (q - 4))))=_;rw[zv,qY hq'];exact hx
   rw[zb (zw (by rw[tk3,beq_eq_false_iff_ne.mpr h4]))]
   by_cases h5:m=4
   ·subst h5;refine⟨.rising, ?_,.rising⟩;rw[zz (t:=Ru.rising.t)]
    ·rfl
    ·show ifE _ _ _ (lr ns k (d+1) p .un (.vl (.int (q - 4))))=_;unfold ifE;rw[tk4,bOk];rfl
   ·refine⟨.unlike, ?_,.unlike⟩;rw[zz (t:=Ru.unlike.t)]
    ·rfl
    ·show ifE _ _ _ (lr ns k (d+1) p .un (.vl (.int (q - 4))))=_;unfold ifE;rw[tk4,bOk,beq_eq_false_iff_ne.mpr h5];rfl
theorem yh (hx:W 2 x)(hr:ZM 3 r):f_c 8 [r.t,x]= .ok (.bl (kp r x)):=J4 (by omega) hx 8 3 (by omega) r hr
theorem Xu {k:Kd}(hk:k.Ok 3):GU [k.t]= .ok .non:=by
 have hi:=qp 3 k hk;show zA (GT f_3 [.vl k.t])=_;rw[GT,zw]
 ·rfl
 ·show ue (Jk (za 1 f_3 (z9 (vE 0) zj))) [.vl k.t]=_;rw[Ue,WN,zW,v0,bOk,yb _ (W7 3 _ hi).so,hi];rfl
theorem Wg {k:Kd}(hk:k.Ok 3)(h5:k.all.length<=500):f_u [k.t]= .ok (.lst k.all):=by
 show zA (b_u GU (f_2 20) (f_a 20) [.vl k.t,.un])=_;have e1:zP 1 (za 1 (f_2 20) (z9 (vE 0) (zj))) [.vl k.t,.un]= .nx (en2 k.t (.int (k.all.length:Int))):=by
  rw[zS (t:= .int (k.all.length:Int))]
  ·rfl
  ·rw[zW,v0,bOk,jI (by omega) hk]
 have e2:zD gtC (vB 1) (cE (.int 500)) (en2 k.t (.int (k.all.length:Int)))= .ok false:=by
  rw[zN,w1,bOk,zV,bOk,Xp,decide_eq_false (by omega)]
 have er:Za (vE 1) (en2 k.t (.int (k.all.length:Int)))= .ok (rng 0 k.all.length):=by
  rw[qB (j:=(k.all.length:Int)) rfl ⟨by omega,by omega⟩,bC]
 have ec:zH (zJ 0) Zk (za 2 (f_a 20) (z9 (vE 1) (z9 (vE 0) (zj)))) 1 [0] (en2 k.t (.int (k.all.length:Int))) (rng 0 k.all.length)= .ok ((rng 0 k.all.length).map λt=>match t with | .int i=>(k.all[i.toNat]?).getD .non | y=>y):=
  Zc _ (by unfold rng;rw[aa,bE];have:bnd=16777216:=rfl;omega) λt ht=>by
   unfold rng at ht;obtain⟨i,hi,rfl⟩:=aN.mp ht;obtain⟨x,hx⟩:=Uq (bn.mp hi);show za 2 _ _ (en2 (.int ((0:Int)+(i:Int))) k.t)=R.ok ((k.all[((0:Int)+(i:Int)).toNat]?).getD .non);rw[show ((0:Int)+(i:Int))=(i:Int) by omega,Z5,v1,bOk,v0,bOk,G6 hk hx,bC,hx]
   rfl
 have e3:GL (Za (vE 1)) (zJ 0) (Zk) (za 2 (f_a 20) (z9 (vE 1) (z9 (vE 0) (zj)))) 1 [0] (en2 k.t (.int (k.all.length:Int)))= .rf k.all:=by
  show ((Za (vE 1) (en2 k.t (.int (k.all.length:Int)))).s λts=>(zH _ _ _ _ _ (en2 k.t (.int (k.all.length:Int))) ts).s λvs=>RS.rf vs)=_;rw[er,ZO,ec,ZO];exact congrArg RS.rf (all_map k)
 rw[b_u,zb (qA (t:= .non) (by rw[zW,v0,bOk,Xu hk])),zb e1,zb (zw e2),e3]
 rfl
theorem u9 (h:ZM 3 r):gA [r.t]= .ok .non:=by
 show zA (GX f_6 [.vl r.t])=_;rw[GX,zw]
 ·rfl
 ·have e:f_6 [r.t]= .ok (.bl true):=by
   show zA (zF (za 2 (f_i 8) (z9 (vE 0) (z9 (cE (.int 3)) zj))) [.vl r.t])=_;rw[zz (t:= .bl true)]
   ·rfl
   ·show za 2 _ _ [.vl r.t]=_;rw[Z5,v0,bOk,zV,bOk];exact J0 8 3 (by omega) r h
  rw[Ue,WN,zW,v0,bOk,e];rfl
theorem qZ:zA (zF f ρ)=f (frz ρ):=by rw[Zh,J9]
theorem ix0 (h:vE i ρ= .ok (.tup [a,b])):zd ixT (vE i) (cE (.int 0)) ρ= .ok a:=by rw[zv,h,bOk,zV,bOk,at0]
theorem ix1 (h:vE i ρ= .ok (.tup [a,b])):zd ixT (vE i) (cE (.int 1)) ρ= .ok b:=by rw[zv,h,bOk,zV,bOk,at1]
noncomputable abbrev sv (t:T)(rs ds us:List T):List (Str×Fd):=[("kind",.tv t),("remaining",.tl rs),("done",.tl ds),("undone",.tl us)]
noncomputable abbrev Rem (fs:List (Str×Fd))(rs:List T):Prop:=fs.lookup ("remaining":Str)=some (.tl rs)
theorem uI:atT (rs++[w]) (-1)= .ok w:=by
 have:atI (rs++[w]) (-1)=some w:=by
  unfold atI ixN;have hl:(rs++[w]).length=rs.length+1:=by simp
  rw[if_neg (by decide),if_pos (by omega),hl,show ((-1:Int)+((rs.length+1:Nat):Int)).toNat=rs.length by omega]
  show (rs++[w])[rs.length]? =some w;rw[au (ai _),cO];rfl
 unfold atT;rw[this]
theorem ix_l {j:Nat}{fs:List (Str×Fd)}{w:T}{rs:List T}{ρ:En}{os:List Ob}(h:obD 101 0 j ρ=some (0,fs,os))(hl:Rem fs (rs++[w])):ixF 101 0 j "remaining" (Jd (cE (.int 1))) ρ= .ok w:=by
 unfold ixF;rw[h];dsimp only;rw[show fs.lookup ("remaining":Str)=_ from hl];exact uI
abbrev oo (fs:List (Str×Fd)):En:=[.oc 101 fs,.un]
theorem ix_v (hl:Rem fs (rs++[w])):ixV 101 0 1 "remaining" (Jd (cE (.int 1))) (oo fs)= .ok w:=by
 have:lsV 101 0 1 "remaining" (oo fs)=some (rs++[w]):=by
  show (match fs.lookup ("remaining":Str) with | some (.tl ts)=>some ts | _=>none)=_
  rw[show fs.lookup ("remaining":Str)=_ from hl]
 unfold ixV;rw[this];exact uI
theorem JU (hl:Rem fs (rs++[.lst ws])):f_x fs []= .ok (.lst ws):=by
 show zA (zF (ap1 GM (ixV 101 0 1 "remaining" (Jd (cE (.int 1))))) (oo fs))=_;rw[qZ];show ap1 GM _ (oo fs)=_;rw[ZX,ix_v hl];rfl
theorem Q0 (hl:Rem fs (rs++[.lst ws])):gB fs []= .ok (.int (ws.length:Int)):=by
 show zA (zF (ap1 Zp (ixV 101 0 1 "remaining" (Jd (cE (.int 1))))) (oo fs))=_;rw[qZ];show ap1 Zp _ (oo fs)=_;rw[ZX,ix_v hl];rfl
theorem ua:gG (sv t rs ds us) []= .ok (.tup [.int (ds.length:Int),.int (us.length:Int)]):=rfl
theorem wc {g:List (Str×Fd)->List T->R T}(h:obL k i j ρ=some fs)(hg:g fs []=r):Jh k i j 0 g zj ρ=r:=by
 unfold Jh;rw[h];exact hg
theorem Q1 {k:Kd}(hk:k.Ok 3)(h5:k.all.length<=500):f_k [] [k.t]= .ok (.non,sv k.t [.lst k.all] [] []):=by
 show JW 101 2 (b_k f_u [.ob 101 0,.vl k.t,.st [(101,[])]])=_;have e:z9 (za 1 f_u (z9 (vE 1) zj)) zj [.ob 101 0,.vl k.t,.st [(101,[("kind",.tv k.t)])]]= .ok [.lst k.all]:=by
  show ((za 1 f_u (z9 (vE 1) zj)) _).bind _=_;rw[zW,v1,bOk,Wg hk h5];rfl
 have e2:Qd 101 0 2 "remaining" (z9 (za 1 f_u (z9 (vE 1) zj)) zj) [.ob 101 0,.vl k.t,.st [(101,[("kind",.tv k.t)])]]= .nx [.ob 101 0,.vl k.t,.st [(101,[("kind",.tv k.t),("remaining",.tl [.lst k.all])])]]:=by
  unfold Qd;rw[e];rfl
 unfold b_k;show JW 101 2 (match Qd 101 0 2 "remaining" (z9 (za 1 f_u (z9 (vE 1) zj)) zj) [.ob 101 0,.vl k.t,.st [(101,[("kind",.tv k.t)])]] with
  | .nx ρ' =>_
  | .ex c=> .ex c
  | _=> .bad)=_
 rw[e2];rfl
def JX (b:Bool)(r:Ru)(ws:List T):List T:=ws.filter λx=>kp r x == b
noncomputable def dw (b:Bool):Str:=if b then "keep" else "bar"
def stp (b:Bool)(r:Ru):T:= .tup [.str (dw b),r.t]
theorem kw (b:Bool):eqC (.str (dw b)) (.str "keep")= .ok b:=by cases b <;> rfl
theorem Gf (a b:Bool):eqC (.bl a) (.bl b)= .ok (a == b):=by cases a <;> cases b <;> rfl
theorem z1R (h:vE i ρ= .ok (stp b r)):zd ixT (vE i) (cE (.int 0)) ρ= .ok (.str (dw b)):=ix0 h
theorem z1S (h:vE i ρ= .ok (stp b r)):zd ixT (vE i) (cE (.int 1)) ρ= .ok r.t:=ix1 h
theorem yi (hr:ZM 3 r)(hw:∀x∈ws,W 2 x)(hl:ws.length<=bnd):gD [stp b r,.lst ws]= .ok (.lst (JX b r ws)):=by
 show zA (z01 (f_c 8) [.vl (stp b r),.vl (.lst ws),.un])=_;have e1:zP 2 (ZS eqC (zd ixT (vE 0) (cE (.int 0))) (cE (.str "keep"))) [.vl (stp b r),.vl (.lst ws),.un]= .nx [.vl (stp b r),.vl (.lst ws),.vl (.bl b)]:=by
  rw[zS (t:= .bl b)]
  ·rfl
  ·rw[Zi,z1R rfl,bOk,zV,bOk,kw,bOk]
 have ec:zH (zJ 0) (zD eqC (za 2 (f_c 8) (z9 (zd ixT (vE 1) (cE (.int 1))) (z9 (vE 0) (zj)))) (vB 2)) (vE 0) 1 [0,2] [.vl (stp b r),.vl (.lst ws),.vl (.bl b)] ws= .ok (JX b r ws):=
  Zy _ hl λt ht=>⟨by
   show zD eqC _ _ [.vl t,.vl (stp b r),.vl (.bl b)]=_;rw[zN,Z5,z1S (b:=b) rfl,bOk,v0,bOk,yh (hw t ht) hr,bOk];exact Gf _ _,rfl⟩
 rw[z01,zb e1,zz (t:= .lst (JX b r ws))]
 ·rfl
 ·show Z1 _ _ _ _ _ _ [.vl (stp b r),.vl (.lst ws),.vl (.bl b)]=_;rw[Z2,jb,v1,bOk];show ((zH _ _ _ _ _ _ ws).bind _)=_;rw[ec,bOk]
theorem ub (hd:d<=3)(hr:ZM d r)(hw:∀x∈ws,W 2 x)(hl:ws.length<=bnd):f_r [.lst ws,stp b r]= .ok (.lst (JX b r ws)):=by
 show zA (b_r (f_8 8) (en2 (.lst ws) (stp b r)))=_;have ec:zH (zJ 0) (zD eqC (za 2 (f_8 8) (z9 (zd ixT (vE 1) (cE (.int 1))) (z9 (vE 0) (zj)))) (ZS eqC (zd ixT (vE 1) (cE (.int 0))) (cE (.str "keep")))) (vE 0) 1 [1] (en2 (.lst ws) (stp b r)) ws= .ok (JX b r ws):=
  Zy _ hl λt ht=>⟨by
   show zD eqC _ _ (en2 t (stp b r))=_;have ek:f_8 8 [r.t,t]= .ok (.bl (kp r t)):=jj (by omega) (hw t ht) 8 d (by omega) r hr
   rw[zN,Z5,z1S (b:=b) rfl,bOk,v0,bOk,ek,bOk,Zi,z1R (r:=r) rfl,bOk,zV,bOk,kw,bOk,bOk,Gf],rfl⟩
 rw[b_r,zz (t:= .lst (JX b r ws))]
 ·rfl
 ·show Z1 _ _ _ _ _ _ (en2 (.lst ws) (stp b r))=_;rw[Z2,jb,v0,bOk];show ((zH _ _ _ _ _ _ ws).bind _)=_;rw[ec,bOk]
theorem Uy:gH (sv t rs ds us) []= .ok (.lst ds):=rfl
theorem Xv {k i j n:Nat}{f:Str}{fa:En->R T}{ρ:En}{fs:List (Str×Fd)}{os:List Ob}{ts:List T}{t:T}(h:obD k i j ρ=some (n,fs,os))(hl:fs.lookup f=some (.tl ts))(hf:fa ρ= .ok t)(hb:ts.length < bnd):Vg k i j f fa ρ= .nx (ρ.set j (.st (os.set n (k,WL f (.tl (ts++[t])) fs)))):=by
 unfold Vg;rw[h];dsimp only;rw[hl];dsimp only;rw[hf,ZO,if_pos hb]
theorem uc {k i j n nn:Nat}{m:Str}{g:List (Str×Fd)->List T->R (T×List (Str×Fd))}{ga:En->R (List T)}{ρ:En}{fs fs' :List (Str×Fd)}{os:List Ob}{ts:List T}{t:T}(h:obD k i j ρ=some (n,fs,os))(hm:fs.lookup m=none)(ha:ga ρ= .ok ts)(hn:ts.length=nn)(hg:g fs ts= .ok (t,fs')):jo k i j m nn g ga ρ= .ok (t,ρ.set j (.st (os.set n (k,fs')))):=by
 unfold jo;rw[h];dsimp only;rw[hm,if_pos (show (none:Option Fd).isNone=true from rfl),ha,bOk,if_pos hn,hg];rfl
theorem wd (m:Str)(h:(m == ("kind":Str) || (m == ("remaining":Str) || (m == ("done":Str) || m == ("undone":Str))))=false):(sv t rs ds us).lookup m=none:=by
 simp only[fA]at h;obtain⟨a,b,c,d⟩:=h;simp only[sv,aJ,a,b,c,d];rfl
theorem Z6 (h:f ρ= .nx ρ'):ZD f g ρ=g ρ' :=by unfold ZD;rw[h]
theorem vH (hf:f ρ= .ok x):z9 f zj ρ= .ok [x]:=by
 show ((f ρ).bind λt=>(R.ok []).bind λts=>R.ok (t :: ts))=_;rw[hf];rfl
theorem Xw:z9 (Zv (z9 (vE 1) (z9 (vE 2) zj))) zj [a,.vl (.str (dw b)),.vl r.t,c,s]= .ok [stp b r]:=rfl
theorem Gg:z9 (cE (.str "keep")) (z9 (vE 1) zj) [a,.vl y,c]= .ok [.str (dw true),y]:=by
 rw[show dw true="keep" from if_pos rfl];rfl
theorem z1T:z9 (cE (.str "bar")) (z9 (vE 1) zj) [a,.vl y,c]= .ok [.str (dw false),y]:=by
 rw[show dw false="bar" from if_neg aA];rfl
theorem ob2 (fs:List (Str×Fd)):obD 101 0 2 [.ob 101 0,a,.st [(101,fs)]]=some (0,fs,[(101,fs)]):=rfl
theorem ob4 (fs:List (Str×Fd)):obD 101 0 4 [.ob 101 0,a,b,c,.st [(101,fs)]]=some (0,fs,[(101,fs)]):=rfl
theorem z1U (fs:List (Str×Fd))(x:T):f_l fs [x]=JW 101 2 (b_l gD [.ob 101 0,.vl x,.st [(101,fs)]]):=rfl
theorem Gh (fs:List (Str×Fd))(x y:T):f_o fs [x,y]=JW 101 4 (b_o gA gB f_l [.ob 101 0,.vl x,.vl y,.un,.st [(101,fs)]]):=rfl
theorem Xx (fs:List (Str×Fd))(x:T):gE fs [x]=JW 101 2 (jo 101 0 2 "new_step" 2 f_o (z9 (cE (.str "keep")) (z9 (vE 1) zj)) [.ob 101 0,.vl x,.st [(101,fs)]]):=rfl
theorem Gi (fs:List (Str×Fd))(x:T):gF fs [x]=JW 101 2 (jo 101 0 2 "new_step" 2 f_o (z9 (cE (.str "bar")) (z9 (vE 1) zj)) [.ob 101 0,.vl x,.st [(101,fs)]]):=rfl
theorem z09 (fs:List (Str×Fd))(x t:T):JW 101 2 (.ok (t,[.ob 101 0,.vl x,.st [(101,fs)]]))= .ok (t,fs):=rfl
section
variable {k:Kd}{t:T}{rs ds us ws:List T}{b:Bool}{r:Ru}
abbrev sv' (t:T)(rs ds us ws:List T)(b:Bool)(r:Ru):List (Str×Fd):=sv t ((rs++[.lst ws])++[.lst (JX b r ws)]) (ds++[stp b r]) us
theorem Gj (hr:ZM 3 r)(hw:∀x∈ws,W 2 x)(hl:ws.length<=1000)(h1:rs.length<=1000)(h2:ds.length<=1000):f_l (sv t (rs++[.lst ws]) ds us) [stp b r]= .ok (.non,sv' t rs ds us ws b r):=by
 have hb:bnd=16777216:=rfl;rw[z1U];have e1:=Xv (k:=101) (i:=0) (j:=2) (f:="remaining") (fa:=za 2 gD (z9 (vE 1) (z9 (ixF 101 0 2 "remaining" (Jd (cE (.int 1)))) (zj)))) (ρ:=[.ob 101 0,.vl (stp b r),.st [(101,sv t (rs++[.lst ws]) ds us)]]) (t:= .lst (JX b r ws)) rfl rfl
  (by rw[Z5,v1,bOk,ix_l (rs:=rs) (w:= .lst ws) rfl rfl,bOk,yi hr hw (by omega)]) (by rw[av,aF];omega)
 have e2:=Xv (k:=101) (i:=0) (j:=2) (f:="done") (fa:=vE 1) (ρ:=[.ob 101 0,.vl (stp b r),.st [(101,sv t ((rs++[.lst ws])++[.lst (JX b r ws)]) ds us)]]) (ts:=ds) (t:=stp b r) rfl rfl rfl (by omega)
 unfold b_l;rw[Z6 e1];show JW 101 2 (ZD _ _ [.ob 101 0,.vl (stp b r),.st [(101,sv t ((rs++[.lst ws])++[.lst (JX b r ws)]) ds us)]])=_;rw[Z6 e2];rfl
theorem Vx (hr:ZM 3 r)(hw:∀x∈ws,W 2 x)(hl:ws.length<=1000)(h1:rs.length<=1000)(h2:ds.length<=1000):f_o (sv t (rs++[.lst ws]) ds us) [.str (dw b),r.t]= .ok (.int ((ws.length:Int) - ((JX b r ws).length:Int)),sv' t rs ds [] ws b r):=by
 rw[Gh];have e1:UT (za 1 gA (z9 (vE 2) zj)) [.ob 101 0,.vl (.str (dw b)),.vl r.t,.un,.st [(101,sv t (rs++[.lst ws]) ds us)]]= .nx [.ob 101 0,.vl (.str (dw b)),.vl r.t,.un,.st [(101,sv t (rs++[.lst ws]) ds us)]]:=qA (t:= .non) (by rw[zW];exact u9 hr)
 have e2:zP 3 (Jh 101 0 4 0 gB zj) [.ob 101 0,.vl (.str (dw b)),.vl r.t,.un,.st [(101,sv t (rs++[.lst ws]) ds us)]]= .nx [.ob 101 0,.vl (.str (dw b)),.vl r.t,.vl (.int (ws.length:Int)),.st [(101,sv t (rs++[.lst ws]) ds us)]]:=by
  rw[zS (t:= .int (ws.length:Int))]
  ·rfl
  ·exact wc rfl (Q0 (rs:=rs) rfl)
 have d0:=Gj (t:=t) (rs:=rs) (ds:=ds) (ws:=ws) (b:=b) (us:=us) hr hw hl h1 h2;have m1:(sv t (rs++[.lst ws]) ds us).lookup ("do_step":Str)=none:=wd _ (by decide+kernel)
 have m:=uc (nn:=1) (ob4 (a:= .vl (.str (dw b))) (b:= .vl r.t) (c:= .vl (.int (ws.length:Int))) (sv t (rs++[.lst ws]) ds us)) m1 Xw rfl d0;have e3:drM (jo 101 0 4 "do_step" 1 f_l (z9 (Zv (z9 (vE 1) (z9 (vE 2) (zj)))) (zj))) [.ob 101 0,.vl (.str (dw b)),.vl r.t,.vl (.int (ws.length:Int)),.st [(101,sv t (rs++[.lst ws]) ds us)]]= .nx [.ob 101 0,.vl (.str (dw b)),.vl r.t,.vl (.int (ws.length:Int)),.st [(101,sv' t rs ds us ws b r)]]:=by
  unfold drM;rw[m];rfl
 have e4:Qd 101 0 4 "undone" zj [.ob 101 0,.vl (.str (dw b)),.vl r.t,.vl (.int (ws.length:Int)),.st [(101,sv' t rs ds us ws b r)]]= .nx [.ob 101 0,.vl (.str (dw b)),.vl r.t,.vl (.int (ws.length:Int)),.st [(101,sv' t rs ds [] ws b r)]]:=by
  unfold Qd;rw[ob4];rfl
 unfold b_o;rw[Z6 e1,Z6 e2,Z6 e3,Z6 e4];unfold XQ;have ev:vE 3 [.ob 101 0,.vl (.str (dw b)),.vl r.t,.vl (.int (ws.length:Int)),.st [(101,sv' t rs ds [] ws b r)]]= .ok (.int (ws.length:Int)):=rfl;rw[zv,ev,bOk,wc (fs:=sv' t rs ds [] ws b r) rfl (Q0 (rs:=rs++[.lst ws]) rfl)];rfl
theorem Xy (hr:ZM 3 r)(hw:∀x∈ws,W 2 x)(hl:ws.length<=1000)(h1:rs.length<=1000)(h2:ds.length<=1000):gE (sv t (rs++[.lst ws]) ds us) [r.t]= .ok (.int ((ws.length:Int) - ((JX true r ws).length:Int)),sv' t rs ds [] ws true r):=by
 have d0:=Vx (t:=t) (rs:=rs) (ds:=ds) (ws:=ws) (b:=true) (us:=us) hr hw hl h1 h2;have m1:(sv t (rs++[.lst ws]) ds us).lookup ("new_step":Str)=none:=wd _ (by decide+kernel)
 rw[Xx,uc (nn:=2) (ob2 _) m1 Gg rfl d0];exact z09 _ _ _
theorem Gk (hr:ZM 3 r)(hw:∀x∈ws,W 2 x)(hl:ws.length<=1000)(h1:rs.length<=1000)(h2:ds.length<=1000):gF (sv t (rs++[.lst ws]) ds us) [r.t]= .ok (.int ((ws.length:Int) - ((JX false r ws).length:Int)),sv' t rs ds [] ws false r):=by
 have d0:=Vx (t:=t) (rs:=rs) (ds:=ds) (ws:=ws) (b:=false) (us:=us) hr hw hl h1 h2;have m1:(sv t (rs++[.lst ws]) ds us).lookup ("new_step":Str)=none:=wd _ (by decide+kernel)
 rw[Gi,uc (nn:=2) (ob2 _) m1 z1T rfl d0];exact z09 _ _ _
theorem vI {α:Type}(xs:List α)(x:α):(xs++[x]).dropLast=xs:=List.dropLast_concat
theorem Xz {α:Type}(xs:List α)(x:α):(xs++[x])[(xs++[x]).length - 1]? =some x:=by
 rw[av,aF,Nat.add_sub_cancel,au (ai _),cO];rfl
theorem XA {k i j n:Nat}{f:Str}{ρ:En}{fs:List (Str×Fd)}{os:List Ob}{ts:List T}{t:T}(h:obD k i j ρ=some (n,fs,os))(hl:fs.lookup f=some (.tl (ts++[t]))):Qe k i j f ρ= .ok (t,ρ.set j (.st (os.set n (k,WL f (.tl ts) fs)))):=by
 unfold Qe;rw[h];dsimp only;rw[hl];dsimp only;rw[Xz];dsimp only;rw[vI]
theorem Gm (fs:List (Str×Fd))(x:T):f_t fs [x]=JW 101 2 (b_t gE gF [.ob 101 0,.vl x,.st [(101,fs)]]):=rfl
theorem Gn (hr:ZM 3 r)(hw:∀x∈ws,W 2 x)(hl:ws.length<=1000)(h1:rs.length<=1000)(h2:ds.length<=1000):f_t (sv t (rs++[.lst ws]) ds us) [stp b r]= .ok (.int ((ws.length:Int) - ((JX b r ws).length:Int)),sv' t rs ds [] ws b r):=by
 have a1:z9 (zd ixT (vE 1) (cE (.int 1))) zj [.ob 101 0,.vl (stp b r),.st [(101,sv t (rs++[.lst ws]) ds us)]]= .ok [r.t]:=vH (z1S (b:=b) rfl);have mk:(sv t (rs++[.lst ws]) ds us).lookup ("keep":Str)=none:=wd _ (by decide+kernel)
 have mb:(sv t (rs++[.lst ws]) ds us).lookup ("bar":Str)=none:=wd _ (by decide+kernel)
 rw[Gm];unfold b_t z1w;rw[zN,z1R (b:=b) (r:=r) rfl,bOk,zV,bOk,kw,bOk];cases b with
 | true=>rw[if_pos rfl,uc (nn:=1) (ob2 _) mk a1 rfl (Xy (us:=us) hr hw hl h1 h2)];exact z09 _ _ _
 | false=>rw[if_neg aA,uc (nn:=1) (ob2 _) mb a1 rfl (Gk (us:=us) hr hw hl h1 h2)];exact z09 _ _ _
theorem XB {w:T}(hu:us.length<=1000):f_4 (sv t (rs++[w]) (ds++[stp b r]) us) []= .ok (.str (dw b),sv t rs ds (us++[stp b r])):=by
 have hb:bnd=16777216:=rfl;show JW 101 2 (b_4 [.ob 101 0,.un,.st [(101,sv t (rs++[w]) (ds++[stp b r]) us)]])=_;have e1:ifS (zD eqC (ap1 Zp (XR 101 0 2 "done")) (cE (.int 0))) yq nxS [.ob 101 0,.un,.st [(101,sv t (rs++[w]) (ds++[stp b r]) us)]]= .nx [.ob 101 0,.un,.st [(101,sv t (rs++[w]) (ds++[stp b r]) us)]]:=by
  refine zw ?_;show R.ok ((((ds++[stp b r]).length:Nat):Int) == 0)=_;rw[av,aF,beq_eq_false_iff_ne.mpr (by omega)]
 have e2:seM 1 (Qe 101 0 2 "done") [.ob 101 0,.un,.st [(101,sv t (rs++[w]) (ds++[stp b r]) us)]]= .nx [.ob 101 0,.vl (stp b r),.st [(101,sv t (rs++[w]) ds us)]]:=by
  unfold seM;rw[XA (ob2 _) rfl];rfl
 have e3:drM (Qe 101 0 2 "remaining") [.ob 101 0,.vl (stp b r),.st [(101,sv t (rs++[w]) ds us)]]= .nx [.ob 101 0,.vl (stp b r),.st [(101,sv t rs ds us)]]:=by
  unfold drM;rw[XA (ob2 _) rfl];rfl
 have e4:Vg 101 0 2 "undone" (vE 1) [.ob 101 0,.vl (stp b r),.st [(101,sv t rs ds us)]]= .nx [.ob 101 0,.vl (stp b r),.st [(101,sv t rs ds (us++[stp b r]))]]:=by
  rw[Xv (ob2 _) (ts:=us) (t:=stp b r) rfl rfl (by omega)];rfl
 unfold b_4;rw[Z6 e1,Z6 e2,Z6 e3,Z6 e4];rfl
theorem vJ (hr:ZM 3 r)(hw:∀x∈ws,W 2 x)(hl:ws.length<=1000)(h1:rs.length<=1000)(h2:ds.length<=1000):f_q (sv t (rs++[.lst ws]) ds (us++[stp b r])) []= .ok (.str (dw b),sv' t rs ds us ws b r):=by
 show JW 101 2 (b_q f_l [.ob 101 0,.un,.st [(101,sv t (rs++[.lst ws]) ds (us++[stp b r]))]])=_;have e1:ifS (zD eqC (ap1 Zp (XR 101 0 2 "undone")) (cE (.int 0))) yq nxS [.ob 101 0,.un,.st [(101,sv t (rs++[.lst ws]) ds (us++[stp b r]))]]= .nx [.ob 101 0,.un,.st [(101,sv t (rs++[.lst ws]) ds (us++[stp b r]))]]:=by
  refine zw ?_;show R.ok ((((us++[stp b r]).length:Nat):Int) == 0)=_;rw[av,aF,beq_eq_false_iff_ne.mpr (by omega)]
 have e2:seM 1 (Qe 101 0 2 "undone") [.ob 101 0,.un,.st [(101,sv t (rs++[.lst ws]) ds (us++[stp b r]))]]= .nx [.ob 101 0,.vl (stp b r),.st [(101,sv t (rs++[.lst ws]) ds us)]]:=by
  unfold seM;rw[XA (ob2 _) rfl];rfl
 have m1:(sv t (rs++[.lst ws]) ds us).lookup ("do_step":Str)=none:=wd _ (by decide+kernel)
 have m:=uc (nn:=1) (ga:=z9 (vE 1) zj) (ts:=[stp b r]) (ob2 (a:= .vl (stp b r)) (sv t (rs++[.lst ws]) ds us)) m1 rfl rfl (Gj hr hw hl h1 h2);have e3:drM (jo 101 0 2 "do_step" 1 f_l (z9 (vE 1) zj)) [.ob 101 0,.vl (stp b r),.st [(101,sv t (rs++[.lst ws]) ds us)]]= .nx [.ob 101 0,.vl (stp b r),.st [(101,sv' t rs ds us ws b r)]]:=by
  unfold drM;rw[m];rfl
 unfold b_q;rw[Z6 e1,Z6 e2,Z6 e3];rfl
theorem vK:f_n (sv t rs [] us) []= .ex 6:=rfl
theorem vL:f_p 6= .ok (.str "no back"):=rfl
end
theorem z1V (h:ZM d r):Pl (d+1) r.t:=by
 induction h with
 | sum _ _=>intro x hx;simp only[ak,aM,or_false]at hx;rcases hx with rfl | rfl | rfl <;> trivial
 | size _ _=>intro x hx;simp only[ak,aM,or_false]at hx;rcases hx with rfl | rfl | rfl <;> trivial
 | word _=>intro x hx;simp only[ak,aM,or_false]at hx;rcases hx with rfl | rfl <;> trivial
 | rising=>intro x hx;simp only[ak,aM,or_false]at hx;subst hx;trivial
 | unlike=>intro x hx;simp only[ak,aM,or_false]at hx;subst hx;trivial
 | no _ ih=>intro x hx;simp only[ak,aM,or_false]at hx;rcases hx with rfl | rfl;trivial;exact ih
 | all _ _ i1 i2=>intro x hx;simp only[ak,aM,or_false]at hx;rcases hx with rfl | rfl | rfl;trivial;exact i1;exact i2
 | some _ _ i1 i2=>intro x hx;simp only[ak,aM,or_false]at hx;rcases hx with rfl | rfl | rfl;trivial;exact i1;exact i2
theorem Go (h:ZM 2 r):Pl 29 (stp b r):=λx hx=>by
 simp only[ak,aM,or_false]at hx;rcases hx with rfl | rfl
 ·trivial
 ·exact(z1V h).le (show 2+1<=28 by decide)
theorem Q2 (ns:List Int)(a:Int)(ha:0<=a):∃(b:Bool) (r:Ru),ZM 2 r/\f_v [scr ns,.int a]= .ok (stp b r):=by
 obtain⟨p,hp,p0,p2⟩:=zR ns a 2 ha (by decide)
 obtain⟨r,hr,ok⟩:=Wf ns 8 2 (by omega) (by omega) (4*a+30) (by omega)
 refine⟨decide (p=0),r,ok, ?_⟩;show zA (b_v f_1 (f_g 8) (en2 (scr ns) (.int a)))=_;unfold b_v;rw[zz (t:=stp (decide (p=0)) r)]
 ·rfl
 ·show Zv _ (en2 (scr ns) (.int a))=_;refine Qg ?_ ?_
  ·rw[zv];show (za 3 f_1 _ (en2 (scr ns) (.int a))).bind (ixT (.lst [.str "keep",.str "bar"]))=_;rw[show za 3 f_1 (z9 (vE 0) (z9 (vE 1) (z9 (cE (.int 2)) zj))) (en2 (scr ns) (.int a))=f_1 [scr ns,.int a,.int 2] from rfl,hp,bOk];have:p=0\/p=1:=by omega
   rcases this with rfl | rfl <;> rfl
  ·rw[Zq,v0,bOk,zv,zv,zV,bOk,v1,bOk,WS _ _ (.inl ⟨by decide,by decide⟩),bOk,zV,bOk]
   show (R.ok _).bind _=_;rw[bOk];exact hr
noncomputable abbrev De:Type:=Bool×Ru
abbrev dT (d:De):T:=stp d.1 d.2
abbrev sf (d:De)(ws:List T):List T:=JX d.1 d.2 ws
def Chn (k:Kd):List De->List (List T)->List T->Prop
 | [],[],ws=>ws=k.all
 | d :: ds,w :: rs,ws=>ZM 2 d.2/\ws=sf d w/\Chn k ds rs w
 | _,_,_=>False
theorem Chn.len {k:Kd}:∀{ds:List De} {rs:List (List T)} {ws:List T},Chn k ds rs ws->rs.length=ds.length
 | [],[],_,_=>rfl
 | _ :: ds,_ :: rs,_,h=>by rw[ag,ag,Chn.len h.2.2]
 | [],_ :: _,_,h=>by simp[Chn]at h
 | _ :: _,[],_,h=>by simp[Chn]at h
theorem Chn.sub {k:Kd}:∀{ds:List De} {rs:List (List T)} {ws:List T},Chn k ds rs ws->(∀x∈ws,k.has x=true)/\ws.length<=k.all.length/\∀d∈ds,ZM 2 d.2
 | [],[],_,h=>by
  have h:_=k.all:=h;subst h;exact⟨λx hx=>(Wb k x).mp hx,ai _,λ_ z=>nomatch z⟩
 | d :: ds,w :: rs,_,h=>by
  obtain⟨h1,rfl,h3⟩:=h;obtain⟨a,b,c⟩:=Chn.sub h3;refine⟨λx hx=>a x (c_.mp hx).1,aD (List.length_filter_le _ _) b,λe he=> ?_⟩;rcases ak.mp he with rfl | z
  ·exact h1
  ·exact c e z
 | [],_ :: _,_,h=>by simp[Chn]at h
 | _ :: _,[],_,h=>by simp[Chn]at h
theorem Chn.uniq {k:Kd}:∀{ds:List De} {rs rs' :List (List T)} {ws ws' :List T},Chn k ds rs ws->Chn k ds rs' ws' ->ws=ws'
 | [],[],[],_,_,h,h' =>h.trans h'.symm
 | d :: ds,w :: rs,w' :: rs',_,_,h,h' =>by
  rw[h.2.1,h'.2.1,Chn.uniq h.2.2 h'.2.2]
 | [],_ :: _,_,_,_,h,_=>by simp[Chn]at h
 | [],[],_ :: _,_,_,_,h=>by simp[Chn]at h
 | _ :: _,[],_,_,_,h,_=>by simp[Chn]at h
 | _ :: _,_ :: _,[],_,_,_,h=>by simp[Chn]at h
abbrev fv (k:Kd)(ds:List De)(rs:List (List T))(ws:List T)(us:List De):List (Str×Fd):=sv k.t (rs.reverse.map T.lst++[.lst ws]) (ds.reverse.map dT) (us.map dT).reverse
abbrev en (ns:List Int)(k:Kd)(ro:List T)(i d o n a h s:Sl)(os:List Ob):En:=[.vl (scr ns),.vl k.t,.ob 101 0,.ow ro,i,d,o,n,a,h,s,.un,.st os]
section
variable {ns:List Int}{k:Kd}{ro:List T}{a b c d:Sl}{fs fs' :List (Str×Fd)}{ds us:List De}{rs:List (List T)}{ws w:List T}{n m:Nat}{e:De}{i d o x h s:Sl}{os:List Ob}
theorem Vy {ga:En->R (Bool×En)}(h:ga ρ= .ok (false,ρ')):ifM ga f nxS ρ= .nx ρ' :=by
 unfold ifM;rw[h,ZO];rfl
theorem Gp {k i j n nn:Nat}{g:List (Str×Fd)->List T->R (T×List (Str×Fd))}{ga:En->R (List T)}{ρ:En}{fs fs' :List (Str×Fd)}{os:List Ob}{ts:List T}{t:T}(h:obD k i j ρ=some (n,fs,os))(ha:ga ρ= .ok ts)(hn:ts.length=nn)(hg:g fs ts= .ok (t,fs')):Qf k i j nn g ga ρ= .ok (t,ρ.set j (.st (os.set n (k,fs')))):=by
 unfold Qf;rw[h];dsimp only;rw[ha,bOk,if_pos hn,hg];rfl
theorem Vz (h:f ρ= .ok (t,ρ'))(h' :g ρ' = .ok t)(hp:Pl 30 t):Vi neC f g ρ= .ok (false,ρ'):=by
 unfold Vi;rw[h,bOk];show (g ρ').bind _=_;rw[h',bOk,qz hp];rfl
theorem XD {k i j n:Nat}{m:Str}{ok:Nat->Bool}{gx:Nat->R T}{gO:List (Str×Fd)->List T->R T}{gM:List (Str×Fd)->List T->R (T×List (Str×Fd))}{ρ:En}{fs:List (Str×Fd)}{os:List Ob}{x:Nat}{t:T}(h:obD k i j ρ=some (n,fs,os))(h1:gO fs []= .ex x)(h2:ok x=true)(h3:gx x= .ok t):UZ k i j m ok gx gO gM ρ= .ok (t,ρ):=by
 unfold UZ;rw[h];dsimp only;rw[h1];dsimp only;rw[if_pos h2,h3];rfl
theorem Gq {x:Str}:Pl 30 (.str x):=trivial
theorem Gr:sv' k.t (rs.reverse.map T.lst) (ds.reverse.map dT) us2 ws e.1 e.2=sv k.t ((ws :: rs).reverse.map T.lst++[.lst (sf e ws)]) ((e :: ds).reverse.map dT) us2:=by
 rw[aV,br,aV,br];rfl
theorem uJ (h:f ρ= .ok t)(h' :g ρ= .ok t)(hp:Pl 30 t):zD neC f g ρ= .ok false:=by rw[zN,h,bOk,h',bOk,qz hp]
theorem ob2s:obD 101 2 12 (en ns k ro i d o x a h s [(101,fs)])=some (0,fs,[(101,fs)]):=rfl
theorem z0a (hm:m < os.length):obD 101 7 12 (en ns k ro i d o (.ob 101 m) a h s (os.set m (101,fs)))=some (m,fs,os.set m (101,fs)):=by
 show (match (os.set m (101,fs))[m]? with | some (k2,fs)=>(if 101=101/\k2=101 then some (m,fs,os.set m (101,_)) else none) | none=>none)=_
 rw[aL hm];rfl
theorem z1W (hm:m < os.length):obL 101 7 12 (en ns k ro i d o (.ob 101 m) a h s (os.set m (101,fs)))=some fs:=by
 show (obD 101 7 12 (en ns k ro i d o (.ob 101 m) a h s (os.set m (101,fs)))).map _=_;rw[z0a hm];rfl
theorem Gs (hk:k.Ok 3)(h40:k.all.length<=40)(C:Chn k ds rs ws)(hd:ds.length<=100)(he:ZM 2 e.2):f_t (fv k ds rs ws us) [dT e]= .ok (.int ((ws.length:Int) - ((sf e ws).length:Int)),fv k (e :: ds) (ws :: rs) (sf e ws) []):=by
 obtain⟨hh,hl,hds⟩:=C.sub;have len:=C.len;rw[Gn (b:=e.1) (r:=e.2) (us:=(us.map dT).reverse) he.up (λx hx=>Xq 2 k x hk (hh x hx)) (by omega) (by rw[aa,aR];omega) (by rw[aa,aR];omega),Gr];rfl
theorem Gu (hu:us.length<=1000):f_4 (fv k (e :: ds) (w :: rs) (sf e w) us) []= .ok (.str (dw e.1),fv k ds rs w (e :: us)):=by
 have m0:=XB (t:=k.t) (b:=e.1) (r:=e.2) (rs:=rs.reverse.map T.lst++[.lst w]) (ds:=ds.reverse.map dT) (us:=(us.map dT).reverse) (w:= .lst (sf e w)) (by rw[aR,aa];exact hu)
 have f1:fv k (e :: ds) (w :: rs) (sf e w) us=sv k.t ((rs.reverse.map T.lst++[.lst w])++[.lst (sf e w)]) (ds.reverse.map dT++[dT e]) (us.map dT).reverse:=by
  show sv k.t ((w :: rs).reverse.map T.lst++_) ((e :: ds).reverse.map dT) _=_;rw[aV,br,aV,br];rfl
 rw[f1,m0];show _=R.ok (_,sv k.t _ _ ((e :: us).map dT).reverse);rw[aI,aV]
theorem VA (hk:k.Ok 3)(h40:k.all.length<=40)(C:Chn k ds rs ws)(hd:ds.length<=100)(he:ZM 2 e.2):f_q (fv k ds rs ws (e :: us)) []= .ok (.str (dw e.1),fv k (e :: ds) (ws :: rs) (sf e ws) us):=by
 obtain⟨hh,hl,hds⟩:=C.sub;have len:=C.len;have m0:=vJ (t:=k.t) (b:=e.1) (r:=e.2) (rs:=rs.reverse.map T.lst) (ds:=ds.reverse.map dT) (us:=(us.map dT).reverse) (ws:=ws) he.up (λx hx=>Xq 2 k x hk (hh x hx)) (by omega) (by rw[aa,aR];omega) (by rw[aa,aR];omega)
 rw[Gr]at m0;have f1:fv k ds rs ws (e :: us)=sv k.t (rs.reverse.map T.lst++[.lst ws]) (ds.reverse.map dT) ((us.map dT).reverse++[stp e.1 e.2]):=by
  show sv k.t _ _ ((e :: us).map dT).reverse=_;rw[aI,aV]
 rw[f1,m0]
theorem XF {k:Kd}{rs ds us:List T}(hk:k.Ok 3)(h5:k.all.length<=500):z03 (sv k.t rs ds us)= .ok (sv k.t rs ds us):=by
 show gm 101 1 2 (z02 f_k [.oc 101 (sv k.t rs ds us),.un,.st []])=_;have e1:mkS 1 2 101 1 f_k (z9 (KU 101 0 2 "kind") zj) [.oc 101 (sv k.t rs ds us),.un,.st []]= .nx [.oc 101 (sv k.t rs ds us),.ob 101 0,.st [(101,sv k.t [.lst k.all] [] [])]]:=by
  unfold mkS;rw[vH (x:=k.t) rfl,ZO];show (if _ then (match f_k [] [k.t] with | .ok (.non,fs)=>_ | .ex c=>_ | _=>_) else _)=_
  rw[Q1 hk h5];rfl
 unfold z02 uy;rw[e1];rfl
theorem XG (hk:k.Ok 3)(C:Chn k ds rs ws):Pl 30 (.lst ws):=λx hx=>(Xq 2 k x hk (C.sub.1 x hx)).pl.le (show 2+1<=29 by decide)
theorem z1X (hds:∀d∈ds,ZM 2 d.2):Pl 30 (.lst (ds.map dT)):=λx hx=>by
 obtain⟨d,hd,rfl⟩:=aN.mp hx;exact Go (hds d hd)
end
noncomputable abbrev roV (rs:List (List T))(ws:List T):List T:=rs.reverse.map T.lst++[.lst ws]
theorem XH {rs:List (List T)}:roV rs ws++[.lst v]=roV (ws :: rs) v:=by
 show _=(ws :: rs).reverse.map T.lst++[.lst v];rw[aV,br];rfl
theorem Chn.first {k:Kd}:∀{ds:List De} {rs:List (List T)} {ws:List T},Chn k ds rs ws->(roV rs ws)[0]? =some (.lst k.all)
 | [],[],_,h=>by
  have h:_=k.all:=h;subst h;rfl
 | d :: ds,w :: rs,ws,h=>by
  rw[← XH,ax (by rw[av,aF];omega)]
  exact Chn.first h.2.2
 | [],_ :: _,_,h=>by simp[Chn]at h
 | _ :: _,[],_,h=>by simp[Chn]at h
section
variable {ns:List Int}{k:Kd}{ro:List T}{fs fs' :List (Str×Fd)}{ds us:List De}{rs:List (List T)}{ws w:List T}{n m:Nat}{e:De}{i d o x a h s:Sl}{os:List Ob}
theorem Uz {f:En->R T}{ro' :List T}{v:T}(hf:f (en ns k (ro' ++[v]) i d o x a h s os)= .ok (.int (-1))):ixO 3 f (en ns k (ro' ++[v]) i d o x a h s os)= .ok v:=by
 show (f (en ns k (ro' ++[v]) i d o x a h s os)).bind (λt=>match t with | .int q=>atT (ro' ++[v]) q | _=> .bad)=_
 rw[hf];exact uI
theorem z1Y {mn:Str}{g:List (Str×Fd)->List T->R (T×List (Str×Fd))}{t:T}(hm:m < os.length)(hn:fs.lookup mn=none)(hg:g fs []= .ok (t,fs')):jo 101 7 12 mn 0 g zj (en ns k ro i d o (.ob 101 m) a h s (os.set m (101,fs)))= .ok (t,en ns k ro i d o (.ob 101 m) a h s (os.set m (101,fs'))):=by
 rw[uc (nn:=0) (ga:=zj) (ts:=[]) (z0a hm) hn rfl rfl hg];show R.ok (t,en ns k ro i d o (.ob 101 m) a h s ((os.set m (101,fs)).set m (101,fs')))=_;rw[f6]
theorem Q3 (hf:f ρ= .ok (t,ρ')):drM f ρ= .nx ρ' :=by unfold drM;rw[hf];rfl
abbrev b1:En->RS:=zB (zP 5 (za 2 f_v (z9 (vE 0) (z9 (zd zG (cE (.int 1000)) (zd Z4 (cE (.int 100)) (vE 4))) (zj)))))
  (zB (yn 3 (za 2 f_r (z9 (ixO 3 (Jd (cE (.int 1)))) (z9 (vE 5) (zj)))))
  (drM (Qf 101 2 12 1 f_t (z9 (vE 5) (zj)))))
theorem z1Z (hk:k.Ok 3)(h40:k.all.length<=40)(C:Chn k ds rs ws)(hd:ds.length<=100){j:Nat}:∃e:De,ZM 2 e.2/\b1 (en ns k (roV rs ws) (.vl (.int (0+(j:Int)))) d o x a h s [(101,fv k ds rs ws [])])= .nx (en ns k (roV (ws :: rs) (sf e ws)) (.vl (.int (0+(j:Int)))) (.vl (dT e)) o x a h s [(101,fv k (e :: ds) (ws :: rs) (sf e ws) [])]):=by
 obtain⟨bb,r,hr,hdd⟩:=Q2 ns (1000+100*(0+(j:Int))) (by omega)
 obtain⟨hh,hl,hds⟩:=C.sub;have len:=C.len;have hb:bnd=16777216:=rfl;refine⟨(bb,r),hr, ?_⟩;have s1:zP 5 (za 2 f_v (z9 (vE 0) (z9 (zd zG (cE (.int 1000)) (zd Z4 (cE (.int 100)) (vE 4))) (zj)))) (en ns k (roV rs ws) (.vl (.int (0+(j:Int)))) d o x a h s [(101,fv k ds rs ws [])])= .nx (en ns k (roV rs ws) (.vl (.int (0+(j:Int)))) (.vl (stp bb r)) o x a h s [(101,fv k ds rs ws [])]):=by
  rw[zS (t:=stp bb r)]
  ·rfl
  ·rw[Z5,v0,bOk,zv,zV,bOk,zv,zV,bOk,v4',bOk,WS _ _ (.inl ⟨by decide,by decide⟩),bOk]
   exact hdd
 have s2:yn 3 (za 2 f_r (z9 (ixO 3 (Jd (cE (.int 1)))) (z9 (vE 5) (zj)))) (en ns k (roV rs ws) (.vl (.int (0+(j:Int)))) (.vl (stp bb r)) o x a h s [(101,fv k ds rs ws [])])= .nx (en ns k (roV (ws :: rs) (sf (bb,r) ws)) (.vl (.int (0+(j:Int)))) (.vl (stp bb r)) o x a h s [(101,fv k ds rs ws [])]):=by
  rw[Vs (t:= .lst (JX bb r ws)) (ts:=roV rs ws) rfl (by rw[av,aa,aR,aF];omega) (by
   rw[Z5,Uz rfl,bOk];show f_r [.lst ws,stp bb r]=_;exact ub (by decide) hr (λx hx=>Xq 2 k x hk (hh x hx)) (by omega)),XH];rfl
 have s3:drM (Qf 101 2 12 1 f_t (z9 (vE 5) (zj))) (en ns k (roV (ws :: rs) (sf (bb,r) ws)) (.vl (.int (0+(j:Int)))) (.vl (stp bb r)) o x a h s [(101,fv k ds rs ws [])])= .nx (en ns k (roV (ws :: rs) (sf (bb,r) ws)) (.vl (.int (0+(j:Int)))) (.vl (stp bb r)) o x a h s [(101,fv k ((bb,r) :: ds) (ws :: rs) (sf (bb,r) ws) [])]):=
  Q3 (Gp (nn:=1) (ts:=[stp bb r]) ob2s rfl rfl (Gs (e:=(bb,r)) hk h40 C hd hr))
 rw[show b1 _=_ from zb s1,zb s2,s3]
theorem ts1 (hk:k.Ok 3)(h40:k.all.length<=40):∀(l:List Nat) (ds:List De) (rs:List (List T)) (ws:List T) (i d:Sl),Chn k ds rs ws->ds.length+l.length<=100->∃ds' rs' ws' i' d',Chn k ds' rs' ws' /\ds'.length=ds.length+l.length/\Zx (zJ 4) b1 (l.map λ(i:Nat)=> .int (0+(i:Int))) (en ns k (roV rs ws) i d o x a h s [(101,fv k ds rs ws [])])= .nx (en ns k (roV rs' ws') i' d' o x a h s [(101,fv k ds' rs' ws' [])])
 | [],ds,rs,ws,i,d,C,_=>⟨ds,rs,ws,i,d,C,rfl,rfl⟩
 | j :: l,ds,rs,ws,i,d,C,hd=>by
  rw[ag]at hd;obtain⟨e,he,h1⟩:=z1Z hk h40 C (by omega) (ns:=ns) (j:=j) (d:=d) (o:=o) (x:=x) (a:=a) (h:=h) (s:=s)
  have C' :Chn k (e :: ds) (ws :: rs) (sf e ws):=⟨he,rfl,C⟩;obtain⟨ds',rs',ws',i',d',C2,hl,h2⟩:=ts1 hk h40 l (e :: ds) (ws :: rs) (sf e ws) (.vl (.int (0+(j:Int)))) (.vl (dT e)) C' (by rw[ag];omega)
  refine⟨ds',rs',ws',i',d',C2,by rw[hl,ag,ag];omega, ?_⟩
  rw[aI,jd (ρ1:=en ns k (roV rs ws) (.vl (.int (0+(j:Int)))) d o x a h s [(101,fv k ds rs ws [])]) rfl h1];exact h2
abbrev b2:En->RS:=zB (zP 5 (za 2 f_v (z9 (vE 0) (z9 (zd zG (vE 8) (zd Z4 (cE (.int 100)) (vE 4))) (zj)))))
  (zB (zP 10 (za 2 f_r (z9 (vE 9) (z9 (vE 5) (zj)))))
  (zB (ifM (Vi neC (Qf 101 7 12 1 f_t (z9 (vE 5) (zj))) (zd jM (ap1 Zp (vB 9)) (ap1 Zp (vB 10)))) (zF (cE (.bl false))) (nxS))
  (zP 9 (vE 10))))
theorem z20 (hk:k.Ok 3)(h40:k.all.length<=40)(C:Chn k ds rs ws)(hd:ds.length<=100)(hm:m < os.length){j:Nat}{q:Int}(hq:0<=q):∃e:De,ZM 2 e.2/\b2 (en ns k ro (.vl (.int (0+(j:Int)))) d o (.ob 101 m) (.vl (.int q)) (.vl (.lst ws)) s (os.set m (101,fv k ds rs ws [])))= .nx (en ns k ro (.vl (.int (0+(j:Int)))) (.vl (dT e)) o (.ob 101 m) (.vl (.int q)) (.vl (.lst (sf e ws))) (.vl (.lst (sf e ws))) (os.set m (101,fv k (e :: ds) (ws :: rs) (sf e ws) []))):=by
 obtain⟨bb,r,hr,hdd⟩:=Q2 ns (q+100*(0+(j:Int))) (by omega)
 obtain⟨hh,hl,hds⟩:=C.sub;have hb:bnd=16777216:=rfl;refine⟨(bb,r),hr, ?_⟩;have s1:zP 5 (za 2 f_v (z9 (vE 0) (z9 (zd zG (vE 8) (zd Z4 (cE (.int 100)) (vE 4))) (zj)))) (en ns k ro (.vl (.int (0+(j:Int)))) d o (.ob 101 m) (.vl (.int q)) (.vl (.lst ws)) s (os.set m (101,fv k ds rs ws [])))= .nx (en ns k ro (.vl (.int (0+(j:Int)))) (.vl (stp bb r)) o (.ob 101 m) (.vl (.int q)) (.vl (.lst ws)) s (os.set m (101,fv k ds rs ws []))):=by
  rw[zS (t:=stp bb r)]
  ·rfl
  ·rw[Z5,v0,bOk,zv,show vE 8 (en ns k ro (.vl (.int (0+(j:Int)))) d o (.ob 101 m) (.vl (.int q)) (.vl (.lst ws)) s (os.set m (101,fv k ds rs ws [])))= .ok (.int q) from rfl,bOk,zv,zV,bOk,v4',bOk,WS _ _ (.inl ⟨by decide,by decide⟩),bOk]
   exact hdd
 have s2:zP 10 (za 2 f_r (z9 (vE 9) (z9 (vE 5) (zj)))) (en ns k ro (.vl (.int (0+(j:Int)))) (.vl (stp bb r)) o (.ob 101 m) (.vl (.int q)) (.vl (.lst ws)) s (os.set m (101,fv k ds rs ws [])))= .nx (en ns k ro (.vl (.int (0+(j:Int)))) (.vl (stp bb r)) o (.ob 101 m) (.vl (.int q)) (.vl (.lst ws)) (.vl (.lst (JX bb r ws))) (os.set m (101,fv k ds rs ws []))):=by
  rw[zS (t:= .lst (JX bb r ws))]
  ·rfl
  ·rw[Z5];show f_r [.lst ws,stp bb r]=_;exact ub (by decide) hr (λx hx=>Xq 2 k x hk (hh x hx)) (by omega)
 have m0:Qf 101 7 12 1 f_t (z9 (vE 5) zj) (en ns k ro (.vl (.int (0+(j:Int)))) (.vl (stp bb r)) o (.ob 101 m) (.vl (.int q)) (.vl (.lst ws)) (.vl (.lst (JX bb r ws))) (os.set m (101,fv k ds rs ws [])))= .ok (.int ((ws.length:Int) - ((JX bb r ws).length:Int)),en ns k ro (.vl (.int (0+(j:Int)))) (.vl (stp bb r)) o (.ob 101 m) (.vl (.int q)) (.vl (.lst ws)) (.vl (.lst (JX bb r ws))) (os.set m (101,fv k ((bb,r) :: ds) (ws :: rs) (sf (bb,r) ws) []))):=by
  rw[Gp (nn:=1) (ga:=z9 (vE 5) zj) (ts:=[stp bb r]) (z0a hm) rfl rfl (Gs (e:=(bb,r)) hk h40 C hd hr)];show R.ok (_,en ns k ro (.vl (.int (0+(j:Int)))) (.vl (stp bb r)) o (.ob 101 m) (.vl (.int q)) (.vl (.lst ws)) (.vl (.lst (JX bb r ws))) ((os.set m (101,fv k ds rs ws [])).set m (101,fv k ((bb,r) :: ds) (ws :: rs) (sf (bb,r) ws) [])))=_;rw[f6]
 have s3:=Vy (f:=zF (cE (.bl false))) (Vz (g:=zd jM (ap1 Zp (vB 9)) (ap1 Zp (vB 10))) m0 rfl trivial);rw[show b2 _=_ from zb s1,zb s2,zb s3];rfl
theorem ts2 (hk:k.Ok 3)(h40:k.all.length<=40)(hm:m < os.length){q:Int}(hq:0<=q):∀(l:List Nat) (ds:List De) (rs:List (List T)) (ws:List T) (i d s:Sl),Chn k ds rs ws->ds.length+l.length<=100->∃ds' rs' ws' i' d' s',Chn k ds' rs' ws' /\ds'.length=ds.length+l.length/\Zx (zJ 4) b2 (l.map λ(i:Nat)=> .int (0+(i:Int))) (en ns k ro i d o (.ob 101 m) (.vl (.int q)) (.vl (.lst ws)) s (os.set m (101,fv k ds rs ws [])))= .nx (en ns k ro i' d' o (.ob 101 m) (.vl (.int q)) (.vl (.lst ws')) s' (os.set m (101,fv k ds' rs' ws' [])))
 | [],ds,rs,ws,i,d,s,C,_=>⟨ds,rs,ws,i,d,s,C,rfl,rfl⟩
 | j :: l,ds,rs,ws,i,d,s,C,hd=>by
  rw[ag]at hd;obtain⟨e,he,h1⟩:=z20 hk h40 C (by omega) hm (ns:=ns) (j:=j) (q:=q) hq (d:=d) (o:=o) (s:=s) (ro:=ro)
  have C' :Chn k (e :: ds) (ws :: rs) (sf e ws):=⟨he,rfl,C⟩;obtain⟨ds',rs',ws',i',d',s',C2,hl,h2⟩:=ts2 hk h40 hm hq l (e :: ds) (ws :: rs) (sf e ws) (.vl (.int (0+(j:Int)))) (.vl (dT e)) (.vl (.lst (sf e ws))) C' (by rw[ag];omega)
  refine⟨ds',rs',ws',i',d',s',C2,by rw[hl,ag,ag];omega, ?_⟩
  rw[aI,jd (ρ1:=en ns k ro (.vl (.int (0+(j:Int)))) d o (.ob 101 m) (.vl (.int q)) (.vl (.lst ws)) s (os.set m (101,fv k ds rs ws []))) rfl h1];exact h2
theorem ts3 (hm:m < os.length):∀(l:List T) (ds:List De) (rs:List (List T)) (ws:List T) (us:List De) (i:Sl),Chn k ds rs ws->l.length=ds.length->ds.length+us.length<=100->∃i',Zx (zJ 4) (drM (jo 101 7 12 "back" 0 f_4 zj)) l (en ns k ro i d o (.ob 101 m) a h s (os.set m (101,fv k ds rs ws us)))= .nx (en ns k ro i' d o (.ob 101 m) a h s (os.set m (101,fv k [] [] k.all (ds.reverse++us))))
 | [],[],[],_,us,i,C,_,_=>⟨i,by have C:_=k.all:=C;subst C;rfl⟩
 | t :: l,e :: ds,w :: rs,_,us,i,C,hl,hd=>by
  obtain⟨c1,rfl,c3⟩:=C;rw[ag]at hd;obtain⟨i',h'⟩:=ts3 hm l ds rs w (e :: us) (.vl t) c3 (by simpa using hl) (by rw[ag];omega)
  refine⟨i', ?_⟩;rw[jd (ρ1:=en ns k ro (.vl t) d o (.ob 101 m) a h s (os.set m (101,fv k (e :: ds) (w :: rs) (sf e w) us))) rfl (Q3 (z1Y hm (wd _ (by decide+kernel)) (Gu (by omega)))),h',aV,aX];rfl
 | [],_ :: _,_,_,_,_,_,hl,_=>by cases hl
 | _ :: _,[],_,_,_,_,_,hl,_=>by cases hl
 | _,[],_ :: _,_,_,_,C,_,_=>by simp[Chn]at C
 | _,_ :: _,[],_,_,_,C,_,_=>by simp[Chn]at C
theorem ts4 (hk:k.Ok 3)(h40:k.all.length<=40)(hm:m < os.length):∀(l:List T) (us ds:List De) (rs:List (List T)) (ws:List T) (i:Sl),Chn k ds rs ws->(∀d∈us,ZM 2 d.2)->l.length=us.length->ds.length+us.length<=100->∃i' rs' ws',Chn k (us.reverse++ds) rs' ws' /\Zx (zJ 4) (drM (jo 101 7 12 "forth" 0 f_q zj)) l (en ns k ro i d o (.ob 101 m) a h s (os.set m (101,fv k ds rs ws us)))= .nx (en ns k ro i' d o (.ob 101 m) a h s (os.set m (101,fv k (us.reverse++ds) rs' ws' [])))
 | [],[],ds,rs,ws,i,C,_,_,_=>⟨i,rs,ws,C,rfl⟩
 | t :: l,e :: us,ds,rs,ws,i,C,hu,hl,hd=>by
  rw[ag]at hd;have he:=hu e am;have C' :Chn k (e :: ds) (ws :: rs) (sf e ws):=⟨he,rfl,C⟩;obtain⟨i',rs',ws',C2,h'⟩:=ts4 hk h40 hm l us (e :: ds) (ws :: rs) (sf e ws) (.vl t) C' (λx hx=>hu x (ac _ hx)) (by simpa using hl) (by rw[ag];omega)
  rw[show (e :: us).reverse++ds=us.reverse++(e :: ds) by rw[aV,aX];rfl]
  refine⟨i',rs',ws',C2, ?_⟩;rw[jd (ρ1:=en ns k ro (.vl t) d o (.ob 101 m) a h s (os.set m (101,fv k ds rs ws (e :: us)))) rfl (Q3 (z1Y hm (wd _ (by decide+kernel)) (VA hk h40 C (by omega) he)))]
  exact h'
 | [],_ :: _,_,_,_,_,_,_,hl,_=>by cases hl
 | _ :: _,[],_,_,_,_,_,_,hl,_=>by cases hl
end
theorem XI:∀(d:Nat) (k:Kd),k.Ok d->Pl (2*d+2) k.t
 | 0,_,h=>h.elim
 | d+1,.whole lo hi,h=>λx hx=>by
  rw[show 2*(d+1)+1=(2*d+2)+1 by omega]
  simp only[ak,aM,or_false]at hx;rcases hx with rfl | rfl | rfl <;> trivial
 | d+1,.pick cs,h=>λx hx=>by
  simp only[ak,aM,or_false]at hx;rcases hx with rfl | rfl
  ·trivial
  ·intro y hy;obtain⟨c,_,rfl⟩:=aN.mp hy;rw[show 2*(d+1)=2*d+1+1 by omega]
   intro z hz;simp only[ak,aM,or_false]at hz;rcases hz with rfl | rfl <;> trivial
 | d+1,.row ks,h=>λx hx=>by
  have hx:x= .str "row"\/x= .tup (Kd.ts ks):=by simpa using hx
  rcases hx with rfl | rfl
  ·trivial
  ·intro y hy;rw[Kd.ts_map]at hy;obtain⟨q,hq,rfl⟩:=aN.mp hy;exact(XI d q (h.2.2 q hq)).le (by omega)
 | d+1,.many k lo hi,h=>λx hx=>by
  have hx:x= .str "many"\/x=k.t\/x= .int lo\/x= .int hi:=by simpa using hx
  rcases hx with rfl | rfl | rfl | rfl
  ·trivial
  ·exact(XI d k h.2.2).le (by omega)
  ·trivial
  ·trivial
section
variable {ns:List Int}{k:Kd}{ro:List T}{fs fs' :List (Str×Fd)}{ds us:List De}{rs:List (List T)}{ws w:List T}{n m:Nat}{e:De}{i d o x a h s:Sl}{os:List Ob}
theorem z21 {f g:En->R (Bool×En)}{r:R (Bool×En)}(h:f ρ= .ok (false,ρ'))(h' :g ρ' =r):PV.orM f g ρ=r:=by
 unfold PV.orM;rw[h,bOk];exact h'
theorem z22 (h:f ρ= .ok false):tmP f ρ= .ok (false,ρ):=by unfold tmP;rw[h];rfl
theorem Gv {α:Type}{g:α->En->R En}{t:α}{ts:List α}(hg:g t ρ= .ok ρ1)(hb:fb ρ1= .nx ρ2):vk g fb (t :: ts) ρ=vk g fb ts ρ2:=by
 rw[vk,hg];dsimp only;rw[hb]
abbrev Gw:En->RS:=ifM (PV.orM (tmP (zD neC (Jh 101 7 12 0 f_x zj) (ixO 3 (cE (.int 0))))) (Vi neC (UZ 101 7 12 "back" okX f_p f_n f_4) (cE (.str "no back")))) (zF (cE (.bl false))) (nxS)
abbrev Gx:En->RS:=ifS (orT (zD neC (Jh 101 7 12 0 f_x zj) (vB 9)) (zD neC (Jh 101 7 12 0 gG zj) (Zv (z9 (cE (.int 7)) (z9 (cE (.int 0)) (zj)))))) (zF (cE (.bl false))) (nxS)
abbrev Q4:En->RS:=zB (drM (jo 101 7 12 "forth" 0 f_q zj))
  (zB (zP 9 (ixO 3 (Jd (cE (.int 1)))))
  (zB (ZT (Za (cE (.int 2))) (zJ 4) b2)
  (zB (ZT (Za (cE (.int 7))) (zJ 4) (drM (jo 101 7 12 "back" 0 f_4 zj)))
  (zB Gw
  (zB (ZT (Za (cE (.int 7))) (zJ 4) (drM (jo 101 7 12 "forth" 0 f_q zj)))
  Gx)))))
theorem z23 (hm:m < os.length)(hf:ro[0]? =some (.lst k.all))(hp:Pl 30 (.lst k.all)):Gw (en ns k ro i d o (.ob 101 m) a h s (os.set m (101,fv k [] [] k.all us)))= .nx (en ns k ro i d o (.ob 101 m) a h s (os.set m (101,fv k [] [] k.all us))):=
 Vy (z21 (z22 (uJ (t:= .lst k.all) (wc (z1W hm) (JU (rs:=[]) rfl)) (show atT ro ((0:Nat):Int)=_ from Vp hf) hp)) (Vz (XD (z0a hm) vK rfl vL) rfl Gq))
theorem z24 (hm:m < os.length)(hl:ds.length=7)(hp:Pl 30 (.lst ws)):Gx (en ns k ro i d o (.ob 101 m) a (.vl (.lst ws)) s (os.set m (101,fv k ds rs ws [])))= .nx (en ns k ro i d o (.ob 101 m) a (.vl (.lst ws)) s (os.set m (101,fv k ds rs ws []))):=by
 refine zw (uh (uJ (t:= .lst ws) (wc (z1W hm) (JU (rs:=rs.reverse.map T.lst) rfl)) rfl hp) (uJ (t:= .tup [.int 7,.int 0]) (wc (z1W hm) ?_) rfl ?_))
 ·rw[ua,aa,aR,hl];rfl
 ·intro x hx;simp only[ak,aM,or_false]at hx;rcases hx with rfl | rfl <;> trivial
theorem Q5 (hk:k.Ok 3)(h40:k.all.length<=40)(C:Chn k ds rs w)(he:ZM 2 e.2)(h4:ds.length=4)(hm:m < os.length){q:Int}(hq:0<=q):∃i' d' h' s' F',Q4 (en ns k (roV (w :: rs) (sf e w)) i d o (.ob 101 m) (.vl (.int q)) h s (os.set m (101,fv k ds rs w [e])))= .nx (en ns k (roV (w :: rs) (sf e w)) i' d' o (.ob 101 m) (.vl (.int q)) h' s' (os.set m (101,F'))):=by
 have C1:Chn k (e :: ds) (w :: rs) (sf e w):=⟨he,rfl,C⟩;have s1:drM (jo 101 7 12 "forth" 0 f_q zj) (en ns k (roV (w :: rs) (sf e w)) i d o (.ob 101 m) (.vl (.int q)) h s (os.set m (101,fv k ds rs w [e])))= .nx (en ns k (roV (w :: rs) (sf e w)) i d o (.ob 101 m) (.vl (.int q)) h s (os.set m (101,fv k (e :: ds) (w :: rs) (sf e w) []))):=Q3 (z1Y hm (wd _ (by decide+kernel)) (VA hk h40 C (by omega) he))
 have s2:zP 9 (ixO 3 (Jd (cE (.int 1)))) (en ns k (roV (w :: rs) (sf e w)) i d o (.ob 101 m) (.vl (.int q)) h s (os.set m (101,fv k (e :: ds) (w :: rs) (sf e w) [])))= .nx (en ns k (roV (w :: rs) (sf e w)) i d o (.ob 101 m) (.vl (.int q)) (.vl (.lst (sf e w))) s (os.set m (101,fv k (e :: ds) (w :: rs) (sf e w) []))):=by
  rw[zS (t:= .lst (sf e w))]
  ·rfl
  ·exact Uz rfl
 obtain⟨ds',rs',ws',i2,d2,s2',C2,l2,s3⟩:=ts2 hk h40 hm hq (ns:=ns) (ro:=roV (w :: rs) (sf e w)) (o:=o) [0,1] (e :: ds) (w :: rs) (sf e w) i d s C1 (by rw[ag,h4];decide)
 have l2:ds'.length=7:=by rw[l2,ag,h4];rfl
 obtain⟨i3,s4⟩:=ts3 hm (ns:=ns) (k:=k) (ro:=roV (w :: rs) (sf e w)) (d:=d2) (o:=o) (a:= .vl (.int q)) (h:= .vl (.lst ws')) (s:=s2') (rng 0 7) ds' rs' ws' [] i2 C2 (by rw[l2];rfl) (by rw[l2];decide)
 have C0:Chn k [] [] k.all:=rfl;obtain⟨i4,r4,w4,C4,s6⟩:=ts4 hk h40 hm (ns:=ns) (ro:=roV (w :: rs) (sf e w)) (d:=d2) (o:=o) (a:= .vl (.int q)) (h:= .vl (.lst ws')) (s:=s2') (rng 0 7) (ds'.reverse++[]) [] [] k.all i3 C0 (λx hx=>C2.sub.2.2 x (by simpa using hx)) (by rw[aP,aR,l2];rfl) (by rw[aP,aR,l2];decide)
 have er:(ds'.reverse++[]).reverse++[]=ds' :=by rw[aP,aP,dy]
 rw[er]at C4 s6;have ew:=Chn.uniq C4 C2;subst ew;refine⟨i4,d2,.vl (.lst w4),s2',fv k ds' r4 w4 [], ?_⟩;rw[show Q4 _=_ from zb s1,zb s2,zb (show ZT (Za (cE (.int 2))) (zJ 4) b2 _=_ from s3),zb (show ZT (Za (cE (.int 7))) (zJ 4) (drM (jo 101 7 12 "back" 0 f_4 zj)) _=_ from s4),zb (z23 hm C1.first (XG hk C0)),zb (show ZT (Za (cE (.int 7))) (zJ 4) (drM (jo 101 7 12 "forth" 0 f_q zj)) _=_ from s6)];exact z24 hm l2 (XG hk C4)
abbrev lB:En->RS:=wx 2 3 11 (mkA 11 12 101 1 f_k (z9 (vE 1) (zj))) (z9 (za 1 (f_5 8) (z9 (vE 1) (zj))) (zj))
theorem z25 (h:f_k [] [k.t]= .ok (.non,fs))(ha:f_5 8 [k.t]= .ok (.lst ws)):lB [.vl (scr ns),.vl k.t,.un,.un,.un,.un,.un,.un,.un,.un,.un,.un,.st []]= .nx (en ns k [.lst ws] .un .un .un .un .un .un .un [(101,fs)]):=by
 have e1:mkA 11 12 101 1 f_k (z9 (vE 1) (zj)) [.vl (scr ns),.vl k.t,.un,.un,.un,.un,.un,.un,.un,.un,.un,.un,.st []]= .ok [.vl (scr ns),.vl k.t,.un,.un,.un,.un,.un,.un,.un,.un,.un,.ob 101 0,.st [(101,fs)]]:=by
  unfold mkA;rw[vH (x:=k.t) rfl,bOk,if_pos ⟨rfl,by decide,show 11 < 13 by decide⟩]
  show (match f_k [] [k.t] with | .ok (.non,fs)=>_ | .ex c=>_ | _=>_)=_
  rw[h];rfl
 show wx 2 3 11 _ _ _=_;unfold wx;rw[e1,ZO,vH (x:= .lst ws) (by rw[zW,v1,bOk,ha])];rfl
abbrev ckB:En->RS:=ifS (orT (zD neC (Jh 101 6 12 0 gG zj) (Zv (z9 (cE (.int 4)) (z9 (cE (.int 1)) (zj))))) (orT (zD neC (Jh 101 6 12 0 f_x zj) (ixO 3 (Jd (cE (.int 2))))) (orT (zD neC (Jh 101 6 12 0 gH zj) (Jh 101 2 12 0 gH zj)) (zD neC (Jh 101 6 12 0 z1I zj) (vB 1))))) (zF (cE (.bl false))) (nxS)
theorem Gy {rs:List T}{w v:T}:atT ((rs++[w])++[v]) (-2)= .ok w:=by
 have:atI ((rs++[w])++[v]) (-2)=some w:=by
  unfold atI ixN;have hl:((rs++[w])++[v]).length=rs.length+2:=by simp
  rw[if_neg (by decide),if_pos (by omega),hl,show ((-2:Int)+((rs.length+2:Nat):Int)).toNat=rs.length by omega]
  show ((rs++[w])++[v])[rs.length]? =some w;rw[aX,au (ai _),cO];rfl
 unfold atT;rw[this]
theorem z26 (hk:k.Ok 3)(C:Chn k ds rs w)(he:ZM 2 e.2)(h4:ds.length=4):ckB (en ns k (roV (w :: rs) (sf e w)) i d (.ob 101 1) x a h s [(101,fv k ds rs w [e]),(101,fv k ds rs w [e])])= .nx (en ns k (roV (w :: rs) (sf e w)) i d (.ob 101 1) x a h s [(101,fv k ds rs w [e]),(101,fv k ds rs w [e])]):=by
 refine zw (uh (uJ (t:= .tup [.int 4,.int 1]) (wc rfl ?_) rfl ?_) (uh (uJ (t:= .lst w) (wc rfl (JU (rs:=rs.reverse.map T.lst) rfl)) ?_ (XG hk C)) (uh (uJ (t:= .lst (ds.reverse.map dT)) (wc rfl Uy) (wc rfl Uy) (z1X λx hx=>C.sub.2.2 x (ik.mp hx))) (uJ (t:=k.t) (wc rfl rfl) rfl ((XI 3 k hk).le (by decide))))))
 ·rw[ua,aa,aR,h4];rfl
 ·intro x hx;simp only[ak,aM,or_false]at hx;rcases hx with rfl | rfl <;> trivial
 ·show atT (roV (w :: rs) (sf e w)) (-2)=_;rw[← XH];exact Gy
end
theorem law_ok (ns:List Int)(h:ns.length<=63):f_0 [.fz (ns.map T.int)]= .ok (.bl true):=by
 obtain⟨k,hk,hl,hs⟩:=vz ns 10 (by omega) 40 (by omega)
 have ha:=qe 3 8 (by omega) (by omega) k hk (by omega)
 have e0:zP 1 (za 3 gu (z9 (vE 0) (z9 (cE (.int 10)) (z9 (cE (.int 40)) (zj))))) [.vl (scr ns),.un,.un,.un,.un,.un,.un,.un,.un,.un,.un,.un,.st []]= .nx [.vl (scr ns),.vl k.t,.un,.un,.un,.un,.un,.un,.un,.un,.un,.un,.st []]:=by
  rw[zS (t:=k.t)]
  ·rfl
  ·rw[Zq,v0,bOk,zV,bOk,zV,bOk];exact hs
 have C0:Chn k [] [] k.all:=rfl;obtain⟨ds',rs',ws',i1,d1,C1,l1,s1⟩:=ts1 hk hl (ns:=ns) (o:= .un) (x:= .un) (a:= .un) (h:= .un) (s:= .un) [0,1,2,3,4] [] [] k.all .un .un C0 (by decide)
 have l1:ds'.length=5:=l1;cases ds' with
 | nil=>cases l1
 | cons e ds=>
  cases rs' with
  | nil=>simp[Chn]at C1
  | cons w rs=>
   obtain⟨he,rfl,C⟩:=C1;have h4:ds.length=4:=by simpa using l1
   have s2:drM (jo 101 2 12 "back" 0 f_4 zj) (en ns k (roV (w :: rs) (sf e w)) i1 d1 .un .un .un .un .un [(101,fv k (e :: ds) (w :: rs) (sf e w) [])])= .nx (en ns k (roV (w :: rs) (sf e w)) i1 d1 .un .un .un .un .un [(101,fv k ds rs w [e])]):=
    Q3 (uc (nn:=0) (ga:=zj) (ts:=[]) ob2s (wd _ (by decide+kernel)) rfl rfl (Gu (us:=[]) (by decide)))
   have s3:mkV 6 2 12 101 z03 (en ns k (roV (w :: rs) (sf e w)) i1 d1 .un .un .un .un .un [(101,fv k ds rs w [e])])= .nx (en ns k (roV (w :: rs) (sf e w)) i1 d1 (.ob 101 1) .un .un .un .un [(101,fv k ds rs w [e]),(101,fv k ds rs w [e])]):=by
    have ho:obL 101 2 12 (en ns k (roV (w :: rs) (sf e w)) i1 d1 .un .un .un .un .un [(101,fv k ds rs w [e])])=some (fv k ds rs w [e]):=rfl;have hj:(en ns k (roV (w :: rs) (sf e w)) i1 d1 .un .un .un .un .un [(101,fv k ds rs w [e])])[12]? =some (.st [(101,fv k ds rs w [e])]):=rfl;unfold mkV;rw[ho,hj];dsimp only;rw[if_pos ⟨by decide,show 6 < 13 by decide⟩,XF hk (by omega)];rfl
   obtain⟨i2,d2,h2,x2,F2,t1⟩:=Q5 hk hl C he h4 (ns:=ns) (m:=0) (os:=[(101,fv k ds rs w [e]),(101,fv k ds rs w [e])]) (show 0 < 2 by decide) (q:=2000) (by decide) (i:=i1) (d:=d1) (o:= .ob 101 1) (h:= .un) (s:= .un)
   obtain⟨i3,d3,h3,x3,F3,t2⟩:=Q5 hk hl C he h4 (ns:=ns) (m:=1) (os:=[(101,F2),(101,fv k ds rs w [e])]) (show 1 < 2 by decide) (q:=3000) (by decide) (i:=i2) (d:=d2) (o:= .ob 101 1) (h:=h2) (s:=x2)
   have s5:gp 101 7 8 12 2 6 (cE (.int 2000)) (cE (.int 3000)) Q4 (en ns k (roV (w :: rs) (sf e w)) i1 d1 (.ob 101 1) .un .un .un .un [(101,fv k ds rs w [e]),(101,fv k ds rs w [e])])= .nx (en ns k (roV (w :: rs) (sf e w)) i3 d3 (.ob 101 1) (.ob 101 1) (.vl (.int 3000)) h3 x3 [(101,F2),(101,F3)]):=by
    have hf:gp 101 7 8 12 2 6 (cE (.int 2000)) (cE (.int 3000)) Q4 (en ns k (roV (w :: rs) (sf e w)) i1 d1 (.ob 101 1) .un .un .un .un [(101,fv k ds rs w [e]),(101,fv k ds rs w [e])])=vk (obG 101 7 8 12) Q4 [(0,.int 2000),(1,.int 3000)] (en ns k (roV (w :: rs) (sf e w)) i1 d1 (.ob 101 1) .un .un .un .un [(101,fv k ds rs w [e]),(101,fv k ds rs w [e])]):=rfl;rw[hf,Gv (ρ1:=en ns k (roV (w :: rs) (sf e w)) i1 d1 (.ob 101 1) (.ob 101 0) (.vl (.int 2000)) .un .un [(101,fv k ds rs w [e]),(101,fv k ds rs w [e])]) rfl t1,Gv (ρ1:=en ns k (roV (w :: rs) (sf e w)) i2 d2 (.ob 101 1) (.ob 101 1) (.vl (.int 3000)) h2 x2 [(101,F2),(101,fv k ds rs w [e])]) rfl t2];rfl
   show zA (b_0 _ _ _ _ _ _ _ _ _ _ _ _ _ _ _ [.vl (scr ns),.un,.un,.un,.un,.un,.un,.un,.un,.un,.un,.un,.st []])=_;rw[b_0];exact congrArg zA ((zb e0).trans ((zb (z25 (Q1 hk (by omega)) ha)).trans ((zb (show ZT (Za (cE (.int 5))) (zJ 4) b1 _=_ from s1)).trans ((zb s2).trans ((zb s3).trans ((zb (z26 hk C he h4)).trans ((zb s5).trans rfl)))))))
end G
namespace G
open PySem PySem.Spec PyProof.Rows L2 PV
noncomputable def top (i:Nat):Stmt:=PySem.Challenge.pw_worthkinds_k83_whole_sieve_twins.main.body.getD i (.Pass ⟨0,0,0,0⟩)
noncomputable def J6 (s:Stmt)(j:Nat):Stmt:=match s with
 | .ClassDef _ _ _ b _ _ _ _ _ _ _=>b.getD j (.Pass ⟨0,0,0,0⟩)
 | s=>s
set_option genInjectivity false in
set_option genSizeOf false in
structure Tx (K:a8) (mg:Str->Option Value):Prop where
 C_1h:FE K mg "_law_cell" (top 59) ["_law_script","_law_k"]
 C_1:FE K mg "_law_pick" (top 60) ["_law_script","_law_k","_law_many"]
 C_y:FE K mg "_law_word_of" (top 61) ["_law_script","_law_at"]
 C_10:FE K mg "_law_leaf_kind" (top 62) ["_law_script","_law_at"]
 C_b:FE K mg "_law_kind" (top 63) ["_law_script","_law_at","_law_deep"]
 C_d:FE K mg "_law_rows_of" (top 65) ["_law_lists"]
 C_5:FE K mg "_law_all" (top 64) ["_law_kind_here"]
 C_9:FE K mg "_law_size" (top 66) ["_law_kind_here"]
 C_14:FE K mg "_law_small" (top 67) ["_law_script","_law_at","_law_most"]
 C_f:FE K mg "is_whole" (top 13) ["thing"]
 C_1j:FE K mg "is_span" (top 16) ["low","high","least","most"]
 C_j:FE K mg "is_tuple_of" (top 14) ["thing","least","most"]
 C_s:FE K mg "is_word" (top 15) ["thing"]
 C_15:FE K mg "is_choice" (top 19) ["thing"]
 C_13:FE K mg "are_choices" (top 18) ["thing"]
 C_7:FE K mg "is_kind_within" (top 17) ["thing","levels"]
 C_1n:FE K mg "are_kinds_within" (top 20) ["thing","levels"]
 C_3:FE K mg "is_kind" (top 11) ["thing"]
 C_1d:FE K mg "need_kind" (top 12) ["kind"]
 C_2:FE K mg "count_of" (top 25) ["kind"]
 C_w:FE K mg "count_of_parts" (top 26) ["kinds"]
 C_m:FE K mg "count_shorter" (top 27) ["kind","length"]
 C_12:FE K mg "words_of_pick" (top 21) ["kind"]
 C_a:FE K mg "worth_at" (top 28) ["kind","number"]
 C_1m:FE K mg "many_at" (top 29) ["kind","number"]
 C_z:FE K mg "parts_at" (top 30) ["kinds","number"]
 C_u:FE K mg "all_worths" (top 24) ["kind"]
 C_g:FE K mg "_law_rule" (top 68) ["_law_script","_law_at","_law_deep"]
 C_v:FE K mg "_law_deed" (top 71) ["_law_script","_law_at"]
 C_h:FE K mg "_law_leaves" (top 69) ["_law_worth"]
 C_8:FE K mg "_law_keeps" (top 70) ["_law_rule_here","_law_worth"]
 C_r:FE K mg "_law_sifted" (top 72) ["_law_worths","_law_deed_here"]
 C_1e:FE K mg "is_bound" (top 47) ["thing"]
 C_i:FE K mg "is_rule_within" (top 46) ["thing","levels"]
 C_6:FE K mg "is_rule" (top 44) ["thing"]
 C_16:FE K mg "need_rule" (top 45) ["rule"]
 C_e:FE K mg "leaves_of" (top 51) ["worth"]
 C_1c:FE K mg "numbers_in" (top 52) ["worth"]
 C_1i:FE K mg "parts_of" (top 50) ["worth"]
 C_1k:FE K mg "are_rising" (top 53) ["numbers"]
 C_1l:FE K mg "are_unlike" (top 54) ["parts"]
 C_11:FE K mg "is_single_kept" (top 49) ["rule","worth"]
 C_c:FE K mg "is_kept" (top 48) ["rule","worth"]
 C_17:FE K mg "left_by" (top 57) ["step","worths"]
 C__law_did:FE K mg "_law_did" (top 73) ["_law_sieve","_law_deed_here"]
 C_p:FE K mg "_law_class" (top 74) ["_law_kept"]
 C__law_told:FE K mg "_law_told" (top 75) ["_law_deed_here"]
 C_0:FE K mg "law" (top 76) ["_law_script"]
 z:∀x,(["ValueError","all","any","bool","enumerate","int","isinstance","len","list","min","range","reversed","set","sorted","str","sum","tuple","zip"]:List Str).contains x=true->mg x=none
 c_DEEPEST:∃u,mg "DEEPEST"=some u/\∃t,u=Value.int 3 t
 c_DEEPEST_RULE:∃u,mg "DEEPEST_RULE"=some u/\∃t,u=Value.int 3 t
 c_FARTHEST_BOUND:∃u,mg "FARTHEST_BOUND"=some u/\∃t,u=Value.int 50 t
 c_MOST_TOLD:∃u,mg "MOST_TOLD"=some u/\∃t,u=Value.int 500 t
structure To (K:a8) (mg:Str->Option Value) (cl:Nat->Value):Prop where
 A_Sieve:CA 101 ["kind","remaining","done","undone"] K cl
 M_Sieve_init:FI K mg cl 101 "Sieve" (J6 (top 56) 0) ["self","kind"]
 M_Sieve_left:FM K cl 101 "left" (J6 (top 56) 3) ["self"]
 M_Sieve_do_step:FM K cl 101 "do_step" (J6 (top 56) 13) ["self","step"]
 M_Sieve_new_step:FM K cl 101 "new_step" (J6 (top 56) 12) ["self","word","rule"]
 M_Sieve_keep:FM K cl 101 "keep" (J6 (top 56) 1) ["self","rule"]
 M_Sieve_bar:FM K cl 101 "bar" (J6 (top 56) 2) ["self","rule"]
 M_Sieve_back:FM K cl 101 "back" (J6 (top 56) 8) ["self"]
 M_Sieve_twin:FM K cl 101 "twin" (J6 (top 56) 11) ["self"]
 M_Sieve_counts:FM K cl 101 "counts" (J6 (top 56) 10) ["self"]
 M_Sieve_worths:FM K cl 101 "worths" (J6 (top 56) 4) ["self"]
 M_Sieve_steps:FM K cl 101 "steps" (J6 (top 56) 7) ["self"]
 M_Sieve_base:FM K cl 101 "base" (J6 (top 56) 6) ["self"]
 M_Sieve_forth:FM K cl 101 "forth" (J6 (top 56) 9) ["self"]
noncomputable abbrev bmVE:List Value:=[.type "ValueError",.type "Exception",.type "BaseException",.type "object"]
set_option genInjectivity false in
set_option genSizeOf false in
structure Tq (K:a8) (mg:Str->Option Value) (base:Heap) (cl:Nat->Value) where
 (q_Ended q_NoBack q_NoKind q_NoRule q_NoText q_NoWorth q_TooMany q_WorthError:Addr)
 X_k:XK1 K cl okX
 e_WorthError:∀c,okX c=true->PySem.W.exmOne K (cl c) (.ref q_WorthError)=some true
 l_NoBack:cl 6= .ref q_NoBack
 m_Ended:mg "Ended"=some (.ref q_Ended)
 m_NoBack:mg "NoBack"=some (.ref q_NoBack)
 m_NoKind:mg "NoKind"=some (.ref q_NoKind)
 m_NoRule:mg "NoRule"=some (.ref q_NoRule)
 m_NoText:mg "NoText"=some (.ref q_NoText)
 m_NoWorth:mg "NoWorth"=some (.ref q_NoWorth)
 m_TooMany:mg "TooMany"=some (.ref q_TooMany)
 m_WorthError:mg "WorthError"=some (.ref q_WorthError)
 o_NoBack:OwnCls "NoBack" q_NoBack bmVE "ValueError.__new__" mg base
 t_Ended:∀c,okX c=true->aO K (cl c) (.ref q_Ended)=some (JI c)
 t_NoBack:∀c,okX c=true->aO K (cl c) (.ref q_NoBack)=some (jX c)
 t_NoKind:∀c,okX c=true->aO K (cl c) (.ref q_NoKind)=some (jU c)
 t_NoRule:∀c,okX c=true->aO K (cl c) (.ref q_NoRule)=some (jV c)
 t_NoText:∀c,okX c=true->aO K (cl c) (.ref q_NoText)=some (jW c)
 t_NoWorth:∀c,okX c=true->aO K (cl c) (.ref q_NoWorth)=some (ju c)
 t_TooMany:∀c,okX c=true->aO K (cl c) (.ref q_TooMany)=some (jv c)
 t_ValueError:∀c,okX c=true->aO K (cl c) (.type "ValueError")=some (ZI c)
section
variable {Z:Zz}{Pt:Addr}(tx:Tx Z.K Z.mg)(xq:Tq Z.K Z.mg Z.base Z.cl)(tc:To Z.K Z.mg Z.cl)
include tx xq tc
set_option hygiene false
local macro_rules | `(tactic| gp_on)=> `(tactic| first
  | (show wn _ _ _ _;first
   | refine vU ?_ ?_
   | exact kI)
  | (show Snd _ _ (.Name ..) _;first
   | exact z0y _ (pv _)
   | exact tx.c_FARTHEST_BOUND.elim λ_ h=>wU (by rfl) h.1 h.2
   | exact tx.c_DEEPEST.elim λ_ h=>wU (by rfl) h.1 h.2
   | exact tx.c_MOST_TOLD.elim λ_ h=>wU (by rfl) h.1 h.2
   | exact tx.c_DEEPEST_RULE.elim λ_ h=>wU (by rfl) h.1 h.2)
  | (show Snd _ _ (.Constant ..) _;first
   | exact z0z
   | exact kH
   | exact s_bl)
  | (show JV _ _ _ _;first
   | refine kZ ?_ ?_
   | exact z0W
   | refine z0X ?_)
  | (show ZZ _ _ _ _;first
   | exact kG _ (pv _)
   | exact CA.go tc.A_Sieve λ_ e c n=>KZ (pv _) (by rw[hy];exact e) c (n _ (by kernel_rfl))
   | exact CA.go tc.A_Sieve λ_ e c n=>KM (pv _) (by rw[hy];exact e) c (n _ (by kernel_rfl))
   | refine Snd.b ?_)
  | (show jm _ _ _ _;first
   | refine z0Y ?_
   | refine z0Z ?_ ?_ ?_
   | refine K0 nd (by rfl) (.inl (by rfl)) ?_
   | refine K9 iD (by rfl) ?_ ?_ ?_
   | exact z1b
   | refine z1p ?_
   | refine K1 nd (by rfl) (.inl (by rfl)) ?_
   | refine Kf (cr1 hy (by kernel_rfl) (by kernel_rfl) (by rfl) ?_ (λ_ hy _ _ _ _ _ _=> ?_) (λ_ hy _ _ _ _ _ _ _ hp=> ?_)) nd (by rfl) (.inl (by rfl)) (by rfl)
   | refine CA.go tc.A_Sieve λ_ e c n=>KN (pv _) (by rw[hy];exact e) c (n _ (by kernel_rfl)) ?_
   | refine K9 hU (by rfl) ?_ ?_ ?_
   | refine K0 nd (by rfl) (.inr (by rfl)) ?_
   | refine z10 (pv _) ?_
   | refine z11 (pv _) ?_
   | refine CA.go tc.A_Sieve λ_ e c n=>KO (pv _) (by rw[hy];exact e) c (n _ (by kernel_rfl)) ?_
   | exact CA.go tc.A_Sieve λ_ e c n=>gh (pv _) (pv _) (by rw[hy];exact e) c (n _ (by kernel_rfl)) (by rw[hy];exact e) c (n _ (by kernel_rfl)) (by rfl) (tx.z _ (by kernel_rfl))
   | refine K2 ?_
   | refine z1q nd (by rfl) (.inl (by rfl)) ?_
   | refine z1s ?_ ?_ ?_
   | exact s_mv (pv _) nd (by rfl) (.inl (by rfl))
   | refine xt (n:=_) iD ?_ ?_
   | refine Kr (cr1 hy (by kernel_rfl) (by kernel_rfl) (by rfl) ?_ (λ_ hy _ _ _ _ _ _=> ?_) (λ_ hy _ _ _ _ _ _ _ hp=> ?_))
   | refine CA.go tc.A_Sieve λ_ e c n=>z1o (pv _) (by rw[hy];exact e) c (n _ (by kernel_rfl)) ?_
   | refine QI.go (by assumption) λ_ _ _ _ _ _ e g M O F=>s_mk nd (by rfl) (.inl (by rfl)) hy e M F hr (by omega) (by rfl) g O.b hp ?_
   | exact xB (c:=_) xq.o_NoBack dQ (by decide) dQ hE (by rw[hy];exact xq.l_NoBack) (by rfl)
   | refine vj (w:="?q") (by rfl) nd (by rfl) (by rfl) (by decide) (by rfl) (by rfl) (by rfl) (by rfl) ?_ ?_ (by rfl)
   | exact QM.go (by assumption) λ_ _ _ _ _ _ e c M F=>z1B nd (by rfl) (.inl (by rfl)) (pv _) hy e c M.m F hr (by omega) M.b hp
   | refine gq hU (by rfl) nd (by rfl) (by rfl) (.inr (by rfl)) (.inl (by rfl)) (pv _) (pv _) ?_ ?_ (λ_=> ?_))
  | (show Snd _ _ (.Call ..) _;first
   | refine z0S (by rfl) (tx.z _ (by kernel_rfl)) ?_
   | exact QM.go (by assumption) λ_ _ _ _ _ _ e c M F=>vh (pv _) hy e c M.m F hr (by omega) M.b hp
   | refine QC (n:="tuple") (Y8 _) (by rfl) (tx.z _ (by kernel_rfl)) (by rfl) (tx.z _ (by kernel_rfl)) PyProof.Rows.Boot.«tuple» ?_
   | refine Kq (by rfl) (tx.z _ (by kernel_rfl)) ?_
   | refine z0V hr.hd (by rfl) (tx.z _ (by kernel_rfl)) ?_
   | refine kY (by rfl) (by rfl) (tx.z _ (by kernel_rfl)) ?_ ?_
   | refine xk (by rfl) (tx.z _ (by kernel_rfl)) ?_
   | refine QC (n:="int") (xl _) (by rfl) (tx.z _ (by kernel_rfl)) (by rfl) (tx.z _ (by kernel_rfl)) PyProof.Rows.Boot.«int» ?_
   | refine z1c hr.hd (by rfl) (tx.z _ (by kernel_rfl)) ?_
   | refine Kj ?_
   | refine xN hr.hd (by rfl) (tx.z _ (by kernel_rfl)) (by rfl) (tx.z _ (by kernel_rfl)) ?_ ?_
   | refine QC (n:="bool") (QB _) (by rfl) (tx.z _ (by kernel_rfl)) (by rfl) (tx.z _ (by kernel_rfl)) PyProof.Rows.Boot.«bool» ?_
   | refine QC (n:="str") (xm _) (by rfl) (tx.z _ (by kernel_rfl)) (by rfl) (tx.z _ (by kernel_rfl)) PyProof.Rows.Boot.«str» ?_
   | refine Kk hr.hd (by rfl) (tx.z _ (by kernel_rfl)) (by rfl) (tx.z _ (by kernel_rfl)) ?_
   | refine KC hr.hd (by rfl) (tx.z _ (by kernel_rfl)) (by rfl) (tx.z _ (by kernel_rfl)) ?_
   | refine KD (by rfl) (tx.z _ (by kernel_rfl)) ?_
   | refine z1i hr.hd (by rfl) (tx.z _ (by kernel_rfl)) ?_
   | refine z1u (by rfl) (tx.z _ (by kernel_rfl)) ?_
   | exact CA.go tc.A_Sieve λ_ e c n=>g9 (pv _) (by rw[hy];exact e) c (n _ (by kernel_rfl)) (by rfl) (tx.z _ (by kernel_rfl))
   | exact jt (by rw[hy];exact xq.X_k) (by rw[hy];exact xq.t_Ended) (by rfl) (tx.z _ (by kernel_rfl)) (pv _) (by rfl) xq.m_Ended
   | exact jt (by rw[hy];exact xq.X_k) (by rw[hy];exact xq.t_NoBack) (by rfl) (tx.z _ (by kernel_rfl)) (pv _) (by rfl) xq.m_NoBack
   | exact jt (by rw[hy];exact xq.X_k) (by rw[hy];exact xq.t_NoKind) (by rfl) (tx.z _ (by kernel_rfl)) (pv _) (by rfl) xq.m_NoKind
   | exact jt (by rw[hy];exact xq.X_k) (by rw[hy];exact xq.t_NoRule) (by rfl) (tx.z _ (by kernel_rfl)) (pv _) (by rfl) xq.m_NoRule
   | exact jt (by rw[hy];exact xq.X_k) (by rw[hy];exact xq.t_NoText) (by rfl) (tx.z _ (by kernel_rfl)) (pv _) (by rfl) xq.m_NoText
   | exact jt (by rw[hy];exact xq.X_k) (by rw[hy];exact xq.t_NoWorth) (by rfl) (tx.z _ (by kernel_rfl)) (pv _) (by rfl) xq.m_NoWorth
   | exact jt (by rw[hy];exact xq.X_k) (by rw[hy];exact xq.t_TooMany) (by rfl) (tx.z _ (by kernel_rfl)) (pv _) (by rfl) xq.m_TooMany
   | refine xO hr.units ?_ ?_
   | exact xE (n:="ValueError") (by rw[hy];exact xq.X_k) (by rw[hy];exact xq.t_ValueError) (by rfl) (tx.z _ (by kernel_rfl)) (pv _) (by rfl) (tx.z _ (by kernel_rfl)) PyProof.Rows.Boot.«ValueError»
   | refine xP hr.units ?_ ?_
   | refine cZ hy (by assumption) hr ?_)
  | (show Snd _ _ (.Subscript ..) _;first
   | refine s_ix ?_ ?_
   | refine xp ?_ ?_ ?_
   | refine z1k (pv _) ?_
   | refine CA.go tc.A_Sieve λ_ e c n=>z1x (pv _) (by rw[hy];exact e) c (n _ (by kernel_rfl)) ?_
   | refine CA.go tc.A_Sieve λ_ e c n=>z1r (pv _) (by rw[hy];exact e) c (n _ (by kernel_rfl)) ?_)
  | (show wL _ _ _ _;first
   | refine uk kN (vV hr.units) ?_ ?_ (jl _)
   | refine z0P ?_
   | refine uk xf (Y3 hr.units) ?_ ?_ (jl _)
   | refine uk z0I kQ ?_ ?_ (jl _)
   | refine uk z0H kP ?_ ?_ (jl _)
   | refine uk wP jF ?_ ?_ (jl _)
   | refine uk Qy (vW hr.units) ?_ ?_ (by rfl)
   | refine uk kS (xg hr.units) ?_ ?_ (by rfl)
   | refine xi wP wP jF jF ?_ ?_ ?_
   | refine z0Q ?_
   | refine yl.t ?_)
  | (show Snd _ _ (.BinOp ..) _;first
   | refine z0C ?_ ?_
   | refine z0F ?_ ?_
   | refine z0D ?_ ?_
   | refine z0E ?_ ?_
   | refine kL ?_ ?_)
  | (show Snd _ _ (.BoolOp ..) _;first
   | refine z0L ?_ ?_
   | refine s_or ?_ ?_
   | refine z0K ?_)
  | (show uo _ _ _ _ _;first
   | refine K7 (by rfl) (tx.z _ (by kernel_rfl)) ?_
   | refine K8 (by rfl) (tx.z _ (by kernel_rfl)) ?_ ?_
   | refine Kh (by rfl) (tx.z _ (by kernel_rfl)) ?_
   | refine z1g (by rfl) (tx.z _ (by kernel_rfl)) ?_
   | refine z17 (by rfl) (tx.z _ (by kernel_rfl)) ?_ ?_
   | refine xU (by rfl) (tx.z _ (by kernel_rfl)) ?_
   | refine z15 ?_)
  | (show Snd _ _ (.Compare ..) _;first
   | refine Y2 kN (vV hr.units) ?_ ?_ (jl _)
   | refine xh wP wP jF jF ?_ ?_ ?_
   | refine Y2 wP jF ?_ ?_ (jl _)
   | refine Y2 Qy (vW hr.units) ?_ ?_ (by rfl)
   | refine Qz wP wP wP jF jF jF ?_ ?_ ?_ ?_
   | refine Y2 z0J kR ?_ ?_ (jl _)
   | refine Y2 xf (Y3 hr.units) ?_ ?_ (jl _))
  | (show yl _ _ _ _;first
   | refine w_or ?_ ?_
   | refine z0O ?_ ?_
   | refine z0N ?_
   | refine kU ?_)
  | (show vg _ _ _ _;first
   | refine KL ?_ ?_
   | refine z1l ?_
   | exact z1n)
  | (show wS _ _ _ _;first
   | exact Kc
   | refine Ke ?_)
  | (show Snd _ _ (.Tuple ..) _;first
   | refine z0A ?_)
  | (show Snd _ _ (.List ..) _;first
   | refine z0B ?_)
  | (show Snd _ _ (.ListComp ..) _;first
   | refine V4 (cr1 hy (by kernel_rfl) (by kernel_rfl) (by rfl) ?_ (λ_ hy _ _ _ _ _ _=> ?_) (λ_ hy _ _ _ _ _ _ _ hp=> ?_))
   | refine V4 (cr2 hy (by kernel_rfl) (by kernel_rfl) (by rfl) ?_ (λ_ hy _ _ _ _ _ _=> ?_) (λ_ hy _ _ _ _ _ _ _ hp=> ?_)))
  | (show ug _ _ (.Call ..) _;first
   | refine QM.go (by assumption) λ_ _ _ _ _ _ e c M F=>KP (pv _) hy e c M.m F hr (by omega) M.b hp ?_
   | exact QM.go (by assumption) λ_ _ _ _ _ _ e c M F=>X3 (pv _) hy e c M.m F hr (by omega) M.b hp
   | exact CA.go tc.A_Sieve λ_ e c n=>KQ (pv _) (by rw[hy];exact e) c (n _ (by kernel_rfl))
   | refine QQ.go (by assumption) λ_ _ _ _ C F=>KY (pv _) hy F hr (by omega) (by rfl) C.m C.F.kp C.b hp ?_
   | exact X8 L hT hy (by assumption) U_Sieve_back U_Sieve_back_O hr (by kernel_rfl) (by kernel_rfl))
  | (show z13 _ _ _ _;first
   | exact V2 nd (by rfl) (.inl (by rfl))
   | exact V2 nd (by rfl) (.inr (by rfl)))
  | (show Snd _ _ (.UnaryOp ..) _;first
   | refine z0G ?_
   | refine z0M ?_)
  | (show xn _ _ _ _;first
   | exact kW
   | refine kX ?_)
  | (show Snd _ _ (.IfExp ..) _;first
   | refine s_if ?_ ?_ ?_)
  | (show gi _ _ _ _ _;first
   | refine gj ?_ ?_
   | exact z1A (pv _))
  | (show uw _ _ _ _;first
   | refine KR xf (Y3 hr.units) ?_ ?_ (jl _)
   | refine X4 ?_
   | refine ux.t ?_)
  | (show ug _ _ _ _;first
   | refine KK ?_)
  | (show Snd _ _ (.Attribute ..) _;first
   | exact CA.go tc.A_Sieve λ_ e c n=>KW (pv _) (by rw[hy];exact e) c (n _ (by kernel_rfl)))
  | (show ux _ _ _ _;first
   | refine z1t ?_ ?_
   | refine KS ?_)
  | (show ug _ _ (.IfExp ..) _;first
   | refine m_if ?_ ?_ ?_)
  | (show X7 _ _ _ _ _;first
   | refine QI.go (by assumption) λ_ _ _ _ _ _ e g M O F=>q_mk hy e M F hr (by omega) (by rfl) g O.b hp ?_)
  )
local macro_rules | `(tactic| kd_all)=> `(tactic| (intro cdv A outer s H E Y hy hE hr nd hp;repeat' gp_on))
theorem z27:qP Z "_law_cell" 2 1 (oP 2 b_1h):=by
 refine okP tx.C_1h ["_law_script","_law_k"] λ_=> ?_
 kd_all
theorem ok_1 (_:qP Z "_law_cell" 2 1 c_1h):qP Z "_law_pick" 3 2 (oP 4 (b_1 c_1h)):=by
 refine okP tx.C_1 ["_law_script","_law_k","_law_many","_law_drawn"] λ_=> ?_
 kd_all
theorem ok_y (_:qP Z "_law_pick" 3 2 c_1):qP Z "_law_word_of" 2 3 (oP 3 (b_y c_1)):=by
 refine okP tx.C_y ["_law_script","_law_at","_law_letters"] λ_=> ?_
 kd_all
theorem z28 (_:qP Z "_law_pick" 3 2 c_1)(_:qP Z "_law_word_of" 2 3 c_y):qP Z "_law_leaf_kind" 2 4 (oP 6 (GN c_1 c_y)):=by
 refine okP tx.C_10 ["_law_script","_law_at","_law_low","_law_words","_law_k","_law_word"] λ_=> ?_
 kd_all
theorem ok_b {j:Nat}(hj:4<=j)(_:qP Z "_law_pick" 3 2 c_1)(_:qP Z "_law_leaf_kind" 2 4 c_10)(_:qP Z "_law_kind" 3 j c_b):qP Z "_law_kind" 3 (j+1) (oP 6 (b_b c_1 c_10 c_b)):=by
 refine okP tx.C_b ["_law_script","_law_at","_law_deep","_law_way","_law_some","_law_low"] λ_=> ?_
 kd_all
theorem ok_d:qP Z "_law_rows_of" 1 1 (oP 5 b_d):=by
 refine okP tx.C_d ["_law_lists","_law_made","_law_some","_law_longer","_law_ahead"] λ_=> ?_
 kd_all
theorem ok_5 {j:Nat}(hj:1<=j)(_:qP Z "_law_all" 1 j c_5)(_:qP Z "_law_rows_of" 1 1 c_d):qP Z "_law_all" 1 (j+1) (oP 3 (b_5 c_5 c_d)):=by
 refine okP tx.C_5 ["_law_kind_here","_law_made","_law_size_here"] λ_=> ?_
 kd_all
theorem ok_9 {j:Nat}(hj:9<=j)(_:qP Z "_law_all" 1 9 c_5)(_:qP Z "_law_size" 1 j c_9):qP Z "_law_size" 1 (j+1) (oP 5 (b_9 c_5 c_9)):=by
 refine okP tx.C_9 ["_law_kind_here","_law_sizes","_law_made","_law_size_here","_law_inner"] λ_=> ?_
 kd_all
theorem z29 (_:qP Z "_law_kind" 3 12 c_b)(_:qP Z "_law_size" 1 17 c_9):qP Z "_law_small" 3 18 (oP 5 (GO c_b c_9)):=by
 refine okP tx.C_14 ["_law_script","_law_at","_law_most","_law_kind_here","_law_k"] λ_=> ?_
 kd_all
theorem ok_f:qP Z "is_whole" 1 1 (oP 1 b_f):=by
 refine okP tx.C_f ["thing"] λ_=> ?_
 kd_all
theorem z2a (_:qP Z "is_whole" 1 1 c_f):qP Z "is_span" 4 2 (oP 4 (b_1j c_f)):=by
 refine okP tx.C_1j ["low","high","least","most"] λ_=> ?_
 kd_all
theorem ok_j:qP Z "is_tuple_of" 3 1 (oP 3 b_j):=by
 refine okP tx.C_j ["thing","least","most"] λ_=> ?_
 kd_all
theorem ok_s:qP Z "is_word" 1 1 (oP 1 b_s):=by
 refine okP tx.C_s ["thing"] λ_=> ?_
 kd_all
theorem z2b (_:qP Z "is_whole" 1 1 c_f)(_:qP Z "is_tuple_of" 3 1 c_j)(_:qP Z "is_word" 1 1 c_s):qP Z "is_choice" 1 2 (oP 1 (GQ c_f c_j c_s)):=by
 refine okP tx.C_15 ["thing"] λ_=> ?_
 kd_all
theorem z2c (_:qP Z "is_tuple_of" 3 1 c_j)(_:qP Z "is_choice" 1 2 c_15):qP Z "are_choices" 1 3 (oP 2 (GR c_j c_15)):=by
 refine okP tx.C_13 ["thing","words"] λ_=> ?_
 kd_all
theorem ok_7 {j:Nat}(hj:3<=j)(_:qP Z "is_span" 4 2 c_1j)(_:qP Z "is_kind_within" 2 j c_7)(_:qP Z "are_choices" 1 3 c_13)(_:qP Z "are_kinds_within" 2 j c_1n):qP Z "is_kind_within" 2 (j+1) (oP 2 (b_7 c_1j c_7 c_13 c_1n)):=by
 refine okP tx.C_7 ["thing","levels"] λ_=> ?_
 kd_all
theorem z2d {j:Nat}(hj:3<=j)(_:qP Z "is_tuple_of" 3 1 c_j)(_:qP Z "is_kind_within" 2 j c_7):qP Z "are_kinds_within" 2 (j+1) (oP 2 (GS c_j c_7)):=by
 refine okP tx.C_1n ["thing","levels"] λ_=> ?_
 kd_all
theorem ok_3 (_:qP Z "is_kind_within" 2 23 c_7):qP Z "is_kind" 1 24 (oP 1 (b_3 c_7)):=by
 refine okP tx.C_3 ["thing"] λ_=> ?_
 kd_all
theorem z2e (_:qP Z "is_kind" 1 24 c_3):qP Z "need_kind" 1 25 (oP 1 (GT c_3)):=by
 refine okP tx.C_1d ["kind"] λ_=> ?_
 kd_all
theorem ok_2 {j:Nat}(hj:0<=j)(_:qP Z "count_of_parts" 1 j c_w)(_:qP Z "count_shorter" 2 j c_m):qP Z "count_of" 1 (j+1) (oP 1 (b_2 c_w c_m)):=by
 refine okP tx.C_2 ["kind"] λ_=> ?_
 kd_all
theorem ok_w {j:Nat}(hj:0<=j)(_:qP Z "count_of" 1 j c_2):qP Z "count_of_parts" 1 (j+1) (oP 3 (b_w c_2)):=by
 refine okP tx.C_w ["kinds","count","kind"] λ_=> ?_
 kd_all
theorem ok_m {j:Nat}(hj:0<=j)(_:qP Z "count_of_parts" 1 j c_w):qP Z "count_shorter" 2 (j+1) (oP 2 (b_m c_w)):=by
 refine okP tx.C_m ["kind","length"] λ_=> ?_
 kd_all
theorem z2f:qP Z "words_of_pick" 1 1 (oP 1 GV):=by
 refine okP tx.C_12 ["kind"] λ_=> ?_
 kd_all
theorem ok_a {j:Nat}(hj:20<=j)(_:qP Z "words_of_pick" 1 1 c_12)(_:qP Z "many_at" 2 j c_1m)(_:qP Z "parts_at" 2 j c_z):qP Z "worth_at" 2 (j+1) (oP 2 (b_a c_12 c_1m c_z)):=by
 refine okP tx.C_a ["kind","number"] λ_=> ?_
 kd_all
theorem z2g {j:Nat}(hj:20<=j)(_:qP Z "count_shorter" 2 20 c_m)(_:qP Z "parts_at" 2 j c_z):qP Z "many_at" 2 (j+1) (oP 3 (gz c_m c_z)):=by
 refine okP tx.C_1m ["kind","number","length"] λ_=> ?_
 kd_all
theorem ok_z {j:Nat}(hj:20<=j)(_:qP Z "count_of" 1 20 c_2)(_:qP Z "worth_at" 2 j c_a):qP Z "parts_at" 2 (j+1) (oP 6 (b_z c_2 c_a)):=by
 refine okP tx.C_z ["kinds","number","parts","rest","kind","count"] λ_=> ?_
 kd_all
theorem ok_u (_:qP Z "need_kind" 1 25 c_1d)(_:qP Z "count_of" 1 20 c_2)(_:qP Z "worth_at" 2 40 c_a):qP Z "all_worths" 1 41 (oP 2 (b_u c_1d c_2 c_a)):=by
 refine okP tx.C_u ["kind","count"] λ_=> ?_
 kd_all
theorem ok_k (_:qP Z "all_worths" 1 41 c_u):qI Z 101 "Sieve" 1 42 (oM 101 2 (b_k c_u)):=by
 refine okI tc.M_Sieve_init ["self","kind","?"] λ_ _=> ?_
 kd_all
theorem ok_g {j:Nat}(hj:2<=j)(_:qP Z "_law_pick" 3 2 c_1)(_:qP Z "_law_rule" 3 j c_g):qP Z "_law_rule" 3 (j+1) (oP 6 (b_g c_1 c_g)):=by
 refine okP tx.C_g ["_law_script","_law_at","_law_deep","_law_way","_law_one","_law_low"] λ_=> ?_
 kd_all
theorem ok_v (_:qP Z "_law_pick" 3 2 c_1)(_:qP Z "_law_rule" 3 10 c_g):qP Z "_law_deed" 2 11 (oP 2 (b_v c_1 c_g)):=by
 refine okP tx.C_v ["_law_script","_law_at"] λ_=> ?_
 kd_all
theorem ok_h {j:Nat}(hj:0<=j)(_:qP Z "_law_leaves" 1 j c_h):qP Z "_law_leaves" 1 (j+1) (oP 3 (b_h c_h)):=by
 refine okP tx.C_h ["_law_worth","_law_made","_law_part"] λ_=> ?_
 kd_all
theorem ok_8 {j:Nat}(hj:8<=j)(_:qP Z "_law_leaves" 1 8 c_h)(_:qP Z "_law_keeps" 2 j c_8):qP Z "_law_keeps" 2 (j+1) (oP 7 (b_8 c_h c_8)):=by
 refine okP tx.C_8 ["_law_rule_here","_law_worth","_law_numbers","_law_parts","_law_total","_law_number","_law_some"] λ_=> ?_
 kd_all
theorem ok_r (_:qP Z "_law_keeps" 2 16 c_8):qP Z "_law_sifted" 2 17 (oP 2 (b_r c_8)):=by
 refine okP tx.C_r ["_law_worths","_law_deed_here"] λ_=> ?_
 kd_all
theorem z2h (_:qP Z "is_whole" 1 1 c_f):qP Z "is_bound" 1 2 (oP 1 (z1C c_f)):=by
 refine okP tx.C_1e ["thing"] λ_=> ?_
 kd_all
theorem ok_i {j:Nat}(hj:2<=j)(_:qP Z "is_word" 1 1 c_s)(_:qP Z "is_rule_within" 2 j c_i)(_:qP Z "is_bound" 1 2 c_1e):qP Z "is_rule_within" 2 (j+1) (oP 2 (b_i c_s c_i c_1e)):=by
 refine okP tx.C_i ["thing","levels"] λ_=> ?_
 kd_all
theorem ok_6 (_:qP Z "is_rule_within" 2 10 c_i):qP Z "is_rule" 1 11 (oP 1 (b_6 c_i)):=by
 refine okP tx.C_6 ["thing"] λ_=> ?_
 kd_all
theorem z2i (_:qP Z "is_rule" 1 11 c_6):qP Z "need_rule" 1 12 (oP 1 (GX c_6)):=by
 refine okP tx.C_16 ["rule"] λ_=> ?_
 kd_all
theorem z2j:qO Z 101 "left" 0 1 (oO 101 1 0 b_1a):=by
 refine okO tc.A_Sieve tc.M_Sieve_left ["self","?"] λ_ _=> ?_
 kd_all
theorem ok_e {j:Nat}(hj:0<=j)(_:qP Z "leaves_of" 1 j c_e):qP Z "leaves_of" 1 (j+1) (oP 3 (b_e c_e)):=by
 refine okP tx.C_e ["worth","leaves","part"] λ_=> ?_
 kd_all
theorem z2k (_:qP Z "is_whole" 1 1 c_f)(_:qP Z "leaves_of" 1 8 c_e):qP Z "numbers_in" 1 9 (oP 1 (z1D c_f c_e)):=by
 refine okP tx.C_1c ["worth"] λ_=> ?_
 kd_all
theorem z2l:qP Z "parts_of" 1 1 (oP 1 b_1i):=by
 refine okP tx.C_1i ["worth"] λ_=> ?_
 kd_all
theorem z2m:qP Z "are_rising" 1 1 (oP 1 z1E):=by
 refine okP tx.C_1k ["numbers"] λ_=> ?_
 kd_all
theorem z2n:qP Z "are_unlike" 1 1 (oP 1 z1G):=by
 refine okP tx.C_1l ["parts"] λ_=> ?_
 kd_all
theorem z2o (_:qP Z "parts_of" 1 1 c_1i)(_:qP Z "leaves_of" 1 8 c_e)(_:qP Z "numbers_in" 1 9 c_1c)(_:qP Z "are_rising" 1 1 c_1k)(_:qP Z "are_unlike" 1 1 c_1l):qP Z "is_single_kept" 2 10 (oP 2 (z00 c_1i c_e c_1c c_1k c_1l)):=by
 refine okP tx.C_11 ["rule","worth"] λ_=> ?_
 kd_all
theorem ok_c {j:Nat}(hj:10<=j)(_:qP Z "is_kept" 2 j c_c)(_:qP Z "is_single_kept" 2 10 c_11):qP Z "is_kept" 2 (j+1) (oP 2 (b_c c_c c_11)):=by
 refine okP tx.C_c ["rule","worth"] λ_=> ?_
 kd_all
theorem z2p (_:qP Z "is_kept" 2 18 c_c):qP Z "left_by" 2 19 (oP 3 (z01 c_c)):=by
 refine okP tx.C_17 ["step","worths","is_keep"] λ_=> ?_
 kd_all
theorem ok_l (_:qP Z "left_by" 2 19 c_17):qM Z 101 "do_step" 1 20 (oM 101 2 (b_l c_17)):=by
 refine okM tc.A_Sieve tc.M_Sieve_do_step ["self","step","?"] λ_ _=> ?_
 kd_all
theorem ok_o (_:qP Z "need_rule" 1 12 c_16)(_:qO Z 101 "left" 0 1 c_1a)(_:qM Z 101 "do_step" 1 20 c_l):qM Z 101 "new_step" 2 21 (oM 101 4 (b_o c_16 c_1a c_l)):=by
 refine okM tc.A_Sieve tc.M_Sieve_new_step ["self","word","rule","before","?"] λ_ _=> ?_
 kd_all
theorem z2q (_:qM Z 101 "new_step" 2 21 c_o):qM Z 101 "keep" 1 22 (oM 101 2 (b_1f c_o)):=by
 refine okM tc.A_Sieve tc.M_Sieve_keep ["self","rule","?"] λ_ _=> ?_
 kd_all
theorem z2r (_:qM Z 101 "new_step" 2 21 c_o):qM Z 101 "bar" 1 22 (oM 101 2 (b_1g c_o)):=by
 refine okM tc.A_Sieve tc.M_Sieve_bar ["self","rule","?"] λ_ _=> ?_
 kd_all
theorem ok_t (_:qM Z 101 "keep" 1 22 c_1f)(_:qM Z 101 "bar" 1 22 c_1g):qFM Z 101 "_law_did" 1 23 (oM 101 2 (b_t c_1f c_1g)):=by
 refine okFM tx.C__law_did ["_law_sieve","_law_deed_here","?"] λ_=> ?_
 kd_all
theorem ok_4:qM Z 101 "back" 0 1 (oM 101 2 b_4):=by
 refine okM tc.A_Sieve tc.M_Sieve_back ["self","step","?"] λ_ _=> ?_
 kd_all
theorem z2s (_:qI Z 101 "Sieve" 1 42 c_k):qV Z 101 "twin" 44 (oV 101 2 1 (z02 c_k)):=by
 refine okV tc.A_Sieve tc.M_Sieve_twin ["self","other","?"] λ_ _=> ?_
 kd_all
theorem z2t:qO Z 101 "counts" 0 1 (oO 101 1 0 b_18):=by
 refine okO tc.A_Sieve tc.M_Sieve_counts ["self","?"] λ_ _=> ?_
 kd_all
theorem ok_x:qO Z 101 "worths" 0 1 (oO 101 1 0 b_x):=by
 refine okO tc.A_Sieve tc.M_Sieve_worths ["self","?"] λ_ _=> ?_
 kd_all
theorem z2u:qO Z 101 "steps" 0 1 (oO 101 1 0 b_19):=by
 refine okO tc.A_Sieve tc.M_Sieve_steps ["self","?"] λ_ _=> ?_
 kd_all
theorem z2v:qO Z 101 "base" 0 1 (oO 101 1 0 b_1o):=by
 refine okO tc.A_Sieve tc.M_Sieve_base ["self","?"] λ_ _=> ?_
 kd_all
theorem ok_q (_:qM Z 101 "do_step" 1 20 c_l):qM Z 101 "forth" 0 21 (oM 101 2 (b_q c_l)):=by
 refine okM tc.A_Sieve tc.M_Sieve_forth ["self","step","?"] λ_ _=> ?_
 kd_all
theorem ok_p:QCM "_law_class" 1 (oC 2 b_p) Z:=by
 refine okCM tx.C_p ["_law_kept","_law_kinds"] λ_=> ?_
 kd_all
theorem ok_n:qO Z 101 "back" 0 1 (oO 101 2 0 b_n):=by
 refine okO tc.A_Sieve tc.M_Sieve_back ["self","step","?"] λ_ _=> ?_
 kd_all
theorem ok_0 {f c:Addr}{fd:FuncData}(C:Fn Z.K Z.mg "law" (top 76) ["_law_script"] f fd)(ec:fd.code= .ref c)(hd:cQ Z.K c Pt=true)(hBT:Z.base.BuiltinsAt Z.mg Pt)(_:qP Z "_law_all" 1 9 c_5)(_:qP Z "_law_small" 3 18 c_14)(_:QD "_law_told" 1 okX c_p Z)(_:qP Z "_law_deed" 2 11 c_v)(_:qP Z "_law_sifted" 2 17 c_r)(_:qI Z 101 "Sieve" 1 42 c_k)(_:qO Z 101 "worths" 0 1 c_x)(_:qO Z 101 "base" 0 1 c_1o)(_:qO Z 101 "steps" 0 1 c_19)(U_Sieve_back:∀b,Z.K.In b->qM { Z with base:=b } 101 "back" 0 1 c_4)(U_Sieve_back_O:∀b,Z.K.In b->qO { Z with base:=b } 101 "back" 0 1 c_n)(_:qM Z 101 "forth" 0 21 c_q)(_:qO Z 101 "counts" 0 1 c_18)(_:qV Z 101 "twin" 44 c_1b)(_:qFM Z 101 "_law_did" 1 23 c_t)(_:qM Z 101 "back" 0 1 c_4)(_:qO Z 101 "back" 0 1 c_n):ZW Z.P Z.w Z.K Z.mg Z.base (CX1 Z.P Z.w) 45 f fd ["_law_script"] (Vf Z.cl 1 (oS 13 (b_0 c_5 c_14 c_p c_v c_r c_k c_x c_1o c_19 c_4 c_n c_q c_18 c_1b c_t)) Pt (qlT "law")):=by
 refine z1y C ec hd hBT ["_law_script","_law_kind_here","_law_sieve","_law_rows","_law_k","_law_deed_here","_law_other","_law_one","_law_at","_law_here","_law_some","?q","?"] ?_;intro A outer s H E Y L hT hy hE hr nd hp
 repeat' gp_on
end
section
variable {Z:Zz}{Pt:Addr}(tx:Tx Z.K Z.mg)(xq:Tq Z.K Z.mg Z.base Z.cl)(tc:To Z.K Z.mg Z.cl)
include tx xq tc
theorem Ji:qO Z 101 "back" 0 1 (f_n):=by
 have O_n:qO Z 101 "back" 0 1 f_n:=ok_n tx xq tc;exact O_n
theorem we:qM Z 101 "back" 0 1 (f_4):=by
 have O_4:qM Z 101 "back" 0 1 f_4:=ok_4 tx xq tc;exact O_4
theorem wf:QCM "_law_class" 1 (f_p) Z:=by
 have O_p:QCM "_law_class" 1 f_p Z:=ok_p tx xq tc;exact O_p
theorem Gz (xqb:∀b,Z.K.In b->Tq Z.K Z.mg b Z.cl){f c:Addr}{fd:FuncData}(C:Fn Z.K Z.mg "law" (top 76) ["_law_script"] f fd)(ec:fd.code= .ref c)(hd:cQ Z.K c Pt=true)(hBT:Z.base.BuiltinsAt Z.mg Pt):ZW Z.P Z.w Z.K Z.mg Z.base (CX1 Z.P Z.w) 45 f fd ["_law_script"] (Vf Z.cl 1 f_0 Pt (qlT "law")):=by
 have U_Sieve_back_O:∀b,Z.K.In b->qO { Z with base:=b } 101 "back" 0 1 (f_n):=λb hb=>Ji (Z:={ Z with base:=b }) tx (xqb b hb) tc;have U_Sieve_back:∀b,Z.K.In b->qM { Z with base:=b } 101 "back" 0 1 (f_4):=λb hb=>we (Z:={ Z with base:=b }) tx (xqb b hb) tc;have U__law_class:∀b,Z.K.In b->QCM "_law_class" 1 (f_p) { Z with base:=b }:=λb hb=>wf (Z:={ Z with base:=b }) tx (xqb b hb) tc;have O_1h:qP Z "_law_cell" 2 1 gr:=z27 tx xq tc;have O_1:qP Z "_law_pick" 3 2 f_1:=ok_1 tx xq tc O_1h;have O_y:qP Z "_law_word_of" 2 3 f_y:=ok_y tx xq tc O_1;have O_10:qP Z "_law_leaf_kind" 2 4 gs:=z28 tx xq tc O_1 O_y;have R_b:∀n:Nat,qP Z "_law_kind" 3 (4+n) (S_b n 0):=by
  intro n
  induction n with
  | zero=>exact okB tx.C_b
  | succ n ih=>exact ok_b tx xq tc (aK _ _) O_1 O_10 ih
 have O_b:qP Z "_law_kind" 3 12 (f_b 8):=(R_b 8);have O_d:qP Z "_law_rows_of" 1 1 f_d:=ok_d tx xq tc;have R_5:∀n:Nat,qP Z "_law_all" 1 (1+n) (S_5 n 0):=by
  intro n
  induction n with
  | zero=>exact okB tx.C_5
  | succ n ih=>exact ok_5 tx xq tc (aK _ _) ih O_d
 have O_5:qP Z "_law_all" 1 9 (f_5 8):=(R_5 8);have R_9:∀n:Nat,qP Z "_law_size" 1 (9+n) (S_9 n 0):=by
  intro n
  induction n with
  | zero=>exact okB tx.C_9
  | succ n ih=>exact ok_9 tx xq tc (aK _ _) O_5 ih
 have O_9:qP Z "_law_size" 1 17 (f_9 8):=(R_9 8);have O_14:qP Z "_law_small" 3 18 gu:=z29 tx xq tc O_b O_9;have O_f:qP Z "is_whole" 1 1 f_f:=ok_f tx xq tc;have O_1j:qP Z "is_span" 4 2 GP:=z2a tx xq tc O_f;have O_j:qP Z "is_tuple_of" 3 1 f_j:=ok_j tx xq tc;have O_s:qP Z "is_word" 1 1 f_s:=ok_s tx xq tc;have O_15:qP Z "is_choice" 1 2 gv:=z2b tx xq tc O_f O_j O_s;have O_13:qP Z "are_choices" 1 3 gw:=z2c tx xq tc O_j O_15;have R_7:∀n:Nat,qP Z "is_kind_within" 2 (3+n) (S_7 n 0)/\qP Z "are_kinds_within" 2 (3+n) (S_7 n 1):=by
  intro n
  induction n with
  | zero=>exact⟨okB tx.C_7,okB tx.C_1n⟩
  | succ n ih=>exact⟨ok_7 tx xq tc (aK _ _) O_1j ih.1 O_13 ih.2,z2d tx xq tc (aK _ _) O_j ih.1⟩
 have O_7:qP Z "is_kind_within" 2 23 (f_7 20):=(R_7 20).1;have O_1n:qP Z "are_kinds_within" 2 23 (f_1n 20):=(R_7 20).2;have O_3:qP Z "is_kind" 1 24 f_3:=ok_3 tx xq tc O_7;have O_1d:qP Z "need_kind" 1 25 GU:=z2e tx xq tc O_3;have R_2:∀n:Nat,qP Z "count_of" 1 (0+n) (S_2 n 0)/\qP Z "count_of_parts" 1 (0+n) (S_2 n 1)/\qP Z "count_shorter" 2 (0+n) (S_2 n 2):=by
  intro n
  induction n with
  | zero=>exact⟨okB tx.C_2,okB tx.C_w,okB tx.C_m⟩
  | succ n ih=>exact⟨ok_2 tx xq tc (aK _ _) ih.2.1 ih.2.2,ok_w tx xq tc (aK _ _) ih.1,ok_m tx xq tc (aK _ _) ih.2.1⟩
 have O_2:qP Z "count_of" 1 20 (f_2 20):=(R_2 20).1;have O_w:qP Z "count_of_parts" 1 20 (f_w 20):=(R_2 20).2.1;have O_m:qP Z "count_shorter" 2 20 (f_m 20):=(R_2 20).2.2;have O_12:qP Z "words_of_pick" 1 1 gy:=z2f tx xq tc;have R_a:∀n:Nat,qP Z "worth_at" 2 (20+n) (S_a n 0)/\qP Z "many_at" 2 (20+n) (S_a n 1)/\qP Z "parts_at" 2 (20+n) (S_a n 2):=by
  intro n
  induction n with
  | zero=>exact⟨okB tx.C_a,okB tx.C_1m,okB tx.C_z⟩
  | succ n ih=>exact⟨ok_a tx xq tc (aK _ _) O_12 ih.2.1 ih.2.2,z2g tx xq tc (aK _ _) O_m ih.2.2,ok_z tx xq tc (aK _ _) O_2 ih.1⟩
 have O_a:qP Z "worth_at" 2 40 (f_a 20):=(R_a 20).1;have O_1m:qP Z "many_at" 2 40 (f_1m 20):=(R_a 20).2.1;have O_z:qP Z "parts_at" 2 40 (f_z 20):=(R_a 20).2.2;have O_u:qP Z "all_worths" 1 41 f_u:=ok_u tx xq tc O_1d O_2 O_a;have O_k:qI Z 101 "Sieve" 1 42 f_k:=ok_k tx xq tc O_u;have R_g:∀n:Nat,qP Z "_law_rule" 3 (2+n) (S_g n 0):=by
  intro n
  induction n with
  | zero=>exact okB tx.C_g
  | succ n ih=>exact ok_g tx xq tc (aK _ _) O_1 ih
 have O_g:qP Z "_law_rule" 3 10 (f_g 8):=(R_g 8);have O_v:qP Z "_law_deed" 2 11 f_v:=ok_v tx xq tc O_1 O_g;have R_h:∀n:Nat,qP Z "_law_leaves" 1 (0+n) (S_h n 0):=by
  intro n
  induction n with
  | zero=>exact okB tx.C_h
  | succ n ih=>exact ok_h tx xq tc (aK _ _) ih
 have O_h:qP Z "_law_leaves" 1 8 (f_h 8):=(R_h 8);have R_8:∀n:Nat,qP Z "_law_keeps" 2 (8+n) (S_8 n 0):=by
  intro n
  induction n with
  | zero=>exact okB tx.C_8
  | succ n ih=>exact ok_8 tx xq tc (aK _ _) O_h ih
 have O_8:qP Z "_law_keeps" 2 16 (f_8 8):=(R_8 8);have O_r:qP Z "_law_sifted" 2 17 f_r:=ok_r tx xq tc O_8;have O_1e:qP Z "is_bound" 1 2 GW:=z2h tx xq tc O_f;have R_i:∀n:Nat,qP Z "is_rule_within" 2 (2+n) (S_i n 0):=by
  intro n
  induction n with
  | zero=>exact okB tx.C_i
  | succ n ih=>exact ok_i tx xq tc (aK _ _) O_s ih O_1e
 have O_i:qP Z "is_rule_within" 2 10 (f_i 8):=(R_i 8);have O_6:qP Z "is_rule" 1 11 f_6:=ok_6 tx xq tc O_i;have O_16:qP Z "need_rule" 1 12 gA:=z2i tx xq tc O_6;have O_1a:qO Z 101 "left" 0 1 gB:=z2j tx xq tc;have R_e:∀n:Nat,qP Z "leaves_of" 1 (0+n) (S_e n 0):=by
  intro n
  induction n with
  | zero=>exact okB tx.C_e
  | succ n ih=>exact ok_e tx xq tc (aK _ _) ih
 have O_e:qP Z "leaves_of" 1 8 (f_e 8):=(R_e 8);have O_1c:qP Z "numbers_in" 1 9 GY:=z2k tx xq tc O_f O_e;have O_1i:qP Z "parts_of" 1 1 GZ:=z2l tx xq tc;have O_1k:qP Z "are_rising" 1 1 z1F:=z2m tx xq tc;have O_1l:qP Z "are_unlike" 1 1 z1H:=z2n tx xq tc;have O_11:qP Z "is_single_kept" 2 10 gC:=z2o tx xq tc O_1i O_e O_1c O_1k O_1l;have R_c:∀n:Nat,qP Z "is_kept" 2 (10+n) (S_c n 0):=by
  intro n
  induction n with
  | zero=>exact okB tx.C_c
  | succ n ih=>exact ok_c tx xq tc (aK _ _) ih O_11
 have O_c:qP Z "is_kept" 2 18 (f_c 8):=(R_c 8);have O_17:qP Z "left_by" 2 19 gD:=z2p tx xq tc O_c;have O_l:qM Z 101 "do_step" 1 20 f_l:=ok_l tx xq tc O_17;have O_o:qM Z 101 "new_step" 2 21 f_o:=ok_o tx xq tc O_16 O_1a O_l;have O_1f:qM Z 101 "keep" 1 22 gE:=z2q tx xq tc O_o;have O_1g:qM Z 101 "bar" 1 22 gF:=z2r tx xq tc O_o;have O_t:qFM Z 101 "_law_did" 1 23 f_t:=ok_t tx xq tc O_1f O_1g;have O_4:qM Z 101 "back" 0 1 f_4:=ok_4 tx xq tc;have O_1b:qV Z 101 "twin" 44 z03:=z2s tx xq tc O_k;have O_18:qO Z 101 "counts" 0 1 gG:=z2t tx xq tc;have O_x:qO Z 101 "worths" 0 1 f_x:=ok_x tx xq tc;have O_19:qO Z 101 "steps" 0 1 gH:=z2u tx xq tc;have O_1o:qO Z 101 "base" 0 1 z1I:=z2v tx xq tc;have O_q:qM Z 101 "forth" 0 21 f_q:=ok_q tx xq tc O_l;have O_p:QCM "_law_class" 1 f_p Z:=ok_p tx xq tc;have O_n:qO Z 101 "back" 0 1 f_n:=ok_n tx xq tc;have O__law_told:QD "_law_told" 1 okX f_p Z:=okTd (N:=["_law_deed_here","e"]) (i:=1) tx.C__law_told xq.m_WorthError xq.e_WorthError U__law_class (by refine⟨rfl,rfl,rfl, ?_,rfl, ?_, ?_⟩ <;> decide+kernel) rfl rfl rfl rfl rfl rfl rfl
 exact ok_0 tx xq tc C ec hd hBT O_5 O_14 O__law_told O_v O_r O_k O_x O_1o O_19 U_Sieve_back U_Sieve_back_O O_q O_18 O_1b O_t O_4 O_n
end
noncomputable def VB:List Str:=["NoKind","NoWorth","NoRule","TooMany","Ended","NoText","NoBack"]
noncomputable def clK (K:a8)(c:Nat):Value:=match bL K mainGlobals (if c=101 then ("Sieve":Str) else if c=102 then "Finder" else VB.getD c "") with
 | some (some v)=>v
 | _=> .none
theorem GA {K:a8}{c:Nat}{x:Str}{q:Addr}(hx:(if c=101 then ("Sieve":Str) else if c=102 then "Finder" else VB.getD c "")=x)(h:bL K mainGlobals x=some (some (.ref q))):clK K c= .ref q:=by unfold clK;rw[hx,h]
noncomputable def z2w:List Nat:=[0,1,2,3,4,5,6]
def Q6 (p:Nat->Bool):Bool:=z2w.all p
theorem GB {c:Nat}(h:okX c=true):c∈z2w:=by
 unfold okX at h;unfold z2w;simpa using h
theorem ZN {p:Nat->Bool}(h:Q6 p=true){c:Nat}(hc:okX c=true):p c=true:=aT.mp h c (GB hc)
noncomputable def XJ (K:a8)(v:Value):Bool:=match v with
 | .ref C=>bf K (.ref C) "__getattribute__" == some (some (.builtin "BaseException.__getattribute__")) && (bf K (.ref C) "__getattr__" == some none && (bf K (.ref C) "__class__" == some (some (.builtin "object.__class__")) && (fS K (.builtin "object.__class__") "__get__" == some (some (.builtin "getset_descriptor.__get__")) && (iu K (.builtin "object.__class__") == some true && (fG K C (.type "object") == some true && (fG K C (.type "BaseException") == some true && (PySem.W.clsIn K C).isSome))))))
 | _=>false
theorem vM {K:a8}{v:Value}(h:XJ K v=true):∃C,v= .ref C/\PySem.W.XCls K C:=by
 unfold XJ at h;split at h
 ·rename_i C;simp only[ae,beq_iff_eq]at h;obtain⟨h1,h2,h3,h4,h5,h6,h7,h8⟩:=h;exact⟨C,rfl,h1,h2,h3,h4,h5,h6,h7,h8⟩
 ·cases h
theorem GC {K:a8}{base:Heap}{mg:Str->Option Value}{x:Str}{C:Addr}{bmB:List Value}{newId:String}(KB:K.In base)(hb:mg x=some (.ref C))(h:fJ K C bmB newId=true):OwnCls x C bmB newId mg base:=by
 unfold fJ at h;split at h
 ·rename_i dd cd sl hC;split at h
  ·rename_i C1 bm a0 a1 a2 a3 m a5 hm hs;simp only[ae,beq_iff_eq,hJ]at h;obtain⟨⟨⟨⟨⟨h1,h2⟩,h3⟩,h4⟩,h5⟩,h6⟩:=h;subst h1 h2;cases cd with
   | mk nm bs mro ns qn hd sn sub ab col del=>
    dsimp only at hm h3 h5 h6;subst hm h3;obtain rfl:sl= #[a0,a1,a2,a3,some (.builtin m),a5]:=by
     cases sl;simp only at hs;rw[hs]
    exact⟨hb,bm,ns,nm,qn,bs,hd,sn,sub,ab,col,dd,a0,a1,a2,a3,a5,_,KB _ _ hC,.of_isNs (PySem.W.isNs_of_in KB h5),PySem.W.nsMap_none_of_in KB h5 h6,PySem.W.tail_of_in KB h4⟩
  ·cases h
 ·cases h
theorem lz1 {fd:FuncData}{p0:Str}(us:List Value)(hl:us.length=1)(h:∀a0,bindArgs fd ⟨[a0],[]⟩=pure ([p0].zip [a0])):bindArgs fd ⟨us,[]⟩=pure ([p0].zip us):=match us,hl with | [a0],_=>h a0
theorem lz2 {fd:FuncData}{p0 p1:Str}(us:List Value)(hl:us.length=2)(h:∀a0 a1,bindArgs fd ⟨[a0,a1],[]⟩=pure ([p0,p1].zip [a0,a1])):bindArgs fd ⟨us,[]⟩=pure ([p0,p1].zip us):=match us,hl with | [a0,a1],_=>h a0 a1
theorem lz3 {fd:FuncData}{p0 p1 p2:Str}(us:List Value)(hl:us.length=3)(h:∀a0 a1 a2,bindArgs fd ⟨[a0,a1,a2],[]⟩=pure ([p0,p1,p2].zip [a0,a1,a2])):bindArgs fd ⟨us,[]⟩=pure ([p0,p1,p2].zip us):=match us,hl with | [a0,a1,a2],_=>h a0 a1 a2
theorem lz4 {fd:FuncData}{p0 p1 p2 p3:Str}(us:List Value)(hl:us.length=4)(h:∀a0 a1 a2 a3,bindArgs fd ⟨[a0,a1,a2,a3],[]⟩=pure ([p0,p1,p2,p3].zip [a0,a1,a2,a3])):bindArgs fd ⟨us,[]⟩=pure ([p0,p1,p2,p3].zip us):=match us,hl with | [a0,a1,a2,a3],_=>h a0 a1 a2 a3
theorem fn1 {K:a8}{h:Heap}{mg:Str->Option Value}{f:Addr}{od an:Option Addr}{sl:Array (Option Value)}{oc kV dc pm cd ct:Value}{x:Str}{st:Stmt}{ps:List Str}(X:K.In h)(G:h.Ns mainGlobals mg)(e:bL K mainGlobals x=some (some (.ref f)))(l:K.lookup f=some ⟨oc,od,.func (bB x x (Zo st) (zI st) (zr st) .none kV dc pm an cd ct),sl⟩)(g:db K cd x=true)(k:bJ K (.ref f)=true)
  (hb:∀F:Fun K x x st f (bB x x (Zo st) (zI st) (zr st) .none kV dc pm an cd ct),L2.Binds K (bB x x (Zo st) (zI st) (zr st) .none kV dc pm an cd ct) ps []):Fn K mg x st ps f (bB x x (Zo st) (zI st) (zr st) .none kV dc pm an cd ct):=
 have F:=vT (st:=st) l g k
 ⟨F,hb F,bP X G e⟩
theorem zs_of {K:a8}{h:Heap}{mg:Str->Option Value}{zs:List Str}(X:K.In h)(G:h.Ns mainGlobals mg)(hz:(zs.all λx=>bL K mainGlobals x == some none)=true):∀x,zs.contains x=true->mg x=none:=λx hx=>PySem.W.mg_none_of X G (beq_iff_eq.mp (aT.mp hz x (fk.mp hx)))
theorem fo1 {K:a8}{f C:Addr}{od an:Option Addr}{sl:Array (Option Value)}{oc kV dc pm cd ct:Value}{x qual:Str}{st:Stmt}{ps:List Str}(i:bf K (.ref C) x=some (some (.ref f)))(l:K.lookup f=some ⟨oc,od,.func (bB x qual (Zo st) (zI st) (zr st) .none kV dc pm an cd ct),sl⟩)(g:db K cd qual=true)(k:bJ K (.ref f)=true)(fn:eT K (.ref f)=true)
  (hb:∀F:Fun K x qual st f (bB x qual (Zo st) (zI st) (zr st) .none kV dc pm an cd ct),L2.Binds K (bB x qual (Zo st) (zI st) (zr st) .none kV dc pm an cd ct) ps []):FnO K x qual st ps f (bB x qual (Zo st) (zI st) (zr st) .none kV dc pm an cd ct) C:=
 have F:=vT (st:=st) l g k
 ⟨F,hb F,⟨i,fn,k⟩⟩
theorem no_of {K:a8}{C:Addr}{as:List Str}(hz:(as.all λx=>bf K (.ref C) x == some none)=true):∀x,as.contains x=true->L2.NoAttr K C x:=λx hx=>beq_iff_eq.mp (aT.mp hz x (fk.mp hx))
noncomputable abbrev Tx' {K:a8}{h:Heap}(_:K.In h)(mg:Str->Option Value):Prop:=Tx K mg
abbrev To' {K:a8}{h:Heap}(_:K.In h)(mg:Str->Option Value):Prop:=To K mg (clK K)
def Q7 (K:a8):Bool:=K.all λp=> !(p.2.cls == Value.type "list")
theorem XL {K:a8}(h:Q7 K=true){a:Addr}{o:Obj}(e:K.lookup a=some o)(c:o.cls=Value.type "list"):False:=by
 have hm:(a,o)∈K:=by
  clear h
  induction K with
  | nil=>cases e
  | cons p r ih=>
   obtain⟨b,u⟩:=p
   by_cases hb:a=b
   ·subst hb;have e' :some u=some o:=by simpa[aJ] using e
    cases e';exact am
   ·have e' :r.lookup a=some o:=by rw[aJ,(beq_eq_false_iff_ne.mpr hb)]at e;exact e
    exact ac _ (ih e')
 have:=aT.mp h _ hm;rw[c]at this;simp at this
noncomputable def tabO (o:Obj):Option Addr:=match o.data with
 | .fields vs=>(match (vs[11]? :Option Value) with | some (.ref P)=>some P | _=>none)
 | _=>none
structure z2x (K:a8) (c P:Addr) (o:Obj):Prop where
 t:K.lookup c=some o
 u:tabO o=some P
 h:cQ K c P=true
 n:K.lookup P=none
abbrev TP {K:a8}{h:Heap}(_:K.In h)(mg:Str->Option Value):Prop:=∃f fd c Pt o,Fn K mg "law" (top 76) ["_law_script"] f fd/\fd.code= .ref c/\z2x K c Pt o/\h.get? Pt=some (dj #[])
theorem fin_ {l:PySem.W.OpenLaw}{w:World}{K:a8}{h:Heap}{mg:Str->Option Value}{fa:Addr}(X:K.In h)(G:h.Ns mainGlobals mg)(hfa:mg "law"=some (.ref fa))(tx:Tx K mg)(tc:To K mg (clK K))(tp:TP X mg){q_Ended q_NoBack q_NoKind q_NoRule q_NoText q_NoWorth q_TooMany q_WorthError:Addr}(n_Ended:bL K mainGlobals "Ended"=some (some (.ref q_Ended)))(n_NoBack:bL K mainGlobals "NoBack"=some (some (.ref q_NoBack)))(n_NoKind:bL K mainGlobals "NoKind"=some (some (.ref q_NoKind)))(n_NoRule:bL K mainGlobals "NoRule"=some (some (.ref q_NoRule)))(n_NoText:bL K mainGlobals "NoText"=some (some (.ref q_NoText)))(n_NoWorth:bL K mainGlobals "NoWorth"=some (some (.ref q_NoWorth)))(n_TooMany:bL K mainGlobals "TooMany"=some (some (.ref q_TooMany)))(n_WorthError:bL K mainGlobals "WorthError"=some (some (.ref q_WorthError)))(b_K:Q6 (λc=>XJ K (clK K c))=true)(b_e_WorthError:Q6 (λc=>PySem.W.exmOne K (clK K c) (.ref q_WorthError) == some true)=true)(b_o_NoBack:fJ K q_NoBack bmVE "ValueError.__new__"=true)(b_t_Ended:Q6 (λc=>aO K (clK K c) (.ref q_Ended) == some (JI c))=true)(b_t_NoBack:Q6 (λc=>aO K (clK K c) (.ref q_NoBack) == some (jX c))=true)(b_t_NoKind:Q6 (λc=>aO K (clK K c) (.ref q_NoKind) == some (jU c))=true)(b_t_NoRule:Q6 (λc=>aO K (clK K c) (.ref q_NoRule) == some (jV c))=true)(b_t_NoText:Q6 (λc=>aO K (clK K c) (.ref q_NoText) == some (jW c))=true)(b_t_NoWorth:Q6 (λc=>aO K (clK K c) (.ref q_NoWorth) == some (ju c))=true)(b_t_TooMany:Q6 (λc=>aO K (clK K c) (.ref q_TooMany) == some (jv c))=true)(b_t_ValueError:Q6 (λc=>aO K (clK K c) (.type "ValueError") == some (ZI c))=true):∃(fd:FuncData) (c Pt:Addr),(∀(s:Shared) (v:Value),BindsTo s fd ⟨[v],[]⟩ [("_law_script",v)])/\h.get? Pt=some (dj #[])/\K.lookup Pt=none/\cQ K c Pt=true/\∀base:Heap,K.In base->base.BuiltinsAt mg Pt->ZW l.prog w K mg base (CX1 l.prog w) 45 fa fd ["_law_script"] (Vf (clK K) 1 f_0 Pt (qlT "law")):=by
 obtain⟨f,fd,c,Pt,o,C,ec,tk,hm⟩:=tp;have e:=hfa.symm.trans C.m;cases e;obtain⟨oc,od,kV,doc,pm,an,cdv,ct,osl,rfl,lk,hcd⟩:=C.F.ex;have xqb:∀b,K.In b->Tq K mg b (clK K):=λbase KB=>⟨q_Ended,q_NoBack,q_NoKind,q_NoRule,q_NoText,q_NoWorth,q_TooMany,q_WorthError,⟨λc hc=>vM (ZN b_K hc)⟩,(λc hc=>beq_iff_eq.mp (ZN b_e_WorthError hc)),(GA (x:="NoBack") rfl n_NoBack),(bP X G n_Ended),(bP X G n_NoBack),(bP X G n_NoKind),(bP X G n_NoRule),(bP X G n_NoText),(bP X G n_NoWorth),(bP X G n_TooMany),(bP X G n_WorthError),(GC KB (bP X G n_NoBack) b_o_NoBack),(λc hc=>beq_iff_eq.mp (ZN b_t_Ended hc)),(λc hc=>beq_iff_eq.mp (ZN b_t_NoBack hc)),(λc hc=>beq_iff_eq.mp (ZN b_t_NoKind hc)),(λc hc=>beq_iff_eq.mp (ZN b_t_NoRule hc)),(λc hc=>beq_iff_eq.mp (ZN b_t_NoText hc)),(λc hc=>beq_iff_eq.mp (ZN b_t_NoWorth hc)),(λc hc=>beq_iff_eq.mp (ZN b_t_TooMany hc)),(λc hc=>beq_iff_eq.mp (ZN b_t_ValueError hc))⟩;exact⟨_,c,Pt,λs v=> .of_eq rfl,hm,tk.n,tk.h,λbase KB hBT=>Gz (Z:=⟨l.prog,w,K,mg,base,(clK K)⟩) tx (xqb base KB) tc xqb C ec tk.h hBT⟩
theorem GD {cl:Nat->Value}{H:Hp}{a Pt:Addr}{o:Obj}{q:Str}{ns:List Int}(hL:f_0 [.fz (ns.map T.int)]= .ok (.bl true))(h:H a=some (.frz o (.lst (ns.map V.int))))(h2:H Pt=some (.tbl #[] q)):Vf cl 1 f_0 Pt q [.ref a] H (λv _=>v= .bl true) λ_ _ _=>False:=by
 have scrR:∀ns:List Int,zE H (ns.map V.int) (ns.map T.int):=λns=>by
  induction ns with
  | nil=>exact .nil
  | cons n r ih=>exact .cons (.int n) ih
 refine⟨h2,H,[.fz (ns.map T.int)],rfl,zu.refl H,.cons (.fz h (scrR ns)) .nil, ?_⟩;rw[hL];intro v H' _ r;cases r;rfl
theorem walk {l:PySem.W.OpenLaw}{q:Program}{loose:List Str}{XP:(Str->Option Value)->Heap->Prop}{YP:World->Heap->Prop}{d:DefRec}{K:Params->a8}{ts:List Addr}(hn:l.most=some 63)(hdf:d.params.defaults=[])
  (hL:∀ns:List Int,ns.length<=63->f_0 [.fz (ns.map T.int)]= .ok (.bl true)) (hK:∀p,Q7 (K p)=true)
  (hY:∀(w:World) (h:Heap),YP w h->(K w.params).In h/\∀P∈ts,h.get? P=some (dj #[]))
  (F:∀(w:World) (mg:Str->Option Value) (fa:Addr) (h:Heap),(K w.params).In h->h.Ns mainGlobals mg->mg d.name=some (.ref fa)->(∀P∈ts,h.get? P=some (dj #[]))->
   ∃(fd:FuncData) (c Pt:Addr),(∀(s:Shared) (u:Value),BindsTo s fd ⟨[u],[]⟩ [("_law_script",u)])/\h.get? Pt=some (dj #[])/\(K w.params).lookup Pt=none/\cQ (K w.params) c Pt=true/\∀base:Heap,(K w.params).In base->base.BuiltinsAt mg Pt->ZW l.prog w (K w.params) mg base (CX1 l.prog w) 45 fa fd ["_law_script"] (Vf (clK (K w.params)) 1 f_0 Pt (qlT "law"))):
  PySem.W.WalkO q loose XP YP l.row.toRowW d [] (λf vs=>iE f vs):=
 L2.walk_ofT (n:=63) (k:=45) (x:="_law_script") (nm:=(qlT "law")) (CX:=λw=>(CX1 l.prog w)) (sp:=λw Pt=>Vf (clK (K w.params)) 1 f_0 Pt (qlT "law")) hn (by decide) hdf ⟨rfl,by decide,by decide,rfl⟩ hY (λw a o e c=>XL (hK w.params) e c) F (λw H a Pt o ns hl h1 h2=>GD (hL ns hl) h1 h2) λ_ _ _ _ _ ⟨_,_,_,_,_,_,_,z⟩=>z
end G
namespace PySem.W.Fast
noncomputable def tw3909882564609798415:=0
noncomputable def tw4561496740038093002:=0
noncomputable def tw6238196186321951641:=0
noncomputable def tw4981187648454300551:=0
noncomputable def tw4642050475119927443:=0
noncomputable def tw5821683270614813169:=0
noncomputable def tw13004039303351109135:=0
noncomputable def tw7212625371582743321:=0
noncomputable def tw17900755882817444209:=0
noncomputable def tw8443261916371690311:=0
noncomputable def tw13823937132614870568:=0
noncomputable def tw12322367457529316359:=0
noncomputable def tw8675510035253773896:=0
noncomputable def tw4670940292723887535:=0
noncomputable def tw3519270462089998119:=0
noncomputable def tw13073842874984276734:=0
noncomputable def tw5337708637265153863:=0
noncomputable def tw3574209246365028251:=0
noncomputable def tw15494500367812037343:=0
noncomputable def tw8344101977195772052:=0
noncomputable def tw12501057296346757751:=0
noncomputable def tw13181214188694963459:=0
noncomputable def tw12195846862998288249:=0
noncomputable def tw17801070525840602340:=0
noncomputable def tw10985530521380336081:=0
noncomputable def tw3284812886958771782:=0
noncomputable def tw1784825146334871605:=0
noncomputable def tw5188889126850512374:=0
noncomputable def tw16970810659117210554:=0
noncomputable def tw1190880491276953563:=0
noncomputable def tw9596068733539472204:=0
noncomputable def tw10201380397241632625:=0
noncomputable def tw2173567445444855763:=0
noncomputable def tw977731409135536217:=0
noncomputable def tw2666486305397943316:=0
noncomputable def tw7218763705176072002:=0
noncomputable def tw7631277752136027247:=0
noncomputable def tw3623882020099336262:=0
noncomputable def tw7158005236194615301:=0
noncomputable def tw15771733959102100944:=0
noncomputable def tw1036206511956498938:=0
noncomputable def tw12278646685114206293:=0
noncomputable def tw14885398133997046457:=0
noncomputable def tw6225608092176482353:=0
noncomputable def tw17075495213450641801:=0
noncomputable def tw5426834237923672106:=0
noncomputable def tw83721643596045019:=0
noncomputable def tw8503805930953219048:=0
noncomputable def tw10932508386929460008:=0
noncomputable def tw9138414082481010844:=0
noncomputable def tw15678845359412850925:=0
noncomputable def tw5318377683348882568:=0
noncomputable def tw17463825727036103954:=0
noncomputable def tw1345668886725727273:=0
noncomputable def tw8979108367900192536:=0
noncomputable def tw4934388020930070723:=0
noncomputable def tw612211596688513442:=0
noncomputable def tw14749635852589753716:=0
noncomputable def tw780606715462382125:=0
noncomputable def tw16022560716144393821:=0
noncomputable def tw17377496606082086899:=0
noncomputable def tw4183610305114552638:=0
noncomputable def tw18364193078632823607:=0
noncomputable def tw5010629191613250734:=0
noncomputable def tw16570935238152992760:=0
noncomputable def tw18333169569057651443:=0
noncomputable def tw16971779387715460391:=0
noncomputable def tw16233077806869327614:=0
noncomputable def tw16613426622615928179:=0
noncomputable def tw15180879167641342584:=0
noncomputable def tw17988653937410941293:=0
noncomputable def tw13571950742953445833:=0
noncomputable def tw1850681707000828320:=0
noncomputable def tw10474703010307761860:=0
noncomputable def tw13989409446255482088:=0
noncomputable def tw15819608187795454958:=0
noncomputable def tw2907737517963656535:=0
noncomputable def tw8005841822838851159:=0
noncomputable def tw3416167929127894103:=0
noncomputable def tw1114833119966193094:=0
noncomputable def tw4210462855202773449:=0
noncomputable def tw12311245571831994424:=0
noncomputable def tw6219801447185366214:=0
noncomputable def tw3939005919030535522:=0
noncomputable def tw3253113134263206016:=0
noncomputable def tw10402230297262562759:=0
noncomputable def tw861285369931760894:=0
noncomputable def tw16548931390642146122:=0
noncomputable def tw10497691482642233715:=0
noncomputable def tw13881730565421893095:=0
noncomputable def tw12621842090785671228:=0
noncomputable def tw17032800638805695681:=0
noncomputable def tw2672605507918532318:=0
noncomputable def tw8788131874813639831:=0
noncomputable def tw6590152791330744455:=0
noncomputable def tw5492368608649744240:=0
noncomputable def tw8277764145372761476:=0
noncomputable def tw12935842455782535326:=0
noncomputable def tw3807579720495874379:=0
noncomputable def tw9437785160713168616:=0
noncomputable def tw15225220088204519594:=0
noncomputable def tw3595824615322595903:=0
noncomputable def tw5940205634019539206:=0
noncomputable def tw2753657967247317810:=0
noncomputable def tw10999166062966415897:=0
noncomputable def tw1164551994408962866:=0
noncomputable def tw17503643607471337818:=0
noncomputable def tw12108472010494726390:=0
noncomputable def tw7333753413400844321:=0
noncomputable def tw1404337575987185839:=0
noncomputable def tw16570859291512416934:=0
noncomputable def tw8424796371660152846:=0
noncomputable def tw16740628451210822506:=0
noncomputable def tw6726499884649152345:=0
noncomputable def tw8559697511357066997:=0
noncomputable def tw4126016235984433561:=0
noncomputable def tw3697104467115755711:=0
noncomputable def tw2132958455530839056:=0
noncomputable def tw15231343458234756329:=0
noncomputable def tw16900883150120024110:=0
noncomputable def tw3649422628936857354:=0
noncomputable def tw17712755915802863765:=0
noncomputable def tw13549545882606739538:=0
noncomputable def tw7513629619852908173:=0
noncomputable def tw14459840088051792366:=0
noncomputable def tw437880093381871015:=0
noncomputable def tw9815358522472455978:=0
noncomputable def tw13159806842256620936:=0
noncomputable def tw657505261879523636:=0
noncomputable def tw4042231342740193177:=0
noncomputable def tw10640998651211864207:=0
noncomputable def tw3269277395931891824:=0
noncomputable def tw14995845781762475722:=0
noncomputable def tw16525545382261665873:=0
noncomputable def tw13824985024341299640:=0
noncomputable def tw2516441001848944585:=0
noncomputable def tw2474730076027909268:=0
noncomputable def tw8784092841097020383:=0
noncomputable def tw8041102007699417707:=0
noncomputable def tw12830985132740701079:=0
noncomputable def tw9753154150424937232:=0
noncomputable def tw2381181766893594733:=0
noncomputable def tw9889107010823914730:=0
noncomputable def tw13970947493738134639:=0
noncomputable def tw4751075020495223718:=0
noncomputable def tw10853743603176888424:=0
noncomputable def tw12988571212652383482:=0
noncomputable def tw9088421616825065833:=0
noncomputable def tw9669666433112864339:=0
noncomputable def tw11681154999230509470:=0
noncomputable def tw10998254659478507615:=0
noncomputable def tw13416262801887490152:=0
noncomputable def tw248712885031153013:=0
noncomputable def tw15209627188024698189:=0
noncomputable def tw12222817354270244995:=0
noncomputable def tw8308176990195671768:=0
noncomputable def tw4023588975795554035:=0
noncomputable def tw6494254440318615437:=0
noncomputable def tw585593815230839959:=0
noncomputable def tw10749376003270181189:=0
noncomputable def tw14631972349635404803:=0
noncomputable def tw12781946828328783232:=0
noncomputable def tw13904726490442245625:=0
noncomputable def tw1785202275987826586:=0
noncomputable def tw1755423143687847167:=0
noncomputable def tw8837259466900877686:=0
noncomputable def tw17155610708818674431:=0
noncomputable def tw17900661520422836982:=0
noncomputable def tw6487704874307852292:=0
noncomputable def tw1190093242953918880:=0
noncomputable def tw1118913883683751373:=0
noncomputable def tw11098624561919578808:=0
noncomputable def tw1701860005383895084:=0
noncomputable def tw8568018529197028576:=0
noncomputable def tw12323772169572531578:=0
noncomputable def tw3727832898233777755:=0
noncomputable def tw7489621537597771752:=0
noncomputable def tw15626669904458208070:=0
noncomputable def tw11825729357142865601:=0
noncomputable def tw17477321139439651206:=0
noncomputable def tw8778097090864589634:=0
noncomputable def tw3968283175232796915:=0
noncomputable def tw8816279300252620182:=0
noncomputable def tw5086208897410680057:=0
noncomputable def tw7083431568221842141:=0
noncomputable def tw10195825680019577617:=0
noncomputable def tw12889723769571020547:=0
noncomputable def tw12379593409334828543:=0
noncomputable def tw13508874021642040048:=0
noncomputable def tw5925726152538047463:=0
noncomputable def tw17351515246916236735:=0
noncomputable def tw1949615943498533391:=0
noncomputable def tw6754296433729225626:=0
noncomputable def tw3033298908299337935:=0
noncomputable def tw2259329959375511425:=0
noncomputable def tw7576322774556545148:=0
noncomputable def tw17568738592281871303:=0
noncomputable def tw1410270673498367930:=0
noncomputable def tw2222414269280340697:=0
noncomputable def tw8495076619226598987:=0
noncomputable def tw11872800927557600180:=0
noncomputable def tw2263110830653184050:=0
noncomputable def tw10162475772601577004:=0
noncomputable def tw10723418916390396883:=0
noncomputable def tw955583561837036663:=0
noncomputable def tw3045450995261128350:=0
noncomputable def tw301039185318989774:=0
noncomputable def tw4552317567369281077:=0
noncomputable def tw15411740164570481627:=0
noncomputable def tw3196996321698177492:=0
noncomputable def tw12155711139910044282:=0
noncomputable def tw17313701570892500944:=0
noncomputable def tw8536325958344893919:=0
noncomputable def tw10887123265648526571:=0
noncomputable def tw4825787232603842585:=0
noncomputable def tw5759789814294269367:=0
noncomputable def tw7782372603409030063:=0
noncomputable def tw17928460554640242053:=0
noncomputable def tw12202574577312893455:=0
noncomputable def tw4463746471812437894:=0
noncomputable def tw9005594387481373465:=0
noncomputable def tw6037801495052523263:=0
noncomputable def tw11844216405379241552:=0
noncomputable def tw15441978894118193222:=0
noncomputable def tw3650990131517673049:=0
noncomputable def tw6823489092090192772:=0
noncomputable def tw15268827723645893264:=0
noncomputable def tw734731651131497945:=0
noncomputable def tw5687202644598982964:=0
noncomputable def tw15912303733966434864:=0
noncomputable def tw16172047155617223245:=0
noncomputable def tw15198794389720242572:=0
noncomputable def tw2988084329800817623:=0
noncomputable def tw8360102409908253694:=0
noncomputable def tw945516541051278717:=0
noncomputable def tw363272055555768043:=0
noncomputable def tw2309818292271632345:=0
noncomputable def tw13957523923650806354:=0
noncomputable def tw6585460942745667720:=0
noncomputable def tw18070900279417423284:=0
noncomputable def tw1911436047660244036:=0
noncomputable def tw4120354400997990252:=0
noncomputable def tw4936158282241660169:=0
noncomputable def tw13500745676979668316:=0
noncomputable def tw15837933497867513009:=0
end PySem.W.Fast
open PySem PySem.W PyProof.Rows
set_option maxRecDepth 100000 in
set_option maxHeartbeats 0 in
theorem PySem.Challenge.cw_worthkinds_k83_whole_sieve_twins_holds : PySem.Challenge.rw_worthkinds_k83_whole_sieve_twins.Holds := by
 w_on; o_law; k_head; (case hw=>w_witness2)
 k_fill
 refine G.walk (l:=PySem.Challenge.rw_worthkinds_k83_whole_sieve_twins) rfl rfl G.law_ok ?nl (fun w h Y=>⟨PySem.W.km_in_of Y,PySem.W.km_tabs_of Y⟩) ?F
 case nl=>intro p; kernel_rfl
 case F=>
  intro w mg fa h KX G0 hmg hT
  have tx:G.Tx' KX mg:=by
   constructor
   all_goals first
    | (refine' ⟨_,_,G.fn1 KX G0 ?e ?l ?g ?k (fun F=>F.binds fun _ _ _ _ _ _ us hl=>by first | exact G.lz1 us hl fun _=>rfl | exact G.lz2 us hl fun _ _=>rfl | exact G.lz3 us hl fun _ _ _=>rfl | exact G.lz4 us hl fun _ _ _ _=>rfl)⟩; (case e | l | g | k=>k_is))
    | exact ⟨_,PySem.W.mg_of KX G0 (by k_is),_,rfl⟩
    | exact G.zs_of KX G0 (by kernel_rfl)
  have tc:G.To' KX mg:=by
   constructor
   ·refine' ⟨_,G.GA (x:="Sieve") rfl ?ze,⟨?zp, ?zh, ?zo, ?zs⟩,G.no_of ?zn⟩; (case ze=>k_is); (case zp | zh | zo | zs | zn=>kernel_rfl)
   all_goals first
    | (refine' ⟨_,_,_,_,G.GA (x:="Sieve") rfl ?ze,G.fo1 ?zi ?zl ?zg ?zk ?zf (fun F=>F.binds fun _ _ _ _ _ _ us hl=>by first | exact G.lz1 us hl fun _=>rfl | exact G.lz2 us hl fun _ _=>rfl | exact G.lz3 us hl fun _ _ _=>rfl | exact G.lz4 us hl fun _ _ _ _=>rfl)⟩; (case ze | zi | zl | zg | zk=>k_is); (case zf=>kernel_rfl))
    | (refine' ⟨_,_,_,_,G.GA (x:="Sieve") rfl ?ze,PySem.W.mg_of KX G0 ?ze,⟨?zm, ?zi, ?zf, ?zc⟩,G.fo1 ?zi ?zl ?zg ?zk ?zf (fun F=>F.binds fun _ _ _ _ _ _ us hl=>by first | exact G.lz1 us hl fun _=>rfl | exact G.lz2 us hl fun _ _=>rfl | exact G.lz3 us hl fun _ _ _=>rfl | exact G.lz4 us hl fun _ _ _ _=>rfl)⟩; (case ze | zi | zl | zg | zk | zc=>k_is); (case zf | zm=>kernel_rfl))
  have tp:G.TP KX mg:=by
   refine' ⟨_,_,_,_,_,G.fn1 KX G0 ?e ?l ?g ?k (fun F=>F.binds fun _ _ _ _ _ _ us hl=>by first | exact G.lz1 us hl fun _=>rfl | exact G.lz2 us hl fun _ _=>rfl | exact G.lz3 us hl fun _ _ _=>rfl | exact G.lz4 us hl fun _ _ _ _=>rfl),rfl,⟨?t, ?u, ?h, ?n⟩, ?m⟩; (case e | l | g | k | t=>k_is); (case u=>exact rfl); (case h | n=>kernel_rfl); (case m=>exact hT _ (by decide))
  refine' G.fin_ KX G0 hmg tx tc tp ?n0 ?n1 ?n2 ?n3 ?n4 ?n5 ?n6 ?n7 ?b0 ?b1 ?b2 ?b3 ?b4 ?b5 ?b6 ?b7 ?b8 ?b9 ?b10
  (case n0 | n1 | n2 | n3 | n4 | n5 | n6 | n7=>k_is)
  (case b0 | b1 | b2 | b3 | b4 | b5 | b6 | b7 | b8 | b9 | b10=>kernel_rfl)
