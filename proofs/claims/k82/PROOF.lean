import PyProof.Rows.All
import Wide.All
import OpenK.AllK
import Wide.FinOn
import Lean
import PyProof.EqAt
import PyProof.EqKinds
import PyProof.TupleCall
import PyProof.NeKinds
import PyProof.WalksEnum
import PyProof.StrWalks
import PyProof.ExcAttrAll.ValueError
import PyProof.ZipIter
import KE.KRevIter
import PyProof.ListNew
import PyProof.WalksMore
import PyProof.ReprLoop
import PyProof.FactsAll.list
import PyProof.CollectIter
import PyProof.TupleOfGen
import PyProof.Draws
import PyProof.EnumMake
import PyProof.SeqI3
import KE.KMinBuiltin
import PyProof.SetRoads
import PyProof.CollectWalk
import KE.KDictSum
import PyProof.AttrMiss
import PyProof.IsiH_tuple
import KE.KDictOf
import PyProof.FitsBits
import PyProof.SliceList
import PyProof.InstFacts
import PyProof.Rows.StrNews2
import PyProof.StrBlockH
import PyProof.CallStr
import KE.KIntText
import PyProof.Rows.RuleB_pow
import KE.KSortTup
import PyProof.ReprRoads
import KE.KLam
import PyProof.MaxThree
import PyProof.DictRoadsH
import PySem.Challenge.RW_worthkinds_k82_whole_sieves_back
open PySem renaming wpAny_bind->a7,wpAny_pure->au,wpAny_truthy_bool->ba,wpAny_field->bf,mem_of_lookup->bu,wpAny_newObj_type->bv,wpAny_callSpecial?_slot->bw,wpAny_Call_Name_kw->bz,wpAny_setField_rec->bA,wpAny_mono->bK,wpAny_call_entry->bP,sizeLine_eq->bT,wpAny_seqItems->bV,wpAny_passesOwn->bW,codeAny_builtin->bX,codeAny_mono->b_,wpAny_of_eq->ck,wpAny_holding->cC,wpAny_attempt->cD,call_meets->cK,wpAny_call->d7,Within->eR,seqSlot_of->i7,call->iC
open PySem.W renaming Frag->a8,kitOne->aM,findIn->bc,kia_one->bB,fnOf->bE,keepIn->bL,nsIn->bN,mg_of->bQ,instObj->cB,emptyDict->cH,codeHdIn->cR,codeIn->db,tabObj->dk,methodCall_KW->dm,plainGet->dq,plainGet_of->dC,lookIn->dF,callWith_K->dH,hasDictIn->dR,isFn->eU,cellsFrom_some->eV,takerIn->f7,mroIn->fI,excIn->fL,plainOver->fS,specialIn->fU,kitx_list->fV,kitx_dict->fW,handedIn->hZ,makesIn->ip,takesIn->iq
open List renaming length_map->a9,mem_cons_of_mem->ac,length_cons->af,getElem?_eq_getElem->ag,replicate->ai,mem_cons_self->ak,mem_cons->am,length_append->ao,getElem?_append_right->aq,getElem?_map->av,getElem?_eq_some_iff->aw,getElem?_set_ne->ax,size_toArray->ay,getElem?_append_left->az,length_singleton->aC,getElem?_replicate->aF,length_reverse->aG,length_set->aI,lookup_cons->aJ,map_cons->aL,mem_singleton->aN,mem_map->aO,getElem?_set_self->aP,length_replicate->aQ,reverse_cons->aR,all_eq_true->aS,not_mem_nil->aT,append_nil->aW,append_assoc->aX,mem_append_right->aY,getElem?_eq_none->aZ,range->a_,map_replicate->bg,map_append->bn,mem_range->bo,getElem?_cons_succ->bq,length_nil->bC,length_range->bG,map_map->bI,nil_append->bO,flatMap_cons->bR,replicate_succ->bS,mem_append_left->bY,eq_of_mem_replicate->cb,prefix_refl->ce,range_succ_eq_map->cq,pairwise_cons->cz,length_take->cN,map_nil->cP,mem_flatMap->cQ,filterMap_cons->cT,getElem?_range->cU,map_congr_left->cV,all_cons->c_,mem_filter->d3,mem_append->d4,nodup_cons->d5,mem_filterMap->d6,lookup->d8,drop_zero->dh,cons_append->dr,sum_cons->du,of_mem_zip->dz,foldl->dJ,drop_eq_getElem_cons->dQ,flatten_cons->dS,ext_getElem?->dU,set_comm->eB,length_drop->eF,length_eq_zero_iff->eH,map->eQ,take_of_length_le->e_,take_left'->f9,getElem?_reverse->fk,take_eq_take_iff->fo,contains_iff_mem->fq,mem_of_getElem?->fu,getElem_toArray->fy,reverse_reverse->fD,drop_succ_cons->fH,any_cons->fJ,length_zipIdx->fQ,any_eq_false->fR,all_map->f_,getElem_inj->hW,drop_length->i8,any_eq_true->ig,map_reverse->ii,mem_reverse->ij,filter_cons->ik,range'->il,forIn_cons->ix,range_succ->iz
open PySem.Heap renaming get?_push_of_some->aa,get?_push_size->ah,lt_size->ar,size_push->bM,SameBut->bZ,FlyingW->df,ExtBut->fx
open Bool renaming and_eq_true->ae,false_ne_true->aA,false_eq_true->aV,not_true->dZ,eq_iff_iff->fg,or_eq_false_iff->fE,true_and->fK,not_eq_true'->hV
open Nat renaming le_refl->aj,le_trans->aD,ne_of_lt->aE,lt_of_lt_of_le->aH,le_add_right->aK,zero_le->bx,lt_irrefl->bH,lt_of_le_of_lt->bU,one_mul->c8,le_mul_of_pos_right->ci,mul_le_mul->cj,sub_self->cA,mul_assoc->cF,lt_succ_of_lt->cI,pow_le_pow_right->cL,lt_succ_self->cM,mul_comm->cO,ne_of_gt->da,le_succ->dv,add_le_add_left->dD,mul_pos->dW,add_sub_cancel_left->eO,le_of_lt->eT,succ_mul->eX,zero_add->f6,not_lt_zero->f8,le_of_eq->fT,pow_succ->hJ,lt_succ_of_le->hU,succ_ne_self->ia,succ_ne_zero->ib,add_mul->io,min_eq_left->iA
open Option.some renaming inj->aB
open PyProof.Rows renaming callWith_type1->aU,slot_tuple_getitem->bh
open Ne renaming symm->bi
open PySem.Str renaming ofString->bj
open False renaming elim->bp
open Int renaming toNat_natCast->bF,eq_ofNat_of_zero_le->cg,emod_lt_of_pos->fP,zero_add->h9,natCast_mul->iw,emod_nonneg->iy
open PySem.F renaming plainAttrs_list->bJ,called_set->cy,slot_zip_next->cG,args_tuple_add_2->cX,entry_tuple_add->d9,slot_tuple_add->de,slot_tuple_iterator_next->di,slot_int_rmul->dA,excBase_ValueError->dO,slot_list_append->dX,type_list_append->dY,slot_tuple_mul->eG,attr_ValueError->eJ,args_zip_next_1->eK,slot_list_count->eL,slot_list_index->eM,entry_zip_next->eZ,called_tuple->fA,args_object_init_2->fB,args_int_rmul_2->fZ,slot_tuple_rmul->g7,plain_tuple_new->g_,slot_int_index->i5,entry_int_rmul->i6,fills_int_mul->ir
open PyProof.Rows.KeyOrd renaming klt_of_klt_of_kle->c9,kle_of_klt->dj
open PySem.AutoSeq1 renaming wpAny_loadPart'->cf
open Array renaming getElem?_eq_none->cu,length_toList->dB,perm_iff_toList_perm->dM,append_assoc->dN,getElem?_toList->fj,getD->iE
open PySem.SeqAt renaming EqAt->cJ,RcNeAt->dg,RcAt->eY
open PySem.Builtin.Slice renaming slicePlaces->cS,sliceAdjust->dP
open Option renaming isSome_iff_exists->cW,some_ne_none->fG,getD_none->h_,map->iF
open PySem.Builtin.List renaming listTooLong->cY,listSameRef->d_
open PySem.Around renaming frames_deeper->dy
open PySem.Calls renaming Name_function_global->dE,spliced_cons->dG,callWith_builtin->eW,evalArgs_plain->fw,spliced_nil->fY
open PySem.Builtin.Tuple renaming tupleItemsOf->dI,tupleTooMany->dL,tupleExact->eA
open PySem.Builtin.Range renaming rangeSize->eC
open PyProof.Rows.F renaming entry_set_update_loop->eI
open PySem.Heap.SameBut renaming update->fF
open PySem.SeqAt.EqAt renaming of_refs->fM,same->iu
open PySem.Code renaming quiet_builtin->fN,isFrame->fX
open PySem.Obj renaming data_mapFields->fO
open PySem.WalksT renaming enumerate->i9
open Classical renaming skolem->ie
open PySem.Shared renaming heap->im
open PySem.PassesOwn renaming never->iB
open PySem.Walks renaming list->iD
noncomputable section
set_option maxHeartbeats 4000000
set_option Elab.async false
set_option linter.all false
set_option compiler.extract_closed false
set_option maxRecDepth 100000
namespace L2
open PySem PySem.Spec PyProof.Rows
noncomputable abbrev Key:=Sum Int Str
def k8:Key->Value->Bool
 | .inl k,v=>Value.isInt k v
 | .inr x,v=>Value.isStrOf x v
def keyH (w:World):Key->Int
 | .inl k=>hashInt k
 | .inr x=>hashStr w x
theorem zX:∀{k:Key} {v:Value},k8 k v=true->(∃i t,k=Sum.inl i/\v=Value.int i t)\/(∃x t,k=Sum.inr x/\v=Value.str x t)
 | .inl i,v,h=>by
  obtain⟨t,e⟩:=Value.isInt_shape h;exact .inl ⟨i,t,rfl,e⟩
 | .inr x,v,h=>by
  obtain⟨t,e⟩:=Value.isStrOf_shape h;exact .inr ⟨x,t,rfl,e⟩
theorem k9 (a b:Int):decide ((Sum.inl a:Key)=Sum.inl b)=(a == b):=by
 by_cases e:a=b
 ·subst e;simp
 ·have h:¬ (Sum.inl a:Key)=Sum.inl b:=λq=>e (Sum.inl.inj q);rw[decide_eq_false h];exact(beq_eq_false_iff_ne.mpr e).symm
theorem ka (a b:Str):decide ((Sum.inr a:Key)=Sum.inr b)=decide (a=b):=by
 by_cases e:a=b
 ·simp
 ·have h:¬ (Sum.inr a:Key)=Sum.inr b:=λq=>e (Sum.inr.inj q);rw[decide_eq_false h,decide_eq_false e]
theorem kb (a:Int)(b:Str):decide ((Sum.inl a:Key)=Sum.inr b)=false:=decide_eq_false (λq=>nomatch q)
theorem kd (a:Str)(b:Int):decide ((Sum.inr a:Key)=Sum.inl b)=false:=decide_eq_false (λq=>nomatch q)
def yn (prog:Program)(w:World):PySem.KeyKind prog w Key where
 is:=k8
 hash:=keyH w
 inj:=λv a b ha hb=>by
  rcases zX ha with ⟨i,t,rfl,rfl⟩ | ⟨x,t,rfl,rfl⟩
  ·rcases zX hb with ⟨j,u,rfl,e⟩ | ⟨y,u,rfl,e⟩
   ·injection e with e1 _;rw[e1]
   ·exact nomatch e
  ·rcases zX hb with ⟨j,u,rfl,e⟩ | ⟨y,u,rfl,e⟩
   ·exact nomatch e
   ·injection e with e1 _;rw[e1]
 byValue:=λk v h=>by
  rcases zX h with ⟨i,t,rfl,rfl⟩ | ⟨x,t,rfl,rfl⟩ <;> rfl
 pyHash:=λhv h=>by
  rcases zX hv with ⟨i,t,rfl,rfl⟩ | ⟨x,t,rfl,rfl⟩
  ·exact wpAny_pyHash_int h
  ·exact wpAny_pyHash_str h
 eqBool:=λhu hv h=>by
  rcases zX hu with ⟨i,t,rfl,rfl⟩ | ⟨x,t,rfl,rfl⟩
  ·rcases zX hv with ⟨j,u,rfl,rfl⟩ | ⟨y,u,rfl,rfl⟩
   ·rw[k9]at h;exact wpAny_eqBool_int h
   ·rw[kb]at h;exact cJ.int_str i t y u _ _ _ _ h
  ·rcases zX hv with ⟨j,u,rfl,rfl⟩ | ⟨y,u,rfl,rfl⟩
   ·rw[kd]at h;exact cJ.str_int x t j u _ _ _ _ h
   ·rw[ka]at h;exact wpAny_eqBool_str h
 «strs»:=λk x t v h=>by
  rcases zX h with ⟨i,u,rfl,e⟩ | ⟨y,u,rfl,e⟩
  ·exact nomatch e
  ·injection e with e1 _;subst e1;cases v <;> rfl
end L2
namespace L2
open PySem PySem.Spec PyProof.Rows
inductive V where
 | non | bl (b:Bool) | int (i:Int) | str (x:Str) | byt (b:Array UInt8) | flt (b:UInt64) | ref (a:Addr) | ty (n:String)
 deriving DecidableEq
noncomputable def Zc:V->Value->Prop
 | .non,u=>u=Value.none
 | .bl b,u=>u=Value.bool b
 | .int i,u=>∃t,u=Value.int i t
 | .str x,u=>∃t,u=Value.str x t
 | .byt b,u=>∃t,u=Value.bytes b t
 | .flt b,u=>∃t,u=Value.float b t
 | .ref a,u=>u=Value.ref a
 | .ty n,u=>u=Value.type n
abbrev zS:List V->List Value->Prop:=Paired Zc
theorem zS.length (r:zS xs us):xs.length=us.length:=Paired.length r
theorem zS.get:∀{xs:List V} {us:List Value} {i:Nat} {x:V},zS xs us->xs[i]? =some x->∃u,us[i]? =some u/\Zc x u
 | _,_,_,_,.nil,e=>by simp at e
 | _,_,0,_,.cons r _,e=>by simp at e;subst e;exact⟨_,rfl,r⟩
 | _,_,i+1,x,.cons _ t,e=>by
  obtain⟨u,h1,h2⟩:=zS.get t (by simpa using e)
  exact⟨u,by simpa using h1,h2⟩
theorem zS.append:∀{xs ys:List V} {us ws:List Value},zS xs us->zS ys ws->zS (xs++ys) (us++ws)
 | _,_,_,_,.nil,s=>s
 | _,_,_,_,.cons r t,s=> .cons r (zS.append t s)
theorem zS.take:∀{xs:List V} {us:List Value} (n:Nat),zS xs us->zS (xs.take n) (us.take n)
 | _,_,0,_=> .nil
 | _,_,_+1,.nil=> .nil
 | _,_,n+1,.cons r t=> .cons r (zS.take n t)
theorem zS.drop:∀{xs:List V} {us:List Value} (n:Nat),zS xs us->zS (xs.drop n) (us.drop n)
 | _,_,0,r=>r
 | _,_,_+1,.nil=> .nil
 | _,_,n+1,.cons _ t=>zS.drop n t
def Qs:Option V->Option Value->Prop
 | some v,some u=>Zc v u
 | none,none=>True
 | _,_=>False
def KV {κ:Type}:List (κ×V)->List (κ×Value)->Prop:=Paired λ(p:κ×V) (q:κ×Value)=>p.1=q.1/\Zc p.2 q.2
def kV:Key->V
 | .inl i=> .int i
 | .inr x=> .str x
inductive HO where
 | lst (xs:List V)
 | tup (xs:List V)
 | dK (kvs:List (Key×V)) | dT (kvs:List (List Key×V))
 | set (S:Int->Bool) (n:Nat)
 | ins (C dx:Addr) (fs:List (Str×V))
 | own (x:Addr)
 | xd (fs:List (Str×V))
 | met (f x:Addr)
 | rng (lo hi:Int)
 | frz (o:Obj) (u:HO)
 | tbl (ps:Array Value) (q:Str)
 | ext (φ:Heap->Prop)
noncomputable abbrev Hp:=Addr->Option HO
def upd (H:Hp)(a:Addr)(o:HO):Hp:=λb=>if b=a then some o else H b
theorem zx:upd H a o a=some o:=by unfold upd;rw[if_pos rfl]
theorem zu (h:b ≠ a):upd H a o b=H b:=by unfold upd;rw[if_neg h]
theorem zJ {H:Hp}{a b:Addr}{o:HO}(h:H a=some o)(h' :H b=none):a ≠ b:=by
 intro e;subst e;rw[h]at h';cases h'
noncomputable def ITN (h:Heap)(a:Addr)(its:Array Value):Prop:=IsTup h a its/\((∃i t,its[0]? =some (Value.int i t))\/∃o,h.get? a=some o/\o.dict=none)
theorem ITN.new (h:Heap)(its:Array Value):ITN (h.push { cls:= .type "tuple",data:= .seq its }) h.objs.size its:=⟨IsTup.new h its,.inr ⟨_,ah _ rfl,rfl⟩⟩
section
variable (P:Program)(w:World)
def Za (H:Hp)(h:Heap)(a:Addr):HO->Prop
 | .lst xs=>xs.length<=sizeLine/\∃(its:List Value) (n:Nat),zS xs its/\h.get? a=some { cls:= .type "list",data:= .seq its.toArray n }
 | .tup xs=>xs.length<=sizeLine/\∃its:List Value,zS xs its/\ITN h a its.toArray
 | .dK kvs=>kvs.length<=sizeLine/\(a == sysModules)=false/\∃vs,KV kvs vs/\h.DictOf (yn P w) a vs
 | .dT kvs=>kvs.length<=sizeLine/\(a == sysModules)=false/\∃xs:List (List Key×Addr×Value),
   Paired (λ(p:List Key×V) (q:List Key×Addr×Value)=>p.1=q.1/\H q.2.1=some (.tup (p.1.map kV))/\Zc p.2 q.2.2) kvs xs/\
   ∃o es ep,h.get? a=some o/\o.ExactDict/\o.data= .dict es ep/\es.toList=xs.map (entryOfKey (tupleKind (yn P w)))/\(xs.map (·.1)).Nodup
 | .set S n=>h.SetOf (intKind P w) a S n
 | .ins C dx fs=>H dx=some (.own a)/\fs.length<=1000/\dx ≠ a/\h.get? a=some (cB C dx)/\
   ∃mA,h.Ns1 dx mA/\(∀f,Qs (fs.lookup f) (mA f))/\eR mA (fs.map (·.1))
 | .own _=>∃o,h.get? a=some o
 | .xd fs=>∃mA,h.Ns1 a mA/\∀f,Qs (fs.lookup f) (mA f)
 | .rng lo hi=>∃t u v,h.get? a=some { cls:= .type "range",data:= .fields #[.int lo t,.int hi u,.int 1 v] }
 | .frz o u=>h.get? a=some o/\Za H h a u
 | .tbl ps q=>∃more:Array Value,h.get? a=some { cls:= .none,data:= .fields (ps++more) }/\TriplesOk (ps++more).toList/\∀p cv,codeAmong p (ps++more).toList=some cv->∃c oc vs t,cv= .ref c/\H c=some (.frz oc (.own c))/\oc.data= .fields vs/\vs[1]? =some (.str q t)
 | .met f x=>h.get? a=some (PySem.W.methodObj (.ref f) (.ref x))
 | .ext φ=>φ h/\(∃o,h.get? a=some o)/\∀h1 h2:Heap,φ h1->(∀o,h1.get? a=some o->h2.get? a=some o)->φ h2
def HOk (H:Hp)(h:Heap):Prop:=∀a o,H a=some o->Za P w H h a o
end
section
variable {P:Program}{w:World}{H H' :Hp}{h h' :Heap}{a:Addr}{o:HO}
theorem Za.lt (x:Za P w H h a o):a < h.objs.size:=by
 cases o with
 | lst xs=>obtain⟨_,_,_,_,e⟩:=x;exact ar e
 | tup xs=>obtain⟨_,_,_,p,_⟩:=x;exact p.lt
 | dK kvs=>obtain⟨_,_,_,_,o,_,_,e,_⟩:=x;exact ar e
 | dT kvs=>obtain⟨_,_,_,_,o,_,_,e,_⟩:=x;exact ar e
 | set S n=>obtain⟨o,_,_,_,e,_⟩:=x;exact ar e
 | ins C dx fs=>obtain⟨_,_,_,e,_⟩:=x;exact ar e
 | own y=>obtain⟨_,e⟩:=x;exact ar e
 | xd fs=>obtain⟨_,⟨_,_,_,e,_⟩,_⟩:=x;exact ar e
 | rng lo hi=>obtain⟨_,_,_,e⟩:=x;exact ar e
 | frz ob u=>obtain⟨e,_⟩:=x;exact ar e
 | tbl ps q=>obtain⟨_,e,_⟩:=x;exact ar e
 | met f y=>exact ar (x)
 | ext φ=>obtain⟨_,⟨_,e⟩,_⟩:=x;exact ar e
theorem Paired.mapP {α β:Type}{F G:α->β->Prop}:∀{l₁:List α} {l₂:List β},Paired F l₁ l₂->(∀a b,F a b->G a b)->Paired G l₁ l₂
 | _,_,.nil,_=> .nil
 | _,_,.cons r t,f=> .cons (f _ _ r) (Paired.mapP t f)
theorem Za.stay (x:Za P w H h a o)(k:∀b u,(b=a\/H b=some (.own a))->h.get? b=some u->h'.get? b=some u)
  (ho:∀b,H b=some (.own a)->H' b=some (.own a)) (ht:∀b xs,H b=some (.tup xs)->H' b=some (.tup xs)) (hf:∀b o u,H b=some (.frz o u)->H' b=some (.frz o u):=by exact λ_ _ _ q=>q):Za P w H' h' a o:=by
 induction o with
 | lst xs=>obtain⟨z,its,n,r,e⟩:=x;exact⟨z,its,n,r,k _ _ (.inl rfl) e⟩
 | tup xs=>obtain⟨z,its,r,⟨ob,e,c⟩,q⟩:=x;exact⟨z,its,r,⟨ob,k _ _ (.inl rfl) e,c⟩,q.imp id λ⟨o2,e2,d2⟩=>⟨o2,k _ _ (.inl rfl) e2,d2⟩⟩
 | dK kvs=>obtain⟨z,y,vs,r,ob,es,ep,e,c⟩:=x;exact⟨z,y,vs,r,ob,es,ep,k _ _ (.inl rfl) e,c⟩
 | dT kvs=>
  obtain⟨z,y,xs,r,ob,es,ep,e,c⟩:=x;exact⟨z,y,xs,Paired.mapP r λp q z=>⟨z.1,ht _ _ z.2.1,z.2.2⟩,ob,es,ep,k _ _ (.inl rfl) e,c⟩
 | set S n=>obtain⟨ob,es,ep,t,e,c⟩:=x;exact⟨ob,es,ep,t,k _ _ (.inl rfl) e,c⟩
 | ins C dx fs=>
  obtain⟨d,z,ne,e,mA,⟨od,es,ep,e2,c⟩,r⟩:=x;exact⟨ho _ d,z,ne,k _ _ (.inl rfl) e,mA,⟨od,es,ep,k _ _ (.inr d) e2,c⟩,r⟩
 | own y=>obtain⟨ob,e⟩:=x;exact⟨ob,k _ _ (.inl rfl) e⟩
 | xd fs=>obtain⟨mA,⟨od,es,ep,e,c⟩,r⟩:=x;exact⟨mA,⟨od,es,ep,k _ _ (.inl rfl) e,c⟩,r⟩
 | rng lo hi=>obtain⟨t,u,v,e⟩:=x;exact⟨t,u,v,k _ _ (.inl rfl) e⟩
 | frz ob u ih=>obtain⟨e,q⟩:=x;exact⟨k _ _ (.inl rfl) e,ih q⟩
 | tbl ps q=>
  obtain⟨m,e,tr,al⟩:=x;exact⟨m,k a _ (.inl rfl) e,tr,λp cv z=>let ⟨c,oc,vs,t,e1,e2,e3⟩:=al p cv z;⟨c,oc,vs,t,e1,hf _ _ _ e2,e3⟩⟩
 | met f y=>
  have e:=x;exact k a _ (.inl rfl) e
 | ext φ=>obtain⟨p,⟨o,e⟩,st⟩:=x;exact⟨st _ _ p λo q=>k _ _ (.inl rfl) q,⟨o,k _ _ (.inl rfl) e⟩,st⟩
theorem HOk.lt (x:HOk P w H h)(e:H a=some o):a < h.objs.size:=(x a o e).lt
theorem HOk.fresh (x:HOk P w H h)(e:h.objs.size<=a):H a=none:=by
 cases q:H a with
 | none=>rfl
 | some u=>exact absurd (aH (x.lt q) e) (bH _)
theorem HOk.kept (x:HOk P w H h)(k:∀b u,h.get? b=some u->h'.get? b=some u):HOk P w H h' :=λa o e=>
 (x a o e).stay (λb u _ q=>k b u q) (λ_ q=>q) λ_ _ q=>q
theorem HOk.laid (x:HOk P w H h)(k:∀b u,h.get? b=some u->h'.get? b=some u)(hp:h.objs.size<=a)(new:Za P w (upd H a o) h' a o):HOk P w (upd H a o) h' :=λb u e=>by
 have hn:=x.fresh hp
 by_cases hb:b=a
 ·subst hb;rw[zx]at e;cases e;exact new
 ·rw[zu hb]at e;exact(x b u e).stay (λc v _ q=>k c v q) (λc q=>by rw[zu (zJ q hn)];exact q) (λc xs q=>by rw[zu (zJ q hn)];exact q) λc o u q=>by rw[zu (zJ q hn)];exact q
end
def Rd (H:Hp)(a:Addr)(u:HO):Prop:=H a=some u\/∃o,H a=some (.frz o u)
theorem Rd.ok (r:Rd H a u)(x:HOk P w H h):Za P w H h a u:=by
 rcases r with r | ⟨o,r⟩
 ·exact x a u r
 ·obtain⟨_,q⟩:=x a _ r;exact q
noncomputable def Mut:Option HO->Prop
 | some (.lst _)=>True
 | some (.dK _)=>True
 | some (.dT _)=>True
 | some (.set _ _)=>True
 | some (.ins _ _ _)=>True
 | some (.ext _)=>True
 | _=>False
section
theorem HOk.write (ok:HOk P w H h)(mu:Mut (H x))(he:e=x\/H e=some (.own x))(k:∀b u,b ≠ e->h.get? b=some u->h'.get? b=some u)(heo:∃u,h'.get? e=some u)
  (new:Za P w (upd H x o') h' x o'):HOk P w (upd H x o') h' :=λb u q=>by
 have nown:∀c y,H c=some (.own y)->c ≠ x:=λc y r z=>by subst z;rw[r]at mu;exact mu
 have ntup:∀c xs,H c=some (.tup xs)->c ≠ x:=λc xs r z=>by subst z;rw[r]at mu;exact mu
 by_cases hb:b=x
 ·subst hb;rw[zx]at q;cases q;exact new
 ·rw[zu hb]at q
  by_cases hbe:b=e
  ·have q' :H b=some (.own x):=by
    rcases he with z | z
    ·exact absurd (hbe.trans z) hb
    ·rw[hbe];exact z
   rw[q]at q';cases q';obtain⟨v,hv⟩:=heo;exact⟨v,by rw[hbe];exact hv⟩
  ·refine(ok b u q).stay (λc v hc r=>k c v ?_ r) (λc r=>by rw[zu (nown c b r)];exact r) (λc xs r=>by rw[zu (ntup c xs r)];exact r) λc o u r=>by rw[zu (λz=>by subst z;rw[r]at mu;exact mu)];exact r
   rcases hc with rfl | hc
   ·exact hbe
   ·rintro rfl
    rcases he with z | z
    ·exact nown c b hc z
    ·rw[hc]at z;cases z;exact hb rfl
end
structure Un (fs ex:List Addr) (H H' :Hp) (h h' :Heap):Prop where
 keep:∀b o,h.get? b=some o->H b=none->b ∉ fs->b ∉ ex->h'.get? b=some o
 slot:∀b o,h.get? b=some o->H b=none->b∈fs->b ∉ ex->∃sl,h'.get? b=some { o with slots:=sl }
 free:∀b o,h.get? b=some o->H b=none->b ∉ ex->H' b=none
 there:∀b o,h.get? b=some o->b ∉ ex->∃o',h'.get? b=some o'
 tups:∀b xs,H b=some (.tup xs)->H' b=some (.tup xs)
 frzs:∀b o u,H b=some (.frz o u)->H' b=some (.frz o u)
 tbls:∀b ps q,H b=some (.tbl ps q)->H' b=some (.tbl ps q)
section
variable {fs fs' ex ex' :List Addr}{H H1 H2:Hp}{h h1 h2 h' :Heap}{a x e:Addr}{o:HO}
theorem Un.any (u:Un fs ex H H1 h h1)(q:h.get? b=some ob)(n:H b=none)(hx:b ∉ ex):∃sl,h1.get? b=some { ob with slots:=sl }:=by
 by_cases hb:b∈fs
 ·exact u.slot b ob q n hb hx
 ·exact⟨ob.slots,u.keep b ob q n hb hx⟩
theorem Un.kept (k:∀b u,h.get? b=some u->h'.get? b=some u):Un fs ex H H h h' :=
 ⟨λb ob q _ _ _=>k b ob q,λb ob q _ _ _=>⟨ob.slots,k b ob q⟩,λ_ _ _ n _=>n,λb ob q _=>⟨ob,k b ob q⟩,λ_ _ q=>q,λ_ _ _ q=>q,λ_ _ _ q=>q⟩
theorem Un.refl:Un fs ex H H h h:=Un.kept λ_ _ q=>q
theorem Un.laid (k:∀b u,h.get? b=some u->h'.get? b=some u)(hp:h.objs.size<=a)(hn:H a=none):Un fs ex H (upd H a o) h h' where
 keep:=λb u q _ _ _=>k b u q
 slot:=λb u q _ _ _=>⟨u.slots,k b u q⟩
 free:=λb u q n _=>by rw[zu (aE (aH (ar q) hp))];exact n
 there:=λb u q _=>⟨u,k b u q⟩
 tups:=λb xs q=>by rw[zu (zJ q hn)];exact q
 frzs:=λb u xs q=>by rw[zu (zJ q hn)];exact q
 tbls:=λb ps q e=>by rw[zu (zJ e hn)];exact e
theorem Un.write (mu:Mut (H x))(he:e=x\/H e=some (.own x))(k:∀b u,b ≠ e->h.get? b=some u->h'.get? b=some u)(heo:∃u,h'.get? e=some u):Un fs ex H (upd H x o) h h' :=by
 have hx:∀b,H b=none->b ≠ x:=λb n z=>by subst z;rw[n]at mu;exact mu
 have hb:∀b,H b=none->b ≠ e:=λb n z=>by
  subst z;rcases he with r | r
  ·exact hx b n r
  ·rw[n]at r;cases r
 have hm:∀b u,H b=some u->¬ Mut (some u)->b ≠ x:=λb u q nm z=>by subst z;rw[q]at mu;exact nm mu
 refine⟨λb u q n _ _=>k b u (hb b n) q,λb u q n _ _=>⟨u.slots,k b u (hb b n) q⟩,λb u q n _=>by rw[zu (hx b n)];exact n,λb u q _=> ?_,
  λb xs q=>by rw[zu (hm b _ q λz=>z)];exact q,λb u xs q=>by rw[zu (hm b _ q λz=>z)];exact q,λb ps q e=>by rw[zu (hm b _ e λz=>z)];exact e⟩
 by_cases hbe:b=e
 ·subst hbe;exact heo
 ·exact⟨u,k b u hbe q⟩
end
def trk (h:Heap)(H:Hp):List Addr:=(a_ h.objs.size).filter λa=>(H a).isSome
def XR (h:Heap)(H:Hp):Heap:=PySem.W.hideAll h (trk h H)
theorem yo (h:Heap)(H:Hp):(XR h H).objs.size=h.objs.size:=PySem.W.hideAll_size _ _
theorem wv (e:h.get? b=some o)(n:H b=none):(XR h H).get? b=some o:=
 PySem.W.hideAll_get _ e λhm=>by
  have q:=(d3.mp hm).2;rw[n]at q;simp at q
theorem VD (e:(XR h H).get? b=some o):h.get? b=some o/\H b=none:=by
 have e' :=PySem.W.of_hideAll _ e;refine⟨e', ?_⟩;cases q:H b with
 | none=>rfl
 | some x=>
  have hm:b∈trk h H:=d3.mpr ⟨bo.mpr (ar e'),by simp[q]⟩
  have z:(XR h H).get? b=none:=PySem.W.hideAll_none _ hm;rw[z]at e;cases e
end L2
namespace L2
open PySem PySem.Spec PyProof.Rows
structure Mod (K:a8) (mg:Str->Option Value) (base:Heap):Prop where
 kin:K.In base
 glob:base.Ns mainGlobals mg
 blt:∃mb,base.Ns builtinsNs mb/\∀x:Str,x ≠ "__name__"->mb x=bootBuiltins x
 nolimit:base.NoLimit
structure Cx where
 prog:Program
 w:World
 K:a8
 mg:Str->Option Value
 base:Heap
 A:Around
 N:List Str
 s₀:Shared
 H₀:Hp
 env:Env
 outer:List Env
 stack:List Env
 ex:List Addr
 fn:Str->Bool
 calm:Bool
 pn:List (Addr×Obj)
 xe:Value->Shared->Prop
noncomputable def frs (l:List Env):List Addr:=l.filterMap (·.frame)
abbrev Cx.fs (X:Cx):List Addr:=frs X.outer
noncomputable def Vis (sc:Scope)(x:Str):Prop:=sc.names.lookup x=some .local\/sc.names.lookup x=some .cell\/sc.names.lookup x=some .free
noncomputable def Loc (sc:Scope)(x:Str):Prop:=sc.names.lookup x=some .local\/sc.names.lookup x=some .cell
noncomputable def Look (env:Env)(h:Heap)(m:Str->Option Value)(x:Str)(u:Value):Prop:=
 (env.kindOf x=some .local/\m x=some u)\/((env.kindOf x=some .cell\/env.kindOf x=some .free)/\∃c,env.cells.lookup x=some c/\h.IsCell c (some u))
structure Cx.Ok (X:Cx):Prop where
 mod:Mod X.K X.mg X.base
 kind:X.env.scope.kind= .function
 glob:X.env.globals=mainGlobals
 blt:X.env.builtins=builtinsNs
 above:X.s₀.heap.objs.size<=X.env.locals
 inj:∀x y c,X.env.cells.lookup x=some c->X.env.cells.lookup y=some c->x=y
 has:∀x,(X.env.kindOf x=some .cell\/X.env.kindOf x=some .free)->∃c,X.env.cells.lookup x=some c
 cab:∀x c,X.fn x=true->X.env.cells.lookup x=some c->X.s₀.heap.objs.size<=c
 hd:X.calm=true->X.A.handled=none
 frames:X.A.frames=some X.stack
 stk:X.stack=X.outer\/(X.stack=X.env :: X.outer/\X.env.frame=some X.env.locals)
 exf:∀b∈X.ex,b ≠ X.env.locals/\∀x c,X.env.cells.lookup x=some c->c ≠ b
 bs:∀b o,X.base.get? b=some o->X.s₀.heap.get? b=some o/\X.H₀ b=none
 bsz:X.base.objs.size<=X.s₀.heap.objs.size
 noex:∀b o,X.base.get? b=some o->b ∉ X.ex
 exfs:∀b∈X.ex,b ∉ X.fs
 funs:X.s₀.heap.FunFrames X.base X.outer
 frf:∀b∈X.fs,X.H₀ b=none
structure Inv (X:Cx) (pins:List (Addr×Obj)) (σ:List (Option V)) (H:Hp) (s:Shared):Prop where
 ok:X.Ok
 os:s.os=X.s₀.os
 bare:AllBare s.gens
 base:Un X.fs X.ex X.H₀ H X.s₀.heap s.heap
 loc:∃m,s.heap.Ns X.env.locals m/\∀(i:Nat) (x:Str) (v:V),X.N[i]? =some x->σ[i]? =some (some v)->Vis X.env.scope x->∃u,Zc v u/\Look X.env s.heap m x u
 cell:∀x c,X.env.cells.lookup x=some c->∃v,s.heap.IsCell c v
 free:H X.env.locals=none
 freeC:∀x c,X.env.cells.lookup x=some c->H c=none
 pin:∀p∈X.pn++pins,s.heap.get? p.1=some p.2/\H p.1=none/\p.1 ≠ X.env.locals/\p.1 ∉ X.fs/\∀v,p.2.data ≠ .cell v
 hok:HOk X.prog X.w H s.heap
 len:σ.length=X.N.length
section
variable {X:Cx}{pins:List (Addr×Obj)}{σ:List (Option V)}{H H' :Hp}{s:Shared}{h' :Heap}
theorem Cx.Ok.nofr (ok:X.Ok){b:Addr}{o:Obj}(e:X.base.get? b=some o):b ∉ X.fs:=λhb=>by
 have:=(ok.funs.mem hb).1;rw[e]at this;cases this
theorem Inv.bs (I:Inv X pins σ H s):∀b o,X.base.get? b=some o->s.heap.get? b=some o/\H b=none:=λb o e=>
 ⟨I.base.keep b o (I.ok.bs b o e).1 (I.ok.bs b o e).2 (I.ok.nofr e) (I.ok.noex b o e),I.base.free b o (I.ok.bs b o e).1 (I.ok.bs b o e).2 (I.ok.noex b o e)⟩
theorem Inv.bk (I:Inv X pins σ H s):∀b o,X.base.get? b=some o->s.heap.get? b=some o:=λb o e=>(I.bs b o e).1
theorem Inv.mod (I:Inv X pins σ H s):Mod X.K X.mg X.base:=I.ok.mod
theorem Inv.kIn (I:Inv X pins σ H s):X.K.In s.heap:=I.ok.mod.kin.keeps I.bk
theorem Inv.lt (I:Inv X pins σ H s):X.env.locals < s.heap.objs.size:=let ⟨_,hn,_⟩:=I.loc;hn.lt
theorem Inv.sz (I:Inv X pins σ H s):X.s₀.heap.objs.size<=s.heap.objs.size:=aD I.ok.above (eT I.lt)
theorem Inv.nofs (I:Inv X pins σ H s)(h:s.heap.objs.size<=a):a ∉ X.fs:=λhb=>by
 obtain⟨_,o,ho,_⟩:=I.ok.funs.mem hb;exact absurd (aH (ar ho) (aD I.sz h)) (bH _)
theorem Inv.cne (I:Inv X pins σ H s):∀x c,X.env.cells.lookup x=some c->c ≠ X.env.locals:=λx c e z=>by
 obtain⟨v,o,ho,hd⟩:=I.cell x c e;obtain⟨m,⟨o',es,ep,ho',hd',_⟩,_⟩:=I.loc;rw[z,ho']at ho;cases ho;rw[hd']at hd;cases hd
theorem Inv.funs (I:Inv X pins σ H s):s.heap.FunFrames X.base X.outer:=by
 have all:∀(l:List Env),(∀b∈frs l,b∈X.fs)->X.s₀.heap.FunFrames X.base l->s.heap.FunFrames X.base l:=by
  intro l
  induction l with
  | nil=>intro _ _;trivial
  | cons env r ih=>
   intro hs hl;obtain⟨hk,⟨L,o,hf,hn,ho,hd⟩,hr⟩:=hl;have hL:=hs L (by unfold frs;rw[cT,hf];exact ak)
   obtain⟨sl,e⟩:=I.base.slot L o ho (I.ok.frf L hL) hL λz=>I.ok.exfs L z hL;exact⟨hk,⟨L,_,hf,hn,e,hd⟩,ih (λb hb=>hs b (by unfold frs;rw[cT,hf];exact ac _ hb)) hr⟩
 exact all _ (λ_ hb=>hb) I.ok.funs
theorem Inv.stack (I:Inv X pins σ H s):s.heap.FunFrames X.base X.stack:=by
 rcases I.ok.stk with e | ⟨e,hf⟩
 ·rw[e];exact I.funs
 ·rw[e];obtain⟨m,hn,_⟩:=I.loc;refine .cons (by rw[I.ok.kind];decide) hf hn ?_ I.funs
  exact Heap.get?_none_of_le (aD I.ok.bsz I.ok.above)
theorem Inv.stkSub (I:Inv X pins σ H s):∀b∈frs X.stack,b∈X.env.locals :: X.fs:=λb hb=>by
 rcases I.ok.stk with e | ⟨e,hf⟩
 ·rw[e]at hb;exact ac _ hb
 ·rw[e]at hb;unfold frs at hb;rw[cT,hf]at hb;exact hb
theorem Inv.stkFree (I:Inv X pins σ H s):∀b∈frs X.stack,H b=none:=λb hb=>by
 rcases am.mp (I.stkSub b hb) with e | hb
 ·rw[e];exact I.free
 ·obtain⟨_,o,ho,_⟩:=I.ok.funs.mem hb;exact I.base.free b o ho (I.ok.frf b hb) λz=>I.ok.exfs b z hb
theorem Inv.step {g' :Array GenState}{t' :Nat}{d' :Drawn}{ch:List Addr}(I:Inv X pins σ H s)
  (hch:∀b∈ch,(b∈X.ex\/X.s₀.heap.objs.size<=b)/\b ≠ X.env.locals/\(∀x c,X.env.cells.lookup x=some c->c ≠ b)/\∀p∈X.pn++pins,p.1 ≠ b)
  (keep:∀b o,b ≠ X.env.locals->b ∉ X.fs->b ∉ ch->s.heap.get? b=some o->H b=none->h'.get? b=some o)
  (slot:∀b o,b ≠ X.env.locals->b∈X.fs->b ∉ ch->s.heap.get? b=some o->H b=none->∃sl,h'.get? b=some { o with slots:=sl }) (free:∀b o,b ∉ ch->s.heap.get? b=some o->H b=none->H' b=none)
  (there:∀b o,b ∉ ch->s.heap.get? b=some o->∃o',h'.get? b=some o')
  (tups:∀b xs,H b=some (.tup xs)->H' b=some (.tup xs)) (frzs:∀b o u,H b=some (.frz o u)->H' b=some (.frz o u)) (tbls:∀b ps q,H b=some (.tbl ps q)->H' b=some (.tbl ps q))
  (ns:∀m,s.heap.Ns X.env.locals m->h'.Ns X.env.locals m) (hok:HOk X.prog X.w H' h') (hg:AllBare g'):
  Inv X pins σ H' { s with heap:=h',gens:=g',drawn:=d',toks:=t' }:=by
 have neL:∀b o,X.s₀.heap.get? b=some o->b ≠ X.env.locals:=λb o e=>aE (aH (ar e) I.ok.above);have neC:∀b o,X.s₀.heap.get? b=some o->b ∉ X.ex->b ∉ ch:=λb o e hx hb=>by
  rcases(hch b hb).1 with z | z
  ·exact hx z
  ·exact absurd (aH (ar e) z) (bH _)
 have cellK:∀x c,X.env.cells.lookup x=some c->∀v,s.heap.IsCell c v->h'.IsCell c v:=λx c e v ⟨o,ho,hd⟩=>by
  have nch:=λz=>(hch c z).2.2.1 x c e rfl
  by_cases hc:c∈X.fs
  ·obtain⟨sl,q⟩:=slot c o (I.cne x c e) hc nch ho (I.freeC x c e);exact⟨_,q,hd⟩
  ·exact⟨o,keep c o (I.cne x c e) hc nch ho (I.freeC x c e),hd⟩
 refine⟨I.ok,I.os,hg,⟨λb o e n hb hx=> ?_,λb o e n hb hx=> ?_,λb o e n hx=> ?_,λb o e hx=> ?_,λb xs e=>tups b xs (I.base.tups b xs e),λb o xs e=>frzs b o xs (I.base.frzs b o xs e),λb ps q e=>tbls b ps q (I.base.tbls b ps q e)⟩, ?_,λx c e=> ?_, ?_,λx c e=> ?_,λp hp=> ?_,hok,I.len⟩
 ·exact keep b o (neL b o e) hb (neC b o e hx) (I.base.keep b o e n hb hx) (I.base.free b o e n hx)
 ·obtain⟨sl,e1⟩:=I.base.slot b o e n hb hx;obtain⟨sl',e2⟩:=slot b _ (neL b o e) hb (neC b o e hx) e1 (I.base.free b o e n hx);exact⟨sl',e2⟩
 ·obtain⟨o',e1⟩:=I.base.there b o e hx;exact free b o' (neC b o e hx) e1 (I.base.free b o e n hx)
 ·obtain⟨o',e1⟩:=I.base.there b o e hx;exact there b o' (neC b o e hx) e1
 ·obtain⟨m,hn,hl⟩:=I.loc;refine⟨m,ns m hn,λi x v e1 e2 e3=> ?_⟩;obtain⟨u,r,l⟩:=hl i x v e1 e2 e3;refine⟨u,r, ?_⟩;rcases l with l | ⟨k,c,e,z⟩
  ·exact .inl l
  ·exact .inr ⟨k,c,e,cellK x c e _ z⟩
 ·obtain⟨v,z⟩:=I.cell x c e;exact⟨v,cellK x c e v z⟩
 ·obtain⟨m,⟨o,_,_,ho,_⟩,_⟩:=I.loc;exact free _ o (λz=>(hch _ z).2.1 rfl) ho I.free
 ·obtain⟨v,o,ho,hd⟩:=I.cell x c e;exact free c o (λz=>(hch c z).2.2.1 x c e rfl) ho (I.freeC x c e)
 ·obtain⟨e,n,ne,nf,d⟩:=I.pin p hp;have nch:=λz=>(hch p.1 z).2.2.2 p hp rfl;exact⟨keep p.1 p.2 ne nf nch e n,free p.1 p.2 nch e n,ne,nf,d⟩
theorem Inv.un {t' :Nat}(I:Inv X pins σ H s)(u:Un X.fs [] H H' s.heap h')(hok:HOk X.prog X.w H' h'):Inv X pins σ H' { s with heap:=h',toks:=t' }:=by
 obtain⟨m,⟨o,es,ep,ho,r⟩,_⟩:=id I.loc;obtain⟨sl,hL⟩:=u.any ho I.free (by simp)
 exact I.step (ch:=[]) (λ_ z=>nomatch z) (λb o _ hb _ e n=>u.keep b o e n hb (by simp)) (λb o _ hb _ e n=>u.slot b o e n hb (by simp)) (λb o _ e n=>u.free b o e n (by simp)) (λb o _ e=>u.there b o e (by simp)) u.tups u.frzs u.tbls (λm' hm=>by
  obtain⟨o',es',ep',ho',r'⟩:=hm;rw[ho]at ho';cases ho';exact⟨_,es',ep',hL,r'⟩) hok I.bare
theorem Inv.call {g' :Array GenState}{t' :Nat}{d' :Drawn}{ch:List Addr}(I:Inv X pins σ H s)(u:Un (frs X.stack) ch H H' s.heap h')(hok:HOk X.prog X.w H' h')(hg:AllBare g')
  (hch:∀b∈ch,(b∈X.ex\/X.s₀.heap.objs.size<=b)/\b ≠ X.env.locals/\(∀x c,X.env.cells.lookup x=some c->c ≠ b)/\∀p∈X.pn++pins,p.1 ≠ b):
  Inv X pins σ H' { s with heap:=h',gens:=g',drawn:=d',toks:=t' }:=by
 obtain⟨m,⟨o,es,ep,ho,r⟩,_⟩:=id I.loc;obtain⟨sl,hL⟩:=u.any ho I.free λz=>(hch _ z).2.1 rfl;exact I.step hch (λb o hL hb hc e n=>u.keep b o e n (λz=>(am.mp (I.stkSub b z)).elim hL hb) hc) (λb o _ _ hc e n=>u.any e n hc) (λb o hc e n=>u.free b o e n hc) (λb o hc e=>u.there b o e hc) u.tups u.frzs u.tbls (λm' hm=>by
  obtain⟨o',es',ep',ho',r'⟩:=hm;rw[ho]at ho';cases ho';exact⟨_,es',ep',hL,r'⟩) hok hg
theorem Inv.turned {t' :Nat}{it:Addr}(I:Inv X pins σ H s)(k:∀b o,b ≠ it->s.heap.get? b=some o->h'.get? b=some o)(hn:H it=none)(hL:it ≠ X.env.locals)
  (h1:it∈X.ex\/X.s₀.heap.objs.size<=it) (h2:∀x c,X.env.cells.lookup x=some c->c ≠ it) (h3:∀p∈X.pn++pins,p.1 ≠ it):Inv X pins σ H { s with heap:=h',toks:=t' }:=by
 have nit:∀b u,H b=some u->b ≠ it:=λb u e z=>by rw[z,hn]at e;cases e
 refine I.step (ch:=[it]) (λb hb=> ?_) (λb o _ _ hc e _=>k b o (λz=>hc (by simp[z])) e) (λb o _ _ hc e _=>⟨o.slots,k b o (λz=>hc (by simp[z])) e⟩) (λ_ _ _ _ n=>n)
  (λb o hc e=>⟨o,k b o (λz=>hc (by simp[z])) e⟩) (λ_ _ e=>e) (λ_ _ _ e=>e) (λ_ _ _ e=>e) (λm hm=> ?_) (λb u e=> ?_) I.bare
 ·have e:=by simpa using hb
  subst e;exact⟨h1,hL,h2,h3⟩
 ·obtain⟨o,es,ep,ho,r⟩:=hm;exact⟨o,es,ep,k _ o (bi hL) ho,r⟩
 ·refine(I.hok b u e).stay (λc v hc q=>k c v ?_ q) (λ_ q=>q) λ_ _ q=>q;rcases hc with z | z
  ·rw[z];exact nit b u e
  ·exact nit c _ z
theorem Inv.tok (I:Inv X pins σ H s)(t:Nat):Inv X pins σ H { s with toks:=t }:=I.un Un.refl I.hok
theorem Inv.kept (I:Inv X pins σ H s)(k:∀b u,s.heap.get? b=some u->h'.get? b=some u):Inv X pins σ H { s with heap:=h',toks:=t' }:=I.un (Un.kept k) (I.hok.kept k)
theorem Inv.laid (I:Inv X pins σ H s)(k:∀b u,s.heap.get? b=some u->h'.get? b=some u)(hp:s.heap.objs.size<=a)(new:Za X.prog X.w (upd H a o) h' a o):
  Inv X pins σ (upd H a o) { s with heap:=h',toks:=t' }:=I.un (Un.laid k hp (I.hok.fresh hp)) (I.hok.laid k hp new)
theorem Inv.write (I:Inv X pins σ H s)(mu:Mut (H x))(he:e=x\/H e=some (.own x))(k:∀b u,b ≠ e->s.heap.get? b=some u->h'.get? b=some u)(heo:∃u,h'.get? e=some u)
  (new:Za X.prog X.w (upd H x o) h' x o):Inv X pins σ (upd H x o) { s with heap:=h',toks:=t' }:=I.un (Un.write mu he k heo) (I.hok.write mu he k heo new)
theorem Inv.pins_of (I:Inv X pins σ H s)(h:∀p∈pins',s.heap.get? p.1=some p.2/\H p.1=none/\p.1 ≠ X.env.locals/\p.1 ∉ X.fs/\∀v,p.2.data ≠ .cell v):Inv X pins' σ H s:=
 ⟨I.ok,I.os,I.bare,I.base,I.loc,I.cell,I.free,I.freeC,λp hp=>(d4.mp hp).elim (λz=>I.pin p (bY _ z)) (h p),I.hok,I.len⟩
theorem ww {N:List Str}(hN:N.Nodup){i j:Nat}{x:Str}(a:N[i]? =some x)(b:N[j]? =some x):i=j:=by
 obtain⟨h1,e1⟩:=aw.mp a;obtain⟨h2,e2⟩:=aw.mp b;exact(hW hN).mp (e1.trans e2.symm)
theorem Wb {M:Model}{A:Around}{E:Value->Shared->Prop}{i:Nat}{x:Str}{v:V}{u:Value}{Q:Unit->Shared->Prop}(I:Inv X pins σ H s)(hN:X.N.Nodup)(hi:X.N[i]? =some x)(hx:Loc X.env.scope x)(r:Zc v u)
  (h:∀s',Inv X pins (σ.set i (some v)) H s' ->(∃a,bZ a s.heap s'.heap/\(a=X.env.locals\/X.env.cells.lookup x=some a))->Q () s') (hf:X.fn x=true\/X.env.scope.names.lookup x=some .local:=by first | exact .inl rfl | exact .inr rfl | assumption):wpAny M A (storeName X.env x u) Q E s:=by
 obtain⟨m,hn,hl⟩:=id I.loc;have hcls:(X.env.scope.kind == .class || (X.env.scope.kind == .module && X.env.locals != X.env.globals))=false:=by rw[I.ok.kind];rfl
 have hiσ:i < σ.length:=by rw[I.len];exact(aw.mp hi).1
 have cne:=I.cne;have tracked:∀{a:Addr} {h' :Heap},(∃o,s.heap.get? a=some o/\H a=none)->bZ a _ h' ->HOk _ X.w H h' :=λ{a h'} ha hs b ob e=>by
  obtain⟨_,_,hfree⟩:=ha;refine(I.hok b ob e).stay (λc w' hc q=>(hs.2 c ?_).trans q) (λ_ q=>q) λ_ _ q=>q
  rintro rfl
  rcases hc with rfl | hc
  ·rw[hfree]at e;cases e
  ·rw[hfree]at hc;cases hc
 rcases hx with hk | hk
 ·refine wpAny_storeName_local hk hn (λh' hn' hs=> ?_) hcls;obtain⟨oL,_,_,hoL,_⟩:=id hn;refine h _ ⟨I.ok,I.os,I.bare,⟨λb o e n hb hx=> ?_,λb o e n hb hx=> ?_,I.base.free,λb o e hx=> ?_,I.base.tups,I.base.frzs,I.base.tbls⟩,⟨_,hn',λj y v' e1 e2 e3=> ?_⟩,λy c e=> ?_,I.free,I.freeC,λp hp=> ?_,tracked ⟨oL,hoL,I.free⟩ hs,by simpa using I.len⟩ ⟨_,hs,.inl rfl⟩
  ·exact(hs.2 b (aE (aH (ar e) I.ok.above))).trans (I.base.keep b o e n hb hx)
  ·obtain⟨sl,e1⟩:=I.base.slot b o e n hb hx;exact⟨sl,(hs.2 b (aE (aH (ar e) I.ok.above))).trans e1⟩
  ·obtain⟨o',e1⟩:=I.base.there b o e hx;exact⟨o',(hs.2 b (aE (aH (ar e) I.ok.above))).trans e1⟩
  ·by_cases hj:j=i
   ·subst hj;rw[hi]at e1;cases e1;rw[aP hiσ]at e2;cases e2;exact⟨u,r,.inl ⟨hk,by simp⟩⟩
   ·rw[ax (bi hj)]at e2;obtain⟨u',r',q⟩:=hl j y v' e1 e2 e3;refine⟨u',r', ?_⟩;rcases q with ⟨k,e⟩ | ⟨k,c,e,z⟩
    ·refine .inl ⟨k, ?_⟩;have:y ≠ x:=λe=>hj (ww hN e1 (e ▸ hi));simp[this,e]
    ·exact .inr ⟨k,c,e,z.sameBut hs (cne y c e)⟩
  ·obtain⟨w',z⟩:=I.cell y c e;exact⟨w',z.sameBut hs (cne y c e)⟩
  ·obtain⟨e,n,ne,nf,d⟩:=I.pin p hp;exact⟨(hs.2 p.1 ne).trans e,n,ne,nf,d⟩
 ·have hfn:X.fn x=true:=by
   rcases hf with z | z
   ·exact z
   ·rw[z]at hk;cases hk
  obtain⟨c,hc⟩:=I.ok.has x (.inl hk);obtain⟨w',z⟩:=I.cell x c hc;refine wpAny_storeName_cell I.ok.kind hk hc z (λh' hc' hs=> ?_);obtain⟨oc,hoc,hocd⟩:=id z;refine h _ ⟨I.ok,I.os,I.bare,⟨λb o e n hb hx=> ?_,λb o e n hb hx=> ?_,I.base.free,λb o e hx=> ?_,I.base.tups,I.base.frzs,I.base.tbls⟩,⟨m,hn.sameBut hs (bi (cne x c hc)),λj y v' e1 e2 e3=> ?_⟩,λy c' e=> ?_,I.free,I.freeC,λp hp=> ?_,tracked ⟨oc,hoc,I.freeC x c hc⟩ hs,by simpa using I.len⟩ ⟨c,hs,.inr hc⟩
  ·exact(hs.2 b (aE (aH (ar e) (I.ok.cab x c hfn hc)))).trans (I.base.keep b o e n hb hx)
  ·obtain⟨sl,e1⟩:=I.base.slot b o e n hb hx;exact⟨sl,(hs.2 b (aE (aH (ar e) (I.ok.cab x c hfn hc)))).trans e1⟩
  ·obtain⟨o',e1⟩:=I.base.there b o e hx;exact⟨o',(hs.2 b (aE (aH (ar e) (I.ok.cab x c hfn hc)))).trans e1⟩
  ·by_cases hj:j=i
   ·subst hj;rw[hi]at e1;cases e1;rw[aP hiσ]at e2;cases e2;exact⟨u,r,.inr ⟨.inl hk,c,hc,hc'⟩⟩
   ·rw[ax (bi hj)]at e2;obtain⟨u',r',q⟩:=hl j y v' e1 e2 e3;refine⟨u',r', ?_⟩;rcases q with q | ⟨k,c',e,z'⟩
    ·exact .inl q
    ·refine .inr ⟨k,c',e,z'.sameBut hs ?_⟩
     rintro rfl
     exact hj (ww hN e1 (I.ok.inj _ _ _ e hc ▸ hi))
  ·by_cases hcc:c' =c
   ·subst hcc;exact⟨_,hc'⟩
   ·obtain⟨w2,z2⟩:=I.cell y c' e;exact⟨w2,z2.sameBut hs hcc⟩
  ·obtain⟨e,n,ne,nf,d⟩:=I.pin p hp;refine⟨(hs.2 p.1 ?_).trans e,n,ne,nf,d⟩;intro q;rw[q,hoc]at e;have q' :=aB e;exact d w' (by rw[← q'];exact hocd)
theorem wx {Q:Unit->Shared->Prop}(I:Inv X pins σ H s)(hN:X.N.Nodup)(hi:X.N[i]? =some x)(hx:Loc X.env.scope x)(r:Zc v u)
  (h:∀s',Inv X pins (σ.set i (some v)) H s' ->Q () s') (hf:X.fn x=true\/X.env.scope.names.lookup x=some .local:=by first | exact .inl rfl | exact .inr rfl | assumption):wpAny M A (storeName X.env x u) Q E s:=
 Wb I hN hi hx r (λs' I' _=>h s' I') hf
theorem Inv.call' (I:Inv X pins σ H s)(ho:s'.os=s.os)(u:Un (frs X.stack) ch H H' s.heap s'.heap)(hok:HOk X.prog X.w H' s'.heap)(hg:AllBare s'.gens)
  (hch:∀b∈ch,(b∈X.ex\/X.s₀.heap.objs.size<=b)/\b ≠ X.env.locals/\(∀x c,X.env.cells.lookup x=some c->c ≠ b)/\∀p∈X.pn++pins,p.1 ≠ b):Inv X pins σ H' s' :=by
 obtain⟨h',g',d',t',o'⟩:=s';have e:=ho;subst e;exact I.call u hok hg hch
end
abbrev XK:=Value->Option Addr->Hp->Prop
noncomputable abbrev St:=List (Option V)
abbrev VK:=V->Hp->Prop
abbrev TE:=St->Hp->VK->Prop
abbrev TT:=St->Hp->(Bool->Hp->Prop)->Prop
abbrev TA:=St->Hp->(List V->Hp->Prop)->Prop
structure yq where
 nx:St->Hp->Prop
 rt:VK
 bk:St->Hp->Prop:=λ_ _=>False
 ct:St->Hp->Prop:=λ_ _=>False
abbrev TS:=yq->St->Hp->Prop
def EP (X:Cx)(pins:List (Addr×Obj))(σ:St)(Q:VK)(u:Value)(s' :Shared):Prop:=∃v H',Inv X pins σ H' s' /\Zc v u/\Q v H'
def TP (X:Cx)(pins:List (Addr×Obj))(σ:St)(Q:Bool->Hp->Prop)(b:Bool)(s' :Shared):Prop:=∃H',Inv X pins σ H' s' /\Q b H'
def AP (X:Cx)(pins:List (Addr×Obj))(σ:St)(Q:List V->Hp->Prop)(us:List Value)(s' :Shared):Prop:=∃vs H',Inv X pins σ H' s' /\zS vs us/\Q vs H'
def SP (X:Cx)(pins:List (Addr×Obj))(D:yq)(f:Flow)(s' :Shared):Prop:=
 match f with
 | .next=>∃σ' H',Inv X pins σ' H' s' /\D.nx σ' H'
 | .brk=>∃σ' H',Inv X pins σ' H' s' /\D.bk σ' H'
 | .cont=>∃σ' H',Inv X pins σ' H' s' /\D.ct σ' H'
 | .ret u=>∃v σ' H',Inv X pins σ' H' s' /\Zc v u/\D.rt v H'
def PE (X:Cx)(e:Expr)(t:TE):Prop:=
 ∀(pins:List (Addr×Obj)) (s:Shared) (σ:St) (H:Hp) (Q:VK),Inv X pins σ H s->t σ H Q->wpAny (model X.prog X.w) X.A (eval e X.env) (EP X pins σ Q) X.xe s
def PT (X:Cx)(e:Expr)(t:TT):Prop:=
 ∀(pins:List (Addr×Obj)) (s:Shared) (σ:St) (H:Hp) (Q:Bool->Hp->Prop),Inv X pins σ H s->t σ H Q->wpAny (model X.prog X.w) X.A (isTrue e X.env (eval e X.env)) (TP X pins σ Q) X.xe s
def PW (X:Cx)(e:Expr)(t:TT):Prop:=
 ∀(whole:Sem Value) (pins:List (Addr×Obj)) (s:Shared) (σ:St) (H:Hp) (Q:Bool->Hp->Prop),Inv X pins σ H s->t σ H Q->wpAny (model X.prog X.w) X.A (isTrue e X.env whole) (TP X pins σ Q) X.xe s
theorem PW.pt (h:PW X e t):PT X e t:=h _
def PA (X:Cx)(es:List Expr)(t:TA):Prop:=
 ∀(pos:Pos) (pins:List _) (s:Shared) (σ:St) (H:Hp) (Q:List V->Hp->Prop),Inv X pins σ H s->t σ H Q->wpAny (model X.prog X.w) X.A (spliced (backTo pos (starEach es X.env))) (AP X pins σ Q) X.xe s
def PS (X:Cx)(st:Stmt)(t:TS):Prop:=
 ∀(pins:List (Addr×Obj)) (s:Shared) (σ:St) (H:Hp) (D:yq),Inv X pins σ H s->t D σ H->wpAny (model X.prog X.w) X.A (exec st X.env) (SP X pins D) X.xe s
def PSs (X:Cx)(st:List Stmt)(t:TS):Prop:=
 ∀(pins:List (Addr×Obj)) (s:Shared) (σ:St) (H:Hp) (D:yq),Inv X pins σ H s->t D σ H->wpAny (model X.prog X.w) X.A (execs st X.env) (SP X pins D) X.xe s
theorem thn {α:Type}{t:Sem α}{Q Q' :α->Shared->Prop}(h:wpAny M A t Q E s)(hQ:∀a s,Q a s->Q' a s):wpAny M A t Q' E s:=bK h hQ λ_ _ x=>x
end L2
namespace L2
open PySem PySem.Spec PyProof.Rows
section
theorem bin (ha:PE X a ta)(hb:PE X b tb){R:V->V->Hp->Prop}(I:Inv X pins σ H s)(h:ta σ H λx H1=>tb σ H1 λy H2=>R x y H2)
  {α:Type} {Q:α->Shared->Prop} {f:Value->Value->Sem α}
  (hf:∀v u s2 x y H2,Inv X pins σ H2 s2->Zc x v->Zc y u->R x y H2->wpAny (model X.prog X.w) X.A (f v u) Q X.xe s2):
  wpAny (model X.prog X.w) X.A (eval a X.env) (λv s₁=>wpAny (model X.prog X.w) X.A (eval b X.env) (λu s₂=>wpAny (model X.prog X.w) X.A (f v u) Q X.xe s₂) X.xe s₁) X.xe s:=by
 refine thn (ha _ s σ H _ I h) λv s1 ⟨x,H1,I1,r1,q1⟩=> ?_;refine thn (hb _ s1 σ H1 _ I1 q1) λu s2 ⟨y,H2,I2,r2,q2⟩=> ?_;exact hf v u s2 x y H2 I2 r1 r2 q2
def Jh (i:Nat):TE:=λσ H Q=>∃v,σ[i]? =some (some v)/\Q v H
def tC (v:V):TE:=λ_ H Q=>Q v H
theorem uE (hN:X.N[i]? =some x)(hv:Vis X.env.scope x)(hd:(x == ("__debug__":Str))=false:=by decide)(hcd:(x == ("__classdict__":Str))=false:=by decide):PE X (.Name x pos) (Jh i):=by
 intro pins s σ H Q I h;obtain⟨v,e,h⟩:=h;obtain⟨m,hn,hl⟩:=I.loc;obtain⟨u,r,l⟩:=hl i x v hN e hv;have fin:EP X _ σ Q u s:=⟨v,H,I,r,h⟩;rcases l with ⟨hk,hm⟩ | ⟨hk,c,hc,hcell⟩
 ·exact wpAny_Name (wpAny_loadName_local I.ok.kind hk hn hm fin) hd
 ·rcases hk with hk | hk
  ·exact wpAny_Name (wpAny_loadName_cell I.ok.kind hk hc hcell fin) hd
  ·exact wpAny_Name (wpAny_loadName_free I.ok.kind hk hc hcell fin hcd) hd
theorem ke {i j pos}:PE X (.Constant (.int i) j pos) (tC (.int i)):=λ_ _ _ H _ I h=>wpAny_Constant_int ⟨.int i,H,I.tok _,⟨_,rfl⟩,h⟩
theorem z0e {b j pos}:PE X (.Constant (.bool b) j pos) (tC (.bl b)):=λ_ _ _ H _ I h=>Constant_bool ⟨.bl b,H,I,rfl,h⟩
theorem vW {x j pos}:PE X (.Constant (.str x) j pos) (tC (.str x)):=λ_ _ _ H _ I h=>Calls.Constant_str ⟨.str x,H,I.tok _,⟨_,rfl⟩,h⟩
noncomputable def Gl (X:Cx)(x:Str):Prop:=X.env.kindOf x=some .globalImplicit
theorem jq (I:Inv X pins σ H s)(hg:Gl X x)(hm:X.mg x=some u)(h:Q u s)
  (hd:(x == ("__debug__":Str))=false:=by decide):wpAny (model X.prog X.w) X.A (eval (.Name x pos) X.env) Q E s:=
 dE I.ok.kind hg (Calls.loadGlobal_global (by rw[I.ok.glob];exact I.mod.glob.keeps I.bk) hm h) hd
theorem j7 (I:Inv X pins σ H s)(hg:Gl X x)(hm:X.mg x=none)(hv:bootBuiltins x=some u)(h:Q u s)
  (hn:x ≠ "__name__":=by decide) (hd:(x == ("__debug__":Str))=false:=by decide):wpAny (model X.prog X.w) X.A (eval (.Name x pos) X.env) Q E s:=by
 obtain⟨mb,h1,h2⟩:=I.mod.blt;exact dE I.ok.kind hg (Calls.loadGlobal_builtin (by rw[I.ok.glob];exact I.mod.glob.keeps I.bk) hm (by rw[I.ok.blt];exact h1.keeps I.bk) ((h2 x hn).trans hv) h) hd
theorem yr (hg:Gl X x)(hm:X.mg x=some u)(r:Zc v u)(hd:(x == ("__debug__":Str))=false:=by decide):PE X (.Name x pos) (tC v):=
 λ_ _ _ H _ I h=>jq I hg hm ⟨v,H,I,r,h⟩ hd
theorem yt (hg:Gl X x)(hm:X.mg x=none)(hv:bootBuiltins x=some u)(r:Zc v u)(hn:x ≠ "__name__":=by decide)(hd:(x == ("__debug__":Str))=false:=by decide):PE X (.Name x pos) (tC v):=
 λ_ _ _ H _ I h=>j7 I hg hm hv ⟨v,H,I,r,h⟩ hn hd
variable {tA tB' :TT}{rest:List Expr}
def tAnd (t u:TT):TT:=λσ H Q=>t σ H λc H1=>if c=true then u σ H1 Q else Q false H1
def tOr (t u:TT):TT:=λσ H Q=>t σ H λc H1=>if c=true then Q true H1 else u σ H1 Q
def tNot (t:TT):TT:=λσ H Q=>t σ H λc H1=>Q (!c) H1
theorem VE (ha:PT X a tA):PW X (.BoolOp .And [a] pos) tA:=by
 intro wh pins s σ H Q I h;refine isTrue_and (thn (ha _ s σ H Q I h) λc s1 e=> ?_);cases c with
 | true=>exact isTrue_and_nil e
 | false=>exact e
theorem kf (ha:PT X a tA):PW X (.BoolOp .Or [a] pos) tA:=by
 intro wh pins s σ H Q I h;refine isTrue_or (thn (ha _ s σ H Q I h) λc s1 e=> ?_);cases c with
 | false=>exact isTrue_or_nil e
 | true=>exact e
theorem kg (ha:PT X a tA)(hb:PW X (.BoolOp .And (b :: rest) pos) tB'):PW X (.BoolOp .And (a :: b :: rest) pos) (tAnd tA tB'):=by
 intro wh pins s σ H Q I h;refine isTrue_and (thn (ha _ s σ H _ I h) λc s1 ⟨H1,I1,q1⟩=> ?_);cases c with
 | true=>exact hb wh _ s1 σ H1 Q I1 q1
 | false=>exact⟨H1,I1,q1⟩
theorem z0f (ha:PT X a tA)(hb:PW X (.BoolOp .Or (b :: rest) pos) tB'):PW X (.BoolOp .Or (a :: b :: rest) pos) (tOr tA tB'):=by
 intro wh pins s σ H Q I h;refine isTrue_or (thn (ha _ s σ H _ I h) λc s1 ⟨H1,I1,q1⟩=> ?_);cases c with
 | true=>exact⟨H1,I1,q1⟩
 | false=>exact hb wh _ s1 σ H1 Q I1 q1
theorem kh (ha:PT X a tA):PT X (.UnaryOp .Not a pos) (tNot tA):=by
 intro pins s σ H Q I h;exact isTrue_not (ha _ s σ H (λc H1=>Q _ H1) I h)
def z0g (ta tb:TE):TE:=λσ H Q=>ta σ H λx H1=>∃c,x= .bl c/\if c=true then tb σ H1 Q else Q (.bl false) H1
def tOrV (ta tb:TE):TE:=λσ H Q=>ta σ H λx H1=>∃c,x= .bl c/\if c=true then Q (.bl true) H1 else tb σ H1 Q
def z0h (ta:TE):TE:=λσ H Q=>ta σ H λx H1=>∃c,x= .bl c/\Q (.bl (!c)) H1
theorem ki {op}(h:PE X a t):PE X (.BoolOp op [a] pos) t:=λpins s σ H Q I hw=>BoolOp_one (h _ s σ H Q I hw)
theorem kl (ha:PE X a ta)(hb:PE X (.BoolOp .And (b :: rest) pos) tb):PE X (.BoolOp .And (a :: b :: rest) pos) (z0g ta tb):=by
 intro pins s σ H Q I h;refine BoolOp_and (thn (ha _ s σ H _ I h) λv s1 ⟨x,H1,I1,r1,q1⟩=> ?_);obtain⟨c,rfl,q1⟩:=q1;cases r1;refine ba ?_;cases c with
 | true=>exact hb _ s1 σ H1 Q I1 q1
 | false=>exact⟨.bl _,H1,I1,rfl,q1⟩
theorem z0i (ha:PE X a ta)(hb:PE X (.BoolOp .Or (b :: rest) pos) tb):PE X (.BoolOp .Or (a :: b :: rest) pos) (tOrV ta tb):=by
 intro pins s σ H Q I h;refine BoolOp_or (thn (ha _ s σ H _ I h) λv s1 ⟨x,H1,I1,r1,q1⟩=> ?_);obtain⟨c,rfl,q1⟩:=q1;cases r1;refine ba ?_;cases c with
 | false=>exact hb _ s1 σ H1 Q I1 q1
 | true=>exact⟨.bl _,H1,I1,rfl,q1⟩
theorem km (ha:PE X a ta):PE X (.UnaryOp .Not a pos) (z0h ta):=by
 intro pins s σ H Q I h;refine UnaryOp_ (thn (ha _ s σ H _ I h) λv s1 ⟨x,H1,I1,r1,q1⟩=> ?_);obtain⟨c,rfl,q1⟩:=q1;cases r1;exact not_of (ba ⟨.bl _,H1,I1,rfl,q1⟩)
def tIf (t:TT)(ta tb:TE):TE:=λσ H Q=>t σ H λc H1=>if c=true then ta σ H1 Q else tb σ H1 Q
theorem uF (hc:PT X c tA)(ha:PE X a ta)(hb:PE X b tb):PE X (.IfExp c a b pos) (tIf tA ta tb):=by
 intro pins s σ H Q I h;refine wpAny_IfExp (thn (hc _ s σ H _ I h) λd s1 ⟨H1,I1,q1⟩=> ?_);cases d with
 | true=>exact ha _ s1 σ H1 Q I1 q1
 | false=>exact hb _ s1 σ H1 Q I1 q1
end
end L2
namespace L2
open PySem PySem.Spec PyProof.Rows
def SqL (K:a8)(H:Hp)(a:Addr)(xs:List V):Prop:=
 Rd H a (.lst xs)\/
  ∃(o:Obj) (its:Array Value) (n:Nat),K.lookup a=some o/\o.cls= .type "list"/\o.dict=none/\o.data= .seq its n/\its.size<=sizeLine/\zS xs its.toList
def SqT (K:a8)(H:Hp)(a:Addr)(xs:List V):Prop:=
 Rd H a (.tup xs)\/
  ∃(o:Obj) (its:Array Value) (n:Nat),K.lookup a=some o/\o.cls= .type "tuple"/\o.data= .seq its n/\its.size<=sizeLine/\zS xs its.toList
noncomputable def absV:Value->Option V
 | .none=>some .non
 | .bool b=>some (.bl b)
 | .int i _=>some (.int i)
 | .str x _=>some (.str x)
 | .bytes b _=>some (.byt b)
 | .float b _=>some (.flt b)
 | .ref a=>some (.ref a)
 | .type n=>some (.ty n)
 | _=>none
theorem Zc.abs (r:Zc x u):absV u=some x:=by
 cases x with
 | non=>cases r;rfl
 | bl _=>cases r;rfl
 | int _=>obtain⟨t,rfl⟩:=r;rfl
 | str _=>obtain⟨t,rfl⟩:=r;rfl
 | byt _=>obtain⟨t,rfl⟩:=r;rfl
 | flt _=>obtain⟨t,rfl⟩:=r;rfl
 | ref _=>cases r;rfl
 | ty _=>cases r;rfl
theorem Zc.inj (r:Zc x u)(q:Zc y u):x=y:=aB (r.abs.symm.trans q.abs)
theorem zS.inj:∀{xs ys:List V} {us:List Value},zS xs us->zS ys us->xs=ys
 | _,_,_,.nil,.nil=>rfl
 | _,_,_,.cons r t,.cons r' t' =>by rw[r.inj r',zS.inj t t']
section
variable {X:Cx}{pins:List (Addr×Obj)}{σ:St}{H:Hp}{s:Shared}{a:Addr}{xs ys:List V}
theorem SqL.of {K:a8}(h:H a=some (.lst xs)):SqL K H a xs:= .inl (.inl h)
theorem SqT.of {K:a8}(h:H a=some (.tup xs)):SqT K H a xs:= .inl (.inl h)
theorem Inv.list (I:Inv X pins σ H s)(h:SqL X.K H a xs):∃its:List Value,zS xs its/\PlainL s.heap a its.toArray/\xs.length<=sizeLine:=by
 rcases h with h | ⟨o,its,n,hk,hc,hd,hs,hz,r⟩
 ·obtain⟨z,its,n,r,e⟩:=h.ok I.hok;exact⟨its,r,⟨_,n,e,rfl,rfl,rfl⟩,z⟩
 ·refine⟨its.toList,r,⟨o,n,I.kIn a o hk,hc,hd,by simpa using hs⟩, ?_⟩
  have e:=r.length;simp only[dB]at e;omega
theorem Inv.tuple (I:Inv X pins σ H s)(h:SqT X.K H a xs):∃its:List Value,zS xs its/\IsTup s.heap a its.toArray/\xs.length<=sizeLine:=by
 rcases h with h | ⟨o,its,n,hk,hc,hs,hz,r⟩
 ·obtain⟨z,its,r,p,_⟩:=h.ok I.hok;exact⟨its,r,p,z⟩
 ·refine⟨its.toList,r,⟨o,I.kIn a o hk,hc,n,by simpa using hs⟩, ?_⟩
  have e:=r.length;simp only[dB]at e;omega
theorem Inv.list_inj (I:Inv X pins σ H s)(h:SqL X.K H a xs)(h' :SqL X.K H a ys):xs=ys:=by
 obtain⟨its,r,⟨o,n,e,_,_,d⟩,_⟩:=I.list h;obtain⟨its',r',⟨o',n',e',_,_,d'⟩,_⟩:=I.list h';rw[e]at e';cases e';rw[d]at d';injection d' with d1 _;have:=by simpa using congrArg Array.toList d1
 subst this;exact r.inj r'
theorem Inv.tuple_inj (I:Inv X pins σ H s)(h:SqT X.K H a xs)(h' :SqT X.K H a ys):xs=ys:=by
 obtain⟨its,r,⟨o,e,_,n,d⟩,_⟩:=I.tuple h;obtain⟨its',r',⟨o',e',_,n',d'⟩,_⟩:=I.tuple h';rw[e]at e';cases e';rw[d]at d';injection d' with d1 _;have:=by simpa using congrArg Array.toList d1
 subst this;exact r.inj r'
end
noncomputable abbrev Cx.wish (X:Cx)(E:Value->Shared->Prop):Cx:={ X with xe:=E }
abbrev Cx.nox (X:Cx):Cx:=X.wish λ_ _=>False
theorem Cx.Ok.wish {X:Cx}(ok:X.Ok)(E:Value->Shared->Prop):(X.wish E).Ok:=
 ⟨ok.mod,ok.kind,ok.glob,ok.blt,ok.above,ok.inj,ok.has,ok.cab,ok.hd,ok.frames,ok.stk,ok.exf,ok.bs,ok.bsz,ok.noex,ok.exfs,ok.funs,ok.frf⟩
theorem Cx.Ok.unwish {X:Cx}{E:Value->Shared->Prop}(ok:(X.wish E).Ok):X.Ok:=
 ⟨ok.mod,ok.kind,ok.glob,ok.blt,ok.above,ok.inj,ok.has,ok.cab,ok.hd,ok.frames,ok.stk,ok.exf,ok.bs,ok.bsz,ok.noex,ok.exfs,ok.funs,ok.frf⟩
section
variable {X:Cx}{pins:List (Addr×Obj)}{σ:St}{H:Hp}{s:Shared}{E:Value->Shared->Prop}
theorem Inv.wish (I:Inv X pins σ H s)(E:Value->Shared->Prop):Inv (X.wish E) pins σ H s:=⟨I.ok.wish E,I.os,I.bare,I.base,I.loc,I.cell,I.free,I.freeC,I.pin,I.hok,I.len⟩
theorem Inv.unwish (I:Inv (X.wish E) pins σ H s):Inv X pins σ H s:=⟨I.ok.unwish,I.os,I.bare,I.base,I.loc,I.cell,I.free,I.freeC,I.pin,I.hok,I.len⟩
theorem SP.unwish {D:yq}{f:Flow}(h:SP (X.wish E) pins D f s'):SP X pins D f s' :=by
 cases f with
 | next=>obtain⟨σ',H',I,q⟩:=h;exact⟨σ',H',I.unwish,q⟩
 | brk=>obtain⟨σ',H',I,q⟩:=h;exact⟨σ',H',I.unwish,q⟩
 | cont=>obtain⟨σ',H',I,q⟩:=h;exact⟨σ',H',I.unwish,q⟩
 | ret u=>obtain⟨v,σ',H',I,r,q⟩:=h;exact⟨v,σ',H',I.unwish,r,q⟩
theorem PSs.nox {st:List Stmt}{t:TS}(h:PSs X.nox st t):PSs X st t:=λpins s σ H D I hw=>
 bK (h _ s σ H D (I.wish _) hw) (λ_ _ q=>q.unwish) λ_ _ z=>bp z
end
section
variable {X:Cx}{st:Stmt}{rest:List Stmt}{t u:TS}{e:Expr}{te:TE}{pos:Pos}
def z0j:TS:=λD σ H=>D.nx σ H
def tSeq (t u:TS):TS:=λD σ H=>t { D with nx:=u D } σ H
theorem yu:PSs X [] z0j:=λ_ _ σ H _ I h=>wpAny_execs_nil ⟨σ,H,I,h⟩
theorem uG (h1:PS X st t)(h2:PSs X rest u):PSs X (st :: rest) (tSeq t u):=by
 intro pins s σ H D I h;refine wpAny_execs_cons (thn (h1 _ s σ H _ I h) λf s1 q=> ?_);cases f with
 | next=>
  obtain⟨σ',H',I',q⟩:=q;exact h2 _ s1 σ' H' D I' q
 | ret v=>exact q
 | brk=>exact q
 | cont=>exact q
theorem Jr (h1:PS X st t):PSs X [st] t:=by
 intro pins s σ H D I h;refine wpAny_execs_cons (thn (h1 _ s σ H D I h) λf s1 q=> ?_);cases f with
 | next=>exact wpAny_execs_nil q
 | ret v=>exact q
 | brk=>exact q
 | cont=>exact q
theorem Inv.quiet (I:Inv X pins σ H s):interactive X.env=false:=by simp[interactive,I.ok.kind]
def z0k (te:TE):TS:=λD σ H=>te σ H λ_ H1=>D.nx σ H1
theorem Js (he:PE X e te)(hs:swapsWith e none pos.line X.env=pure false:=by rfl):PS X (.Expr e pos) (z0k te):=by
 intro pins s σ H D I h;exact wpAny_Expr_any (thn (he _ s σ H _ I h) λv s1 ⟨x,H1,I1,r1,q1⟩=>⟨σ,H1,I1,q1⟩) I.quiet hs
def tRet (te:TE):TS:=λD σ H=>te σ H D.rt
theorem Wc (he:PE X e te):PS X (.Return (some e) pos) (tRet te):=by
 intro pins s σ H D I h;exact wpAny_Return_some (thn (he _ s σ H _ I h) λv s1 ⟨x,H1,I1,r1,q1⟩=>⟨x,σ,H1,I1,r1,q1⟩)
def tIfS (c:TT)(t u:TS):TS:=λD σ H=>c σ H λb H1=>if b=true then t D σ H1 else u D σ H1
theorem kn (hc:PT X c tc)(ha:PSs X a t)(hb:PSs X b u):PS X (.If c a b pos) (tIfS tc t u):=by
 intro pins s σ H D I h;refine wpAny_If (thn (hc _ s σ H _ I h) λd s1 ⟨H1,I1,q1⟩=> ?_);cases d with
 | true=>exact ha _ s1 σ H1 D I1 q1
 | false=>exact hb _ s1 σ H1 D I1 q1
end
abbrev TG:=V->St->Hp->(St->Hp->Prop)->Prop
abbrev TGs:=List V->St->Hp->(St->Hp->Prop)->Prop
def PG (X:Cx)(target:Expr)(t:TG):Prop:=
 ∀(pins:List (Addr×Obj)) (s:Shared) (σ:St) (H:Hp) (v:V) (u:Value) (Q:St->Hp->Prop),Inv X pins σ H s->Zc v u->t v σ H Q->
  wpAny (model X.prog X.w) X.A (assign target X.env u) (λ_ s' =>∃σ' H',Inv X pins σ' H' s' /\Q σ' H') X.xe s
def PGs (X:Cx)(ts:List Expr)(t:TGs):Prop:=
 ∀(pins:List (Addr×Obj)) (s:Shared) (σ:St) (H:Hp) (vs:List V) (us:List Value) (Q:St->Hp->Prop),Inv X pins σ H s->zS vs us->t vs σ H Q->
  wpAny (model X.prog X.w) X.A (assignInOrder ((assignEach ts X.env).map (·.2)) us) (λ_ s' =>∃σ' H',Inv X pins σ' H' s' /\Q σ' H') X.xe s
section
def wy (i:Nat):TG:=λv σ H Q=>Q (σ.set i (some v)) H
theorem j8 (hN:X.N.Nodup)(hi:X.N[i]? =some x)(hx:Loc X.env.scope x)(hf:X.fn x=true\/X.env.scope.names.lookup x=some .local:=by first | exact .inl rfl | exact .inr rfl | assumption):PG X (.Name x pos) (wy i):=by
 intro pins s σ H v u Q I r h;exact wpAny_assign_Name (wx I hN hi hx r (λs' I' =>⟨_,H,I',h⟩) hf)
def z0l:TGs:=λvs σ H Q=>vs=[]/\Q σ H
def yv (t:TG)(u:TGs):TGs:=λvs σ H Q=>∃v r,vs=v :: r/\t v σ H λσ' H' =>u r σ' H' Q
theorem yw:PGs X [] z0l:=by
 intro pins s σ H vs us Q I r h;obtain⟨e,h⟩:=h;exact assignInOrder_nil ⟨σ,H,I,h⟩
theorem ji {u:TGs}(h1:PG X e t)(h2:PGs X es u)
  (hs:(assignEach (e :: es) X.env).map (·.2)=assign e X.env :: (assignEach es X.env).map (·.2):=by rfl):PGs X (e :: es) (yv t u):=by
 intro pins s σ H vs us Q I r h;obtain⟨v,vr,e1,h⟩:=h;subst e1;cases r with
 | cons r rr=>
  rw[hs];refine assignInOrder_cons (thn (h1 _ s σ H _ _ _ I r h) λ_ s1 ⟨σ1,H1,I1,q1⟩=> ?_);exact h2 _ s1 σ1 H1 _ _ Q I1 rr q1
def z0m (K:a8)(n:Nat)(t:TGs):TG:=λv σ H Q=>∃a xs,v= .ref a/\SqT K H a xs/\xs.length=n/\t xs σ H Q
theorem vX {t:TGs}(hc:X.calm=true)(h:PGs X es t)
  (hn:(assignEach es X.env).length=n:=by rfl) (hst:(assignEach es X.env).findIdx? (·.1)=none:=by rfl):PG X (.Tuple es k pos) (z0m X.K n t):=by
 intro pins s σ H v u Q I r hw;obtain⟨a,xs,e1,hq,hl,hw⟩:=hw;subst e1;cases r;obtain⟨its,rv,ht,hz⟩:=I.tuple hq;refine assign_Tuple_tuple (I.ok.hd hc) ht (by simp[hn,← hl,rv.length]) hst λh' hx=> ?_
 have I1:Inv X _ σ H { s with heap:=h' }:=I.kept λb o e=>hx b o (aE (ar e)) e;exact h _ _ σ H xs _ Q I1 (by simpa using rv) hw
def tAsg (te:TE)(g:TG):TS:=λD σ H=>te σ H λx H1=>g x σ H1 D.nx
theorem kq (he:PE X e te)(hg:PG X tg g)(hs:swapsWithSole [tg] e pos.line X.env=pure false:=by rfl)(hw:swappedStores [tg] e X.env=pure none:=by rfl)
  (h1:(assignEach [tg] X.env).map (·.2)=[assign tg X.env]:=by rfl):PS X (.Assign [tg] e pos) (tAsg te g):=by
 intro pins s σ H D I h;refine wpAny_Assign_stores (thn (he _ s σ H _ I h) λv s1 ⟨x,H1,I1,r1,q1⟩=> ?_) hs hw;rw[h1];exact thn (hg _ s1 σ H1 x v _ I1 r1 q1) λ_ s2 q=>q
theorem uH (hN:X.N.Nodup)(hi:X.N[i]? =some x)(hx:Loc X.env.scope x)(he:PE X e te)(hs:swapsWith e (some (.Name x pos')) pos.line X.env=pure false:=by rfl)(hf:X.fn x=true\/X.env.scope.names.lookup x=some .local:=by first | exact .inl rfl | exact .inr rfl | assumption):
  PS X (.Assign [.Name x pos'] e pos) (tAsg te (wy i)):=by
 intro pins s σ H D I h;refine wpAny_Assign_Name (thn (he _ s σ H _ I h) λv s1 ⟨y,H1,I1,r1,q1⟩=> ?_) hs;exact wx I1 hN hi hx r1 (λs2 I2=>⟨_,H1,I2,q1⟩) hf
end
section
def ku (c:TT)(tb:TS):TS:=λD σ H=>∃W:Nat->St->Hp->Prop,(∃m,W m σ H)/\∀m σ H,W m σ H->
 c σ H λb H1=>if b=true then ∃N:St->Hp->Prop,(∀σ' H',N σ' H' ->∃m',m' < m/\W m' σ' H')/\tb { D with nx:=N,ct:=N,bk:=D.nx } σ H1 else D.nx σ H1
theorem Qt (hp:PassesOwn (model X.prog X.w) X.A X.env X.xe)(hc:PT X c tc)(hb:PSs X body tb):PS X (.While c body [] pos) (ku tc tb):=by
 intro pins s σ H D I h;obtain⟨W,⟨m0,w0⟩,turn⟩:=h;refine wpAny_While (codeAny_whileLoop (λn s' =>∃σ' H',Inv X _ σ' H' s' /\W n σ' H') ?_ m0 ⟨σ,H,I,w0⟩)
 rintro n s1 ⟨σ1,H1,I1,w1⟩
 refine bW hp (thn (hc _ s1 σ1 H1 _ I1 (turn n σ1 H1 w1)) λb s2 ⟨H2,I2,q2⟩=> ?_);cases b with
 | true=>
  obtain⟨N,hN,q2⟩:=q2;refine bW hp (thn (hb _ s2 σ1 H2 _ I2 q2) λf s3 q3=> ?_);cases f with
  | next=>
   obtain⟨σ3,H3,I3,n3⟩:=q3;obtain⟨m',hm,w3⟩:=hN σ3 H3 n3;exact⟨m',hm,σ3,H3,I3,w3⟩
  | cont=>
   obtain⟨σ3,H3,I3,n3⟩:=q3;obtain⟨m',hm,w3⟩:=hN σ3 H3 n3;exact⟨m',hm,σ3,H3,I3,w3⟩
  | brk=>exact q3
  | ret v=>exact q3
 | false=>
  exact wpAny_execs_nil ⟨σ1,H2,I2,q2⟩
end
structure It where
 go:Nat->Hp->Prop
 yld:Nat->Hp->V->Hp->Prop
 stop:Nat->Hp->Prop
def Wd (X:Cx)(pins:List (Addr×Obj))(H:Hp)(b:Addr):Prop:=
 H b=none/\b ≠ X.env.locals/\b ∉ X.fs/\(b∈X.ex\/X.s₀.heap.objs.size<=b)/\(∀x c,X.env.cells.lookup x=some c->c ≠ b)/\∀p∈X.pn++pins,p.1 ≠ b
theorem Inv.fpOk (I:Inv X pins σ H s)(hb:s.heap.objs.size<=b)(hn:H' b=none):Wd X pins H' b:=by
 refine⟨hn,da (aH I.lt hb),I.nofs hb,.inr (aD I.sz hb),λx c e z=> ?_,λp hp z=> ?_⟩
 ·obtain⟨v,q⟩:=I.cell x c e;exact absurd (aH q.lt (by rw[z];exact hb)) (bH _)
 ·exact absurd (aH (ar (I.pin p hp).1) (by rw[z];exact hb)) (bH _)
structure yi (P:Program) (w:World) (K:a8) (tg:Expr) (J:It) (fp:List Addr) (it:Addr) (tn:Nat->Heap->Prop):Prop where
 mem:it∈fp
 obj:∀i h,tn i h->∀b∈fp,∃o,h.get? b=some o/\∀v,o.data ≠ .cell v
 keep:∀i h h',tn i h->(∀b∈fp,∀o,h.get? b=some o->h'.get? b=some o)->tn i h'
 item:∀(X:Cx),X.prog=P->X.w=w->X.K=K->X.calm=true->∀(i:Nat) (pins:List (Addr×Obj)) (s:Shared) (σ:St) (H:Hp) (E:Value->Shared->Prop),Inv X pins σ H s->(∀b∈fp,Wd X pins H b)->tn i s.heap->J.go i H->
  wpAny (model P w) X.A (pyNext (.ref it)) (λr s1=>∃u,r=some u/\
   wpAny (model P w) X.A (letOwnedTupleGo tg (.ref it) u) (λ_ s2=>∃x H',Inv X pins σ H' s2/\Zc x u/\J.yld i H x H' /\tn (i+1) s2.heap/\∀b∈fp,H' b=none) E s1) E s
 done:∀(X:Cx),X.prog=P->X.w=w->X.K=K->X.calm=true->∀(i:Nat) (pins:List (Addr×Obj)) (s:Shared) (σ:St) (H:Hp) (E:Value->Shared->Prop),Inv X pins σ H s->(∀b∈fp,Wd X pins H b)->tn i s.heap->J.stop i H->
  wpAny (model P w) X.A (pyNext (.ref it)) (λr s1=>r=none/\Inv X pins σ H s1) E s
 self:∀(A:Around) (i:Nat) (s:Shared) (Q:Value->Shared->Prop) (E:Value->Shared->Prop),tn i s.heap->Q (.ref it) s->wpAny (model P w) A (pyIter (.ref it)) Q E s
abbrev TI:=St->Hp->(It->Hp->Prop)->Prop
def PIE (X:Cx)(pins:List (Addr×Obj))(σ:St)(tg:Expr)(R:It->Hp->Prop)(itv:Value)(s2:Shared):Prop:=
 ∃(it:Addr) (fp:List Addr) (tn:Nat->Heap->Prop) (J:It) (H' :Hp),itv= .ref it/\Inv X pins σ H' s2/\yi X.prog X.w X.K tg J fp it tn/\tn 0 s2.heap/\(∀b∈fp,Wd X pins H' b)/\R J H'
def PI (X:Cx)(tg iter:Expr)(wi:TI):Prop:=
 ∀(pins:List (Addr×Obj)) (s:Shared) (σ:St) (H:Hp) (R:It->Hp->Prop),Inv X pins σ H s->wi σ H R->
  wpAny (model X.prog X.w) X.A (eval iter X.env) (λv s1=>wpAny (model X.prog X.w) X.A (pyIter v) (PIE X pins σ tg R) X.xe s1) X.xe s
theorem Ux {Q:Unit->Shared->Prop}(ho:s.heap.get? it=some o)(hc:o.cls= .type n)(hd:o.data= .fields vs)
  (hn:["enumerate","zip","dict_itemiterator","dict_reverseitemiterator","odict_iterator","itertools.zip_longest","itertools.pairwise"].contains n=false) (hQ:Q () s):wpAny M A (letOwnedTupleGo tg (.ref it) u) Q E s:=by
 cases tg <;> first
  | exact au hQ
  | (cases u <;> first
    | exact au hQ
    | (refine a7 (wpAny_load ho ?_);rw[hc,hd];show wpAny M A (if (["enumerate","zip","dict_itemiterator","dict_reverseitemiterator","odict_iterator","itertools.zip_longest","itertools.pairwise"].contains n && vs[0]? == some _)=true then _ else _) Q E s;rw[if_neg (by intro h;rw[hn]at h;cases h)];exact au hQ))
def Itl (K:a8)(a:Addr):It:=
 ⟨λi H=>∃xs x,SqL K H a xs/\xs[i]? =some x,λi H x H' =>H' =H/\∀xs,SqL K H a xs->xs[i]? =some x,λi H=>∃xs,SqL K H a xs/\xs.length<=i⟩
def Itt (K:a8)(a:Addr):It:=
 ⟨λi H=>∃xs x,SqT K H a xs/\xs[i]? =some x,λi H x H' =>H' =H/\∀xs,SqT K H a xs->xs[i]? =some x,λi H=>∃xs,SqT K H a xs/\xs.length<=i⟩
noncomputable def Itr (lo:Int)(n:Nat):It:=⟨λi _=>i < n,λi H x H' =>H' =H/\x= .int (lo+i),λi _=>n<=i⟩
theorem yx {P:Program}{w:World}{K:a8}{tg:Expr}(a it:Addr):yi P w K tg (Itl K a) [it] it (λi h=>h.IsListIter it a i) where
 mem:=by simp
 obj:=λi h st b hb=>by
  have e:b=it:=by simpa using hb
  subst e;obtain⟨o,e,c,d⟩:=st;exact⟨o,e,λv z=>by rw[d]at z;cases z⟩
 keep:=λi h h' st k=>st.at λo e=>k it (by simp) o e
 item:=by
  intro X hP hw hK hc i pins s σ H E I hf st hg;subst hP hw hK;obtain⟨xs,x,hq,hx⟩:=hg;obtain⟨its,rv,p,hz⟩:=I.list hq;obtain⟨u,hu,ru⟩:=rv.get hx;obtain⟨f0,f1,f2,f3,f4,f5⟩:=hf it (by simp)
  refine wpAny_pyNext_list_item st p.isList (x:=u) (by simpa using hu) λh' st' sb=> ?_
  have I1:Inv X pins σ H { s with heap:=h' }:=I.turned (t' :=s.toks) (λb o hb e=>(sb.2 b hb).trans e) f0 f1 f3 f4 f5;obtain⟨o,e,c,d⟩:=id st';exact⟨u,rfl,Ux (s:={ s with heap:=h' }) e c d (by decide) ⟨x,H,I1,ru,⟨rfl,λys hy=>by rw[I.list_inj hy hq];exact hx⟩,st',λb hb=>(hf b hb).1⟩⟩
 done:=by
  intro X hP hw hK hc i pins s σ H E I hf st hg;subst hP hw hK;obtain⟨xs,hq,hx⟩:=hg;obtain⟨its,rv,p,hz⟩:=I.list hq;obtain⟨f0,f1,f2,f3,f4,f5⟩:=hf it (by simp)
  have hl:=rv.length;exact wpAny_pyNext_list_end (I.ok.hd hc) st p.isList (by simp;omega) λh' eb=>⟨rfl,I.turned (t' :=s.toks) (λb o hb e=>eb b o hb e) f0 f1 f3 f4 f5⟩
 self:=λ_ _ _ _ _ st h=>wpAny_pyIter_listiter st h
theorem Uy {P:Program}{w:World}{K:a8}{tg:Expr}(a it:Addr):yi P w K tg (Itt K a) [it] it (λi h=>h.IsTupleIter it a i) where
 mem:=by simp
 obj:=λi h st b hb=>by
  have e:b=it:=by simpa using hb
  subst e;obtain⟨o,e,c,d⟩:=st;exact⟨o,e,λv z=>by rw[d]at z;cases z⟩
 keep:=λi h h' st k=>st.at λo e=>k it (by simp) o e
 item:=by
  intro X hP hw hK hc i pins s σ H E I hf st hg;subst hP hw hK;obtain⟨xs,x,hq,hx⟩:=hg;obtain⟨its,rv,p,hz⟩:=I.tuple hq;obtain⟨u,hu,ru⟩:=rv.get hx;obtain⟨f0,f1,f2,f3,f4,f5⟩:=hf it (by simp)
  refine wpAny_pyNext_tuple_item st (show s.heap.IsTuple a its.toArray from p) (x:=u) (by simpa using hu) λh' st' sb=> ?_
  have I1:Inv X pins σ H { s with heap:=h' }:=I.turned (t' :=s.toks) (λb o hb e=>(sb.2 b hb).trans e) f0 f1 f3 f4 f5;obtain⟨o,e,c,d⟩:=id st';exact⟨u,rfl,Ux (s:={ s with heap:=h' }) e c d (by decide) ⟨x,H,I1,ru,⟨rfl,λys hy=>by rw[I.tuple_inj hy hq];exact hx⟩,st',λb hb=>(hf b hb).1⟩⟩
 done:=by
  intro X hP hw hK hc i pins s σ H E I hf st hg;subst hP hw hK;obtain⟨xs,hq,hx⟩:=hg;obtain⟨its,rv,p,hz⟩:=I.tuple hq;obtain⟨f0,f1,f2,f3,f4,f5⟩:=hf it (by simp)
  have hl:=rv.length;exact wpAny_pyNext_tuple_end (I.ok.hd hc) st (show s.heap.IsTuple a its.toArray from p) (by simp;omega) λh' eb=>⟨rfl,I.turned (t' :=s.toks) (λb o hb e=>eb b o hb e) f0 f1 f3 f4 f5⟩
 self:=λ_ _ _ _ _ st h=>wpAny_pyIter_tupleiter st h
theorem Uz {P:Program}{w:World}{K:a8}{tg:Expr}(it:Addr)(lo:Int)(n:Nat):yi P w K tg (Itr lo n) [it] it (λi h=>IsRangeIter h it (lo+(i:Nat)*1) ((n:Int) - (i:Nat)) 1) where
 mem:=by simp
 obj:=λi h st b hb=>by
  have e:b=it:=by simpa using hb
  subst e;exact⟨_,st,λv z=>by
   have z' :Data.fields _=Data.cell v:=z;cases z'⟩
 keep:=λi h h' st k=>k it (by simp) _ st
 item:=by
  intro X hP hw hK hc i pins s σ H E I hf st hg;subst hP hw hK;obtain⟨f0,f1,f2,f3,f4,f5⟩:=hf it (by simp)
  have W:=Walks.range (prog:=X.prog) (w:=X.w) (I.ok.hd hc) it lo 1 n;refine W.item i s _ _ hg st λv h' tk hv st' kk=> ?_;obtain⟨t,rfl⟩:=hv;have I1:Inv X pins σ H { s with heap:=h',toks:=tk }:=I.turned (λb o hb e=>kk b o (by simpa using hb) e) f0 f1 f3 f4 f5
  refine⟨_,rfl,Ux (s:={ s with heap:=h',toks:=tk }) (n:="range_iterator") st' rfl rfl (by decide) ⟨.int (lo+i),H,I1,⟨t, ?_⟩,⟨rfl,rfl⟩,st',λb hb=>(hf b hb).1⟩⟩
  rw[Int.mul_one]
 done:=by
  intro X hP hw hK hc i pins s σ H E I hf st hg;subst hP hw hK;obtain⟨f0,f1,f2,f3,f4,f5⟩:=hf it (by simp)
  exact wpAny_pyNext_range_end (I.ok.hd hc) st (by have:n<=i:=hg;omega) λh' eb=>⟨rfl,I.turned (t' :=s.toks) (λb o hb e=>eb b o hb e) f0 f1 f3 f4 f5⟩
 self:=λ_ _ _ _ _ st h=>wpAny_pyIter_rangeiter st h
end L2
namespace L2
open PySem PySem.Spec PyProof.Rows
section
theorem uI {pins:List (Addr×Obj)}{σ:St}{H:Hp}{s:Shared}{R:It->Hp->Prop}{E:Value->Shared->Prop}{lo hi:Int}{t u v:Tok}{tk:Nat}(I:Inv X pins σ H s)(h1: -(2 ^ 62)<=lo)(h2:lo < 2 ^ 62)(h3: -(2 ^ 62)<=hi)(h4:hi < 2 ^ 62)
  (q:R (Itr lo (hi - lo).toNat) H):wpAny (model X.prog X.w) X.A (pyIter (.ref s.heap.objs.size)) (PIE X pins σ tg R) E { s with heap:=s.heap.push { cls:= .type "range",data:= .fields #[.int lo t,.int hi u,.int 1 v] },toks:=tk }:=by
 refine wpAny_pyIter_range (IsRange.new ..) (small_one h1 h2 h3 h4) ?_;have I1:Inv X _ σ H { s with heap:=s.heap.push { cls:= .type "range",data:= .fields #[.int lo t,.int hi u,.int 1 v] },toks:=tk }:=I.kept λb o e=>aa _ e;refine⟨(s.heap.push _).objs.size,[(s.heap.push _).objs.size],_,_,H,rfl,
  I1.kept λb o e=>aa _ e,Uz _ lo _, ?_,λb hb=> ?_,q⟩
 ·have e1:lo+((0:Nat))*1=lo:=by simp
  have e2:(((hi - lo).toNat):Int) - ((0:Nat))=eC lo hi 1:=by rw[rangeSize_one];split <;> omega
  rw[e1,e2];exact ah _ rfl
 ·have e:b=(s.heap.push { cls:= .type "range",data:= .fields #[.int lo t,.int hi u,.int 1 v] }).objs.size:=by simpa using hb
  subst e;exact I1.fpOk (aj _) (I1.hok.fresh (aj _))
def z0n (ta:TA):TI:=λσ H R=>ta σ H λvs H1=>∃j:Int,vs=[.int j]/\ -(2 ^ 62)<=j/\j < 2 ^ 62/\R (Itr 0 j.toNat) H1
def z0o (ta:TA):TI:=λσ H R=>ta σ H λvs H1=>∃i j:Int,vs=[.int i,.int j]/\(-(2 ^ 62)<=i/\i < 2 ^ 62/\ -(2 ^ 62)<=j/\j < 2 ^ 62)/\R (Itr i (j - i).toNat) H1
theorem yy {a:Expr}{ta:TA}{p pos:Pos}(hg:Gl X "range")(hm:X.mg "range"=none)(ha:PA X [a] ta)(hs:starEach [a] X.env=[(false,eval a X.env)]:=by rfl):PI X tg (.Call (.Name "range" p) [a] [] pos) (z0n ta):=by
 intro pins s σ H R I h;refine Call_ (j7 I hg hm boot_range (aU (thn (ha pos _ s σ H _ I h) λus s1 ⟨vs,H1,I1,r1,q1⟩=> ?_) hs rfl));obtain⟨j,e,q1,q2,q⟩:=q1;subst e;cases r1 with
 | cons r rr=>
  cases rr;obtain⟨t,rfl⟩:=r;exact call_range_1 (uI I1 (by omega) (by omega) q1 q2 (by simpa using q))
theorem yz (hg:Gl X "range")(hm:X.mg "range"=none)(ha:PA X [a,b] ta)(hs:starEach [a,b] X.env=[(false,eval a X.env),(false,eval b X.env)]:=by rfl)(hs2:starEach [b] X.env=[(false,eval b X.env)]:=by rfl):
  PI X tg (.Call (.Name "range" p) [a,b] [] pos) (z0o ta):=by
 intro pins s σ H R I h;refine Call_ (j7 I hg hm boot_range (aU (thn (ha pos _ s σ H _ I h) λus s1 ⟨vs,H1,I1,r1,q1⟩=> ?_) (by rw[hs,hs2]) (by rw[hs2];rfl)))
 obtain⟨i,j,e,⟨q1,q2,q3,q4⟩,q⟩:=q1;subst e;cases r1 with
 | cons r rr=>
  cases rr with
  | cons r' rr=>
   cases rr;obtain⟨t,rfl⟩:=r;obtain⟨t',rfl⟩:=r';exact call_range_2 (uI I1 q1 q2 q3 q4 q)
def tFor (wi:TI)(g:TG)(tb:TS):TS:=λD σ H=>wi σ H λJ H1=>∃W:Nat->Nat->St->Hp->Prop,(∃m,W 0 m σ H1)/\∀i m σ H,W i m σ H->
 (J.stop i H/\D.nx σ H)\/(J.go i H/\∃N:St->Hp->Prop,(∀σ' H',N σ' H' ->∃m',m' < m/\W (i+1) m' σ' H')/\∀x H',J.yld i H x H' ->g x σ H' λσ2 H2=>tb { D with nx:=N,ct:=N,bk:=D.nx } σ2 H2)
noncomputable def uJ (fp:List Addr)(h:Heap):List (Addr×Obj):=fp.filterMap λb=>(h.get? b).map λo=>(b,o)
theorem jj (hb:b∈fp)(e:h.get? b=some o):(b,o)∈uJ fp h:=d6.mpr ⟨b,hb,by rw[e];rfl⟩
theorem yA {p:Addr×Obj}(hp:p∈uJ fp h):p.1∈fp/\h.get? p.1=some p.2:=by
 obtain⟨b,hb,e⟩:=d6.mp hp;cases q:h.get? b with
 | none=>rw[q]at e;cases e
 | some o=>
  rw[q]at e;have e' :=aB e;subst e';exact⟨hb,q⟩
theorem Inv.pinned (I:Inv X pins σ H s)(hf:∀b∈fp,Wd X pins H b)(ho:∀b∈fp,∃o,s.heap.get? b=some o/\∀v,o.data ≠ .cell v):Inv X (pins++uJ fp s.heap) σ H s:=
 I.pins_of λp hp=>(d4.mp hp).elim (λz=>I.pin p (aY _ z)) λz=>by
  obtain⟨hb,e⟩:=yA z;obtain⟨f0,f1,f2,_⟩:=hf p.1 hb;obtain⟨o,e',d⟩:=ho p.1 hb;rw[e]at e';cases e';exact⟨e,f0,f1,f2,d⟩
theorem Inv.unpinned (I:Inv X (pins++pl) σ H s):Inv X pins σ H s:=I.pins_of λp hp=>I.pin p (aY _ (bY _ hp))
theorem kv (hp:PassesOwn (model X.prog X.w) X.A X.env X.xe)(hc:X.calm=true)(hi:PI X tg iter wi)(hg:PG X tg g)(hb:PSs X body tb)
  (hs:∀x,foldedSetIterable iter X.env x=pure x:=by intro _;rfl):PS X (.For tg iter body [] pos) (tFor wi g tb):=by
 intro pins s σ H D I h;refine wpAny_For (thn (hi _ s σ H _ I h) λv s1 h1=>thn h1 λitv s2 h2=> ?_) hs;obtain⟨it,fp,tn,J,H2,e,I2,T,st2,f2,W,⟨m0,w0⟩,turn⟩:=h2;subst e;have stat:∀{H' :Hp},(∀b∈fp,H' b=none)->∀b∈fp,Wd X _ H' b:=λhn b hb=>⟨hn b hb,(f2 b hb).2⟩;refine codeAny_forLoop_any (λn s' =>∃i σ' H',Inv X _ σ' H' s' /\tn i s'.heap/\(∀b∈fp,H' b=none)/\W i n σ' H') ?_ m0 ⟨0,σ,H2,I2,st2,λb hb=>(f2 b hb).1,w0⟩
 rintro n s3 ⟨i,σ3,H3,I3,st3,fr3,w3⟩
 rcases turn i n σ3 H3 w3 with ⟨stop,qn⟩ | ⟨go,N,hN,step⟩
 ·refine bW hp (thn (T.done X rfl rfl rfl hc i _ s3 σ3 H3 _ I3 (stat fr3) st3 stop) λr s4 ⟨hr,I4⟩=> ?_);subst hr;exact wpAny_execs_nil ⟨σ3,H3,I4,qn⟩
 ·refine bW hp (thn (T.item X rfl rfl rfl hc i _ s3 σ3 H3 _ I3 (stat fr3) st3 go) λr s4 ⟨u,hr,h4⟩=> ?_);subst hr;refine bW hp (thn h4 λ_ s5 ⟨x,H5,I5,r5,y5,st5,fr5⟩=> ?_);have I5' :=I5.pinned (stat fr5) (T.obj _ _ st5);refine bW hp (thn (hg _ s5 σ3 H5 x u _ I5' r5 (step x H5 y5)) λ_ s6 ⟨σ6,H6,I6,q6⟩=> ?_);refine bW hp (thn (hb _ s6 σ6 H6 _ I6 q6) λf s7 q7=> ?_);have again:∀{σ7:St} {H7:Hp},Inv X (pins++uJ fp _) σ7 H7 s7->N σ7 H7->∃m,m < n/\∃i σ' H',Inv X _ σ' H' s7/\tn i _/\(∀b∈fp,H' b=none)/\W i m σ' H' :=λ{σ7 H7} I7 n7=>by
   obtain⟨m',hm,w7⟩:=hN σ7 H7 n7;refine⟨m',hm,i+1,σ7,H7,I7.unpinned,T.keep _ _ _ st5 λb hb o e=>(I7.pin _ (aY _ (aY _ (jj hb e)))).1,λb hb=> ?_,w7⟩;obtain⟨o,e,d⟩:=T.obj _ _ st5 b hb;exact(I7.pin _ (aY _ (aY _ (jj hb e)))).2.1
  cases f with
  | next=>obtain⟨σ7,H7,I7,n7⟩:=q7;exact again I7 n7
  | cont=>obtain⟨σ7,H7,I7,n7⟩:=q7;exact again I7 n7
  | brk=>obtain⟨σ7,H7,I7,q7⟩:=q7;exact⟨σ7,H7,I7.unpinned,q7⟩
  | ret v=>obtain⟨x7,σ7,H7,I7,r7,q7⟩:=q7;exact⟨x7,σ7,H7,I7.unpinned,r7,q7⟩
end
end L2
namespace L2
open PySem PySem.Spec PyProof.Rows
abbrev R2:=V->V->Hp->VK->Prop
def OpR (X:Cx)(f:Value->Value->Sem Value)(r:R2):Prop:=
 ∀(pins:List (Addr×Obj)) (s:Shared) (σ:St) (H:Hp) (x y:V) (v u:Value) (Q:VK),Inv X pins σ H s->Zc x v->Zc y u->r x y H Q->
  wpAny (model X.prog X.w) X.A (f v u) (EP X pins σ Q) X.xe s
def UnR (X:Cx)(f:Value->Sem Value)(r:V->Hp->VK->Prop):Prop:=
 ∀(pins:List (Addr×Obj)) (s:Shared) (σ:St) (H:Hp) (x:V) (v:Value) (Q:VK),Inv X pins σ H s->Zc x v->r x H Q->
  wpAny (model X.prog X.w) X.A (f v) (EP X pins σ Q) X.xe s
def Zp (X:Cx)(f:Value)(r:List V->Hp->VK->Prop):Prop:=
 ∀(pins:List (Addr×Obj)) (s:Shared) (σ:St) (H:Hp) (xs:List V) (us:List Value) (Q:VK),Inv X pins σ H s->zS xs us->r xs H Q->
  wpAny (model X.prog X.w) X.A (call f us) (EP X pins σ Q) X.xe s
def TruR (X:Cx)(r:V->Hp->(Bool->Hp->Prop)->Prop):Prop:=
 ∀(pins:List _) (s:Shared) (σ:St) (H:Hp) (x:V) (v:Value) (Q:Bool->Hp->Prop),Inv X pins σ H s->Zc x v->r x H Q->
  wpAny (model X.prog X.w) X.A (truthy v) (TP X pins σ Q) X.xe s
def tOp (r:R2)(ta tb:TE):TE:=λσ H Q=>ta σ H λx H1=>tb σ H1 λy H2=>r x y H2 Q
def tUn (r:V->Hp->VK->Prop)(ta:TE):TE:=λσ H Q=>ta σ H λx H1=>r x H1 Q
def rI (C:Int->Int->Prop)(g:Int->Int->V):R2:=λx y H Q=>∃i j,x= .int i/\y= .int j/\C i j/\Q (g i j) H
def rI0 (g:Int->Int->V):R2:=λx y H Q=>∃i j,x= .int i/\y= .int j/\Q (g i j) H
def rU (g:Int->V):V->Hp->VK->Prop:=λx H Q=>∃i,x= .int i/\Q (g i) H
section
theorem z0p (ha:PE X a ta)(hb:PE X b tb){R:V->V->Hp->Prop}(I:Inv X pins σ H s)
  (h:ta σ H λx H1=>tb σ H1 λy H2=>R x y H2) {Q:Value->Shared->Prop} {f:Value->Value->Sem Value}
  (hf:∀v u s2 x y H2,Inv X pins σ H2 s2->Zc x v->Zc y u->R x y H2->wpAny (model X.prog X.w) X.A (f v u) Q X.xe s2):
  wpAny (model X.prog X.w) X.A (eval a X.env) (λv s₁=>wpAny (model X.prog X.w) X.A (eval b X.env) (λu s₂=>wpAny (model X.prog X.w) X.A (f v u) Q X.xe s₂) X.xe s₁) X.xe s:=by
 refine thn (ha _ s σ H _ I h) λv s1 ⟨x,H1,I1,r1,q1⟩=> ?_;refine thn (hb _ s1 σ H1 _ I1 q1) λu s2 ⟨y,H2,I2,r2,q2⟩=> ?_;exact hf v u s2 x y H2 I2 r1 r2 q2
theorem z0q (ho:OpR X (binaryOp op) r)(ha:PE X a ta)(hb:PE X b tb):PE X (.BinOp a op b pos) (tOp r ta tb):=by
 intro pins s σ H Q I h;exact wpAny_BinOp (z0p ha hb I h λv u s2 x y H2 I2 rx ry q=>ho _ s2 σ H2 x y v u Q I2 rx ry q)
theorem z0r {op:UnaryOp}{r:V->Hp->VK->Prop}(ho:UnR X (unaryOp op) r)(ha:PE X a ta):PE X (.UnaryOp op a pos) (tUn r ta):=by
 intro pins s σ H Q I h;exact UnaryOp_ (thn (ha _ s σ H _ I h) λv s1 ⟨x,H1,I1,r1,q1⟩=>ho _ s1 σ H1 x v Q I1 r1 q1)
theorem opI {f:Value->Value->Sem Value}{C:Int->Int->Prop}{g:Int->Int->Int}
  (rule:∀(i j:Int) (t u:Tok) (s:Shared) (Q:Value->Shared->Prop) (E:Value->Shared->Prop),C i j->Q (.int (g i j) s.toks) { s with toks:=s.toks+1 }->wpAny (model X.prog X.w) X.A (f (.int i t) (.int j u)) Q E s):
  OpR X f (rI C λi j=> .int (g i j)):=by
 intro pins s σ H x y v u Q I rx ry h;obtain⟨i,j,rfl,rfl,hc,q⟩:=h;obtain⟨t,rfl⟩:=rx;obtain⟨t',rfl⟩:=ry;exact rule i j t t' s _ _ hc ⟨.int _,H,I.tok _,⟨_,rfl⟩,q⟩
theorem opI0 {f:Value->Value->Sem Value}{g:Int->Int->Int}
  (rule:∀(i j:Int) (t u:Tok) (s:Shared) (Q:Value->Shared->Prop) (E:Value->Shared->Prop),Q (.int (g i j) s.toks) { s with toks:=s.toks+1 }->wpAny (model X.prog X.w) X.A (f (.int i t) (.int j u)) Q E s):
  OpR X f (rI0 λi j=> .int (g i j)):=by
 intro pins s σ H x y v u Q I rx ry h;obtain⟨i,j,rfl,rfl,q⟩:=h;obtain⟨t,rfl⟩:=rx;obtain⟨t',rfl⟩:=ry;exact rule i j t t' s _ _ ⟨.int _,H,I.tok _,⟨_,rfl⟩,q⟩
theorem GF {f:Value->Value->Sem Value}{g:Int->Int->Bool}
  (rule:∀(i j:Int) (t u:Tok) (s:Shared) (Q:Value->Shared->Prop) (E:Value->Shared->Prop),Q (.bool (g i j)) s->wpAny (model X.prog X.w) X.A (f (.int i t) (.int j u)) Q E s):
  OpR X f (rI0 λi j=> .bl (g i j)):=by
 intro pins s σ H x y v u Q I rx ry h;obtain⟨i,j,rfl,rfl,q⟩:=h;obtain⟨t,rfl⟩:=rx;obtain⟨t',rfl⟩:=ry;exact rule i j t t' s _ _ ⟨.bl _,H,I,rfl,q⟩
noncomputable def CDiv (i j:Int):Prop:=0 < j/\j < 1073741824
noncomputable def WZ (i j:Int):Prop:=(-(2 ^ 64) < i/\i < 2 ^ 64)\/(-(2 ^ 64) < j/\j < 2 ^ 64)
theorem WZ.ok (h:WZ i j):IntMulOk i j:=by
 rcases h with ⟨h1,h2⟩ | ⟨h1,h2⟩
 ·exact .of_left (intBits_le_64 h1 h2)
 ·exact .of_right (intBits_le_64 h1 h2)
theorem kx:OpR X (binaryOp .Add) (rI0 λi j=> .int (i+j)):=opI0 λ_ _ _ _ _ _ _ q=>add_int q
theorem ky:OpR X (binaryOp .Sub) (rI0 λi j=> .int (i - j)):=opI0 λ_ _ _ _ _ _ _ q=>sub_int q
theorem kz:OpR X (binaryOp .Mult) (rI WZ λi j=> .int (i*j)):=opI λ_ _ _ _ _ _ _ hc q=>mul_int q hc.ok
theorem VF:OpR X (binaryOp .FloorDiv) (rI CDiv λi j=> .int (i / j)):=opI λi j _ _ _ _ _ hc q=>by
 have h1:=hc.1;have h2:=hc.2;exact floordiv_int (by omega) (by rw[Int.fdiv_eq_ediv_of_nonneg i (by omega)];exact q) (.inl (PyProof.noPylong_small (by omega)))
theorem kA:OpR X (binaryOp .Mod) (rI (λ_ j=>0 < j) λi j=> .int (i % j)):=opI λi j _ _ _ _ _ hc q=>by
 exact mod_int' (by omega) (by rw[Int.fmod_eq_emod_of_nonneg i (by omega)];exact q)
theorem unI {f:Value->Sem Value}{g:Int->Int}
  (rule:∀(i:Int) (t:Tok) (s:Shared) (Q:Value->Shared->Prop) (E:Value->Shared->Prop),Q (.int (g i) s.toks) { s with toks:=s.toks+1 }->wpAny (model X.prog X.w) X.A (f (.int i t)) Q E s):
  UnR X f (rU λi=> .int (g i)):=by
 intro pins s σ H x v Q I rx h;obtain⟨i,rfl,q⟩:=h;obtain⟨t,rfl⟩:=rx;exact rule i t s _ _ ⟨.int _,H,I.tok _,⟨_,rfl⟩,q⟩
theorem kB:UnR X (unaryOp .USub) (rU λi=> .int (-i)):=unI λ_ _ _ _ _ q=>neg_int q
theorem yB:OpR X (binaryOp .Add) (λx y H Q=>∃i k,x= .int i/\y= .bl k/\Q (.int (i+b2i k)) H):=by
 intro pins s σ H x y v u Q I rx ry h;obtain⟨i,k,rfl,rfl,q⟩:=h;obtain⟨t,rfl⟩:=rx;cases ry;exact add_int_bool ⟨.int _,H,I.tok _,⟨_,rfl⟩,q⟩
end
section
theorem z0s:OpR X (compareOp .Lt) (rI0 λi j=> .bl (decide (i < j))):=GF λ_ _ _ _ _ _ _ q=>lt_int q
theorem z0t:OpR X (compareOp .LtE) (rI0 λi j=> .bl (decide (i<=j))):=GF λ_ _ _ _ _ _ _ q=>le_int q
theorem z0u:OpR X (compareOp .Gt) (rI0 λi j=> .bl (decide (j < i))):=GF λ_ _ _ _ _ _ _ q=>gt_int q
theorem z0v:OpR X (compareOp .GtE) (rI0 λi j=> .bl (decide (j<=i))):=GF λ_ _ _ _ _ _ _ q=>ge_int q
theorem jn (b:Expr)(h:op ≠ .In:=by decide)(h2:op ≠ .NotIn:=by decide):behindInMarks op b=false:=by
 have e1:(op == CmpOp.In)=false:=by cases op <;> first | rfl | exact absurd rfl h
 have e2:(op == CmpOp.NotIn)=false:=by cases op <;> first | rfl | exact absurd rfl h2
 cases b <;> simp[behindInMarks,e1,e2]
theorem VG (ho:OpR X (compareOp op) r)(ha:PE X a ta)(hb:PE X b tb)(hm:behindInMarks op b=false):PE X (.Compare a [op] [b] pos) (tOp r ta tb):=by
 intro pins s σ H Q I h;exact wpAny_Compare1 (z0p ha hb I h λv u s2 x y H2 I2 rx ry q=>ho _ s2 σ H2 x y v u Q I2 rx ry q) hm
def kC (t:TE):TT:=λσ H Q=>t σ H λx H' =>∃k,x= .bl k/\Q k H'
theorem yC (ho:OpR X (compareOp op) r)(ha:PE X a ta)(hb:PE X b tb)(hm:behindInMarks op b=false):PT X (.Compare a [op] [b] pos) (kC (tOp r ta tb)):=by
 intro pins s σ H Q I h;refine wpAny_isTrue_Compare1 (thn (ha _ s σ H _ I h) λv s1 ⟨x,H1,I1,r1,q1⟩=>thn (hb _ s1 σ H1 _ I1 q1) λu s2 ⟨y,H2,I2,r2,q2⟩=>
  thn (ho _ s2 σ H2 x y v u _ I2 r1 r2 q2) λc s3 ⟨z,H3,I3,r3,k,e,q3⟩=> ?_) hm
 subst e;cases r3;exact ba ⟨H3,I3,q3⟩
def vY (r r' :R2)(ta tb tc:TE):TE:=λσ H Q=>ta σ H λx H1=>tb σ H1 λy H2=>r x y H2 λz H3=>∃k,z= .bl k/\
 (if k=true then tc σ H3 λw' H4=>r' y w' H4 Q else Q (.bl false) H3)
theorem Qu (ho:OpR X (compareOp op) r)(ho' :OpR X (compareOp op') r')(ha:PE X a ta)(hb:PE X b tb)(hc:PE X c tc)
  (hm:lastMarks [op,op'] [b,c]=false:=by with_unfolding_all rfl):PE X (.Compare a [op,op'] [b,c] pos) (vY r r' ta tb tc):=by
 intro pins s σ H Q I h;refine Compare_chain (thn (ha _ s σ H _ I h) λv s1 ⟨x,H1,I1,r1,q1⟩=>chain_link (thn (hb _ s1 σ H1 _ I1 q1) λu s2 ⟨y,H2,I2,r2,q2⟩=>
  thn (ho _ s2 σ H2 x y v u _ I2 r1 r2 q2) λd s3 ⟨z,H3,I3,r3,k,e,q3⟩=> ?_)) hm
 subst e;cases r3;refine ba ?_;cases k with
 | false=>exact ite_ff ⟨.bl _,H3,I3,rfl,q3⟩
 | true=>exact ite_tt (chain_last (thn (hc _ s3 σ H3 _ I3 q3) λw' s4 ⟨z',H4,I4,r4,q4⟩=>ho' _ s4 σ H4 y z' u w' Q I4 r2 r4 q4))
theorem Qv (ho:OpR X (compareOp op) r)(ho' :OpR X (compareOp op') r')(ha:PE X a ta)(hb:PE X b tb)(hc:PE X c tc)
  (hm:lastMarks [op,op'] [b,c]=false:=by with_unfolding_all rfl):PT X (.Compare a [op,op'] [b,c] pos) (kC (vY r r' ta tb tc)):=by
 intro pins s σ H Q I h;refine isTrue_chain (thn (ha _ s σ H _ I h) λv s1 ⟨x,H1,I1,r1,q1⟩=>test_link (thn (hb _ s1 σ H1 _ I1 q1) λu s2 ⟨y,H2,I2,r2,q2⟩=>
  thn (ho _ s2 σ H2 x y v u _ I2 r1 r2 q2) λd s3 ⟨z,H3,I3,r3,k,e,q3⟩=> ?_)) hm
 subst e;cases r3;refine ba ?_;cases k with
 | false=>
  obtain⟨k',e',q'⟩:=q3;cases e';exact ite_ff ⟨H3,I3,q'⟩
 | true=>
  refine ite_tt (test_last (thn (hc _ s3 σ H3 _ I3 q3) λw' s4 ⟨z',H4,I4,r4,q4⟩=>thn (ho' _ s4 σ H4 y z' u w' _ I4 r2 r4 q4) λd' s5 ⟨z2,H5,I5,r5,k2,e2,q5⟩=> ?_));subst e2;cases r5;exact ba ⟨H5,I5,q5⟩
def TruV (K:a8)(x:V)(H:Hp)(k:Bool):Prop:=
 match x with
 | .non=>k=false
 | .bl b=>k=b
 | .int i=>k=(i != 0)
 | .str y=>y.length<=sizeLine/\k=((y.length:Int) != 0)
 | .byt y=>y.size<=sizeLine/\k=((y.size:Int) != 0)
 | .ref p=>(∃xs,SqL K H p xs/\k= !xs.isEmpty)\/(∃xs,SqT K H p xs/\k= !xs.isEmpty)\/∃kvs,H p=some (.dK kvs)/\k= !kvs.isEmpty
 | _=>False
theorem UA {κ:Type}{kvs:List (κ×V)}{vs:List (κ×Value)}(r:KV kvs vs):(!vs.isEmpty)= !kvs.isEmpty:=by
 cases r <;> rfl
theorem wc (r:zS xs its):(!its.toArray.isEmpty)= !xs.isEmpty:=by
 cases r <;> simp
theorem We:(sizeLine:Nat) < 2 ^ 63:=by decide
theorem kD:TruR X (λx H Q=>∃k,TruV X.K x H k/\Q k H):=by
 intro pins s σ H x v Q I rx h;obtain⟨k,e,q⟩:=h;have hs:=bT;cases x with
 | non=>
  cases rx;have e' :k=false:=e;subst e';exact truthy_none ⟨H,I,q⟩
 | bl b=>
  cases rx;have e' :k=b:=e;subst e';exact ba ⟨H,I,q⟩
 | int i=>
  obtain⟨t,rfl⟩:=rx;have e' :k=(i != 0):=e;subst e';exact PySem.P.truthy_int ⟨H,I,q⟩
 | str y=>
  obtain⟨t,rfl⟩:=rx;obtain⟨hy,e'⟩:y.length<=sizeLine/\k=((y.length:Int) != 0):=e;subst e';exact PySem.P.truthy_str (by omega) ⟨H,I.tok _,q⟩
 | byt y=>
  obtain⟨t,rfl⟩:=rx;obtain⟨hy,e'⟩:y.size<=sizeLine/\k=((y.size:Int) != 0):=e;subst e';exact PySem.W.truthy_bytes (by omega) ⟨H,I.tok _,q⟩
 | ref p=>
  cases rx;have e' :=e;rcases e' with ⟨xs,hx,e'⟩ | ⟨xs,hx,e'⟩ | ⟨kvs,hx,e'⟩
  ·subst e';obtain⟨its,r,pl,hz⟩:=I.list hx;have hlen:=r.length;exact wpAny_truthy_list pl.isList (by simp only[ay];omega) ⟨H,I.tok _,by rw[wc r];exact q⟩
  ·subst e';obtain⟨its,r,pl,hz⟩:=I.tuple hx;have hlen:=r.length;exact truthy_tuple pl (by simp only[ay];omega) ⟨H,I.tok _,by rw[wc r];exact q⟩
  ·subst e';obtain⟨hz,hS,vs,r,m⟩:kvs.length<=sizeLine/\(p == sysModules)=false/\∃vs,KV kvs vs/\s.heap.DictOf _ p vs:=I.hok p _ hx;have hlen:=Paired.length r;exact wpAny_truthy_dict hS m (by omega) ⟨H,I.tok _,by rw[UA r];exact q⟩
 | _=>exact(e).elim
theorem Qw (ha:PE X a ta)(he:∀whole,isTrue a X.env whole=(do let v ← whole;standAt a.pos;holding [v] (truthy v))):
  PT X a (λσ H Q=>ta σ H λx H' =>∃k,TruV X.K x H' k/\Q k H'):=by
 intro pins s σ H Q I h;exact isTrue_plain (thn (ha _ s σ H _ I h) λv s1 ⟨x,H1,I1,r1,q1⟩=>kD _ s1 σ H1 x v Q I1 r1 q1) (he _)
theorem UB:OpR X (binaryOp .Add) (λx y H Q=>∃i j,x= .str i/\y= .str j/\i.length+j.length<=sizeLine/\Q (.str (i++j)) H):=by
 intro pins s σ H x y v u Q I rx ry h;obtain⟨i,j,rfl,rfl,hz,q⟩:=h;obtain⟨t,rfl⟩:=rx;obtain⟨t',rfl⟩:=ry;exact add_str (λt' tk=>⟨.str _,H,I.tok _,⟨_,rfl⟩,q⟩) hz
theorem ZR (r:zS [x] us):∃u,us=[u]/\Zc x u:=by
 cases r with
 | cons r1 r2=>cases r2;exact⟨_,rfl,r1⟩
theorem UC (r:zS [x,y] us):∃u w',us=[u,w']/\Zc x u/\Zc y w' :=by
 cases r with
 | cons r1 r2=>
  cases r2 with
  | cons r3 r4=>cases r4;exact⟨_,_,rfl,r1,r3⟩
theorem yD (hc:X.calm=true):Zp X (.builtin "max") (λxs H Q=>∃i j,xs=[.int i,.int j]/\Q (.int (if j > i then j else i)) H):=by
 intro pins s σ H xs us Q I r h;obtain⟨i,j,rfl,q⟩:=h;obtain⟨u,w',rfl,⟨t,rfl⟩,⟨t',rfl⟩⟩:=UC r;refine max_two_ints (I.ok.hd hc) λh' tk k=>⟨_,H,I.kept k, ?_,q⟩
 by_cases hj:j > i
 ·rw[if_pos hj,if_pos hj];exact⟨_,rfl⟩
 ·rw[if_neg hj,if_neg hj];exact⟨_,rfl⟩
theorem yE (hc:X.calm=true):Zp X (.builtin "min") (λxs H Q=>∃i j,xs=[.int i,.int j]/\Q (.int (if j < i then j else i)) H):=by
 intro pins s σ H xs us Q I r h;obtain⟨i,j,rfl,q⟩:=h;obtain⟨u,w',rfl,⟨t,rfl⟩,⟨t',rfl⟩⟩:=UC r;refine min_two_ints (I.ok.hd hc) λh' tk k=>⟨_,H,I.kept k, ?_,q⟩
 by_cases hj:j < i
 ·rw[if_pos hj,if_pos hj];exact⟨_,rfl⟩
 ·rw[if_neg hj,if_neg hj];exact⟨_,rfl⟩
theorem yF:Zp X (.type "int") (λxs H Q=>(∃i,xs=[.int i]/\Q (.int i) H)\/∃k,xs=[.bl k]/\Q (.int (if k then 1 else 0)) H):=by
 intro pins s σ H xs us Q I r h;rcases h with ⟨i,rfl,q⟩ | ⟨k,rfl,q⟩
 ·obtain⟨u,rfl,t,rfl⟩:=ZR r;exact call_int_int ⟨.int i,H,I,⟨_,rfl⟩,q⟩
 ·obtain⟨u,rfl,r1⟩:=ZR r;cases r1;exact call_int_bool ⟨.int _,H,I.tok _,⟨_,rfl⟩,q⟩
end
end L2
namespace L2
open PySem PySem.Spec PyProof.Rows
structure VH (h:Heap) (x dx C:Addr) (mA:Str->Option Value):Prop where
 obj:h.get? x=some (cB C dx)
 ns:h.Ns1 dx mA
 ne:dx ≠ x
theorem yG {h:Heap}{dx:Addr}{mA:Str->Option Value}(n:h.Ns1 dx mA):∃od,h.get? dx=some od/\∀name,dF name od=some (mA name):=by
 obtain⟨o,es,ep,ho,hd,hk,_,hm⟩:=n;refine⟨o,ho,λname=> ?_⟩;have e:=hm name;unfold nsFind findBy at e;rw[← Array.find?_toList]at e;unfold dF;rw[hd];dsimp only;split
 ·rename_i y q;rw[q]at e;exact congrArg _ e
 ·rename_i q;rw[q]at e;have a:es.toList.any (·.refKey)=false:=by
   rw[fR];intro y hy;obtain⟨z,t,hkey⟩:=hk y (Array.mem_toList_iff.mp hy);simp[DictEntry.refKey,hkey]
  have a' :¬ es.toList.any (·.refKey)=true:=by rw[a];exact aA
  rw[if_neg a'];exact congrArg _ e
theorem VH.look (I:VH h x dx C mA):∃od,PySem.W.InstAt h x (cB C dx) C (some od)/\∀name,dF name od=some (mA name):=
 let ⟨od,ho,hl⟩:=yG I.ns
 ⟨od,⟨I.obj,rfl,rfl,ho⟩,hl⟩
section
variable {prog:Program}{w:World}{A:Around}{E:Value->Shared->Prop}{s:Shared}{K:a8}{x dx C f:Addr}{mA:Str->Option Value}{name:Str}{v:Value}
theorem VI {expr:Bool}{Q:Value->Shared->Prop}(X:K.In s.heap)(I:VH s.heap x dx C mA)(hg:dq K C name=true)(hh:dR K C=true)
  (ha:bc K (.ref C) name=some none) (hv:mA name=some v) (hv' :hZ v=true) (h:Q v { s with toks:=s.toks+1 }):
  wpAny (model prog w) A (getAttr (.ref x) name expr) Q E s:=by
 obtain⟨od,J,hl⟩:=I.look;exact PySem.W.get_value X J (dC hg).1 (PySem.W.findObj_own hh ha rfl (by rw[hl,hv])) hv' h
theorem Qx {pl:Sem Bool}{Q:Value×List Value->Shared->Prop}(X:K.In s.heap)(I:VH s.heap x dx C mA)(hg:dq K C name=true)
  (hf:bc K (.ref C) name=some (some (.ref f))) (ht:eU K (.ref f)=true) (hv:mA name=none) (h:Q (.ref f,[.ref x]) s):
  wpAny (model prog w) A (getMethod (.ref x) name pl) Q E s:=by
 obtain⟨od,J,hl⟩:=I.look;exact PySem.W.method_fn X J (dC hg).1 (dC hg).2 hf (beq_iff_eq.mp ht) (by show (dF _ od).map _=some _;rw[hl,hv];rfl) h
theorem VJ {ns:List Str}{Q:Unit->Shared->Prop}(X:K.In s.heap)(I:VH s.heap x dx C mA)
  (hs:bc K (.ref C) "__setattr__"=some (some (.builtin "object.__setattr__"))) (hp:fS K C=true) (ht:f7 K C name=some none) (hh:dR K C=true)
  (hw:eR mA ns) (hsz:ns.length<=sizeLine)
  (h:∀h',VH h' x dx C (λy=>if y=name then some v else mA y)->bZ dx s.heap h' ->Q () { s with heap:=h',toks:=s.toks+2 }):
  wpAny (model prog w) A (setAttr (.ref x) name v) Q E s:=by
 obtain⟨od,J,hl⟩:=I.look;refine PySem.W.set_plain X J hs (PySem.W.osa_open X J hp ht λb=> ?_);obtain⟨cd,hc,hd'⟩:=PySem.W.any_some hh;have hx:=I.obj;refine a7 (au (a7 (a7 (wpAny_loadPart hx (a7 (PySem.W.Looks.here (PySem.W.looks_clsIn X hc) ?_))))));rw[hd'];refine au (a7 (au (a7 ?_)));refine wpAny_nsSet1 I.ns λh' hn2 hs2=> ?_;obtain⟨oD,esD,epD,hoD,hdD,hcD⟩:=hn2.count (eR.cons _ v hw);refine a7 (wpAny_lookBehind hoD (by rw[hdD];exact pastItsLine_dict (aD hcD (by rw[af];omega))) ?_)
 exact au (h _ ⟨(hs2.2 _ (bi I.ne)).trans I.obj,hn2,I.ne⟩ hs2)
theorem Qy {R:Result->Shared->Prop}{vs:List Value}{kw:List (Str×Value)}(X:K.In s.heap)(hm:ip K C=true)
  (hi:bc K (.ref C) "__init__"=some (some (.ref f))) (hf:PySem.W.typeIn K (.ref f)=some (.type "function"))
  (h:codeAny (model prog w) (A.under (.builtin "type.__call__" ⟨.ref C :: vs,kw⟩)) (.call (.ref f) ⟨.ref (s.heap.objs.size+1) :: vs,kw⟩) (PySem.W.InitBack (s.heap.objs.size+1) R)
   { s with heap:=(s.heap.push cH).push (cB C s.heap.objs.size) }):
  codeAny (model prog w) A (.call (.ref C) ⟨vs,kw⟩) R s:=by
 exact PySem.W.make_core (PySem.W.makes_of X hm) (PySem.W.looks_findIn X hi) (λself=>PySem.W.bind_fn X _ hf) (.inl rfl) h
end
noncomputable def putF (f:Str)(v:V):List (Str×V)->List (Str×V)
 | []=>[(f,v)]
 | (g,x) :: r=>if g=f then (g,v) :: r else (g,x) :: putF f v r
theorem lookup_putF (f g:Str)(v:V):∀fs:List (Str×V),(putF f v fs).lookup g=if g=f then some v else fs.lookup g
 | []=>by
  show d8 g [(f,v)]=_
  by_cases h:g=f
  ·have hb:=beq_iff_eq.mpr h;simp only[d8,hb,if_pos h]
  ·have hb:=beq_eq_false_iff_ne.mpr h;simp only[d8,hb,if_neg h]
 | (k,x) :: r=>by
  have ih:=lookup_putF f g v r;rw[show putF f v _=(if k=f then (k,v) :: r else (k,x) :: putF f v r) from rfl]
  by_cases hk:k=f
  ·rw[if_pos hk]
   by_cases h:g=k
   ·have hb:=beq_iff_eq.mpr h;simp only[d8,hb,if_pos (h.trans hk)]
   ·have hb:=beq_eq_false_iff_ne.mpr h;simp only[d8,hb,if_neg (λe:g=f=>h (e.trans hk.symm))]
  ·rw[if_neg hk]
   by_cases h:g=k
   ·have hb:=beq_iff_eq.mpr h;simp only[d8,hb,if_neg (λe=>hk (h.symm.trans e))]
   ·have hb:=beq_eq_false_iff_ne.mpr h;simp only[d8,hb];exact ih
theorem Jt (f:Str)(v:V):∀fs:List (Str×V),f∈(putF f v fs).map (·.1)/\∀g,g∈fs.map (·.1)->g∈(putF f v fs).map (·.1)
 | []=>⟨by simp[putF],λg h=>by simp at h⟩
 | (k,x) :: r=>by
  obtain⟨i1,i2⟩:=Jt f v r;rw[show putF f v _=(if k=f then (k,v) :: r else (k,x) :: putF f v r) from rfl]
  by_cases hk:k=f
  ·subst hk;exact⟨by simp,λg h=>by simpa using h⟩
  ·rw[if_neg hk];refine⟨?_,λg h=> ?_⟩
   ·exact ac _ i1
   ·rcases am.mp h with e | e
    ·exact am.mpr (.inl e)
    ·exact ac _ (i2 g e)
theorem Ju (f:Str)(v:V):∀fs:List (Str×V),(putF f v fs).length<=fs.length+1
 | []=>by simp[putF]
 | (k,x) :: r=>by
  have ih:=Ju f v r;rw[show putF f v _=(if k=f then (k,v) :: r else (k,x) :: putF f v r) from rfl]
  by_cases hk:k=f
  ·rw[if_pos hk,af,af];omega
  ·rw[if_neg hk,af,af];omega
theorem Qs.some_of (r:Qs (some v) o):∃u,o=some u/\Zc v u:=by
 cases o with
 | none=>exact(r).elim
 | some u=>exact⟨u,rfl,r⟩
theorem Qs.none_of (r:Qs none o):o=none:=by
 cases o with
 | none=>rfl
 | some u=>exact(r).elim
theorem yH (r:Zc v u):hZ u=true:=by
 cases v with
 | non=>cases (r);rfl
 | bl b=>cases (r);rfl
 | int i=>obtain⟨t,e⟩:=(r);cases e;rfl
 | str x=>obtain⟨t,e⟩:=(r);cases e;rfl
 | byt b=>obtain⟨t,e⟩:=(r);cases e;rfl
 | flt b=>obtain⟨t,e⟩:=(r);cases e;rfl
 | ref a=>cases (r);rfl
 | ty n=>cases (r);rfl
section
theorem wz (hok:HOk P w H h)(e:H a=some (.ins C dx fs)):∃mA,VH h a dx C mA/\(∀f,Qs (fs.lookup f) (mA f))/\eR mA (fs.map (·.1))/\fs.length<=1000/\H dx=some (.own a):=by
 obtain⟨d,z,ne,ob,mA,n,r,q⟩:=(show Za P w H h a _ from hok a _ e);exact⟨mA,⟨ob,n,ne⟩,r,q,z,d⟩
end
structure Cls (K:a8) (C:Addr):Prop where
 pg:dq K C Str.empty=true
 hd:dR K C=true
 po:fS K C=true
 sa:bc K (.ref C) "__setattr__"=some (some (.builtin "object.__setattr__"))
theorem Cls.get {K:a8}{C:Addr}(c:Cls K C)(f:Str):dq K C f=true:=c.pg
noncomputable def NoAttr (K:a8)(C:Addr)(f:Str):Prop:=bc K (.ref C) f=some none
theorem NoAttr.taker {K:a8}{C:Addr}{f:Str}(n:NoAttr K C f):f7 K C f=some none:=by
 unfold f7;rw[show bc K _ f=some _ from n];rfl
structure Meth (K:a8) (C:Addr) (m:Str) (f:Addr):Prop where
 at_:bc K (.ref C) m=some (some (.ref f))
 fn:eU K (.ref f)=true
 kp:bL K (.ref f)=true
section
theorem UD (I:Inv X pins σ H s)(e:H a=some (.ins C dx fs))(c:Cls X.K C)(n:NoAttr X.K C f)(l:fs.lookup f=some v)
  (h:∀u s',Inv X pins σ H s' ->Zc v u->Q u s'):wpAny (model X.prog X.w) A (getAttr (.ref a) f b) Q E s:=by
 obtain⟨mA,O,r,_,_,_⟩:=wz I.hok e;obtain⟨u,hu,ru⟩:=Qs.some_of (by rw[← l];exact r f)
 exact VI I.kIn O (c.get f) c.hd n hu (yH ru) (h u _ (I.tok _) ru)
theorem jO {Q:Value×List Value->Shared->Prop}(I:Inv X pins σ H s)(e:H a=some (.ins C dx fs))(c:Cls X.K C)(k:Meth X.K C m g)(l:fs.lookup m=none)
  (h:Q (.ref g,[.ref a]) s):wpAny (model X.prog X.w) A (getMethod (.ref a) m pl) Q E s:=by
 obtain⟨mA,O,r,_,_,_⟩:=wz I.hok e;have hn:=Qs.none_of (by rw[← l];exact r m)
 exact Qx I.kIn O (c.get m) k.at_ k.fn hn h
theorem UE {Q:Unit->Shared->Prop}(I:Inv X pins σ H s)(e:H a=some (.ins C dx fs))(c:Cls X.K C)(n:NoAttr X.K C f)(hl:fs.length < 1000)(ry:Zc y u)
  (h:∀s',Inv X pins σ (upd H a (.ins C dx (putF f y fs))) s' ->Q () s'):wpAny (model X.prog X.w) A (setAttr (.ref a) f u) Q E s:=by
 obtain⟨mA,O,r,wi,_,ho⟩:=wz I.hok e;have hz:(fs.map (·.1)).length<=sizeLine:=by rw[a9,bT];omega
 refine VJ I.kIn O c.sa c.po n.taker c.hd wi hz λh' O' sb=>h _ ?_;have hd:∃o,h'.get? dx=some o:=let ⟨o,_,_,e',_⟩:=O'.ns;⟨o,e'⟩;refine I.write (by rw[e];exact True.intro) (.inr ho) (λb q hb z=>(sb.2 b hb).trans z) hd ?_
 refine⟨by rw[zu O.ne];exact ho, ?_,O.ne,O'.obj,_,O'.ns,λg=> ?_,λg hg=> ?_⟩
 ·have:=Ju f y fs;omega
 ·rw[lookup_putF]
  by_cases q:g=f
  ·rw[if_pos q,if_pos q];exact ry
  ·rw[if_neg q,if_neg q];exact r g
 ·by_cases q:g=f
  ·rw[q];exact(Jt f y fs).1
  ·refine(Jt f y fs).2 g (wi g λz=>hg ?_);show (if g=f then some u else mA g)=none
   rw[if_neg q];exact z
theorem Inv.made (I:Inv X pins σ H s):Inv X pins σ (upd (upd H s.heap.objs.size (.own (s.heap.objs.size+1))) (s.heap.objs.size+1) (.ins C s.heap.objs.size []))
  { s with heap:=(s.heap.push cH).push (cB C s.heap.objs.size) }:=by
 have e1:(s.heap.push cH).get? _=some _:=ah _ rfl;have e2:=by
  have:=ah (s.heap.push cH) (o:=cB C s.heap.objs.size) rfl;rwa[bM]at this
 have e3:(s.heap.push _).Ns _ (λ_=>none):=⟨cH, #[],_,e1,rfl,(λe he=>absurd he (by simp)),λ_=>rfl⟩
 have I1:=I.laid (o:= .own (s.heap.objs.size+1)) (t' :=s.toks) (λb u q=>aa _ q) (aj _) ⟨_,e1⟩;refine I1.laid (λb u q=>aa _ q) (fT (bM _ _)) ?_;have ne:s.heap.objs.size ≠ s.heap.objs.size+1:=aE (cM _);refine⟨by rw[zu ne,zx],bx _,ne,e2,λ_=>none,(Heap.Ns1.of_empty e3).at λo q=>aa _ q,λ_=>True.intro,λy hy=>absurd rfl hy⟩
theorem VL (hb:attributeBase e f env (eval e env)=eval e env)
  (h:wpAny (model prog w) A (eval e env) (λo s₁=>wpAny (model prog w) A (getAttr o f true) Q E s₁) E s):wpAny (model prog w) A (eval (.Attribute e f pos) env) Q E s:=
 Attribute_any_ h (by rw[arm_eval_Attribute,hb])
end
def tFld (K:a8)(ta:TE)(f:Str):TE:=λσ H Q=>ta σ H λx H1=>∃a C dx fs v,x= .ref a/\H1 a=some (.ins C dx fs)/\Cls K C/\NoAttr K C f/\fs.lookup f=some v/\Q v H1
def sFld (K:a8)(ta tv:TE)(f:Str):TS:=λD σ H=>tv σ H λy H1=>ta σ H1 λx H2=>∃a C dx fs,x= .ref a/\H2 a=some (.ins C dx fs)/\Cls K C/\NoAttr K C f/\fs.length < 1000/\
 D.nx σ (upd H2 a (.ins C dx (putF f y fs)))
section
theorem Jv (he:PE X e ta)(hb:attributeBase e f X.env (eval e X.env)=eval e X.env):PE X (.Attribute e f pos) (tFld X.K ta f):=by
 intro pins s σ H Q I h;refine VL hb (thn (he _ s σ H _ I h) λu s1 ⟨x,H1,I1,rx,a,C,dx,fs,v,ex,ea,c,n,l,q⟩=> ?_);subst ex;obtain rfl:u=Value.ref a:=rx;exact UD I1 ea c n l λu' s2 I2 ru=>⟨v,H1,I2,ru,q⟩
theorem vZ (ha:PE X o ta)(hv:PE X value tv)(hs:swapsWith value (some (.Attribute o f pos')) pos.line X.env=pure false):PS X (.Assign [.Attribute o f pos'] value pos) (sFld X.K ta tv f):=by
 intro pins s σ H D I h;refine plainObj_wpAny_Assign_Attribute (thn (hv _ s σ H _ I h) λu s1 ⟨y,H1,I1,ry,q⟩=>thn (ha _ s1 σ H1 _ I1 q) λov s2 ⟨x,H2,I2,rx,a,C,dx,fs,ex,ea,c,n,l,q2⟩=> ?_) hs;subst ex;obtain rfl:ov=Value.ref a:=rx;exact UE I2 ea c n l ry λs3 I3=>⟨σ,_,I3,q2⟩
theorem VM (he:PE X e te)(I:Inv X pins σ H s)
  (h:te σ H λx H1=>∃a C dx fs g,x= .ref a/\H1 a=some (.ins C dx fs)/\Cls X.K C/\Meth X.K C m g/\fs.lookup m=none/\
   ∀s1,Inv X pins σ H1 s1->wpAny (model X.prog X.w) X.A (callWith pos (.ref g) [.ref a] (backTo pos (starEach args X.env)) (backToKw pos (keywordEach [] X.env))) Q X.xe s1)
  (ht:eval (.Call (.Attribute e m apos) args [] pos) X.env=(do
   let ov ← eval e X.env
   standAt apos.atName
   let (f,first) ← holding [ov] (getMethod ov m pl)
   callWith pos f first (backTo pos (starEach args X.env)) (backToKw pos (keywordEach [] X.env)))):
  wpAny (model X.prog X.w) X.A (eval (.Call (.Attribute e m apos) args [] pos) X.env) Q X.xe s:=by
 refine dm (thn (he _ s σ H _ I h) λu s1 ⟨x,H1,I1,rx,a,C,dx,fs,g,ex,ea,c,k,l,q⟩=> ?_) ht;subst ex;obtain rfl:u=Value.ref a:=rx;exact jO I1 ea c k l (q s1 I1)
end
section
inductive UF (K:a8) (H:Hp):V->Value->Prop where
 | non:UF K H .non (.type "NoneType")
 | bl (x:Bool):UF K H (.bl x) (.type "bool")
 | int (i:Int):UF K H (.int i) (.type "int")
 | str (x:Str):UF K H (.str x) (.type "str")
 | flt (x:UInt64):UF K H (.flt x) (.type "float")
 | lst {a:Addr} {xs:List V} (e:H a=some (.lst xs)):UF K H (.ref a) (.type "list")
 | frz {a:Addr} {o:Obj} {xs:List V} (e:H a=some (.frz o (.lst xs))):UF K H (.ref a) (.type "list")
 | tup {a:Addr} {xs:List V} (e:H a=some (.tup xs)):UF K H (.ref a) (.type "tuple")
 | dK {a:Addr} {kvs:List (Key×V)} (e:H a=some (.dK kvs)):UF K H (.ref a) (.type "dict")
 | dT {a:Addr} {kvs:List (List Key×V)} (e:H a=some (.dT kvs)):UF K H (.ref a) (.type "dict")
 | ins {a C dx:Addr} {fs:List (Str×V)} (e:H a=some (.ins C dx fs)) (cl:Cls K C) (ha:bc K (.ref C) "__class__"=some (some (.builtin "object.__class__")))
   (hn:fU K (.builtin "object.__class__") "__get__"=some (some (.builtin "getset_descriptor.__get__"))) (htk:iq K (.builtin "object.__class__")=some true)
   (hm:fI K C (.type "object")=some true):UF K H (.ref a) (.ref C)
theorem yI (I:Inv X pins σ H s)(rx:Zc x u)(ty:UF X.K H x t)(e:aM X.K t c=some b)(h:∀tk,Q (.bool b) { s with toks:=tk }):
  wpAny (model X.prog X.w) A (call (.builtin "isinstance") [u,c]) Q E s:=by
 cases ty with
 | non=>cases (rx);exact bB PySem.W.kitx_none I.kIn True.intro e (λz=>nomatch z) h
 | bl y=>cases (rx);exact bB PySem.W.kitx_bool I.kIn True.intro e (λz=>nomatch z) h
 | int i=>obtain⟨t,q⟩:=(rx);cases q;exact bB PySem.W.kitx_int I.kIn True.intro e (λz=>nomatch z) h
 | str y=>obtain⟨t,q⟩:=(rx);cases q;exact bB PySem.W.kitx_str I.kIn True.intro e (λz=>nomatch z) h
 | flt y=>obtain⟨t,q⟩:=(rx);cases q;exact bB PySem.W.kitx_float I.kIn True.intro e (λz=>nomatch z) h
 | @lst a xs ea=>
  cases (rx);obtain⟨_,_,n,_,h1⟩:=(show Za _ X.w H _ a _ from I.hok a _ ea);exact bB fV I.kIn ⟨_,h1,rfl⟩ e (λz=>nomatch z) h
 | @frz a ob xs ea=>
  cases (rx);obtain⟨_,_,_,n,_,h1⟩:=(show Za _ X.w H _ a _ from I.hok a _ ea);exact bB fV I.kIn ⟨_,h1,rfl⟩ e (λz=>nomatch z) h
 | @tup a xs ea=>
  cases (rx);obtain⟨_,_,_,p,_⟩:=(show Za _ X.w H _ a _ from I.hok a _ ea);obtain⟨o,h1,h2,_⟩:=p;exact bB PySem.W.kitx_tuple I.kIn ⟨o,h1,h2⟩ e (λz=>nomatch z) h
 | @dK a kvs ea=>
  cases (rx);obtain⟨_,_,vs,_,p⟩:=(show Za _ X.w H _ a _ from I.hok a _ ea);obtain⟨o,es,ep,h1,h2,_⟩:=p;exact bB fW I.kIn ⟨o,h1,h2.1⟩ e (λz=>nomatch z) h
 | @dT a kvs ea=>
  cases (rx);obtain⟨_,_,xs,_,o,es,ep,h1,h2,_⟩:=(show Za _ X.w H _ a _ from I.hok a _ ea);exact bB fW I.kIn ⟨o,h1,h2.1⟩ e (λz=>nomatch z) h
 | @ins a C dx fs ea cl ha hn htk hm=>
  cases (rx);obtain⟨mA,O,_⟩:=wz I.hok ea;obtain⟨od,J,_⟩:=O.look;exact bB (PySem.W.kitx_own (cl.get _) cl.hd ha hn htk hm) I.kIn J e (λz=>nomatch z) h
end
end L2
namespace L2
open PySem PySem.Spec PyProof.Rows
structure ZA (k:Nat) (A:Around):Prop where
 hd:A.handled=none
 dp:A.depth+3*k+5 < recursionLimit
 un:A.units+16*k+200 < cLine
 gd:A.guards=some []
theorem ZA.mono (r:ZA k A)(h:j<=k):ZA j A:=⟨r.hd,by have:=r.dp;omega,by have:=r.un;omega,r.gd⟩
theorem ZA.deeper (r:ZA (k+1) A)(env:Env):ZA k (A.deeper env):=
 ⟨r.hd,by have:=r.dp;show A.depth+1+3*k+5 < _;omega,by have:=r.un;show A.units+3+16*k+200 < _;omega,r.gd⟩
theorem UG {A:Around}{C:Addr}{us:List Value}{kw:List (Str×Value)}:(A.under (.builtin "type.__call__" ⟨.ref C :: us,kw⟩)).depth=A.depth+1:=by
 first | rfl | simp[Around.under,Code.weight,Code.isCreation,Code.isGuard,Code.isCaller,Code.frames,fX,guardIds]
theorem UH {A:Around}{C:Addr}{us:List Value}{kw:List (Str×Value)}:(A.under (.builtin "type.__call__" ⟨.ref C :: us,kw⟩)).units=A.units+1:=by
 first | rfl | simp[Around.under,Code.cUnits,Code.frames,fX]
theorem ZA.make (r:ZA (k+1) A)(C:Addr)(us:List Value)(kw:List (Str×Value)):ZA k (A.under (.builtin "type.__call__" ⟨.ref C :: us,kw⟩)):=
 ⟨r.hd,by have:=r.dp;rw[UG];omega,by have:=r.un;rw[UH];omega,by first | exact r.gd | simpa[pushGuards] using r.gd⟩
theorem ZA.depth (r:ZA k A):A.depth < recursionLimit:=by have:=r.dp;omega
theorem ZA.units (r:ZA k A):A.units+64 < cLine:=by have:=r.un;omega
def tNil:TA:=λ_ H Q=>Q [] H
def z0w (ta:TE)(tr:TA):TA:=λσ H Q=>ta σ H λx H1=>tr σ H1 λxs H2=>Q (x :: xs) H2
section
theorem zU:PA X [] tNil:=λ_ _ _ _ H Q I h=>fY ⟨[],H,I,.nil,h⟩
theorem zA (ha:PE X e te)(hr:PA X es t)(hs:starEach (e :: es) X.env=(false,eval e X.env) :: starEach es X.env:=by rfl):PA X (e :: es) (z0w te t):=by
 intro pos pins s σ H Q I h;rw[hs];refine dG (thn (ha _ s σ H _ I h) λu s1 ⟨x,H1,I1,r1,q1⟩=> ?_);exact thn (hr pos _ s1 σ H1 _ I1 q1) λus s2 ⟨xs,H2,I2,r2,q2⟩=>⟨x :: xs,H2,I2,.cons r1 r2,q2⟩
def tTup (t:TA):TE:=λσ H Q=>t σ H λxs H1=>xs.length<=sizeLine/\∀p,H1 p=none->Q (.ref p) (upd H1 p (.tup xs))
def tLst (t:TA):TE:=λσ H Q=>t σ H λxs H1=>xs.length<=sizeLine/\∀p,H1 p=none->Q (.ref p) (upd H1 p (.lst xs))
theorem V0 {x1}(h:PA X es t):PE X (.Tuple es x1 pos) (tTup t):=by
 intro pins s σ H Q I hq;refine wpAny_Tuple_spliced (thn (h pos _ s σ H _ I hq) λus s1 ⟨xs,H1,I1,r,z,q⟩=>⟨by rw[← r.length];exact z, ?_⟩)
 have hf:=I1.hok.fresh (aj _);refine⟨.ref _,upd H1 _ _,I1.laid (λb u e=>aa _ e) (aj _) ?_,rfl,q _ hf⟩;exact⟨z,us,r,⟨_,ah _ rfl,rfl,_,rfl⟩,.inr ⟨_,ah _ rfl,rfl⟩⟩
theorem yJ (h:PA X es t):PE X (.List es pos) (tLst t):=by
 intro pins s σ H Q I hq;refine wpAny_List_spliced (thn (h pos _ s σ H _ I hq) λus s1 ⟨xs,H1,I1,r,z,q⟩=>⟨by rw[← r.length];exact z, ?_⟩)
 have hf:=I1.hok.fresh (aj _);refine⟨.ref _,upd H1 _ _,I1.laid (λb u e=>aa _ e) (aj _) ?_,rfl,q _ hf⟩;exact⟨z,us,0,r,ah _ rfl⟩
end
abbrev Sp:=List V->Hp->VK->XK->Prop
abbrev CXT:=List Env->Hp->Shared->XK->Value->Shared->Prop
structure uK (P:Program) (w:World) (K:a8) (mg:Str->Option Value) (base:Heap) (A:Around) (outer:List Env) (s:Shared) (H:Hp):Prop where
 frames:A.frames=some outer
 mod:Mod K mg base
 bs:∀b o,base.get? b=some o->s.heap.get? b=some o/\H b=none
 bsz:base.objs.size<=s.heap.objs.size
 funs:s.heap.FunFrames base outer
 frf:∀b∈frs outer,H b=none
 hok:HOk P w H s.heap
 bare:AllBare s.gens
def CE (outer:List Env)(P:Program)(w:World)(H:Hp)(s:Shared)(Q:VK)(u:Value)(s' :Shared):Prop:=
 ∃v H',s'.os=s.os/\AllBare s'.gens/\Un (frs outer) [] H H' s.heap s'.heap/\HOk P w H' s'.heap/\Zc v u/\Q v H'
def CR (CX:CXT)(outer:List Env)(P:Program)(w:World)(H:Hp)(s:Shared)(Q:VK)(E:XK)(r:Result)(s' :Shared):Prop:=
 match r with
 | .ok (.ret u)=>CE outer P w H s Q u s'
 | .ok _=>False
 | .error e=>CX outer H s E e s'
structure j9 (P:Program) (w:World) (K:a8) (mg:Str->Option Value) (base:Heap) (CX:CXT) (k:Nat) (f:Addr) (fd:FuncData) (ps:List Str) (sp:Sp):Prop where
 len:∀vs H Q E,sp vs H Q E->vs.length=ps.length
 run:∀(A:Around) (outer:List Env) (s:Shared) (H:Hp) (args:Args) (us:List Value) (vs:List V) (Q:VK) (E:XK),ZA k A->uK P w K mg base A outer s H->BindsTo s fd args (ps.zip us)->zS vs us->sp vs H Q E->
  codeAny (model P w) A (.call (.ref f) args) (CR CX outer P w H s Q E) s
theorem uK.make {P:Program}{w:World}{K:a8}{mg:Str->Option Value}{base:Heap}{A:Around}{outer:List Env}{s:Shared}{H:Hp}(e:uK P w K mg base A outer s H)(C:Addr)(us:List Value)(kw:List (Str×Value)):
  uK P w K mg base (A.under (.builtin "type.__call__" ⟨.ref C :: us,kw⟩)) outer s H:=⟨by first | exact e.frames | (simpa[fX] using e.frames),e.mod,e.bs,e.bsz,e.funs,e.frf,e.hok,e.bare⟩
section
theorem Inv.env0 (I:Inv X pins σ H s):uK X.prog X.w X.K X.mg X.base X.A X.stack s H:=
 ⟨I.ok.frames,I.ok.mod,I.bs,aD I.ok.bsz I.sz,I.stack,I.stkFree,I.hok,I.bare⟩
theorem Inv.after (I:Inv X pins σ H s)(h:CE X.stack X.prog X.w H s Q u s'):EP X pins σ Q u s' :=by
 obtain⟨v,H',os,bare,un,hok,r,q⟩:=h;obtain⟨hh,g,d,t,os'⟩:=s';obtain rfl:os' =s.os:=os;exact⟨v,H',I.call un hok bare (λb z=>absurd z (by simp)),r,q⟩
end
def z0x (sp:Sp)(dvs:List V)(E:XK)(t:TA):TE:=λσ H Q=>t σ H λvs H1=>sp (vs++dvs) H1 Q E
def kF (C:Addr)(m:Str)(sp:Sp)(dvs:List V)(E:XK)(ta:TE)(t:TA):TE:=λσ H Q=>ta σ H λx H1=>∃a dx fs,x= .ref a/\H1 a=some (.ins C dx fs)/\fs.lookup m=none/\
 t σ H1 λvs H2=>sp (x :: (vs++dvs)) H2 Q E
def z0y (C:Addr)(sp:Sp)(dvs:List V)(E:XK)(t:TA):TE:=λσ H Q=>t σ H λvs H1=>∀x dx,H1 x=none->H1 dx=none->dx ≠ x->
 sp (.ref x :: (vs++dvs)) (upd (upd H1 dx (.own x)) x (.ins C dx [])) (λv H2=>v= .non/\Q (.ref x) H2) E
noncomputable def Binds (K:a8)(fd:FuncData)(ps:List Str)(ds:List Value):Prop:=
 ∀(s:Shared) (us:List Value),K.In s.heap->(us++ds).length=ps.length->BindsTo s fd ⟨us,[]⟩ (ps.zip (us++ds))
theorem Binds.all {K:a8}{fd:FuncData}{ps:List Str}(h:∀us:List Value,us.length=ps.length->bindArgs fd ⟨us,[]⟩=pure (ps.zip us)):Binds K fd ps []:=λs us _ hl=>by
 rw[aW]at hl ⊢;exact .of_eq (h us hl)
def Z5 (CX:CXT)(X:Cx)(E:XK):Prop:=∀(pins:List (Addr×Obj)) (σ:St) (H:Hp) (s:Shared) (e:Value) (s' :Shared),Inv X pins σ H s->CX X.stack H s E e s' ->X.xe e s'
section
theorem yK (F:j9 X.prog X.w X.K X.mg X.base CX k f fd ps sp)(hr:ZA k X.A)(hb:Binds X.K fd ps ds)(hd:zS dvs ds)(hx:Z5 CX X E)
  (I:Inv X pins σ H s) (r:zS vs us) (h:sp (vs++dvs) H Q E):wpAny (model X.prog X.w) X.A (call (.ref f) us) (EP X pins σ Q) X.xe s:=by
 have r2:=r.append hd;have hl:(us++ds).length=ps.length:=by rw[← r2.length];exact F.len _ _ _ _ h
 refine d7 (b_ (F.run X.A _ s H _ _ _ Q E hr I.env0 (hb s us I.kIn hl) r2 h) λr s' hq=> ?_);cases r with
 | error e=>exact hx _ σ H s e s' I hq
 | ok fl=>
  cases fl with
  | ret u=>exact I.after hq
  | next=>exact bp hq
  | brk=>exact bp hq
  | cont=>exact bp hq
theorem yL (F:j9 X.prog X.w X.K X.mg X.base CX k f fd ps sp)(hr:ZA k X.A)(hg:Gl X x)(hm:X.mg x=some (.ref f))(hk:bL X.K (.ref f)=true)(hb:Binds X.K fd ps ds)(hd:zS dvs ds)(hx:Z5 CX X E)
  (ha:PA X (e :: es) t) (hdb:(x == ("__debug__":Str))=false:=by decide) (he:starEach (e :: es) X.env=(false,eval e X.env) :: starEach es X.env:=by rfl) (hpl:(backTo pos (starEach es X.env)).any (·.1)=false:=by rfl):
  PE X (.Call (.Name x p) (e :: es) [] pos) (z0x sp dvs E t):=by
 intro pins s σ H Q I h;refine bz (jq I hg hm ?_ hdb);refine dH I.ok.mod.kin hk (thn (ha pos _ s σ H _ I h) λus s1 ⟨vs,H1,I1,r,q⟩=>⟨I1.kIn, ?_⟩) he hpl;exact yK F hr hb hd hx I1 r q
theorem yM (he:PE X o ta)(c:Cls X.K C)(hm:Meth X.K C m f)(F:j9 X.prog X.w X.K X.mg X.base CX k f fd ps sp)(hr:ZA k X.A)(hb:Binds X.K fd ps ds)(hd:zS dvs ds)(hx:Z5 CX X E)(ha:PA X (e :: es) t)
  (hst:starEach (e :: es) X.env=(false,eval e X.env) :: starEach es X.env:=by rfl) (hpl:(backTo pos (starEach es X.env)).any (·.1)=false:=by rfl)
  (ht:eval (.Call (.Attribute o m apos) (e :: es) [] pos) X.env=(do
   let ov ← eval o X.env
   standAt apos.atName
   let (f,first) ← holding [ov] (getMethod ov m pl)
   callWith pos f first (backTo pos (starEach (e :: es) X.env)) (backToKw pos (keywordEach [] X.env))):=by rfl):
  PE X (.Call (.Attribute o m apos) (e :: es) [] pos) (kF C m sp dvs E ta t):=by
 intro pins s σ H Q I h;refine dm (thn (he _ s σ H _ I h) λu s1 ⟨x,H1,I1,rx,a,dx,fs,ex,ea,l,q⟩=> ?_) ht;subst ex;obtain rfl:u=Value.ref a:=rx;refine jO I1 ea c hm l ?_;refine dH I.ok.mod.kin hm.kp (thn (ha pos _ s1 σ H1 _ I1 q) λus s2 ⟨vs,H2,I2,r,q2⟩=>⟨I2.kIn, ?_⟩) hst hpl;exact yK (vs:= .ref a :: vs) F hr hb hd hx I2 (.cons rfl r) q2
theorem wA (he:PE X o ta)(c:Cls X.K C)(hm:Meth X.K C m f)(F:j9 X.prog X.w X.K X.mg X.base CX k f fd ps sp)(hr:ZA k X.A)(hb:Binds X.K fd ps ds)(hd:zS dvs ds)(hx:Z5 CX X E)
  (ht:eval (.Call (.Attribute o m apos) [] [] pos) X.env=(do
   let ov ← eval o X.env
   standAt apos.atName
   let (f,first) ← holding [ov] (getMethod ov m pl)
   callWith pos f first (backTo pos (starEach [] X.env)) (backToKw pos (keywordEach [] X.env))):=by rfl):
  PE X (.Call (.Attribute o m apos) [] [] pos) (kF C m sp dvs E ta tNil):=by
 intro pins s σ H Q I h;refine dm (thn (he _ s σ H _ I h) λu s1 ⟨x,H1,I1,rx,a,dx,fs,ex,ea,l,q⟩=> ?_) ht;subst ex;obtain rfl:u=Value.ref a:=rx;refine jO I1 ea c hm l ?_;exact PySem.W.callWith_K0 I1.kIn hm.kp (yK (vs:=[.ref a]) F hr hb hd hx I1 (.cons rfl .nil) q)
structure Mk (K:a8) (C f:Addr):Prop where
 makes:ip K C=true
 init:bc K (.ref C) "__init__"=some (some (.ref f))
 fn:eU K (.ref f)=true
 kp:bL K (.ref C)=true
theorem Qz (M:Mk X.K C f)(F:j9 X.prog X.w X.K X.mg X.base CX k f fd ps sp)(hr:ZA (k+1) X.A)(hb:Binds X.K fd ps ds)(hd:zS dvs ds)
  (hx:Z5 CX X E) (I:Inv X pins σ H s) (r:zS vs us)
  (h:∀x dx,H x=none->H dx=none->dx ≠ x->sp (.ref x :: (vs++dvs)) (upd (upd H dx (.own x)) x (.ins C dx [])) (λv H2=>v= .non/\Q (.ref x) H2) E):
  wpAny (model X.prog X.w) X.A (call (.ref C) us) (EP X pins σ Q) X.xe s:=by
 have hq:=h _ _ (I.hok.fresh (dv _)) (I.hok.fresh (aj _)) (aE (cM _));have I2:=Inv.made (C:=C) I;have r2:zS (V.ref (s.heap.objs.size+1) :: (vs++dvs)) _:= .cons rfl (r.append hd);have hl:=by
  have e:=r2.length;rw[F.len _ _ _ _ hq]at e;exact e.symm
 refine d7 (Qy I.kIn M.makes M.init (beq_iff_eq.mp M.fn) (b_ (F.run _ _ _ _ _ _ _ _ E (hr.make C us [])
  (I2.env0.make C us []) (hb _ _ I2.kIn hl) r2 hq) λr s' hq' => ?_))
 cases r with
 | error e=>exact hx _ σ _ _ e s' I2 hq'
 | ok fl=>
  cases fl with
  | ret u=>
   obtain⟨v,H',I3,rv,ev,q3⟩:=I2.after hq';subst ev;exact⟨rv,⟨V.ref _,H',I3,rfl,q3⟩⟩
  | next=>exact bp hq'
  | brk=>exact bp hq'
  | cont=>exact bp hq'
theorem VN (M:Mk X.K C f)(F:j9 X.prog X.w X.K X.mg X.base CX k f fd ps sp)(hr:ZA (k+1) X.A)(hg:Gl X x)(hm:X.mg x=some (.ref C))(hb:Binds X.K fd ps ds)(hd:zS dvs ds)(hx:Z5 CX X E)
  (ha:PA X (e :: es) t) (hdb:(x == ("__debug__":Str))=false:=by decide) (he:starEach (e :: es) X.env=(false,eval e X.env) :: starEach es X.env:=by rfl) (hpl:(backTo pos (starEach es X.env)).any (·.1)=false:=by rfl):
  PE X (.Call (.Name x p) (e :: es) [] pos) (z0y C sp dvs E t):=by
 intro pins s σ H Q I h;refine bz (jq I hg hm ?_ hdb);refine dH I.ok.mod.kin M.kp (thn (ha pos _ s σ H _ I h) λus s1 ⟨vs,H1,I1,r,q⟩=>⟨I1.kIn, ?_⟩) he hpl;exact Qz M F hr hb hd hx I1 r q
end
section
variable {kws:List Keyword}{nm:Option Str}
variable {g:List Value->List Value->List Value}{gV:List V->List V->List V}
end
structure Zx (N P:List Str) (sc:Scope):Prop where
 kind:sc.kind= .function
 co:sc.isCoroutine=false
 gen:sc.isGenerator=false
 nd:N.Nodup
 pre:N.take P.length=P
 par:∀x∈P,sc.names.lookup x=some .local\/sc.names.lookup x=some .cell
 nofree:∀y∈sc.names,y.2 ≠ .free
theorem Wf {kindOf:Str->Option NameKind}{x:Str}:∀{binds:List (Str×Value)} {m:Str->Option Value},(∀v,(x,v) ∉ binds)->bindL kindOf binds m x=m x
 | [],_,_=>rfl
 | (n,v) :: r,m,h=>by
  unfold bindL;rw[Wf λw hw=>h w (ac _ hw)];split
  ·have:x ≠ n:=by rintro rfl;exact h v ak
   simp[this]
  ·rfl
theorem Wg {kindOf:Str->Option NameKind}{x:Str}:∀{binds:List (Str×Value)} {m:Str->Option Value},(∀v,(x,v) ∉ binds)->bindC kindOf binds m x=m x
 | [],_,_=>rfl
 | (n,v) :: r,m,h=>by
  unfold bindC;rw[Wg λw hw=>h w (ac _ hw)];split
  ·rfl
  ·have:x ≠ n:=by rintro rfl;exact h v ak
   simp[this]
theorem Wh {kindOf:Str->Option NameKind}{x:Str}{v:Value}:∀{P:List Str} {vs:List Value} {i:Nat} {m:Str->Option Value},P.Nodup->P[i]? =some x->vs[i]? =some v->kindOf x=some .local->
  bindL kindOf (P.zip vs) m x=some v
 | [],_,_,_,_,h,_,_=>by simp at h
 | _ :: _,[],_,_,_,_,h,_=>by simp at h
 | p :: P,w :: vs,0,m,nd,h1,h2,hk=>by
  simp at h1 h2;subst h1;subst h2;show bindL _ ((p,w) :: P.zip vs) m p=_;unfold bindL;rw[Wf λv hv=>(d5.mp nd).1 (dz hv).1,if_pos hk];simp
 | p :: P,w :: vs,i+1,m,nd,h1,h2,hk=>by
  show bindL _ ((p,w) :: P.zip vs) m x=_;exact Wh (d5.mp nd).2 (by simpa using h1) (by simpa using h2) hk
theorem Wi {kindOf:Str->Option NameKind}{x:Str}{v:Value}:∀{P:List Str} {vs:List Value} {i:Nat} {m:Str->Option Value},P.Nodup->P[i]? =some x->vs[i]? =some v->kindOf x ≠ some .local->
  bindC kindOf (P.zip vs) m x=some v
 | [],_,_,_,_,h,_,_=>by simp at h
 | _ :: _,[],_,_,_,_,h,_=>by simp at h
 | p :: P,w :: vs,0,m,nd,h1,h2,hk=>by
  simp at h1 h2;subst h1;subst h2;show bindC _ ((p,w) :: P.zip vs) m p=_;unfold bindC;rw[Wg λv hv=>(d5.mp nd).1 (dz hv).1,if_neg hk];simp
 | p :: P,w :: vs,i+1,m,nd,h1,h2,hk=>by
  show bindC _ ((p,w) :: P.zip vs) m x=_;exact Wi (d5.mp nd).2 (by simpa using h1) (by simpa using h2) hk
def start (N:List Str)(vs:List V):St:=vs.map some++ai (N.length - vs.length) none
def jM (CX:CXT)(P:Program)(w:World)(K:a8)(mg:Str->Option Value)(base:Heap)(N:List Str)(qual:Str)(scope:Scope)(f:Addr)(cd:Value)(A:Around)(outer:List Env)(s:Shared)(H:Hp)(E:XK):Cx where
 prog:=P
 w:=w
 K:=K
 mg:=mg
 base:=base
 A:=A.deeper (envOfC qual scope s.heap.objs.size f cd)
 N:=N
 s₀:=s
 H₀:=H
 env:=envOfC qual scope s.heap.objs.size f cd
 outer:=outer
 stack:=envOfC qual scope s.heap.objs.size f cd :: outer
 ex:=[]
 calm:=true
 fn:=λ_=>true
 pn:=[]
 xe:=λe s' =>wpAny (model P w) (A.deeper (envOfC qual scope s.heap.objs.size f cd)) (leaving (envOfC qual scope s.heap.objs.size f cd) e) (λ_ s'' =>CX outer H s E e s'') (λe' s'' =>CX outer H s E e' s'') s'
theorem uL {sc:Scope}{n:Nat}{x:Str}(h:sc.names.lookup x=some .cell):∃c,(cellsFrom n sc.names []).lookup x=some c:=by
 have q:=eV _ n [] (.inl h);exact cW.mp q
theorem Wj {CX:CXT}{P:Program}{w:World}{K:a8}{mg:Str->Option Value}{base:Heap}{N ps:List Str}{qual:Str}{scope:Scope}{f:Addr}{cd:Value}{A:Around}{outer:List Env}{s s1:Shared}{H:Hp}{E:XK}{us:List Value}{vs:List V}
  (S:Zx N ps scope) (hd:A.handled=none) (e0:uK P w K mg base A outer s H) (hl:vs.length=ps.length) (r:zS vs us)
  (x:InCallC s s.heap.objs.size (bindL (envOfC qual scope s.heap.objs.size f cd).kindOf (ps.zip us) λ_=>none) (cellsFrom (s.heap.objs.size+1) scope.names []) (bindC (envOfC qual scope s.heap.objs.size f cd).kindOf (ps.zip us) λ_=>none) s1):
  Inv (jM CX P w K mg base N qual scope f cd A outer s H E) [] (start N vs) H s1:=by
 have hpl:=by have:=congrArg List.length S.pre;rw[cN]at this;omega
 obtain⟨h1,tk,rfl,hk⟩:=x.done;have noA:∀b,b ∉ (jM CX P w K mg base N qual scope f cd A outer s H E).ex:=λb z=>absurd (show b∈([]:List _) from z) (by simp)
 refine⟨⟨e0.mod,S.kind,rfl,rfl,aj _,λy z c h1 h2=> ?_,λy hy=> ?_,λy c _ h=> ?_,λ_=>hd,dy e0.frames,.inr ⟨rfl,rfl⟩,λb z=>absurd z (noA b),e0.bs,e0.bsz,λb _ _=>noA b,λb z=>absurd z (noA b),e0.funs,e0.frf⟩,
  rfl,e0.bare,Un.kept hk,⟨_,x.toInCall.ns,λi y v h1 h2 h3=> ?_⟩,λy c h=>⟨_,x.cell y c h⟩,e0.hok.fresh (aj _),λy c h=> ?_,λp hp=>absurd (show p∈([]:List _) from hp) (by simp),e0.hok.kept hk, ?_⟩
 ·exact name_of_addr x.apart (bu h1) (bu h2)
 ·rcases hy with hy | hy
  ·exact uL hy
  ·exact absurd rfl (S.nofree _ (bu hy))
 ·exact eT (x.above y c (bu h))
 ·have hi:i < vs.length:=by
   unfold start at h2
   by_cases hi:i < vs.length
   ·exact hi
   ·rw[aq (by simpa using hi)]at h2
    rw[aF]at h2;split at h2 <;> cases h2
  have ha:vs[i]? =some v:=by
   unfold start at h2;rw[az (by simpa using hi),av]at h2
   cases e:vs[i]? with
   | none=>rw[e]at h2;cases h2
   | some a=>rw[e]at h2;cases h2;rfl
  obtain⟨u,hu,rv⟩:=r.get ha;have hp:ps[i]? =some y:=by
   rw[← S.pre,List.getElem?_take_of_lt (by omega)];exact h1
  have ndP:ps.Nodup:=by rw[← S.pre];exact S.nd.sublist (List.take_sublist _ _)
  refine⟨u,rv, ?_⟩;rcases S.par y (fu hp) with k | k
  ·exact .inl ⟨k,Wh ndP hp hu k⟩
  ·obtain⟨c,e⟩:=uL k;refine .inr ⟨.inl k,c,e, ?_⟩;have q:=x.cell y c e;rw[Wi ndP hp hu (by show scope.names.lookup y ≠ _;rw[k];decide)]at q
   exact q
 ·exact e0.hok.fresh (eT (x.above y c (bu h)))
 ·unfold start;show _=N.length;rw[ao,a9,aQ];omega
theorem VO {CX:CXT}{P:Program}{w:World}{K:a8}{mg:Str->Option Value}{base:Heap}{k:Nat}{f:Addr}{name qual:Str}{params:Arguments}{body:List Stmt}{scope:Scope}{dV kV doc pm cdv ct oc:Value}{an od:Option Addr}
  {osl:Array (Option Value)} {N ps:List Str} {sp:Sp} (lk:K.lookup f=some ⟨oc,od,.func (bE name qual params body scope dV kV doc pm an cdv ct),osl⟩) (hcd:db K cdv qual=true) (S:Zx N ps scope)
  (len:∀vs H Q E,sp vs H Q E->vs.length=ps.length)
  (hbody:∀(A:Around) (outer:List Env) (s:Shared) (H:Hp) (vs:List V) (Q:VK) (E:XK),ZA k (A.deeper (envOfC qual scope s.heap.objs.size f cdv))->sp vs H Q E->
   ∃t,PSs (jM CX P w K mg base N qual scope f cdv A outer s H E) body t/\t { nx:=λ_ H' =>Q .non H',rt:=Q } (start N vs) H):
  j9 P w K mg base CX (k+1) f (bE name qual params body scope dV kV doc pm an cdv ct) ps sp:=by
 refine⟨len,λA outer s H args us vs Q E hr e0 hb r hsp=> ?_⟩;have hl:=len _ _ _ _ hsp;have KX:=e0.mod.kin.keeps λb o e=>(e0.bs b o e).1;have lim:=e0.mod.nolimit.keeps λb o e=>(e0.bs b o e).1;have hkind:∀y∈ps.zip us,scope.names.lookup y.1=some _\/(scope.names.lookup y.1=some _/\((cellsFrom (s.heap.objs.size+1) _ []).lookup y.1).isSome=true):=λ⟨n,v⟩ hy=>by
  rcases S.par n (dz hy).1 with q | q
  ·exact .inl q
  ·exact .inr ⟨q,eV _ _ _ (.inl q)⟩
 refine codeAny_call_function hr.depth (KX _ _ lk) rfl S.co S.gen rfl (PySem.W.codeRec_of KX hcd) (hb _ _ _ _ ?_);refine wpAny_newFunctionEnv_cells S.kind hkind λenv he s1 x=> ?_;subst he;refine⟨lim.keeps x.toInCall.keep,codeAny_func ?_⟩;obtain⟨t,ht,hq⟩:=hbody A _ s H vs Q E (hr.deeper _) hsp;have I:Inv (jM CX P w K mg _ N _ _ f cdv A _ s H E) [] _ H s1:=Wj S hr.hd e0 hl r x;refine bK (ht [] s1 _ H _ I hq) (λfl s' hs=> ?_) λe s' hs=>hs;have fin:∀{σ' :St} {H' :Hp} {v:V} {u:Value},Inv (jM CX P w K mg base N qual scope f cdv A outer s H E) [] σ' H' s' ->Zc v u->Q v H' ->CE _ P w H s Q u s' :=
  λ{σ' H' v u} J rv q=>⟨v,H',J.os,J.bare,J.base,J.hok,rv,q⟩
 cases fl with
 | ret u=>
  obtain⟨v,σ',H',J,rv,q⟩:=hs;exact fin J rv q
 | next=>
  obtain⟨σ',H',J,q⟩:=hs;exact fin (v:=V.non) J rfl q
 | brk=>
  obtain⟨_,_,_,q⟩:=hs;exact bp q
 | cont=>
  obtain⟨_,_,_,q⟩:=hs;exact bp q
end L2
namespace L2
open PySem PySem.Spec PyProof.Rows
section
variable {X:Cx}{x:Str}{p pos:Pos}{e:Expr}{es:List Expr}{t:TA}{id T:String}{r:List V->Hp->VK->Prop}
def tCB (r:List V->Hp->VK->Prop)(t:TA):TE:=λσ H Q=>t σ H λvs H1=>r vs H1 Q
theorem ZW (hc:Zp X (.builtin id) r)(hg:Gl X x)(hm:X.mg x=none)(hv:bootBuiltins x=some (.builtin id))(ha:PA X (e :: es) t)(hn:x ≠ "__name__":=by decide)(hdb:(x == ("__debug__":Str))=false:=by decide)
  (he:starEach (e :: es) X.env=(false,eval e X.env) :: starEach es X.env:=by rfl) (hpl:(backTo pos (starEach es X.env)).any (·.1)=false:=by rfl):PE X (.Call (.Name x p) (e :: es) [] pos) (tCB r t):=by
 intro pins s σ H Q I h;refine bz (j7 I hg hm hv ?_ hn hdb);exact PyProof.Rows.callWith_builtin1 (thn (ha pos _ s σ H _ I h) λus s1 ⟨vs,H1,I1,r1,q1⟩=>hc _ s1 σ H1 vs us Q I1 r1 q1) he hpl
theorem ja (hc:Zp X (.type T) r)(hg:Gl X x)(hm:X.mg x=none)(hv:bootBuiltins x=some (.type T))(ha:PA X (e :: es) t)(hn:x ≠ "__name__":=by decide)(hdb:(x == ("__debug__":Str))=false:=by decide)
  (he:starEach (e :: es) X.env=(false,eval e X.env) :: starEach es X.env:=by rfl) (hpl:(backTo pos (starEach es X.env)).any (·.1)=false:=by rfl):PE X (.Call (.Name x p) (e :: es) [] pos) (tCB r t):=by
 intro pins s σ H Q I h;refine bz (j7 I hg hm hv ?_ hn hdb);exact aU (thn (ha pos _ s σ H _ I h) λus s1 ⟨vs,H1,I1,r1,q1⟩=>hc _ s1 σ H1 vs us Q I1 r1 q1) he hpl
end
end L2
namespace HT
open PySem PyProof.Rows
section
open PySem.SeqAt
open PySem.AutoSeq1 (wpAny_loadPart')
open PySem.MeetsSeq PySem.MeetsSeq2 PySem.MeetsSeq3
end
section
theorem cat_tup (ht:IsTup s.heap t vs.toArray)(hb:IsTup s.heap b ws.toArray)(hv:vs ≠ [])
  (h1:ws=[]->Q (.ref t) s) (h2:ws ≠ []->Q (.ref s.heap.objs.size) { s with heap:=s.heap.push { cls:= .type "tuple",data:= .seq (vs++ws).toArray } })
  (hsz:vs.length+ws.length<=sizeLine):wpAny (model prog w) A (binaryOp .Add (.ref t) (.ref b)) Q E s:=by
 obtain⟨⟨cls,dd,data,sl⟩,ho,hc,n,hd⟩:=id ht;obtain⟨⟨cls2,dd2,data2,sl2⟩,ho2,hc2,n2,hd2⟩:=id hb;subst hc hd hc2 hd2;have e:vs.toArray++ws.toArray=(vs++ws).toArray:=by simp
 by_cases hw:ws=[]
 ·exact concat_meets ⟨_,ho,rfl⟩ ⟨_,ho2,rfl⟩ noFill_tuple_add seq_tuple_add de d9 (cX _ _)
   (tuple_addW1 t b _ _ n n2 dd dd2 sl sl2 (by simpa using hv) (by simp[hw])) ⟨ho,ho2,h1 hw⟩
 ·refine concat_meets ⟨_,ho,rfl⟩ ⟨_,ho2,rfl⟩ noFill_tuple_add seq_tuple_add de d9 (cX _ _)
   (tuple_addW2 t b _ _ n n2 dd dd2 sl sl2 (by simpa using hv) (by simpa using hw) (by exact hsz)) ⟨ho,ho2, ?_⟩
  rw[e];exact h2 hw
noncomputable def sIx (n d:Nat):Option Int->Nat
 | none=>d
 | some v=>if v < 0 then (v+(n:Int)).toNat else min v.toNat n
theorem sIx_none (n d:Nat):sIx n d none=d:=rfl
theorem sIx_nat (n d k:Nat):sIx n d (some (k:Int))=min k n:=by
 show (if (k) < 0 then ((k:Int)+(n)).toNat else min _ n)=min k n
 rw[if_neg (by omega),bF]
theorem yN (v:Int)(n d:Nat):(if v < 0 then max (v+(n:Int)) 0 else min v (n:Int))=((sIx n d (some v):Nat):Int):=by
 show (if v < 0 then max _ 0 else min v (n))=(((if v < 0 then (v+(n)).toNat else min _ n):Nat):Int)
 by_cases hv:v < 0
 ·simp only[if_pos hv];omega
 ·simp only[if_neg hv];omega
theorem UI (lo hi:Option Int)(n:Nat):dP lo hi 1 (n:Int)=(((sIx n 0 lo:Nat):Int),((sIx n n hi:Nat):Int)):=by
 refine Prod.ext ?_ ?_
 ·cases lo with
  | none=>rfl
  | some v=>exact yN v n 0
 ·cases hi with
  | none=>rfl
  | some v=>exact yN v n n
theorem UJ (i j:Nat):cS (i:Int) (j:Int) 1=j - i:=by
 unfold cS;split <;> omega
theorem wd {o:Option Int}{Q:Option Int->Shared->Prop}(p:IsPart v o)(h:Q o s):wpAny (model prog w) A (Builtin.Slice.slicePartIndex v) Q E s:=by
 cases p with
 | none=>exact slicePart_none h
 | int i t=>exact slicePart_int h
theorem sliceApplied_gen {lo hi:Option Int}{Q:Int×Int×Nat->Shared->Prop}(hs:s.heap.IsSliceOf sl vl vu .none)(pl:IsPart vl lo)(pu:IsPart vu hi)
  (h:Q (((sIx n 0 lo:Nat):Int),1,sIx n n hi - sIx n 0 lo) s):wpAny (model prog w) A (Builtin.Slice.sliceApplied (.ref sl) (pure (n:Int))) Q E s:=by
 obtain⟨os,hos,hcs,hds⟩:=id hs;refine a7 (a7 (bf hos hds rfl (a7 (bf hos hds rfl (a7 (bf hos hds rfl (au ?_)))))));refine a7 (slicePart_none ?_);refine a7 (wd pl (a7 (wd pu (a7 (au ?_)))));show wpAny _ _ (match dP lo hi 1 _ with | (lo,hi)=>pure (lo,(1:Int),cS lo hi 1)) _ _ s
 rw[UI lo hi n];show wpAny _ _ (pure _) _ _ s;rw[UJ];exact au h
theorem QA (xs:Array Value)(i k:Nat):((a_ k).filterMap λ(m:Nat)=>xs[((i:Int)+(m:Int)*1).toNat]?).toArray=((xs.toList.drop i).take k).toArray:=by
 have e:(λ(m:Nat)=>xs[((i:Int)+(m)*1).toNat]?)=λm=>xs[i+m]? :=by
  funext m
  have:((i:Int)+(m)*1).toNat=i+m:=by omega
  rw[this]
 rw[e];have:=pick_run xs i k;rw[List.filterMap_map]at this;have e2:((λx=>xs[x]?) ∘ λx=>i+x)=λm=>xs[i+m]? :=rfl;rw[e2]at this;rw[this]
theorem getItem_tuple_cut {lo hi:Option Int}(ht:IsTup s.heap t items)(hs:s.heap.IsSliceOf sl vl vu .none)(pl:IsPart vl lo)(pu:IsPart vu hi)
  (hw:¬ (sIx items.size 0 lo=0/\sIx items.size items.size hi=items.size))
  (h:Q (.ref s.heap.objs.size) { s with heap:=s.heap.push { cls:= .type "tuple",data:= .seq ((items.toList.drop (sIx items.size 0 lo)).take (sIx items.size items.size hi - sIx items.size 0 lo)).toArray } })
  (hsz:items.size<=sizeLine):wpAny (model prog w) A (getItem (.ref t) (.ref sl)) Q E s:=by
 have htake:sizeOk (.seq ((items.toList.drop (sIx items.size 0 lo)).take (sIx items.size items.size hi - sIx items.size 0 lo)).toArray):=by
  show ((items.toList.drop _).take _).toArray.size<=sizeLine;rw[ay,cN,eF,dB];omega
 obtain⟨os,hos,hcs,hds⟩:=id hs;have hTs:s.TypeIs (.ref sl) _:=⟨os,hos,hcs⟩;unfold getItem
 try with_reducible refine cC ?_
 refine a7 (wpAny_sequenceKey ht.typeIs (by decide) ?_)
 refine a7 (bw ht.typeIs bh
  (bP bh ht.typeIs entry_tuple_getitem ?_ (args_tuple_getitem _ _)))
 show wpAny _ _ (dI _ >>= _) _ _ s;refine a7 (tupleItemsOf_ ht ?_);refine a7 (wpAny_typeOf hTs ?_);refine a7 (sliceApplied_gen hs pl pu ?_);have hno:¬ ((((sIx items.size 0 lo):Int) == 0 && (1:Int) == 1 && (sIx items.size items.size hi - sIx items.size 0 lo) == items.size)=true):=by
  intro q;rw[ae,ae]at q;have q1:=eq_of_beq q.1.1;have q2:=eq_of_beq q.2;exact hw ⟨by omega,by omega⟩
 show wpAny _ _ (if (((sIx _ 0 lo:Nat):Int) == 0 && (1) == 1 && (sIx _ _ hi - sIx _ 0 lo) == items.size)=true then _ else _) _ _ s
 rw[if_neg hno,QA]
 first
  | exact a7 (bv (au ⟨_,rfl,au h⟩) htake)
  | exact a7 _
  | exact a7 _
  | exact a7 _
end
end HT
namespace L2
open PySem PySem.Spec PyProof.Rows
abbrev TO:=St->Hp->(Option Int->Hp->Prop)->Prop
def PO (X:Cx)(e:Option Expr)(t:TO):Prop:=
 ∀(pins:List (Addr×Obj)) (s:Shared) (σ:St) (H:Hp) (Q:Option Int->Hp->Prop),Inv X pins σ H s->t σ H Q->
  wpAny (model X.prog X.w) X.A (evalPart e X.env) (λu s' =>∃o H',Inv X pins σ H' s' /\IsPart u o/\Q o H') X.xe s
def VP:TO:=λ_ H Q=>Q none H
def z0z (t:TE):TO:=λσ H Q=>t σ H λx H1=>∃i,x= .int i/\Q (some i) H1
section
variable {X:Cx}{e:Expr}{te:TE}{lo hi:Option Expr}{tl th:TO}{pos p2:Pos}
theorem VQ:PO X none VP:=by
 intro pins s σ H Q I h;exact au ⟨none,H,I,.none,h⟩
theorem VR (h:PE X e te):PO X (some e) (z0z te):=by
 intro pins s σ H Q I hw;refine thn (h _ s σ H _ I hw) λu s1 ⟨x,H1,I1,r1,q1⟩=> ?_;obtain⟨i,rfl,q⟩:=q1;obtain⟨t,rfl⟩:=r1;exact⟨some i,H1,I1,.int i t,q⟩
def SlR (X:Cx)(r:V->Option Int->Option Int->Hp->VK->Prop):Prop:=
 ∀(pins:List (Addr×Obj)) (s:Shared) (σ:St) (H:Hp) (x:V) (v vl vu:Value) (lo hi:Option Int) (sl:Addr) (Q:VK),Inv X pins σ H s->Zc x v->s.heap.IsSliceOf sl vl vu .none->IsPart vl lo->IsPart vu hi->r x lo hi H Q->
  ∃T id,typeLookup (.type T) "__getitem__"=pure (some (.builtin id))/\s.TypeIs v T/\wpAny (model X.prog X.w) X.A (getItem v (.ref sl)) (EP X pins σ Q) X.xe s
theorem SlR.or {r r' :V->Option Int->Option Int->Hp->VK->Prop}(h:SlR X r)(h' :SlR X r'):SlR X (λx lo hi H Q=>r x lo hi H Q\/r' x lo hi H Q):=by
 intro pins s σ H x v vl vu lo hi sl Q I rx hs pl pu q;rcases q with q | q
 ·exact h _ s σ H x v vl vu lo hi sl Q I rx hs pl pu q
 ·exact h' _ s σ H x v vl vu lo hi sl Q I rx hs pl pu q
def tSl (r:V->Option Int->Option Int->Hp->VK->Prop)(te:TE)(tl th:TO):TE:=λσ H Q=>te σ H λx H1=>tl σ H1 λl H2=>th σ H2 λu H3=>r x l u H3 Q
theorem QB {r:V->Option Int->Option Int->Hp->VK->Prop}(hr:SlR X r)(he:PE X e te)(hl:PO X lo tl)(hu:PO X hi th):PE X (.Subscript e (.Slice lo hi none p2) pos) (tSl r te tl th):=by
 intro pins s σ H Q I h;refine Subscript_ (thn (he _ s σ H _ I h) λv s1 ⟨x,H1,I1,r1,q1⟩=> ?_);refine wpAny_Slice (thn (hl _ s1 σ H1 _ I1 q1) λvl s2 ⟨l,H2,I2,pl,q2⟩=>thn (hu _ s2 σ H2 _ I2 q2) λvu s3 ⟨u,H3,I3,pu,q3⟩=> ?_);refine au ?_;have I4:Inv X _ σ H3 { s3 with heap:=s3.heap.push { cls:= .type "slice",data:= .fields #[vl,vu,.none] } }:=I3.kept λb ob q=>aa _ q;obtain⟨T,id,hT,ht,hg⟩:=hr _ _ σ H3 x v vl vu l u _ Q I4 r1 (Heap.IsSliceOf.new ..) pl pu q3;exact tail_any ht hT hg (by with_unfolding_all rfl)
noncomputable def XS (xs:List V)(lo hi:Option Int):List V:=(xs.drop (HT.sIx xs.length 0 lo)).take (HT.sIx xs.length xs.length hi - HT.sIx xs.length 0 lo)
theorem Jw (xs:List V)(lo hi:Option Int):(XS xs lo hi).length<=xs.length:=by
 unfold XS;rw[cN,eF];omega
def rSlT (K:a8):V->Option Int->Option Int->Hp->VK->Prop:=λx lo hi H Q=>∃a xs,x= .ref a/\SqT K H a xs/\
 ¬ (HT.sIx xs.length 0 lo=0/\HT.sIx xs.length xs.length hi=xs.length)/\∀p,H p=none->Q (.ref p) (upd H p (.tup (XS xs lo hi)))
theorem kG:SlR X (rSlT X.K):=by
 intro pins s σ H x v vl vu lo hi sl Q I rx hs pl pu h;obtain⟨a,xs,rfl,hx,hw,q⟩:=h;cases rx;obtain⟨its,r,ht,hz⟩:=I.tuple hx;have hlen:its.toArray.size=xs.length:=by exact r.length.symm
 refine⟨"tuple",_,bh.lookup,ht.typeIs, ?_⟩;refine HT.getItem_tuple_cut ht hs pl pu (by rw[hlen];exact hw) ?_ (by rw[hlen];exact hz)
 rw[hlen];refine⟨.ref _,_,I.laid (λb ob q=>aa _ q) (aj _) ?_,rfl,q _ (I.hok.fresh (aj _))⟩;exact⟨aD (Jw xs lo hi) hz,_,(r.drop _).take _,ITN.new _ _⟩
def z0A (K:a8):R2:=λx y H Q=>∃a b xs ys,x= .ref a/\y= .ref b/\SqT K H a xs/\SqT K H b ys/\xs ≠ []/\xs.length+ys.length<=sizeLine/\
 (ys=[]->Q (.ref a) H)/\(ys ≠ []->∀p,H p=none->Q (.ref p) (upd H p (.tup (xs++ys))))
theorem zS.nil_iff (r:zS xs us):us=[]↔xs=[]:=by
 cases r with
 | nil=>simp
 | cons _ _=>simp
theorem VS:OpR X (binaryOp .Add) (z0A X.K):=by
 intro pins s σ H x y v u Q I rx ry h;obtain⟨a,b,xs,ys,rfl,rfl,ha,hb,hx,hz,q1,q2⟩:=h;cases rx;cases ry;obtain⟨its,r1,p1,_⟩:=I.tuple ha;obtain⟨its2,r2,p2,_⟩:=I.tuple hb;refine HT.cat_tup p1 p2 (λz=>hx (r1.nil_iff.mp z)) (λz=>⟨.ref a,H,I,rfl,q1 (r2.nil_iff.mp z)⟩) (λz=> ?_) (by rw[← r1.length,← r2.length];exact hz)
 refine⟨.ref _,_,I.laid (λb ob q=>aa _ q) (aj _) ?_,rfl,q2 (λw=>z (r2.nil_iff.mpr w)) _ (I.hok.fresh (aj _))⟩;exact⟨by rw[ao];exact hz,_,r1.append r2,ITN.new _ _⟩
end
end L2
namespace L2
open PySem PySem.Spec PyProof.Rows
noncomputable def ixN (n:Nat)(i:Int):Option Nat:=if 0<=i then (if i < n then some i.toNat else none) else if -(n:Int)<=i then some (i+n).toNat else none
def atI {α:Type}(xs:List α)(i:Int):Option α:=(ixN xs.length i).bind λj=>xs[j]?
theorem VT (h:ixN n i=some j):seqIndex? i n=some j/\j < n/\ -(n:Int)<=i/\i < n:=by
 unfold ixN at h
 by_cases h0:0<=i
 ·rw[if_pos h0]at h
  by_cases h1:i < n
  ·rw[if_pos h1]at h;have e:=aB h;exact⟨by rw[seqIndex_of h0 h1,e],by omega,by omega,h1⟩
  ·rw[if_neg h1]at h;cases h
 ·rw[if_neg h0]at h
  by_cases h1: -(n)<=i
  ·rw[if_pos h1]at h;have e:=aB h;exact⟨by rw[seqIndex_neg (by omega) h1,e],by omega,h1,by omega⟩
  ·rw[if_neg h1]at h;cases h
theorem u7 {α:Type}{xs:List α}{v:α}(h:atI xs i=some v):∃j,seqIndex? i xs.length=some j/\xs[j]? =some v/\j < xs.length/\ -(xs.length:Int)<=i/\i < xs.length:=by
 unfold atI at h;cases e:ixN _ i with
 | none=>rw[e]at h;cases h
 | some j=>
  rw[e]at h;obtain⟨h1,h2,h3,h4⟩:=VT e;exact⟨j,h1,h,h2,h3,h4⟩
theorem ZX {α:Type}{xs:List α}{j:Nat}{v:α}(h:xs[j]? =some v):atI xs (j:Int)=some v:=by
 have hj:=(aw.mp h).1;have e:ixN xs.length (j)=some j:=by
  unfold ixN;rw[if_pos (by omega),if_pos (by omega)];simp
 unfold atI;rw[e];exact h
noncomputable def wB (b:Expr):Prop:=∀o i,subscripted b false o i=operate [o,i] (getItem o i)
def IxR (X:Cx)(r:R2):Prop:=
 ∀(value slice:Expr) (pins:List (Addr×Obj)) (s:Shared) (σ:St) (H:Hp) (x y:V) (v u:Value) (Q:VK),Inv X pins σ H s->Zc x v->Zc y u->r x y H Q->
  subscripted slice false v u=operate [v,u] (getItem v u)->wpAny (model X.prog X.w) X.A (subscriptTail value slice v u) (EP X pins σ Q) X.xe s
def MtR (X:Cx)(id:String)(r:V->List V->Hp->VK->Prop):Prop:=
 ∀(pins:List (Addr×Obj)) (s:Shared) (σ:St) (H:Hp) (x:V) (xs:List V) (v:Value) (us:List Value) (Q:VK),Inv X pins σ H s->Zc x v->zS xs us->r x xs H Q->
  wpAny (model X.prog X.w) X.A (call (.builtin id) (v :: us)) (EP X pins σ Q) X.xe s
section
variable {X:Cx}{a b:Expr}{ta tb:TE}{pos:Pos}
theorem IxR.or (h:IxR X r)(h' :IxR X r'):IxR X (λx y H Q=>r x y H Q\/r' x y H Q):=by
 intro value slice pins s σ H x y v u Q I rx ry q hs;rcases q with q | q
 ·exact h _ _ _ s σ H x y v u Q I rx ry q hs
 ·exact h' _ _ _ s σ H x y v u Q I rx ry q hs
theorem VU (hr:IxR X r)(ha:PE X a ta)(hb:PE X b tb)(hs:wB b):PE X (.Subscript a b pos) (tOp r ta tb):=by
 intro pins s σ H Q I h;exact Subscript_ (z0p ha hb I h λv u s2 x y H2 I2 rx ry q=>hr a b _ s2 σ H2 x y v u Q I2 rx ry q (hs _ _))
def rIxL (K:a8):R2:=λx y H Q=>∃p xs i v,x= .ref p/\y= .int i/\SqL K H p xs/\atI xs i=some v/\Q v H
def rIxT (K:a8):R2:=λx y H Q=>∃p xs i v,x= .ref p/\y= .int i/\SqT K H p xs/\atI xs i=some v/\Q v H
def rIxS:R2:=λx y H Q=>∃z i c,x= .str z/\y= .int i/\z.length<=sizeLine/\atI z.cps.toList i=some c/\Q (.str ⟨#[c]⟩) H
theorem VV:IxR X (rIxL X.K):=by
 intro value slice pins s σ H x y v u Q I rx ry h hs;obtain⟨p,xs,i,z,rfl,rfl,hq,he,q⟩:=h;cases rx;obtain⟨t,rfl⟩:=ry;obtain⟨its,r,pl,hz⟩:=I.list hq;obtain⟨j,h1,h2,h3,h4,h5⟩:=u7 he;obtain⟨w,ew,rw'⟩:=r.get h2;have hl:=r.length;have hn:=We;have fin:EP X _ σ Q w s:=⟨z,H,I,rw',q⟩
 by_cases h0:0<=i
 ·have hj:=by
   rw[seqIndex_of h0 h5]at h1;exact aB h1
  exact item_listR pl.isList h0 (by omega) (by rw[hj];simpa using ew) fin hs
 ·have hj:(i+(its.toArray.size)).toNat=j:=by
   rw[seqIndex_neg (by omega) h4]at h1
   rw[ay,← hl];exact aB h1
  exact subscriptTail_builtinR pl.isList.typeIs slot_list_getitem.lookup
   (wpAny_getItem_list_neg pl.isList (by omega) (by rw[ay] <;> omega) (by omega) (by rw[hj];simpa using ew) ⟨rfl,fin⟩) hs
theorem kH:IxR X (rIxT X.K):=by
 intro value slice pins s σ H x y v u Q I rx ry h hs;obtain⟨p,xs,i,z,rfl,rfl,hq,he,q⟩:=h;cases rx;obtain⟨t,rfl⟩:=ry;obtain⟨its,r,pl,hz⟩:=I.tuple hq;obtain⟨j,h1,h2,h3,h4,h5⟩:=u7 he;obtain⟨w,ew,rw'⟩:=r.get h2;have hl:=r.length;have hn:=We;have fin:EP X _ σ Q w s:=⟨z,H,I,rw',q⟩;exact subscriptTail_builtinR pl.typeIs slot_tuple_getitem.lookup
  (getItem_tuple pl (by omega) (by omega) (by rw[ay,← hl];exact h1) (by simpa using ew) ⟨rfl,fin⟩) hs
theorem kI:IxR X rIxS:=by
 intro value slice pins s σ H x y v u Q I rx ry h hs;obtain⟨z,i,c,rfl,rfl,hz,he,q⟩:=h;obtain⟨t,rfl⟩:=rx;obtain⟨t',rfl⟩:=ry;obtain⟨j,h1,h2,h3,h4,h5⟩:=u7 he;have hl:z.cps.toList.length=z.length:=by simp[Str.length]
 rw[hl]at h1 h4 h5;have hn:=We;exact tail_any (typeIs_str s z t) slot_str_getitem.lookup (getItem_str (by
  have e1:decide (i < -(2 ^ 63))=false:=decide_eq_false (by omega)
  have e2:decide (i ≥ 2 ^ 63)=false:=decide_eq_false (by omega)
  rw[e1,e2,Bool.or_false]) (by rw[h1];simpa using h2) ⟨.str _,H,I.tok _,⟨_,rfl⟩,q⟩) hs
def rIx (K:a8):R2:=λx y H Q=>rIxL K x y H Q\/rIxT K x y H Q\/rIxS x y H Q
theorem yO:IxR X (rIx X.K):=VV.or (kH.or kI)
theorem Wk (lo hi:Option Int)(n:Nat):(sliceBounds lo hi none n).1=((HT.sIx n 0 lo:Nat):Int)/\(sliceBounds lo hi none n).2.1=((HT.sIx n n hi:Nat):Int)/\(sliceBounds lo hi none n).2.2=1:=by
 refine⟨?_, ?_,rfl⟩
 ·cases lo with
  | none=>simp[sliceBounds,HT.sIx]
  | some i=>
   simp only[sliceBounds,HT.sIx,h_,show (1) > 0 by decide,if_true]
   by_cases h:i < 0
   ·simp only[h,if_true] <;> omega
   ·simp only[h,if_false] <;> omega
 ·cases hi with
  | none=>simp[sliceBounds,HT.sIx]
  | some i=>
   simp only[sliceBounds,HT.sIx,h_,show (1) > 0 by decide,if_true]
   by_cases h:i < 0
   ·simp only[h,if_true] <;> omega
   ·simp only[h,if_false] <;> omega
theorem wC (its:List Value)(lo hi:Option Int):slicePick its.toArray lo hi none=((its.drop (HT.sIx its.length 0 lo)).take (HT.sIx its.length its.length hi - HT.sIx its.length 0 lo)).toArray:=by
 obtain⟨h1,h2,h3⟩:=Wk lo hi _;unfold slicePick;rw[h1,h2,h3];simp only[sliceRange_one,pick_run,ay] <;> rfl
def rSlL (K:a8):V->Option Int->Option Int->Hp->VK->Prop:=λx lo hi H Q=>∃a xs,x= .ref a/\SqL K H a xs/\∀p,H p=none->Q (.ref p) (upd H p (.lst (XS xs lo hi)))
theorem VW:SlR X (rSlL X.K):=by
 intro pins s σ H x v vl vu lo hi sl Q I rx hs pl pu h;obtain⟨a,xs,rfl,hx,q⟩:=h;cases rx;obtain⟨its,r,ht,hz⟩:=I.list hx;have hlen:=r.length;refine⟨"list",_,slot_list_getitem.lookup,ht.isList.typeIs, ?_⟩;refine wpAny_getItem_list_slice ht.isList hs pl pu .none (by simp) ?_ (by rw[ay] <;> omega)
 rw[wC,← hlen];refine⟨.ref _,_,I.laid (λb ob q=>aa _ q) (aj _) ?_,rfl,q _ (I.hok.fresh (aj _))⟩;exact⟨aD (Jw xs lo hi) hz,_,0,(r.drop _).take _,ah _ rfl⟩
theorem Wl:Zp X (.builtin "len") (λxs H Q=>∃p ys,xs=[.ref p]/\(SqL X.K H p ys\/SqT X.K H p ys)/\Q (.int ys.length) H):=by
 intro pins s σ H xs us Q I r h;obtain⟨p,ys,rfl,hq,q⟩:=h;obtain⟨u,rfl,rx⟩:=ZR r;cases rx;have hn:=We;rcases hq with hq | hq
 ·obtain⟨its,r',pl,hz⟩:=I.list hq;have hlen:=r'.length;exact Calls.call_len_list pl.isList (by simp only[ay] <;> omega) ⟨.int _,H,I.tok _,⟨s.toks+1,by rw[ay,hlen]⟩,q⟩
 ·obtain⟨its,r',pl,hz⟩:=I.tuple hq;have hlen:=r'.length;exact len_tuple pl (by simp only[ay] <;> omega) ⟨.int _,H,I.tok _,⟨s.toks+1,by rw[ay,hlen]⟩,q⟩
theorem Wm:Zp X (.builtin "len") (λxs H Q=>∃z,xs=[.str z]/\z.length<=sizeLine/\Q (.int z.length) H):=by
 intro pins s σ H xs us Q I r h;obtain⟨z,rfl,hz,q⟩:=h;obtain⟨u,rfl,t,rfl⟩:=ZR r;have hn:=We;exact len_str (by omega) ⟨.int _,H,I.tok _,⟨_,rfl⟩,q⟩
theorem Zp.or {r r' :List V->Hp->VK->Prop}(h:Zp X f r)(h' :Zp X f r'):Zp X f (λxs H Q=>r xs H Q\/r' xs H Q):=by
 intro pins s σ H xs us Q I rs q;rcases q with q | q
 ·exact h _ s σ H xs us Q I rs q
 ·exact h' _ s σ H xs us Q I rs q
theorem J8:Zp X (.type "list") (λxs H Q=>∃p ys,xs=[.ref p]/\(SqL X.K H p ys\/SqT X.K H p ys)/\∀l,H l=none->Q (.ref l) (upd H l (.lst ys))):=by
 intro pins s σ H xs us Q I r h;obtain⟨p,ys,rfl,hq,q⟩:=h;obtain⟨u,rfl,rx⟩:=ZR r;cases rx;have fin:∀(its:List _),zS ys its->ys.length<=sizeLine->∀(h' :Heap) (c' :Nat),(∀b o',s.heap.get? b=some o' ->h'.get? b=some o')->
   h'.get? _=some _->EP X _ σ Q _ { s with heap:=h' }:=λits r' hz h' c' kp e=>
  ⟨.ref _,_,I.laid kp (aj _) (show Za _ X.w _ h' _ (.lst ys) from ⟨hz,its,c',r',e⟩),rfl,q _ (I.hok.fresh (aj _))⟩
 rcases hq with hq | hq
 ·obtain⟨its,r',pl,hz⟩:=I.list hq;have hlen:=r'.length;obtain⟨o,ho,hc,n,hd⟩:=pl.isList;exact call_list_seq p (.inl rfl) ho hc hd (λh' c' kp e=>fin its r' hz h' c' kp e) (by simp only[ay] <;> omega)
 ·obtain⟨its,r',pl,hz⟩:=I.tuple hq;have hlen:=r'.length;obtain⟨o,ho,hc,n,hd⟩:=pl;exact call_list_seq p (.inr rfl) ho hc hd (λh' c' kp e=>fin its r' hz h' c' kp e) (by simp only[ay] <;> omega)
theorem wD:Zp X (.type "tuple") (λxs H Q=>∃p ys,xs=[.ref p]/\((SqL X.K H p ys/\∀l,H l=none->Q (.ref l) (upd H l (.tup ys)))\/(SqT X.K H p ys/\Q (.ref p) H))):=by
 intro pins s σ H xs us Q I r h;obtain⟨p,ys,rfl,h⟩:=h;obtain⟨u,rfl,rx⟩:=ZR r;cases rx;rcases h with ⟨hq,q⟩ | ⟨hq,q⟩
 ·obtain⟨its,r',pl,hz⟩:=I.list hq;have hlen:=r'.length;refine call_tuple_list pl.isList (λh' kp=> ?_) (by simp only[ay] <;> omega)
  have I1:Inv X _ σ H { s with heap:=h' }:=I.kept kp;have I2:Inv X _ σ (upd H _ (.tup ys)) { s with heap:=h'.push _ }:=
   I1.laid (λb o e=>aa _ e) (aj _) (show Za _ X.w _ _ _ _ from ⟨hz,its,r',ITN.new _ _⟩)
  exact⟨.ref _,_,I2,rfl,q _ (I1.hok.fresh (aj _))⟩
 ·obtain⟨its,r',pl,hz⟩:=I.tuple hq;exact call_tuple_same pl ⟨.ref p,H,I,rfl,q⟩
def tyV (K:a8)(T:String)(x:V)(H:Hp):Prop:=match x with
 | .str _=>T="str"
 | .int _=>T="int"
 | .ref p=>(T="list"/\∃xs,SqL K H p xs)\/(T="tuple"/\∃o,K.lookup p=some o/\o.cls= .type "tuple"/\o.dict=none)\/
   (T="dict"/\((∃kvs,H p=some (.dK kvs))\/∃kvs,H p=some (.dT kvs)))\/(T="set"/\∃S n,H p=some (.set S n))
 | _=>False
theorem V1 (I:Inv X pins σ H s)(r:Zc x v)(ty:tyV X.K T x H):
  s.TypeIs v T/\∀a,v= .ref a->∃ob,s.heap.get? a=some ob/\ob.dict=none:=by
 cases x with
 | str z=>
  obtain⟨t,rfl⟩:=r;cases (ty);exact⟨typeIs_str s z t,λ_ e=>nomatch e⟩
 | int i=>
  obtain⟨t,rfl⟩:=r;cases (ty);exact⟨typeIs_int s i t,λ_ e=>nomatch e⟩
 | ref p=>
  cases r;rcases ty with ⟨rfl,xs,hq⟩ | ⟨rfl,o,hk,hc,hd⟩ | ⟨rfl,hk⟩ | ⟨rfl,S,n,hk⟩
  ·obtain⟨its,_,pl,_⟩:=I.list hq;refine⟨pl.isList.typeIs,λa e=> ?_⟩;cases e;obtain⟨o,n,e,c,hd,_⟩:=pl;exact⟨o,e,hd⟩
  ·refine⟨⟨o,I.kIn p o hk,hc⟩,λa e=> ?_⟩;cases e;exact⟨o,I.kIn _ o hk,hd⟩
  ·have z:∃o,s.heap.get? p=some o/\o.ExactDict:=by
    rcases hk with ⟨kvs,hk⟩ | ⟨kvs,hk⟩
    ·obtain⟨_,_,_,_,o,_,_,e,ex,_⟩:=I.hok p _ hk;exact⟨o,e,ex⟩
    ·obtain⟨_,_,_,_,o,_,_,e,ex,_⟩:=I.hok p _ hk;exact⟨o,e,ex⟩
   obtain⟨o,e,ex⟩:=z;refine⟨⟨o,e,ex.1⟩,λa e2=> ?_⟩;cases e2;exact⟨o,e,ex.2.1⟩
  ·obtain⟨o,_,_,_,e,ex,_⟩:=I.hok p _ hk;refine⟨⟨o,e,ex.1⟩,λa e2=> ?_⟩;cases e2;exact⟨o,e,ex.2.1⟩
 | _=>exact bp ty
def tBM0 (K:a8)(T:String)(r:V->List V->Hp->VK->Prop)(to:TE):TE:=λσ H Q=>to σ H λx H1=>tyV K T x H1/\r x [] H1 Q
def tBM (K:a8)(T:String)(r:V->List V->Hp->VK->Prop)(to:TE)(t:TA):TE:=λσ H Q=>to σ H λx H1=>tyV K T x H1/\t σ H1 λxs H2=>r x xs H2 Q
variable {o e:Expr}{es:List Expr}{to:TE}{t:TA}{name:Str}{apos cpos:Pos}{T id:String}{r:V->List V->Hp->VK->Prop}
theorem kJ (pa:PlainAttrs T)(slot:Slot T name id)(hty:typeOf (.builtin id)=pure (.type "method_descriptor"))(hm:MtR X id r)(ho:PE X o to)
  (hbase:attributeBase o name X.env (eval o X.env)=eval o X.env:=by rfl) (hline:(apos.endLine == cpos.line)=true:=by rfl):PE X (.Call (.Attribute o name apos) [] [] cpos) (tBM0 X.K T r to):=by
 intro pins s σ H Q I h;refine wpAny_Call_method0_late hbase hline (thn (ho _ s σ H _ I h) λv s1 ⟨x,H1,I1,r1,ty,q1⟩=> ?_);obtain⟨h1,h2⟩:=V1 I1 r1 ty;exact⟨T,id,pa,slot,hty,h1,h2,eW rfl (PySem.evalArgs_none (hm _ s1 σ H1 x [] v [] Q I1 r1 .nil q1))⟩
theorem UK (pa:PlainAttrs T)(slot:Slot T name id)(hty:typeOf (.builtin id)=pure (.type "method_descriptor"))(hm:MtR X id r)(ho:PE X o to)(ha:PA X (e :: es) t)
  (hbase:attributeBase o name X.env (eval o X.env)=eval o X.env:=by rfl)
  (hfew:((backTo cpos (starEach (e :: es) X.env)).all (λx=> !x.1) && (backToKw cpos (keywordEach [] X.env)).all (λx=>x.1.isSome)
   && decide ((e :: es).length+([]:List Keyword).length+(if ([]:List Keyword).isEmpty then 0 else 1) < 30))=true:=by rfl)
  (hline:(apos.endLine == cpos.line)=true:=by rfl) (hs:starEach (e :: es) X.env=(false,eval e X.env) :: starEach es X.env:=by rfl) (hplain:(backTo cpos (starEach es X.env)).any (·.1)=false:=by rfl):
  PE X (.Call (.Attribute o name apos) (e :: es) [] cpos) (tBM X.K T r to t):=by
 intro pins s σ H Q I h;refine wpAny_Call_method_late hbase hfew hline rfl (thn (ho _ s σ H _ I h) λv s1 ⟨x,H1,I1,r1,ty,q1⟩=> ?_);obtain⟨h1,h2⟩:=V1 I1 r1 ty;refine⟨T,id,pa,slot,hty,h1,h2, ?_⟩;have hA:=ha cpos _ s1 σ H1 _ I1 q1;rw[hs]at hA ⊢;refine eW (by show (false || (backTo _ _).any _)=false;rw[hplain] <;> rfl) (fw ?_)
 exact thn hA λus s2 ⟨vs,H2,I2,r2,q2⟩=>hm _ s2 σ H2 x vs v us Q I2 r1 r2 q2
end
end L2
namespace L2
open PySem PySem.Spec PyProof.Rows
def MtM (X:Cx)(id:String)(r:V->List V->Hp->VK->Prop):Prop:=
 ∀(pins:List (Addr×Obj)) (s:Shared) (σ:St) (H:Hp) (x:V) (xs:List V) (v:Value) (us:List Value) (Q:VK),Inv X pins σ H s->Zc x v->zS xs us->r x xs H Q->
  wpAny (model X.prog X.w) X.A (call (.builtin id) (v :: us)) (EP X pins σ Q) X.xe s
theorem zS.one:∀{x:V} {us:List Value},zS [x] us->∃u,us=[u]/\Zc x u
 | _,_,.cons r .nil=>⟨_,rfl,r⟩
theorem zS.zero:∀{us:List Value},zS [] us->us=[]
 | _,.nil=>rfl
theorem zS.dropLast (h:zS xs us):zS xs.dropLast us.dropLast:=by
 induction h with
 | nil=>exact .nil
 | cons r t ih=>
  cases t with
  | nil=>exact .nil
  | cons q t' =>exact .cons r ih
theorem zS.rep (h:zS xs us):∀k:Nat,zS (ai k xs).flatten (ai k us).flatten
 | 0=> .nil
 | k+1=>by
  exact zS.append h (zS.rep h k)
theorem UL {α:Type}(l:List α):l.eraseIdx (l.length - 1)=l.dropLast:=by
 induction l with
 | nil=>rfl
 | cons a r ih=>
  cases r with
  | nil=>rfl
  | cons b r=>
   have e:(a :: b :: r).length - 1=((b :: r).length - 1)+1:=by
    have h1:(a :: b :: r).length=r.length+2:=rfl;have h2:(b :: r).length=r.length+1:=rfl;omega
   rw[e,List.eraseIdx_cons_succ,ih]
   all_goals rfl
theorem jA (its:List Value):∀(k:Nat) (acc:List Value),
  dJ (λx1 x2=>x1++x2) acc.toArray (ai k its.toArray)=(acc++(ai k its).flatten).toArray
 | 0,acc=>by simp
 | k+1,acc=>by
  have e:acc.toArray++its.toArray=(acc++its).toArray:=by simp
  have e2:(acc++its)++(ai k its).flatten=acc++(ai (k+1) its).flatten:=by
   rw[bS,dS,aX]
  rw[← e2,← jA its k _,← e,bS,List.foldl_cons]
section
theorem Inv.lset {its its' :List Value}{n:Nat}{f:Array Value->Array Value}{t' :Nat}(I:Inv X pins σ H s)(hH:H l=some (.lst xs))
  (e:s.heap.get? l=some { cls:= .type "list",data:= .seq its.toArray n }) (hf:f its.toArray=its'.toArray) (hv:zS ys its') (hz:ys.length<=sizeLine):
  Inv X pins σ (upd H l (.lst ys)) { s with heap:=s.heap.update l (Obj.mapSeq f),toks:=t' }:=by
 have q:=PySem.IsL.update e f;rw[hf]at q;refine I.write (by rw[hH];exact trivial) (.inl rfl) (λb' u hb hu=>(Heap.get?_update_other _ _ (bi hb)).trans hu) ⟨_,q⟩ ?_
 exact⟨hz,its',_,hv,q⟩
theorem Inv.lnew (I:Inv X pins σ H s)(hv:zS ys its)(hz:ys.length<=sizeLine):
  Inv X pins σ (upd H s.heap.objs.size (.lst ys)) { s with heap:=s.heap.push { cls:= .type "list",data:= .seq its.toArray },toks:=t' }:=
 I.laid (λ_ _ q=>aa _ q) (aj _) ⟨hz,its,0,hv,ah _ rfl⟩
theorem Inv.fresh (I:Inv X pins σ H s):H s.heap.objs.size=none:=I.hok.fresh (aj _)
theorem Inv.lstM (I:Inv X pins σ H s)(hH:H l=some (.lst xs)):xs.length<=sizeLine/\∃(its:List Value) (n:Nat),zS xs its/\xs.length=its.length/\s.heap.get? l=some { cls:= .type "list",data:= .seq its.toArray n }:=by
 obtain⟨z,its,n,r,e⟩:=I.hok l _ hH;exact⟨z,its,n,r,r.length,e⟩
theorem uM (h:n<=sizeLine):cY n=false:=by
 exact decide_eq_false (by omega)
end
section
variable {X:Cx}
def VX:V->List V->Hp->VK->Prop:=λx vs H Q=>∃l xs y,x= .ref l/\vs=[y]/\H l=some (.lst xs)/\xs.length < sizeLine/\Q .non (upd H l (.lst (xs++[y])))
theorem Jx:MtM X "list.append" VX:=by
 intro pins s σ H x vs v us Q I rx rv h;obtain⟨l,xs,y,rfl,rfl,hH,hz,q⟩:=h;cases rx;obtain⟨u,rfl,ru⟩:=rv.one;obtain⟨z,its,n,r,hl,e⟩:=I.lstM hH;refine cK F.slot_list_append ⟨_,e,rfl⟩ F.entry_list_append (F.args_list_append_2 _ _) (PySem.list_append l _ n u (by rw[ay];omega)) ⟨e, ?_⟩
 refine⟨.non,_,I.lset hH e (by simp) (r.append (.cons ru .nil)) ?_,rfl,q⟩
 rw[ao,aC];omega
def VY:V->List V->Hp->VK->Prop:=λx vs H Q=>∃l b xs zs,x= .ref l/\vs=[.ref b]/\H l=some (.lst xs)/\H b=some (.lst zs)/\xs.length+zs.length<=sizeLine/\Q .non (upd H l (.lst (xs++zs)))
theorem yP:MtM X "list.extend" VY:=by
 intro pins s σ H x vs v us Q I rx rv h;obtain⟨l,b,xs,zs,rfl,rfl,hH,hB,hz,q⟩:=h;cases rx;obtain⟨u,rfl,ru⟩:=rv.one;cases ru;obtain⟨z,its,n,r,hl,e⟩:=I.lstM hH;obtain⟨z2,its2,n2,r2,hl2,e2⟩:=I.lstM hB;have hsz:its.toArray.size+its2.toArray.size<=sizeLine:=by rw[ay,ay];omega
 have hlong:¬ (!its.toArray.isEmpty && cY (its.toArray.size+its2.toArray.size))=true:=by
  rw[uM hsz,Bool.and_false];exact aA
 refine cK F.slot_list_extend ⟨_,e,rfl⟩ F.entry_list_extend (F.args_list_extend_2 _ _)
  (AutoSeq1.list_extend_list_list_0 l _ n b _ n2 hlong (by omega) (by omega)) ⟨e,e2, ?_⟩
 refine⟨.non,_,I.lset hH e (by simp) (r.append r2) ?_,rfl,q⟩
 rw[ao];omega
def rPop:V->List V->Hp->VK->Prop:=λx vs H Q=>∃l xs y,x= .ref l/\vs=[]/\H l=some (.lst xs)/\xs[xs.length - 1]? =some y/\Q y (upd H l (.lst xs.dropLast))
theorem kK:MtM X "list.pop" rPop:=by
 intro pins s σ H x vs v us Q I rx rv h;obtain⟨l,xs,y,rfl,rfl,hH,hy,q⟩:=h;cases rx;have hus:=rv.zero;subst hus;obtain⟨z,its,n,r,hl,e⟩:=I.lstM hH;obtain⟨u,hu,ru⟩:=r.get hy;have hy' :=by
  show its.toArray[its.length - 1]? =some u;rw[← fj,← hl];exact hu
 refine cK F.slot_list_pop ⟨_,e,rfl⟩ F.entry_list_pop (F.args_list_pop_1 _) (MeetsSeq.list_pop_last l _ n u hy' (by rw[ay];omega)) ⟨e, ?_⟩
 refine⟨y,_,I.lset hH e ?_ r.dropLast ?_,ru,q⟩
 ·rw[ay,List.eraseIdxIfInBounds_toArray,UL]
 ·rw[List.length_dropLast];omega
def rCat:R2:=λx y H Q=>∃l b xs zs,x= .ref l/\y= .ref b/\H l=some (.lst xs)/\H b=some (.lst zs)/\xs.length+zs.length<=sizeLine/\∀p,H p=none->Q (.ref p) (upd H p (.lst (xs++zs)))
theorem kL:OpR X (binaryOp .Add) rCat:=by
 intro pins s σ H x y v u Q I rx ry h;obtain⟨l,b,xs,zs,rfl,rfl,hH,hB,hz,q⟩:=h;cases rx;cases ry;obtain⟨z,its,n,r,hl,e⟩:=I.lstM hH;obtain⟨z2,its2,n2,r2,hl2,e2⟩:=I.lstM hB;refine PySem.P.add_list e e2 ?_ (by rw[ay,ay];omega)
 have ea:its.toArray++its2.toArray=(its++its2).toArray:=by simp
 rw[ea];exact⟨.ref _,_,I.lnew (r.append r2) (by rw[ao];omega),rfl,q _ I.fresh⟩
def rRep:R2:=λx y H Q=>∃l k xs,x= .ref l/\y= .int k/\H l=some (.lst xs)/\ -(2 ^ 63)<=k/\k < 2 ^ 63/\xs.length*k.toNat<=sizeLine/\
 ∀p,H p=none->Q (.ref p) (upd H p (.lst (ai k.toNat xs).flatten))
theorem jP {α:Type}(xs:List α)(k:Nat):(ai k xs).flatten.length=k*xs.length:=by
 induction k with
 | zero=>simp
 | succ k ih=>rw[bS,dS,ao,ih,eX,Nat.add_comm]
theorem kN:OpR X (binaryOp .Mult) rRep:=by
 intro pins s σ H x y v u Q I rx ry h;obtain⟨l,k,xs,rfl,rfl,hH,h1,h2,hz,q⟩:=h;cases rx;obtain⟨t,rfl⟩:=ry;obtain⟨z,its,n,r,hl,e⟩:=I.lstM hH;have hlen:its.toArray.size*k.toNat<=sizeLine:=by rw[ay,← hl];exact hz
 have hcap:¬ its.toArray.size*k.toNat > (2 ^ 63 - 1) / 8:=by
  have:(sizeLine)<=(2 ^ 63 - 1) / 8:=by decide
  omega
 have hfit:¬ (!Builtin.List.listFitsIndex k)=true:=by
  rw[fitsIndex_both h1 h2];exact aA
 have hlong:¬ cY (its.toArray.size*k.toNat)=true:=by
  rw[uM hlen];exact aA
 have hnew:dJ (λx1 x2=>x1++x2) #[] (ai (if its.toArray.isEmpty=true then 0 else k.toNat) its.toArray)=(ai k.toNat its).flatten.toArray:=by
  have f0:∀m,dJ (λx1 x2=>x1++x2) #[] _=(ai m its).flatten.toArray:=λm=>by
   have:=jA its m [];exact this
  rw[f0];cases its with
  | nil=>simp
  | cons a r' =>rw[if_neg (by simp)]
 refine wpAny_binaryOp_repeat_ref (by decide) ⟨_,e,rfl⟩ (λs' =>typeIs_int s' k t) noFill_list_mul ir dA repeat_list i5.lookup
  (cK dA (typeIs_int s k t) i6 (fZ _ _) (int___rmul___int_list k t l _ n)
   ⟨e,rfl,⟨_,e,rfl⟩,cK F.slot_list_mul ⟨_,e,rfl⟩ F.entry_list_mul (F.args_list_mul_2 _ _) (AutoListH.list___mul___list_int_3 l _ n k t hfit hcap hlong) ⟨e, ?_⟩⟩)
 rw[hnew];exact⟨.ref _,_,I.lnew (r.rep _) (by rw[jP,cO];exact hz),rfl,q _ I.fresh⟩
end
section
end
section
end
end L2
namespace Att
open PySem PySem.W PySem.Calls PyProof.Rows
theorem Jy {P:Params}:∀(ns:List Int) (vs:List Value),WellAll P h vs (ns.map WData.int)->IntsAre vs ns:=by
 intro ns
 induction ns with
 | nil=>
  intro vs w;cases w;exact .nil
 | cons n ns ih=>
  intro vs w;cases w with
  | cons a b=>
   cases a;exact .cons _ _ (ih _ b)
theorem yQ {l:OpenLaw}(hn:l.most=some n){P:Params}{args:List WData}
  (hpre:l.row.toRowW.claim.pre args=true) (hwl:WellAll P h vals args):
  ∃a vs ns,vals=[Value.ref a]/\args=[WData.list (ns.map WData.int)]/\h.get? a=some { cls:= .type "list",data:= .seq vs.toArray }/\IntsAre vs ns/\ns.length<=n:=by
 have hsh:=(pre_splitW hpre).1;have hc:=(pre_splitW hpre).2;obtain⟨d,r,rfl,h1,h2⟩:=hasAllW_cons hsh;obtain rfl:=hasAllW_nil h2;obtain⟨xs,rfl,h3⟩:=hasW_list h1;obtain⟨ns,rfl⟩:=items_int h3;have hlen:ns.length<=n:=by
  have h4:=by
   have h4:=(holds_andW hc).1;rw[hn]at h4;exact h4
  have h5:=condW_of h4 (w_not (w_lt w_lit (w_len_list (w_arg rfl))));rw[a9]at h5;refine Nat.le_of_not_lt λq=> ?_;have q' :(n) < ((ns.length):Int):=by omega
  first
   | (rw[decide_eq_true q']at h5;exact absurd h5 (by decide))
   | (simp at h5)
 cases hwl with
 | cons w1 w2=>
  cases w2;cases w1 with
  | list ho hall=>exact⟨_,_,ns,rfl,rfl,ho,Jy ns _ hall,hlen⟩
theorem yR (l:OpenLaw)(args:List WData):l.row.toRowW.claim.post args (.bool true) args=true:=
 postW_of
  (show WShape.has [] _ _=true by first | rfl | decide | simp[WShape.has,WShape.arms,WShape.armsAll])
  (show (WTm.eq _ _).value [] _=some _ from w_eq_bool (w_res rfl) w_lit) rfl
theorem attach_call {l:OpenLaw}{XP:(Str->Option Value)->Heap->Prop}{YP:World->Heap->Prop}{d:DefRec}
  (hn:l.most=some n) (hdf:d.params.defaults=[])
  (call:∀(w:World) (s₀ s₁:Shared) (mg mb:Str->Option Value) (fa:Addr) (o:Obj) (pm cd doc:Value) (a:Addr) (vs:List Value) (ns:List Int),
   Ground q loose [] XP w s₀ mg mb s₁.heap->YP w s₁.heap->
   s₁.heap.get? fa=some o->o.data= .func (docDef d.name d.params d.body d.scope pm cd doc)->s₁.heap.CodeRec cd d.name->mg d.name=some (.ref fa)->
   s₁.heap.get? a=some { cls:= .type "list",data:= .seq vs.toArray }->IntsAre vs ns->ns.length<=n->s₁.gens= #[]->
   codeAny (model l.prog w) callerA (.call (.ref fa) ⟨[.ref a],[]⟩) (λr s' =>r= .ok (.ret (.bool true))/\OldK s₁.heap s'.heap/\s'.os=s₁.os/\AllBare s'.gens) s₁):
  WalkO q loose XP YP l.row.toRowW d [] (λf vs=>iC f vs):=by
 intro w s₀ s₁ mg mb G Y fa o pm cd doc dV kV ho hd hcd hD hmg hg args vals as hpre hlay hrd hwl hlo;obtain rfl:dV= .none:=Dflts.none hD hdf;obtain rfl:kV= .none:=Dflts.noKw hD;obtain⟨a,vs,ns,rfl,rfl,hobj,hints,hlen⟩:=yQ hn hpre hwl;refine enter_call (b_ (call w _ _ mg mb fa o pm cd doc a vs ns G Y ho (fd_plain hd) hcd hmg hobj hints hlen hg) λr s' hq=> ?_);obtain⟨rfl,h2,h3,h4⟩:=hq;exact⟨.inl ⟨.bool _,.bool _,[],rfl,λ_=>rfl,.bool _,yR l _,λ_=>⟨List.Pairwise.nil,λ_ hm=>(nomatch hm)⟩⟩,h2,h3,h4⟩
end Att
namespace L2
open PySem PySem.Spec PyProof.Rows
theorem jB:∀{vs:List Value} {ns:List Int},IntsAre vs ns->zS (ns.map V.int) vs
 | _,_,.nil=> .nil
 | _,_,.cons n t h=> .cons ⟨t,rfl⟩ (jB h)
end L2
namespace L2
open PySem PySem.Spec PyProof.Rows
end L2
namespace L2
open PySem PySem.Spec PyProof.Rows
noncomputable def Zq (s:Stmt):Arguments:=match s with
 | .FunctionDef _ a _ _ _ _ _ _ _ _=>a
 | _=>{ posonlyargs:=[],args:=[],vararg:=none,kwonlyargs:=[],kw_defaults:=[],kwarg:=none,defaults:=[] }
noncomputable def zH (s:Stmt):List Stmt:=match s with
 | .FunctionDef _ _ b _ _ _ _ _ _ _=>b
 | _=>[]
noncomputable def zq (s:Stmt):Scope:=match s with
 | .FunctionDef _ _ _ _ _ _ sc _ _ _=>sc
 | _=>{ kind:= .function,names:=[],isGenerator:=false,isCoroutine:=false }
abbrev CX0:CXT:=λ_ _ _ _ _ _=>False
structure Fun (K:a8) (x qual:Str) (st:Stmt) (f:Addr) (fd:FuncData):Prop where
 ex:∃(oc:Value) (od:Option Addr) (kV doc pm:Value) (an:Option Addr) (cdv ct:Value) (osl:Array (Option Value)),
  fd=bE x qual (Zq st) (zH st) (zq st) .none kV doc pm an cdv ct/\K.lookup f=some ⟨oc,od,.func fd,osl⟩/\db K cdv qual=true
 kp:bL K (.ref f)=true
section
variable {P:Program}{w:World}{K:a8}{mg:Str->Option Value}{base:Heap}
theorem Fun.ok {x qual:Str}{st:Stmt}{f:Addr}{fd:FuncData}{N ps:List Str}{k:Nat}{sp:Sp}(F:Fun K x qual st f fd)(S:Zx N ps (zq st))(len:∀vs H Q E,sp vs H Q E->vs.length=ps.length)
  (hbody:∀(cdv:Value) (A:Around) (outer:List Env) (s:Shared) (H:Hp) (vs:List V) (Q:VK) (E:XK),ZA k (A.deeper (envOfC qual (zq st) s.heap.objs.size f cdv))->sp vs H Q E->
   ∃t,PSs (jM CX0 P w K mg base N qual (zq st) f cdv A outer s H E).nox (zH st) t/\t { nx:=λ_ H' =>Q .non H',rt:=Q } (start N vs) H):j9 P w K mg base CX0 (k+1) f fd ps sp:=by
 obtain⟨oc,od,kV,doc,pm,an,cdv,ct,osl,rfl,lk,hcd⟩:=F.ex;refine VO lk hcd S len λA outer s H vs Q E hr hsp=> ?_;obtain⟨t,h,q⟩:=hbody cdv A _ s H vs Q E hr hsp;exact⟨t,h.nox,q⟩
theorem Fun.binds {x qual:Str}{st:Stmt}{f:Addr}{fd:FuncData}{ps:List Str}(F:Fun K x qual st f fd)
  (h:∀(kV doc pm:Value) (an:Option Addr) (cdv ct:Value) (us:List Value),us.length=ps.length->bindArgs (bE x qual (Zq st) (zH st) (zq st) .none kV doc pm an cdv ct) ⟨us,[]⟩=pure (ps.zip us)):Binds K fd ps []:=by
 obtain⟨oc,od,kV,doc,pm,an,cdv,ct,osl,rfl,lk,hcd⟩:=F.ex;exact .all (h kV doc pm an cdv ct)
theorem V2 {x qual:Str}{st:Stmt}{f:Addr}{oc:Value}{od an:Option Addr}{osl:Array (Option Value)}{kV doc pm cdv ct:Value}(l:K.lookup f=some ⟨oc,od,.func (bE x qual (Zq st) (zH st) (zq st) .none kV doc pm an cdv ct),osl⟩)
  (c:db K cdv qual=true) (k:bL K (.ref f)=true):Fun K x qual st f (bE x qual (Zq st) (zH st) (zq st) .none kV doc pm an cdv ct):=⟨⟨oc,od,kV,doc,pm,an,cdv,ct,osl,rfl,l,c⟩,k⟩
end
section
theorem pv (i:Nat)(hN:X.N[i]? =some x:=by rfl)(hv:Vis X.env.scope x:=by first | exact Or.inl rfl | exact Or.inr (Or.inl rfl) | exact Or.inr (Or.inr rfl))(hd:(x == ("__debug__":Str))=false:=by decide)
  (hcd:(x == ("__classdict__":Str))=false:=by decide):PE X (.Name x pos) (Jh i):=uE hN hv hd hcd
end
def zv (H H' :Hp):Prop:=∀b o,H b=some o->H' b=some o
theorem zv.refl (H:Hp):zv H H:=λ_ _ h=>h
theorem zv.trans (a:zv H H1)(b:zv H1 H2):zv H H2:=λc o h=>b c o (a c o h)
theorem zv.free (e:zv H H')(h:H' l=Option.none):H l=Option.none:=by
 cases q:H l with
 | none=>rfl
 | some o=>
  rw[e l o q]at h;cases h
end L2
namespace L2
open PySem PySem.Spec PyProof.Rows PySem.W
theorem uN (h:env.frame=some L):frs (env :: outer)=L :: frs outer:=by
 unfold frs;rw[cT,h]
structure uO (P:Program) (w:World) (outer:List Env) (H:Hp) (s s' :Shared) (ea:Addr) (cls a0:Value) (B:Heap) (H' :Hp):Prop where
 os:s'.os=s.os
 bare:AllBare s'.gens
 fly:df B outer ea cls a0 s'.heap
 hok:HOk P w H' B
 un:Un (frs outer) [] H H' s.heap s'.heap
 inB:∀b o,s.heap.get? b=some o->b ∉ frs outer->(H b=none->B.get? b=some o)/\∃o',B.get? b=some o'
def CX1 (P:Program)(w:World):CXT:=λouter H s E e s' =>∃ea cls a0 B H',e= .ref ea/\uO P w outer H s s' ea cls a0 B H' /\E cls none H'
section
variable {X:Cx}{pins:List (Addr×Obj)}{σ:St}{H H' :Hp}{s s' :Shared}{ea:Addr}{cls a0:Value}{B:Heap}{h' h'' :Heap}
theorem Inv.frNf (I:Inv X pins σ H s):∀b∈frs X.stack,H b=none/\∃o,s.heap.get? b=some o/\∀vs,o.data ≠ .fields vs:=λb hb=>⟨I.stkFree b hb,(I.stack.mem hb).2⟩
theorem uO.on (L:uO P w outer H s s' ea cls a0 B H')(ff:∀b∈frs outer,H b=none/\∃o,s.heap.get? b=some o/\∀vs,o.data ≠ .fields vs)
  (fl:df B outer ea cls a0 h') (sl:s'.heap.UpToSlots h'):uO P w outer H s { s' with heap:=h' } ea cls a0 B H' where
 os:=L.os
 bare:=L.bare
 fly:=fl
 hok:=L.hok
 inB:=L.inB
 un:=by
  have slot:∀b o,s.heap.get? b=some o->H b=none->b∈frs outer->∃sl,h'.get? b=some { o with slots:=sl }:=λb o e n hb=>by
   obtain⟨sl1,e1⟩:=L.un.slot b o e n hb (by simp)
   obtain⟨_,o2,e2,nf⟩:=ff b hb;rw[e]at e2;cases e2;obtain⟨sl2,e3⟩:=sl b _ e1 nf;exact⟨sl2,e3⟩
  exact⟨λb o e n hb _=>fl.1 b o ((L.inB b o e hb).1 n),λb o e n hb _=>slot b o e n hb,L.un.free,λb o e _=>by
   by_cases hb:b∈frs outer
   ·obtain⟨sl1,e1⟩:=slot b o e (ff b hb).1 hb;exact⟨_,e1⟩
   ·obtain⟨o',e'⟩:=(L.inB b o e hb).2;exact⟨o',fl.1 b o' e'⟩,L.un.tups,L.un.frzs,L.un.tbls⟩
theorem Inv.old (I:Inv X pins σ H s)(hX:X.stack=X.env :: X.outer)(hf:X.env.frame=some X.env.locals)(e:X.s₀.heap.get? b=some o)(hb:b ∉ frs X.outer):b ∉ frs X.stack:=by
 rw[hX,uN hf];intro z;rcases am.mp z with z | z
 ·exact absurd (aH (ar e) I.ok.above) (by rw[z];exact bH _)
 ·exact hb z
theorem u8 {X:Cx}(hX:X.stack=X.env :: X.outer)(hf:X.env.frame=some X.env.locals){b:Addr}(hb:b∈frs X.outer):b∈frs X.stack:=by
 rw[hX,uN hf];exact ac _ hb
theorem uO.out (I:Inv X pins σ H s)(hX:X.stack=X.env :: X.outer)(hf:X.env.frame=some X.env.locals)(hex:X.ex=[])(L:uO X.prog X.w X.stack H s s' ea cls a0 B H')
  (fl:df B X.outer ea cls a0 h') (sl:s'.heap.UpToSlots h'):uO X.prog X.w X.outer X.H₀ X.s₀ { s' with heap:=h' } ea cls a0 B H' where
 os:=L.os.trans I.os
 bare:=L.bare
 fly:=fl
 hok:=L.hok
 inB:=λb o e hb=>by
  have nx:b ∉ X.ex:=by rw[hex];simp
  obtain⟨o1,e1⟩:=I.base.there b o e nx;have hb' :=I.old hX hf e hb;exact⟨λn=>(L.inB b o (I.base.keep b o e n hb nx) hb').1 (I.base.free b o e n nx),(L.inB b o1 e1 hb').2⟩
 un:=by
  have nx:∀b,b ∉ X.ex:=λb=>by rw[hex];simp
  have slot:∀b o,X.s₀.heap.get? b=some o->X.H₀ b=none->b∈frs X.outer->∃sl,h'.get? b=some { o with slots:=sl }:=λb o e n hb=>by
   obtain⟨sl1,e1⟩:=I.base.slot b o e n hb (nx b);have n1:=I.base.free b o e n (nx b);obtain⟨sl2,e2⟩:=L.un.slot b _ e1 n1 (u8 hX hf hb) (by simp)
   obtain⟨_,o3,e3,nf⟩:=I.frNf b (u8 hX hf hb);rw[e1]at e3;cases e3;obtain⟨sl4,e4⟩:=sl b _ e2 nf;exact⟨sl4,e4⟩
  refine⟨λb o e n hb _=> ?_,λb o e n hb _=>slot b o e n hb,λb o e n _=> ?_,λb o e _=> ?_,λb xs e=>L.un.tups b xs (I.base.tups b xs e),λb o xs e=>L.un.frzs b o xs (I.base.frzs b o xs e),λb ps q e=>L.un.tbls b ps q (I.base.tbls b ps q e)⟩
  ·exact fl.1 b o ((L.inB b o (I.base.keep b o e n hb (nx b)) (I.old hX hf e hb)).1 (I.base.free b o e n (nx b)))
  ·obtain⟨o1,e1⟩:=I.base.there b o e (nx b);exact L.un.free b o1 e1 (I.base.free b o e n (nx b)) (by simp)
  ·by_cases hb:b∈frs X.outer
   ·obtain⟨sl1,e1⟩:=slot b o e (I.ok.frf b hb) hb;exact⟨_,e1⟩
   ·obtain⟨o1,e1⟩:=I.base.there b o e (nx b);obtain⟨o',e'⟩:=(L.inB b o1 e1 (I.old hX hf e hb)).2;exact⟨o',fl.1 b o' e'⟩
theorem uO.made (I:Inv X pins σ H s)(hX:X.stack=X.env :: X.outer)(hf:X.env.frame=some X.env.locals)(hex:X.ex=[]){vs:List Value}(hx:Heap.MadeExcOf s.heap h' ea cls vs)
  (fl:df (hideAll s.heap (frs X.stack)) X.outer ea cls a0 h'') (sl:h'.UpToSlots h''):uO X.prog X.w X.outer X.H₀ X.s₀ { s with heap:=h'' } ea cls a0 (hideAll s.heap (frs X.stack)) H where
 os:=I.os
 bare:=I.bare
 fly:=fl
 hok:=λa o e=>(I.hok a o e).stay (λb u hb q=>hideAll_get _ q λz=>by
   have:=I.stkFree b z;rcases hb with rfl | hb
   ·rw[e]at this;cases this
   ·rw[hb]at this;cases this) (λ_ q=>q) λ_ _ q=>q
 inB:=λb o e hb=>by
  have nx:b ∉ X.ex:=by rw[hex];simp
  obtain⟨o1,e1⟩:=I.base.there b o e nx;have hb' :=I.old hX hf e hb;exact⟨λn=>hideAll_get _ (I.base.keep b o e n hb nx) hb',o1,hideAll_get _ e1 hb'⟩
 un:=by
  have nx:∀b,b ∉ X.ex:=λb=>by rw[hex];simp
  have slot:∀b o,X.s₀.heap.get? b=some o->X.H₀ b=none->b∈frs X.outer->∃sl,h''.get? b=some { o with slots:=sl }:=λb o e n hb=>by
   obtain⟨sl1,e1⟩:=I.base.slot b o e n hb (nx b);obtain⟨_,o3,e3,nf⟩:=I.frNf b (u8 hX hf hb);rw[e1]at e3;cases e3;obtain⟨sl4,e4⟩:=sl b _ (hx.keeps b _ e1) nf;exact⟨sl4,e4⟩
  refine⟨λb o e n hb _=> ?_,λb o e n hb _=>slot b o e n hb,λb o e n _=>I.base.free b o e n (nx b),λb o e _=> ?_,I.base.tups,I.base.frzs,I.base.tbls⟩
  ·exact fl.1 b o (hideAll_get _ (I.base.keep b o e n hb (nx b)) (I.old hX hf e hb))
  ·by_cases hb:b∈frs X.outer
   ·obtain⟨sl1,e1⟩:=slot b o e (I.ok.frf b hb) hb;exact⟨_,e1⟩
   ·obtain⟨o1,e1⟩:=I.base.there b o e (nx b);exact⟨o1,fl.1 b o1 (hideAll_get _ e1 (I.old hX hf e hb))⟩
end
section
variable {P:Program}{w:World}{K:Frag}{mg:Str->Option Value}{base:Heap}{N:List Str}{qual:Str}{scope:Scope}{f:Addr}{cd:Value}{A:Around}{outer:List Env}{s:Shared}{H:Hp}{E:XK}
theorem yS:Z5 (CX1 P w) (jM (CX1 P w) P w K mg base N qual scope f cd A outer s H E) E:=by
 intro pins σ H1 s1 e s' I ⟨ea,cls,a0,B,H',he,L,hE⟩;subst he;exact wpAny_leaves_onW I.ok.frames rfl L.fly λh' fl sl=>⟨ea,cls,a0,B,H',rfl,L.out I rfl rfl rfl fl sl,hE⟩
theorem yT {x:Str}{C:Addr}{bm bmN:List Value}{Bn Bb newId nid initId inN:String}{np cpos pos:Pos}{e:Expr}{t:TA}(O:OwnCls x C bm newId mg base)(Fn:ExcBaseFacts Bn newId inN bmN)(hBn:bm.contains (.type Bn)=true)(FB:ExcBaseFacts Bb nid initId bm)
  (hg:Gl (jM (CX1 P w) P w K mg base N qual scope f cd A outer s H E) x) (ha:PA (jM (CX1 P w) P w K mg base N qual scope f cd A outer s H E) [e] t)
  (he:starEach [e] (envOfC qual scope s.heap.objs.size f cd)=[(false,eval e (envOfC qual scope s.heap.objs.size f cd))]) (hd:(x == ("__debug__":Str))=false:=by decide):
  PS (jM (CX1 P w) P w K mg base N qual scope f cd A outer s H E) (.Raise (some (.Call (.Name x np) [e] [] cpos)) none pos) (λ_ σ H1=>t σ H1 λvs H2=>vs.length<=sizeLine/\E (.ref C) none H2):=by
 intro pins s1 σ H1 D I hw;obtain⟨tl,N',nm,q,bs,hdct,sn,sub,ab,col,dd,k0,k1,k2,k3,k5,mN,hC,hN,hni,T⟩:=O.obj;have hp:(backTo cpos (starEach [e] (envOfC qual scope s.heap.objs.size f cd))).any (·.1)=false:=by rw[he];rfl
 refine wpAny_Raise_call_subU (nm:=nm) (q:=q) (N:=N') (bs:=bs) (hdct:=hdct) (sn:=sn) (sub:=sub) (ab:=ab) (col:=col) (dd:=dd) (k0:=k0) (k1:=k1) (k2:=k2) (k3:=k3) (k5:=k5)
  Fn hBn FB (T.hasType FB.hasBase) (I.ok.hd rfl) hp hni (jq I hg O.bound ⟨rfl, ?_⟩ hd)
 have h2:=ha cpos _ s1 σ H1 _ I hw;have he' :starEach [e] (jM (CX1 P w) P w K mg base N _ _ f cd A outer s H E).env=[(false,eval e _)]:=he;rw[he']at h2 ⊢;refine fw (thn h2 λus s2 ⟨vs,H2,I2,r,hl,hE⟩=>⟨rfl,by rw[← r.length];exact hl,I2.bk _ _ hC,hN.keeps I2.bk,T.keeps I2.bk,λh' ea hx=> ?_⟩)
 have hin:∀env∈(jM (CX1 P w) P w K mg base N qual scope f cd A outer s H E).stack,∀b,env.frame=some b->b∈frs _:=λenv he b hb=>d6.mpr ⟨env,he,hb⟩;exact wpAny_leaves_madeW I2.ok.frames rfl (λb o q=>of_hideAll _ q) (funFrames_hide I2.stack hin) hx λh'' t' fl _ _ sl=>
  ⟨ea,.ref C,.ref t',_,H2,rfl,uO.made I2 rfl rfl rfl hx fl sl,hE⟩
end
end L2
namespace L2
open PySem PySem.Spec PyProof.Rows PySem.W
theorem Za.there (x:Za P w H h a o):∃ob,h.get? a=some ob:=by
 cases o with
 | lst xs=>obtain⟨_,_,_,_,e⟩:=x;exact⟨_,e⟩
 | tup xs=>obtain⟨_,_,_,⟨_,e,_⟩,_⟩:=x;exact⟨_,e⟩
 | dK kvs=>obtain⟨_,_,_,_,o,_,_,e,_⟩:=x;exact⟨_,e⟩
 | dT kvs=>obtain⟨_,_,_,_,o,_,_,e,_⟩:=x;exact⟨_,e⟩
 | set S n=>obtain⟨o,_,_,_,e,_⟩:=x;exact⟨_,e⟩
 | ins C dx fs=>obtain⟨_,_,_,e,_⟩:=x;exact⟨_,e⟩
 | own y=>obtain⟨_,e⟩:=x;exact⟨_,e⟩
 | xd fs=>obtain⟨_,⟨_,_,_,e,_⟩,_⟩:=x;exact⟨_,e⟩
 | rng lo hi=>obtain⟨_,_,_,e⟩:=x;exact⟨_,e⟩
 | frz ob u=>obtain⟨e,_⟩:=x;exact⟨_,e⟩
 | tbl ps q=>obtain⟨_,e,_⟩:=x;exact⟨_,e⟩
 | met f y=>exact⟨_,(x)⟩
 | ext φ=>obtain⟨_,e,_⟩:=x;exact e
noncomputable def yU (cls:Value)(a:Addr)(h:Heap):Prop:=∃o,h.get? a=some o/\o.cls=cls
theorem yU.ok (x:yU cls a h):Za P w H h a (.ext (yU cls a)):=
 ⟨x,let ⟨o,e,_⟩:=x;⟨o,e⟩,λ_ _ ⟨o,e,c⟩ k=>⟨o,k o e,c⟩⟩
noncomputable abbrev Cx.try' (X:Cx)(pn:List (Addr×Obj))(xe:Value->Shared->Prop):Cx:={ X with pn:=pn,xe:=xe }
noncomputable abbrev Cx.mark' (X:Cx)(e:Value):Cx:={ X with A:=X.A.mark (some e),calm:=false,xe:=λ_ _=>False }
section
variable {X:Cx}{pins pins' :List (Addr×Obj)}{σ:St}{H H' :Hp}{s s' :Shared}{xe:Value->Shared->Prop}
theorem Cx.Ok.try' (ok:X.Ok){pn:List (Addr×Obj)}:(X.try' pn xe).Ok:=
 ⟨ok.mod,ok.kind,ok.glob,ok.blt,ok.above,ok.inj,ok.has,ok.cab,ok.hd,ok.frames,ok.stk,ok.exf,ok.bs,ok.bsz,ok.noex,ok.exfs,ok.funs,ok.frf⟩
theorem Cx.Ok.untry {pn:List (Addr×Obj)}(ok:(X.try' pn xe).Ok):X.Ok:=
 ⟨ok.mod,ok.kind,ok.glob,ok.blt,ok.above,ok.inj,ok.has,ok.cab,ok.hd,ok.frames,ok.stk,ok.exf,ok.bs,ok.bsz,ok.noex,ok.exfs,ok.funs,ok.frf⟩
theorem Inv.try' (I:Inv X pins σ H s)(xe:Value->Shared->Prop):Inv (X.try' (X.pn++pins) xe) [] σ H s:=
 ⟨I.ok.try',I.os,I.bare,I.base,I.loc,I.cell,I.free,I.freeC,λp hp=>I.pin p (by simpa using hp),I.hok,I.len⟩
theorem Inv.untry (I:Inv (X.try' (X.pn++pins) xe) pins' σ H s):Inv X pins σ H s:=
 ⟨I.ok.untry,I.os,I.bare,I.base,I.loc,I.cell,I.free,I.freeC,λp hp=>I.pin p (bY _ hp),I.hok,I.len⟩
theorem Inv.mark' (I:Inv X pins σ H s)(e:Value):Inv (X.mark' e) pins σ H s:=
 ⟨⟨I.ok.mod,I.ok.kind,I.ok.glob,I.ok.blt,I.ok.above,I.ok.inj,I.ok.has,I.ok.cab,λz=>(by cases z),I.ok.frames,I.ok.stk,I.ok.exf,I.ok.bs,I.ok.bsz,I.ok.noex,I.ok.exfs,I.ok.funs,I.ok.frf⟩,I.os,I.bare,I.base,I.loc,I.cell,I.free,I.freeC,I.pin,I.hok,I.len⟩
theorem Inv.unmark (I:Inv (X.mark' e) pins σ H s)(hd:X.calm=true->X.A.handled=none):Inv X pins σ H s:=
 ⟨⟨I.ok.mod,I.ok.kind,I.ok.glob,I.ok.blt,I.ok.above,I.ok.inj,I.ok.has,I.ok.cab,hd,I.ok.frames,I.ok.stk,I.ok.exf,I.ok.bs,I.ok.bsz,I.ok.noex,I.ok.exfs,I.ok.funs,I.ok.frf⟩,I.os,I.bare,I.base,I.loc,I.cell,I.free,I.freeC,I.pin,I.hok,I.len⟩
theorem SP.untry {D:yq}{f:Flow}(h:SP (X.try' (X.pn++pins) xe) pins' D f s'):SP X pins D f s' :=by
 cases f with
 | next=>obtain⟨σ',H',I,q⟩:=h;exact⟨σ',H',I.untry,q⟩
 | brk=>obtain⟨σ',H',I,q⟩:=h;exact⟨σ',H',I.untry,q⟩
 | cont=>obtain⟨σ',H',I,q⟩:=h;exact⟨σ',H',I.untry,q⟩
 | ret u=>obtain⟨v,σ',H',I,r,q⟩:=h;exact⟨v,σ',H',I.untry,r,q⟩
theorem VZ {Q:Unit->Shared->Prop}(I:Inv X pins σ H s)(hN:X.N.Nodup)(hi:X.N[i]? =some n)(hl:X.env.kindOf n=some .local)(h:∀s',Inv X pins (σ.set i none) H s' ->Q () s'):
  wpAny M A (do bindName X.env n .none;unbindBehindTheSuite X.env n pos) Q E s:=by
 obtain⟨m,hn,hlo⟩:=id I.loc;have hcls:(X.env.scope.kind == .class || (X.env.scope.kind == .module && X.env.locals != X.env.globals))=false:=by rw[I.ok.kind];rfl
 refine wpAny_nameGoes_keeps hl hn hcls λh' v hn' hs=> ?_;refine h _ ⟨I.ok,I.os,I.bare,⟨λb o e n hb hx=> ?_,λb o e n hb hx=> ?_,I.base.free,λb o e hx=> ?_,I.base.tups,I.base.frzs,I.base.tbls⟩,⟨_,hn',λj y v' e1 e2 e3=> ?_⟩,λy c e=> ?_,I.free,I.freeC,λp hp=> ?_,λb ob e=> ?_,by simpa using I.len⟩
 ·exact(hs.2 b (aE (aH (ar e) I.ok.above))).trans (I.base.keep b o e n hb hx)
 ·obtain⟨sl,e1⟩:=I.base.slot b o e n hb hx;exact⟨sl,(hs.2 b (aE (aH (ar e) I.ok.above))).trans e1⟩
 ·obtain⟨o',e1⟩:=I.base.there b o e hx;exact⟨o',(hs.2 b (aE (aH (ar e) I.ok.above))).trans e1⟩
 ·by_cases hj:j=i
  ·subst hj;have hiσ:j < σ.length:=by rw[I.len];exact(aw.mp hi).1
   rw[aP hiσ]at e2;cases e2
  ·rw[ax (bi hj)]at e2;obtain⟨u',r',q⟩:=hlo j y v' e1 e2 e3;refine⟨u',r', ?_⟩;rcases q with ⟨k,e⟩ | ⟨k,c,e,z⟩
   ·refine .inl ⟨k, ?_⟩;have:y ≠ n:=λe=>hj (ww hN e1 (e ▸ hi));simp[this,e]
   ·exact .inr ⟨k,c,e,z.sameBut hs (I.cne y c e)⟩
 ·obtain⟨w',z⟩:=I.cell y c e;exact⟨w',z.sameBut hs (I.cne y c e)⟩
 ·obtain⟨e,n,ne,nf,d⟩:=I.pin p hp;exact⟨(hs.2 p.1 ne).trans e,n,ne,nf,d⟩
 ·refine(I.hok b ob e).stay (λc w' hc q=>(hs.2 c ?_).trans q) (λ_ q=>q) λ_ _ q=>q
  rintro rfl
  rcases hc with rfl | hc
  ·rw[I.free]at e;cases e
  ·rw[I.free]at hc;cases hc
end
section
theorem UN {K:Frag}{e:Addr}{cls c:Value}{t:Expr}{n:Str}{b₀:Stmt}{suite:List Stmt}{pos:Pos}{rest:List ExceptHandler}{Q:Flow->Shared->Prop}(hx:exmOne K cls c=some true)
  (h:wpAny (model prog w) (A.mark (some (.ref e))) (eval t env) (λv s₁=>v=c/\K.In s₁.heap/\(∃oe,s₁.heap.get? e=some oe/\oe.cls=cls)/\
   wpAny (model prog w) (A.mark (some (.ref e))) (setFlight (.ref e) none) (λ_ s₂=>
     wpAny (model prog w) (A.mark (some (.ref e))) (storeName env n (.ref e)) (λ_ s₃=>
      wpAny (model prog w) (A.mark (some (.ref e))) (execs (b₀ :: suite) env)
       (λf s₄=>wpAny (model prog w) A (do bindName env n .none;unbindBehindTheSuite env n pos) (λ_ s₅=>Q f s₅) E s₄)
       (λ_ _=>False) s₃) (λ_ _=>False) s₂) (λ_ _=>False) s₁) (λ_ _=>False) s):
  wpAny (model prog w) A (handleBy (.ref e) env (.ExceptHandler (some t) (some n) (b₀ :: suite) pos :: rest)) Q E s:=by
 refine wpAny_handleBy_cons (codeAny_handlers_test (bK h (λv s₁ h₁=> ?_) λ_ _ y=>y.elim)) (by intro q;cases q)
 obtain⟨rfl,X,⟨oe,he,hcls⟩,hk⟩:=h₁;have LT:Looks (model prog w) s₁.heap (typeOf (.ref e)) cls:=by
  rw[← hcls];exact(Looks.ld he).andThen .now
 refine(exm_one X LT hx) _ _ _ _ (λb o q=>q) (codeAny_handlers_suite_as ?_);exact bK hk (λ_ s₂ h₂=>bK h₂ (λ_ s₃ h₃=>bK h₃ (λ_ _ y=>y) λ_ _ y=>y.elim) λ_ _ y=>y.elim) λ_ _ y=>y.elim
end
end L2
namespace L2
open PySem PySem.Spec PyProof.Rows PySem.W
section
theorem Inv.caught (I:Inv X pins σ H s)(L:uO X.prog X.w X.stack H s s' ea cls a0 B H')(fl:df B X.stack ea cls a0 h3)(sl:s'.heap.UpToSlots h3):Inv X pins σ H' { s' with heap:=h3 }:=
 have L3:=L.on I.frNf fl sl
 I.call' L3.os L3.un (L.hok.kept fl.1) L3.bare (λb z=>absurd z (by simp))
theorem uO.fresh (L:uO P w outer H s s' ea cls a0 B H'):H' ea=none:=by
 cases q:H' ea with
 | none=>rfl
 | some o=>
  obtain⟨ob,e⟩:=(L.hok ea o q).there;have:=L.fly.2.1;rw[e]at this;cases this
theorem Inv.caughtX (I:Inv X pins σ H s)(L:uO X.prog X.w X.stack H s s' ea cls a0 B H')(fl:df B X.stack ea cls a0 h3)(sl:s'.heap.UpToSlots h3):Inv X pins σ (upd H' ea (.ext (yU cls ea))) { s' with heap:=h3 }:=by
 have L3:=L.on I.frNf fl sl;have hfree:=L.fresh;obtain⟨oe,vs,he,hc,hd,_⟩:=fl.first;have hne:∀b o,s.heap.get? b=some o->b ≠ ea:=λb o e z=>by
  subst z
  by_cases hb:b∈frs X.stack
  ·obtain⟨n,o2,e2,nf⟩:=I.frNf b hb;obtain⟨sl1,e3⟩:=L3.un.slot b o2 e2 n hb (by simp)
   rw[he]at e3;cases e3;exact nf vs hd
  ·obtain⟨o',e'⟩:=(L.inB b o e hb).2;have:=L.fly.2.1;rw[e']at this;cases this
 have nt:∀b u,H' b=some u->b ≠ ea:=λb u e z=>by rw[z,hfree]at e;cases e
 refine I.call' L3.os ⟨L3.un.keep,L3.un.slot,λb o e n hx=> ?_,L3.un.there,λb xs e=> ?_,λb o xs e=> ?_,λb ps q e=> ?_⟩ ?_ L3.bare (λb z=>absurd z (by simp))
 ·rw[zu (hne b o e)];exact L3.un.free b o e n hx
 ·have:=L3.un.tups b xs e;rw[zu (nt b _ this)];exact this
 ·have:=L3.un.frzs b o xs e;rw[zu (nt b _ this)];exact this
 ·have:=L3.un.tbls b ps q e;rw[zu (nt b _ this)];exact this
 ·intro b u e
  by_cases hb:b=ea
  ·subst hb;rw[zx]at e;cases e;exact yU.ok ⟨oe,he,hc⟩
  ·rw[zu hb]at e;exact((L.hok.kept fl.1) b u e).stay (λ_ _ _ q=>q) (λc q=>by rw[zu (nt c _ q)];exact q) (λc xs q=>by rw[zu (nt c _ q)];exact q) λc o u q=>by rw[zu (nt c _ q)];exact q
end
end L2
namespace PySem
open PySem.W
section
end
end PySem
namespace L2
open PySem PySem.Spec PyProof.Rows PySem.W
section
def kP (X:Cx)(E:XK):Prop:=∀(pins:List (Addr×Obj)) (σ:St) (H:Hp) (s:Shared) (e:Value) (s' :Shared) (C:Addr) (m:Str->Option Value) (E' :Value->Shared->Prop) (cenv:Env),Inv X pins σ H s->s.heap.Ns C m->H C=none->X.s₀.heap.objs.size<=C->C ∉ frs X.stack->cenv.frame=X.env.frame->CX1 X.prog X.w X.stack H s E e s' ->
 wpAny (model X.prog X.w) X.A (noteFrame e cenv) (λ_ s'' =>∃m,s''.heap.Ns C m/\∀h',bZ C s''.heap h' ->∀env:Env,env.locals=C->wpAny (model X.prog X.w) X.A (passOn "comprehension.variables-let-go" e env:Sem Value) (λ_ _=>False) X.xe { s'' with heap:=h' }) E' s'
theorem jQ (h:E=λ_ _ _=>False):kP X E:=λpins σ H s e s' C m E' cenv I _ _ _ _ _ ⟨_,_,_,_,_,_,_,z⟩=>by subst h;exact z.elim
end
end L2
namespace L2
open PySem PySem.Spec PyProof.Rows
theorem PE.imp (h:PE X e t)(i:∀σ H Q,t' σ H Q->t σ H Q):PE X e t' :=λpins s σ H Q I q=>h _ s σ H Q I (i σ H Q q)
theorem PT.imp (h:PT X e t)(i:∀σ H Q,t' σ H Q->t σ H Q):PT X e t' :=λpins s σ H Q I q=>h _ s σ H Q I (i σ H Q q)
theorem PA.imp (h:PA X e t)(i:∀σ H Q,t' σ H Q->t σ H Q):PA X e t' :=λpos pins s σ H Q I q=>h pos _ s σ H Q I (i σ H Q q)
theorem PS.imp (h:PS X e t)(i:∀D σ H,t' D σ H->t D σ H):PS X e t' :=λpins s σ H D I q=>h _ s σ H D I (i D σ H q)
theorem PSs.imp (h:PSs X e t)(i:∀D σ H,t' D σ H->t D σ H):PSs X e t' :=λpins s σ H D I q=>h _ s σ H D I (i D σ H q)
end L2
namespace PV
open PySem
noncomputable def Wn:Expr->Bool
 | .Starred _ _=>false
 | _=>true
theorem zR (h:Wn e=true):starEach (e :: rest) env=(false,eval e env) :: starEach rest env:=by
 cases e <;> first | rfl | cases h
theorem st2 (h:Wn a=true)(h' :Wn b=true):starEach [a,b] env=[(false,eval a env),(false,eval b env)]:=by
 rw[zR h,zR h'];rfl
theorem st1 (h:Wn a=true):starEach [a] env=[(false,eval a env)]:=by
 rw[zR h];rfl
theorem Zh {pos:Pos}{env:Env}:∀{es:List Expr},es.all Wn=true->((backTo pos (starEach es env)).any λx=>x.fst)=false
 | [],_=>rfl
 | e :: es,h=>by
  rw[c_,ae]at h;rw[zR h.1];have:=Zh (pos:=pos) (env:=env) h.2;show (false || ((backTo pos _).any λx=>x.fst))=false
  rw[this];rfl
open PySem PySem.Spec PyProof.Rows L2
noncomputable abbrev Sg:=L2.St
inductive T where
 | non | bl (b:Bool) | int (i:Int) | str (x:Str) | tup (xs:List T) | lst (xs:List T) | fz (xs:List T)
inductive R (α:Type) where
 | ok (a:α) | ex (c:Nat) | bad
noncomputable def R.bind {α β:Type}(r:R α)(f:α->R β):R β:=match r with
 | .ok a=>f a
 | .ex c=> .ex c
 | .bad=> .bad
mutual
inductive Rep (H:Hp):V->T->Prop where
 | non:Rep H .non .non
 | bl (b:Bool):Rep H (.bl b) (.bl b)
 | int (i:Int):Rep H (.int i) (.int i)
 | str (x:Str):Rep H (.str x) (.str x)
 | tup {a:Addr} {xs:List V} {ts:List T}:H a=some (.tup xs)->zE H xs ts->Rep H (.ref a) (.tup ts)
 | lst {a:Addr} {xs:List V} {ts:List T}:H a=some (.lst xs)->zE H xs ts->Rep H (.ref a) (.lst ts)
 | fz {a:Addr} {o:Obj} {xs:List V} {ts:List T}:H a=some (.frz o (.lst xs))->zE H xs ts->Rep H (.ref a) (.fz ts)
inductive zE (H:Hp):List V->List T->Prop where
 | nil:zE H [] []
 | cons {v:V} {t:T} {vs:List V} {ts:List T}:Rep H v t->zE H vs ts->zE H (v :: vs) (t :: ts)
end
mutual
theorem Rep.mono {H H' :Hp}(s:zv H H'):∀{v:V} {t:T},Rep H v t->Rep H' v t
 | _,_,.non=> .non
 | _,_,.bl b=> .bl b
 | _,_,.int i=> .int i
 | _,_,.str x=> .str x
 | _,_,.tup h r=> .tup (s _ _ h) (zE.mono s r)
 | _,_,.lst h r=> .lst (s _ _ h) (zE.mono s r)
 | _,_,.fz h r=> .fz (s _ _ h) (zE.mono s r)
theorem zE.mono {H H' :Hp}(s:zv H H'):∀{v:List V} {t:List T},zE H v t->zE H' v t
 | _,_,.nil=> .nil
 | _,_,.cons h r=> .cons (Rep.mono s h) (zE.mono s r)
end
theorem zE.length {H:Hp}:∀{vs:List V} {ts:List T},zE H vs ts->vs.length=ts.length
 | _,_,.nil=>rfl
 | _,_,.cons _ r=>congrArg _ (zE.length r)
theorem zE.get {H:Hp}:∀{vs:List V} {ts:List T} {i:Nat} {t:T},zE H vs ts->ts[i]? =some t->∃v,vs[i]? =some v/\Rep H v t
 | _,_,_,_,.nil,e=>by simp at e
 | _,_,0,_,.cons r _,e=>by simp at e;subst e;exact⟨_,rfl,r⟩
 | _,_,i+1,t,.cons _ q,e=>by
  obtain⟨v,h1,h2⟩:=zE.get q (by simpa using e)
  exact⟨v,by simpa using h1,h2⟩
theorem zE.getV {H:Hp}:∀{vs:List V} {ts:List T} {i:Nat} {v:V},zE H vs ts->vs[i]? =some v->∃t,ts[i]? =some t/\Rep H v t
 | _,_,_,_,.nil,e=>by simp at e
 | _,_,0,_,.cons r _,e=>by simp at e;subst e;exact⟨_,rfl,r⟩
 | _,_,i+1,v,.cons _ q,e=>by
  obtain⟨t,h1,h2⟩:=zE.getV q (by simpa using e)
  exact⟨t,by simpa using h1,h2⟩
theorem zE.append {H:Hp}:∀{vs ws:List V} {ts us:List T},zE H vs ts->zE H ws us->zE H (vs++ws) (ts++us)
 | _,_,_,_,.nil,q=>q
 | _,_,_,_,.cons r t,q=> .cons r (zE.append t q)
theorem zE.take {H:Hp}:∀{vs:List V} {ts:List T} (n:Nat),zE H vs ts->zE H (vs.take n) (ts.take n)
 | _,_,0,_=> .nil
 | _,_,_+1,.nil=> .nil
 | _,_,n+1,.cons r t=> .cons r (zE.take n t)
theorem zE.drop {H:Hp}:∀{vs:List V} {ts:List T} (n:Nat),zE H vs ts->zE H (vs.drop n) (ts.drop n)
 | _,_,0,r=>r
 | _,_,_+1,.nil=> .nil
 | _,_,n+1,.cons _ t=>zE.drop n t
theorem zE.rep {H:Hp}{vs:List V}{ts:List T}(h:zE H vs ts):∀n:Nat,zE H (ai n vs).flatten (ai n ts).flatten
 | 0=> .nil
 | n+1=>by
  exact h.append (zE.rep h n)
theorem zE.nil_iff (h:zE H vs ts):vs=[]↔ts=[]:=by
 cases h <;> simp
def zO (B H H' :Hp):Hp:=λb=>match H b with
 | none=>H' b
 | some _=>B b
theorem zZ (h:H b=none):zO B H H' b=H' b:=by unfold zO;rw[h]
theorem Z9 (h:H b=some o):zO B H H' b=B b:=by unfold zO;rw[h]
theorem zO.ge (s:zv B H)(s' :zv H H'):zv B (zO B H H'):=λb o h=>by
 rw[Z9 (s b o h)];exact h
theorem zO.le (s:zv B H)(s' :zv H H'):zv (zO B H H') H' :=λb o h=>by
 cases q:H b with
 | none=>rw[zZ q]at h;exact h
 | some u=>rw[Z9 q]at h;exact s' b o (s b o h)
theorem zO.self (B H:Hp)(s:zv B H):zO B H H=B:=by
 funext b
 cases q:H b with
 | none=>
  rw[zZ q,q];cases z:B b with
  | none=>rfl
  | some o=>rw[s b o z]at q;cases q
 | some u=>rw[Z9 q]
theorem zO.trans (s1:zv H H1)(s2:zv H1 H2):zO (zO B H H1) H1 H2=zO B H H2:=by
 funext b
 cases q:H b with
 | none=>
  rw[zZ q];cases z:H1 b with
  | none=>rw[zZ z]
  | some o=>rw[Z9 z,zZ q,z,s2 b o z]
 | some u=>rw[Z9 q,Z9 (s1 b u q),Z9 q]
inductive Fd where
 | tv (t:T) | tl (ts:List T)
noncomputable abbrev Ob:=Nat×List (Str×Fd)
noncomputable def V3:List Str:=["kind","remaining","done","undone","first","last","answered"]
def InC (vs:List (Str×V)):Prop:=∀f,f ∉ V3->vs.lookup f=none
inductive Sl where
 | un | vl (t:T) | ow (ts:List T) | xc (c:Nat) | ob (k n:Nat) | oc (k:Nat) (fs:List (Str×Fd)) | st (os:List Ob)
noncomputable def Sl.isS:Sl->Bool
 | .ob _ _=>true
 | .st _=>true
 | _=>false
noncomputable def Sl.isO:Sl->Bool
 | .ob _ _=>true
 | .oc _ _=>true
 | .st _=>true
 | _=>false
noncomputable abbrev En:=List Sl
structure Fx where
 B0:Hp
 H0:Hp
 E:XK
 cl:Nat->Value
 as:List Addr
def u9 (ρ:En)(σ:Sg)(l:Addr):Prop:=∀(j:Nat) (us:List T),ρ[j]? =some (Sl.ow us)->σ[j]? ≠ some (some (V.ref l))
def FdR (Y:Fx)(B:Hp)(ρ:En)(σ:Sg)(H:Hp)(o:Addr->Prop)(v:V):Fd->Prop
 | .tv t=>Rep B v t
 | .tl ts=>∃l xs,v= .ref l/\B l=none/\Y.H0 l=none/\H l=some (.lst xs)/\zE B xs ts/\u9 ρ σ l/\o l
def FsO (B H:Hp)(vs:List (Str×V))(fs:List (Str×Fd)):Prop:=∀(m:Nat) (f:Str) (d:Fd),fs[m]? =some (f,d)->∃v,vs[m]? =some (f,v)/\match d with
 | .tv t=>Rep B v t
 | .tl ts=>∃l xs,v= .ref l/\H l=some (.lst xs)/\zE B xs ts
theorem FsO.mono {B B' H H' :Hp}{vs:List (Str×V)}{fs:List (Str×Fd)}(h:FsO B H vs fs)(s:zv B B')(s' :zv H H'):FsO B' H' vs fs:=λm f d e=>by
 obtain⟨v,e1,r⟩:=h m f d e;refine⟨v,e1, ?_⟩;cases d with
 | tv t=>exact Rep.mono s r
 | tl ts=>obtain⟨l,xs,a,b,c⟩:=r;exact⟨l,xs,a,s' _ _ b,c.mono s⟩
structure StI (Y:Fx) (B:Hp) (ρ:En) (σ:Sg) (H:Hp) (as:List Addr) (O:Addr->Option (Nat×Nat)):Prop where
 pre:Y.as <+:as
 len:∀(i:Nat) (os:List Ob),ρ[i]? =some (Sl.st os)->as.length=os.length
 one:∀(i j:Nat) (os os' :List Ob),ρ[i]? =some (Sl.st os)->ρ[j]? =some (Sl.st os')->i=j
 ob:∀(i k n:Nat),ρ[i]? =some (Sl.ob k n)->∃a C dx vs,as[n]? =some a/\σ[i]? =some (some (V.ref a))/\Y.cl k= .ref C/\H a=some (.ins C dx vs)/\B a=none/\Y.H0 a=none/\InC vs
 oc:∀(i k:Nat) (fs:List (Str×Fd)),ρ[i]? =some (Sl.oc k fs)->∃a C dx vs,σ[i]? =some (some (V.ref a))/\Y.cl k= .ref C/\Y.H0 a=some (.ins C dx vs)/\InC vs/\FsO B Y.H0 vs fs
 st:∀(i:Nat) (os:List Ob),ρ[i]? =some (Sl.st os)->∀(n k:Nat) (fs:List (Str×Fd)),os[n]? =some (k,fs)->∃a C dx vs,as[n]? =some a/\Y.cl k= .ref C/\H a=some (.ins C dx vs)/\B a=none/\Y.H0 a=none/\O a=some (n,0)/\(vs.length=fs.length/\InC vs)/\
  ∀(m:Nat) (f:Str) (d:Fd),fs[m]? =some (f,d)->∃v,vs[m]? =some (f,v)/\FdR Y B ρ σ H (λl=>O l=some (n,m+1)) v d
structure SI (Y:Fx) (B:Hp) (ρ:En) (σ:Sg) (H:Hp):Prop where
 s0:zv Y.B0 Y.H0
 sH:zv Y.H0 H
 sB:zv B H
 old:∀b o,Y.H0 b=some o->B b=Y.B0 b
 len:ρ.length=σ.length
 vl:∀(i:Nat) (t:T),ρ[i]? =some (Sl.vl t)->∃v:V,σ[i]? =some (some v)/\Rep B v t
 ow:∀(i:Nat) (ts:List T),ρ[i]? =some (Sl.ow ts)->∃(a:Addr) (xs:List V),σ[i]? =some (some (V.ref a))/\B a=none/\Y.H0 a=none/\H a=some (.lst xs)/\zE B xs ts/\
  ∀(j:Nat) (us:List T),j ≠ i->ρ[j]? =some (Sl.ow us)->σ[j]? ≠ some (some (V.ref a))
 xc:∀(i:Nat) (c:Nat),ρ[i]? =some (Sl.xc c)->∃a:Addr,σ[i]? =some (some (V.ref a))/\B a=some (.ext (yU (Y.cl c) a))
 st:∃as O,StI Y B ρ σ H as O
theorem StI.on {Y Y' :Fx}{B B' :Hp}{ρ ρ' :En}{σ σ' :Sg}{H H' :Hp}{as:List Addr}{O:Addr->Option (Nat×Nat)}(x:StI Y B ρ σ H as O)(hO:∀(i:Nat) (s:Sl),s.isO=true->ρ'[i]? =some s->ρ[i]? =some s/\σ'[i]? =σ[i]?)(hB:zv B B')(hc:Y'.cl=Y.cl)(hA:Y'.as=Y.as)(h0:zv Y.H0 Y'.H0)
  (hH:∀b o,H b=some o->B b=none->Y.H0 b=none->((∃C dx vs,o= .ins C dx vs)\/u9 ρ σ b)->H' b=some o/\B' b=none/\Y'.H0 b=none/\(u9 ρ σ b->u9 ρ' σ' b)):StI Y' B' ρ' σ' H' as O where
 pre:=by rw[hA];exact x.pre
 len:=λi os h=>x.len i os (hO i _ rfl h).1
 one:=λi j os os' h1 h2=>x.one i j os os' (hO i _ rfl h1).1 (hO j _ rfl h2).1
 ob:=λi k n h=>by
  obtain⟨h1,h2⟩:=hO i _ rfl h;obtain⟨a,C,dx,vs,e1,e2,e3,e4,e5,e6⟩:=x.ob i k n h1;obtain⟨g1,g2,g3,_⟩:=hH a _ e4 e5 e6.1 (.inl ⟨_,_,_,rfl⟩);rw[h2,hc];exact⟨a,C,dx,vs,e1,e2,e3,g1,g2,g3,e6.2⟩
 oc:=λi k fs h=>by
  obtain⟨h1,h2⟩:=hO i _ rfl h;obtain⟨a,C,dx,vs,e1,e2,e3,e4,e5⟩:=x.oc i k fs h1;rw[h2,hc];exact⟨a,C,dx,vs,e1,e2,h0 _ _ e3,e4,e5.mono hB h0⟩
 st:=λi os h n k fs e=>by
  obtain⟨a,C,dx,vs,e1,e2,e3,e4,e5,e6,e7,e8⟩:=x.st i os (hO i _ rfl h).1 n k fs e;obtain⟨g1,g2,g3,_⟩:=hH a _ e3 e4 e5 (.inl ⟨_,_,_,rfl⟩);refine⟨a,C,dx,vs,e1,by rw[hc];exact e2,g1,g2,g3,e6,e7,λm f d z=> ?_⟩
  obtain⟨v,z1,z2⟩:=e8 m f d z;refine⟨v,z1, ?_⟩;cases d with
  | tv t=>exact Rep.mono hB z2
  | tl ts=>
   obtain⟨l,xs,p1,p2,p3,p4,p5,p6,p7⟩:=z2;obtain⟨g1,g2,g3,g4⟩:=hH l _ p4 p2 p3 (.inr p6);exact⟨l,xs,p1,g2,g3,g1,p5.mono hB,g4 p6,p7⟩
theorem StI.no (h:∀(i:Nat) (s:Sl),s.isO=true->ρ[i]? ≠ some s):∃as O,StI Y B ρ σ H as O:=⟨Y.as,λ_=>none,ce _,λi os e=>(h i _ rfl e).elim,λi j os os' e=>(h i _ rfl e).elim,λi k n e=>(h i _ rfl e).elim,λi k fs e=>(h i _ rfl e).elim,λi os e=>(h i _ rfl e).elim⟩
theorem SI.grow {Y:Fx}{B:Hp}{ρ:En}{σ:Sg}{H H' :Hp}(I:SI Y B ρ σ H)(s:zv H H'):SI Y (zO B H H') ρ σ H' where
 s0:=I.s0
 sH:=I.sH.trans s
 sB:=zO.le I.sB s
 old:=λb o h=>by rw[Z9 (I.sH b o h)];exact I.old b o h
 len:=I.len
 vl:=λi t h=>let ⟨v,e,r⟩:=I.vl i t h;⟨v,e,r.mono (zO.ge I.sB s)⟩
 ow:=λi ts h=>let ⟨a,xs,e,b,h0,hh,r,d⟩:=I.ow i ts h;⟨a,xs,e,by rw[Z9 hh];exact b,h0,s _ _ hh,r.mono (zO.ge I.sB s),d⟩
 xc:=λi c h=>let ⟨a,e,r⟩:=I.xc i c h;⟨a,e,zO.ge I.sB s a _ r⟩
 st:=let ⟨as,O,x⟩:=I.st;⟨as,O,x.on (λ_ _ _ h=>⟨h,rfl⟩) (zO.ge I.sB s) rfl rfl (zv.refl _) λb o h hb h0 _=>⟨s _ _ h,by rw[Z9 h];exact hb,h0,id⟩⟩
def XP (Y:Fx)(B:Hp)(c:Nat):Prop:=∀(d:Option Addr) (H' :Hp),zv Y.H0 H' ->zv B H' ->Y.E (Y.cl c) d H'
def Po {α β:Type}(Y:Fx)(rel:Hp->Hp->β->α->Prop)(B H:Hp)(r:R α)(Q:β->Hp->Prop):Prop:=match r with
 | .ok a=>∀b H',zv H H' ->rel (zO B H H') H' b a->Q b H'
 | .ex c=>XP Y B c
 | .bad=>False
abbrev rC:Hp->Hp->V->T->Prop:=λB _ v t=>Rep B v t
abbrev rB:Hp->Hp->V->T->Prop:=λ_ H v t=>Rep H v t
abbrev rCs:Hp->Hp->List V->List T->Prop:=λB _ v t=>zE B v t
abbrev rE {α:Type}:Hp->Hp->α->α->Prop:=λ_ _ a b=>a=b
def tS {α β:Type}(Y:Fx)(rel:Hp->Hp->β->α->Prop)(f:En->R α)(ρ:En):Sg->Hp->(β->Hp->Prop)->Prop:=λσ H Q=>∃B,SI Y B ρ σ H/\Po Y rel B H (f ρ) Q
structure Snd (X:Cx) (Y:Fx) (e:Expr) (f:En->R T):Prop where
 mk ::
 go:∀ρ,PE X e (tS Y rC f ρ)
instance {X:Cx}{Y:Fx}{e:Expr}{f:En->R T}:CoeFun (Snd X Y e f) λ_=>∀ρ,PE X e (tS Y rC f ρ):=⟨Snd.go⟩
structure j6 (X:Cx) (Y:Fx) (e:Expr) (f:En->R T):Prop where
 mk ::
 go:∀ρ,PE X e (tS Y rB f ρ)
instance {X:Cx}{Y:Fx}{e:Expr}{f:En->R T}:CoeFun (j6 X Y e f) λ_=>∀ρ,PE X e (tS Y rB f ρ):=⟨j6.go⟩
structure W7 (X:Cx) (Y:Fx) (e:Expr) (f:En->R Bool):Prop where
 mk ::
 go:∀ρ,PT X e (tS Y rE f ρ)
instance {X:Cx}{Y:Fx}{e:Expr}{f:En->R Bool}:CoeFun (W7 X Y e f) λ_=>∀ρ,PT X e (tS Y rE f ρ):=⟨W7.go⟩
structure wE (X:Cx) (Y:Fx) (es:List Expr) (f:En->R (List T)):Prop where
 mk ::
 go:∀ρ,PA X es (tS Y rCs f ρ)
instance {X:Cx}{Y:Fx}{es:List Expr}{f:En->R (List T)}:CoeFun (wE X Y es f) λ_=>∀ρ,PA X es (tS Y rCs f ρ):=⟨wE.go⟩
theorem step {α α' β β' :Type}{rel:Hp->Hp->β->α->Prop}{rel' :Hp->Hp->β' ->α' ->Prop}{f:En->R α}{k:α->R α'}{Q:β' ->Hp->Prop}{K:β->Hp->Prop}
  (I:SI Y B ρ σ H) (h:Po Y rel' B H ((f ρ).bind k) Q)
  (n:∀a b H1,f ρ= .ok a->zv H H1->rel (zO B H H1) H1 b a->SI Y (zO B H H1) ρ σ H1->Po Y rel' (zO B H H1) H1 (k a) Q->K b H1):tS Y rel f ρ σ H K:=by
 refine⟨B,I, ?_⟩;cases e:f ρ with
 | bad=>rw[e]at h;exact h
 | ex c=>rw[e]at h;exact h
 | ok a=>
  rw[e]at h;intro b H1 s r;refine n a b H1 e s r (I.grow s) ?_;have h' :Po Y _ B H (k a) Q:=h;revert h';cases k a with
  | bad=>exact λh' =>h'
  | ex c=>exact λh' d H' s0 sB' =>h' d H' s0 ((zO.ge I.sB s).trans sB')
  | ok a' =>exact λh' b' H2 s2 r2=>h' b' H2 (s.trans s2) (by rw[← zO.trans s s2];exact r2)
theorem ZB {α β:Type}{rel:Hp->Hp->β->α->Prop}{a:α}{b:β}{Q:β->Hp->Prop}(I:SI Y B ρ σ H)(h:Po Y rel B H (.ok a) Q)(r:rel B H b a):Q b H:=h b H (zv.refl H) (by rw[zO.self B H I.sB];exact r)
theorem Snd.b {X:Cx}{Y:Fx}{e:Expr}{f:En->R T}(h:Snd X Y e f):j6 X Y e f:= .mk λρ=>PE.imp (h ρ) λσ H Q ⟨B,I,q⟩=>⟨B,I,by
 revert q;cases f ρ with
 | bad=>exact λq=>q
 | ex c=>exact λq=>q
 | ok a=>exact λq b H' s r=>q b H' s (r.mono (zO.le I.sB s))⟩
section
def vE (i:Nat):En->R T:=λρ=>match ρ[i]? with
 | some (.vl t)=> .ok t
 | _=> .bad
def vB (i:Nat):En->R T:=λρ=>match ρ[i]? with
 | some (.vl t)=> .ok t
 | some (.ow ts)=> .ok (.lst ts)
 | _=> .bad
def cE (t:T):En->R T:=λ_=> .ok t
theorem z0B (i:Nat)(h:PE X (.Name x pos) (Jh i)):Snd X Y (.Name x pos) (vE i):= .mk λρ=>PE.imp h λσ H Q ⟨B,I,q⟩=>by
 unfold vE at q;split at q
 ·rename_i t e;obtain⟨v,e1,r⟩:=I.vl i t e;exact⟨v,e1,ZB I q r⟩
 ·exact q.elim
theorem kQ (i:Nat){x:Str}(h:PE X (.Name x pos) (Jh i)):j6 X Y (.Name x pos) (vB i):= .mk λρ=>PE.imp h λσ H Q ⟨B,I,q⟩=>by
 unfold vB at q;split at q
 ·rename_i t e;obtain⟨v,e1,r⟩:=I.vl i t e;exact⟨v,e1,ZB I q (r.mono I.sB)⟩
 ·rename_i ts e;obtain⟨a,xs,e1,_,_,hh,r,_⟩:=I.ow i ts e;exact⟨.ref a,e1,ZB I q (.lst hh (r.mono I.sB))⟩
 ·exact q.elim
theorem z0C {i j}:Snd X Y (.Constant (.int i) j pos) (cE (.int i)):= .mk λρ=>PE.imp ke λσ H Q ⟨B,I,q⟩=>ZB I q (.int i)
theorem s_bl {i j}:Snd X Y (.Constant (.bool i) j pos) (cE (.bl i)):= .mk λρ=>PE.imp z0e λσ H Q ⟨B,I,q⟩=>ZB I q (.bl i)
theorem kR {i j}:Snd X Y (.Constant (.str i) j pos) (cE (.str i)):= .mk λρ=>PE.imp vW λσ H Q ⟨B,I,q⟩=>ZB I q (.str i)
def zj:En->R (List T):=λ_=> .ok []
def z9 (f:En->R T)(g:En->R (List T)):En->R (List T):=λρ=>(f ρ).bind λt=>(g ρ).bind λts=> .ok (t :: ts)
theorem kS:wE X Y [] zj:= .mk λρ=>PA.imp zU λσ H Q ⟨B,I,q⟩=>ZB I q .nil
theorem V4 {es:List Expr}{g:En->R (List T)}(h:Snd X Y a fa)(hs:wE X Y es g)(hq:starEach (a :: es) X.env=(false,eval a X.env) :: starEach es X.env:=by exact zR rfl):wE X Y (a :: es) (z9 fa g):= .mk λρ=>
 PA.imp (zA (h ρ) (hs ρ) hq) λσ H Q ⟨B,I,q⟩=>step I q λt v H1 _ s1 r1 I1 q1=>step I1 q1 λts vs H2 _ s2 r2 I2 q2=>ZB I2 q2 (.cons (r1.mono (zO.ge I1.sB s2)) r2)
theorem zv.new (h:H p=none)(o:HO):zv H (upd H p o):=λb u q=>by rw[zu (zJ q h)];exact q
theorem jb (h:H p=none)(o:HO):zO B H (upd H p o) p=some o:=by rw[zZ h,zx]
noncomputable def bnd:Nat:=16777216
theorem Zs (h:n<=bnd):n<=sizeLine:=by exact h
def Zy (g:En->R (List T)):En->R T:=λρ=>(g ρ).bind λts=>if ts.length<=bnd then .ok (.tup ts) else .bad
def ZD (g:En->R (List T)):En->R T:=λρ=>(g ρ).bind λts=>if ts.length<=bnd then .ok (.lst ts) else .bad
theorem x6 {ρ:En}{σ:Sg}{B H:Hp}{xs:List V}{ts:List T}(I:SI Y B ρ σ H)(r:zE B xs ts){p:Addr}(h:H p=none):Rep (zO B H (upd H p (.tup xs))) (.ref p) (.tup ts):=
 .tup (jb h _) (r.mono (zO.ge I.sB (zv.new h _)))
theorem x8 {ρ:En}{σ:Sg}{B H:Hp}{xs:List V}{ts:List T}(I:SI Y B ρ σ H)(r:zE B xs ts){p:Addr}(h:H p=none):Rep (zO B H (upd H p (.lst xs))) (.ref p) (.lst ts):=
 .lst (jb h _) (r.mono (zO.ge I.sB (zv.new h _)))
theorem z0D {es:List Expr}{g:En->R (List T)}{x1}(h:wE X Y es g):Snd X Y (.Tuple es x1 pos) (Zy g):= .mk λρ=>PE.imp (V0 (h ρ)) λσ H Q ⟨B,I,q⟩=>
 step I q λts vs H1 _ s1 r1 I1 q1=>by
  split at q1
  ·rename_i hb;refine⟨by rw[r1.length];exact Zs hb,λp hp=>q1 _ _ (zv.new hp _) (x6 I1 r1 hp)⟩
  ·exact q1.elim
theorem z0E {es:List Expr}{g:En->R (List T)}(h:wE X Y es g):Snd X Y (.List es pos) (ZD g):= .mk λρ=>PE.imp (yJ (h ρ)) λσ H Q ⟨B,I,q⟩=>
 step I q λts vs H1 _ s1 r1 I1 q1=>by
  split at q1
  ·rename_i hb;refine⟨by rw[r1.length];exact Zs hb,λp hp=>q1 _ _ (zv.new hp _) (x8 I1 r1 hp)⟩
  ·exact q1.elim
end
end PV
namespace PV
open PySem PySem.Spec PyProof.Rows L2
noncomputable def eqL (f:T->T->Option Bool):List T->List T->Option Bool
 | [],[]=>some true
 | [],_ :: _=>some false
 | _ :: _,[]=>some false
 | x :: xs,y :: ys=>match f x y with
  | none=>none
  | some b=>match eqL f xs ys with
   | none=>none
   | some c=>some (b && c)
noncomputable def b2 (b:Bool):Int:=if b then 1 else 0
def eqF:Nat->T->T->Option Bool
 | _,.non,.non=>some true
 | _,.bl a,.bl b=>some (a == b)
 | _,.bl a,.int j=>some (b2 a == j)
 | _,.int i,.bl b=>some (i == b2 b)
 | _,.int i,.int j=>some (i == j)
 | _,.str x,.str y=>some (x == y)
 | n+1,.tup xs,.tup ys=>eqL (eqF n) xs ys
 | n+1,.lst xs,.lst ys=>eqL (eqF n) xs ys
 | n+1,.fz xs,.lst ys=>eqL (eqF n) xs ys
 | n+1,.lst xs,.fz ys=>eqL (eqF n) xs ys
 | n+1,.fz xs,.fz ys=>eqL (eqF n) xs ys
 | 0,.tup _,.tup _=>none
 | 0,.lst _,.lst _=>none
 | 0,.fz _,.lst _=>none
 | 0,.lst _,.fz _=>none
 | 0,.fz _,.fz _=>none
 | _,.non,_=>some false
 | _,.bl _,_=>some false
 | _,.int _,_=>some false
 | _,.str _,_=>some false
 | _,.tup _,_=>some false
 | _,.lst _,_=>some false
 | _,.fz _,_=>some false
mutual
theorem Rep.fn {H:Hp}:∀{v:V} {t t' :T},Rep H v t->Rep H v t' ->t=t'
 | _,_,_,.non,.non=>rfl
 | _,_,_,.bl _,.bl _=>rfl
 | _,_,_,.int _,.int _=>rfl
 | _,_,_,.str _,.str _=>rfl
 | _,_,_,.tup h r,.tup h' r' =>by
  rw[h]at h';cases h';rw[zE.fn r r']
 | _,_,_,.tup h r,.lst h' r' =>by rw[h]at h';cases h'
 | _,_,_,.tup h r,.fz h' r' =>by rw[h]at h';cases h'
 | _,_,_,.lst h r,.tup h' r' =>by rw[h]at h';cases h'
 | _,_,_,.lst h r,.lst h' r' =>by
  rw[h]at h';cases h';rw[zE.fn r r']
 | _,_,_,.lst h r,.fz h' r' =>by rw[h]at h';cases h'
 | _,_,_,.fz h r,.tup h' r' =>by rw[h]at h';cases h'
 | _,_,_,.fz h r,.lst h' r' =>by rw[h]at h';cases h'
 | _,_,_,.fz h r,.fz h' r' =>by
  rw[h]at h';cases h';rw[zE.fn r r']
theorem zE.fn {H:Hp}:∀{v:List V} {t t' :List T},zE H v t->zE H v t' ->t=t'
 | _,_,_,.nil,.nil=>rfl
 | _,_,_,.cons h r,.cons h' r' =>by rw[Rep.fn h h',zE.fn r r']
end
theorem Zk {f:T->T->Option Bool}(hf:∀x b,f x x=some b->b=true):∀(xs:List T) (b:Bool),eqL f xs xs=some b->b=true
 | [],b,h=>by
  have h' :=h;cases h';rfl
 | x :: xs,b,h=>by
  unfold eqL at h;cases e:f x x with
  | none=>rw[e]at h;cases h
  | some c=>
   rw[e]at h;cases e' :eqL f xs xs with
   | none=>rw[e']at h;cases h
   | some d=>
    rw[e']at h;cases h;rw[hf x c e,Zk hf xs d e'];rfl
theorem Zd:∀(n:Nat) (t:T) (b:Bool),eqF n t t=some b->b=true
 | n,.non,b,h=>by unfold eqF at h;cases h;rfl
 | n,.bl x,b,h=>by unfold eqF at h;cases h;simp
 | n,.int x,b,h=>by unfold eqF at h;cases h;simp
 | n,.str x,b,h=>by unfold eqF at h;cases h;simp
 | 0,.tup x,b,h=>by cases h
 | 0,.lst x,b,h=>by cases h
 | 0,.fz x,b,h=>by cases h
 | n+1,.tup x,b,h=>by exact Zk (Zd n) x b h
 | n+1,.lst x,b,h=>by exact Zk (Zd n) x b h
 | n+1,.fz x,b,h=>by exact Zk (Zd n) x b h
theorem yV {f:T->T->Option Bool}:∀{xs ys:List T} {b:Bool},eqL f xs ys=some b->
  ∃e:Nat->Bool,(∀j x y,xs[j]? =some x->ys[j]? =some y->f x y=some (e j))/\((a_ (min xs.length ys.length)).all e && xs.length == ys.length)=b
 | [],[],b,h=>by
  have h' :=h;cases h';exact⟨λ_=>true,λj x y h=>by simp at h,by simp⟩
 | [],y :: ys,b,h=>by
  have h' :=h;cases h';exact⟨λ_=>true,λj x y h=>by simp at h,by simp⟩
 | x :: xs,[],b,h=>by
  have h' :=h;cases h';exact⟨λ_=>true,λj x y h h' =>by simp at h',by simp⟩
 | x :: xs,y :: ys,b,h=>by
  unfold eqL at h;cases e:f x y with
  | none=>rw[e]at h;cases h
  | some c=>
   rw[e]at h;cases e' :eqL f xs ys with
   | none=>rw[e']at h;cases h
   | some d=>
    rw[e']at h;cases h;obtain⟨g,h1,h2⟩:=yV e';refine⟨λj=>match j with | 0=>c | j+1=>g j,λj u v hu hv=> ?_, ?_⟩
    ·cases j with
     | zero=>simp at hu hv;subst hu hv;exact e
     | succ j=>exact h1 j u v (by simpa using hu) (by simpa using hv)
    ·have z:min (x :: xs).length (y :: ys).length=min xs.length ys.length+1:=by simp only[af];omega
     rw[z,cq,c_,f_];have z2:((x :: xs).length == (y :: ys).length)=(xs.length == ys.length):=by simp
     rw[z2,← h2,Bool.and_assoc];rfl
section
theorem ZJ (I:L2.Inv X pins σ H s)(h:H a=some (.tup xs))(r:zE H xs ts):∃its:List Value,zS xs its/\s.heap.IsTuple a its.toArray/\ts.length=its.length/\xs.length<=sizeLine:=by
 obtain⟨its,rv,p,z⟩:=I.tuple (SqT.of h);exact⟨its,rv,p,by rw[← r.length];exact rv.length,z⟩
theorem zT (I:L2.Inv X pins σ H s)(h:Rd H a (.lst xs))(r:zE H xs ts):∃its:List Value,zS xs its/\s.heap.IsList a its.toArray/\ts.length=its.length/\xs.length<=sizeLine:=by
 obtain⟨its,rv,p,z⟩:=I.list (.inl h);exact⟨its,rv,p.isList,by rw[← r.length];exact rv.length,z⟩
end
noncomputable abbrev EqN (A:Around)(s:Shared)(u u' :Value)(b:Bool):Prop:=cJ A s u u' b/\eY A s u u' b/\dg A s u u' (!b)
section
theorem yW {f:T->T->Option Bool}{e:Nat->Bool}(r:zE H xs ts)(r' :zE H ys us)(v:zS xs its)(v' :zS ys its')
  (he:∀(j:Nat) (x y:T),ts[j]? =some x->us[j]? =some y->f x y=some (e j))
  (ih:∀(x y:T) (b:Bool) (p q:V) (u w:Value),f x y=some b->Rep H p x->Rep H q y->Zc p u->Zc q w->EqN A s u w b) (j:Nat) (h1:j < its.toArray.size) (h2:j < its'.toArray.size):
  cJ A s its.toArray[j] its'.toArray[j] (e j):=by
 have l1:=v.length;have l2:=v'.length;have k1:j < xs.length:=by simp at h1;omega
 have k2:j < ys.length:=by simp at h2;omega
 obtain⟨t,et,rt⟩:=r.getV (ag k1);obtain⟨t',et',rt'⟩:=r'.getV (ag k2);obtain⟨u,eu,ru⟩:=v.get (ag k1);obtain⟨u',eu',ru'⟩:=v'.get (ag k2);have q1:=by
  have:its[j]? =some its.toArray[j]:=by simp at h1 ⊢
  rw[eu]at this;exact(aB this).symm
 have q2:=by
  have:its'[j]? =some its'.toArray[j]:=by simp at h2 ⊢
  rw[eu']at this;exact(aB this).symm
 rw[q1,q2];exact(ih t t' _ _ _ u u' (he j t t' et et') rt rt' ru ru').1
theorem x9 {A:Around}{a c:Addr}{xs ys:List V}{ts us:List T}{b:Bool}{f:T->T->Option Bool}(I:L2.Inv X pins σ H s)(hu:A.units < cLine)(ha:H a=some (.tup xs))(hc:H c=some (.tup ys))(r:zE H xs ts)(r' :zE H ys us)
  (hb:eqL f ts us=some b) (hr:∀x b,f x x=some b->b=true)
  (ih:∀(x y:T) (b:Bool) (p q:V) (u w:Value),f x y=some b->Rep H p x->Rep H q y->Zc p u->Zc q w->EqN A.in1 s u w b):EqN A s (.ref a) (.ref c) b:=by
 obtain⟨its,v,p,l,_⟩:=ZJ I ha r;obtain⟨its',v',p',l',_⟩:=ZJ I hc r';obtain⟨e,he,hb'⟩:=yV hb;have hp:=yW r r' v v' he ih;have z:((a_ (min its.toArray.size its'.toArray.size)).all e && its.toArray.size == its'.toArray.size)=b:=by
  rw[← hb'];simp[l,l']
 have R:=eY.tuples p p' hu hp;have N:=dg.tuples p p' hu hp;rw[z]at R;have N' :dg A s (.ref a) (.ref c) (!b):=by
  rw[← z];exact N
 refine⟨?_,R,N'⟩
 by_cases hac:a=c
 ·subst hac;rw[ha]at hc;cases hc;have:=r.fn r';subst this;rw[Zk hr ts b hb];exact iu _
 ·exact fM hac R
theorem wF {A:Around}{a c:Addr}{xs ys:List V}{ts us:List T}{b:Bool}{f:T->T->Option Bool}(I:L2.Inv X pins σ H s)(hu:A.units < cLine)(ha:Rd H a (.lst xs))(hc:Rd H c (.lst ys))(r:zE H xs ts)(r' :zE H ys us)
  (hb:eqL f ts us=some b) (hr:∀x b,f x x=some b->b=true)
  (ih:∀(x y:T) (b:Bool) (p q:V) (u w:Value),f x y=some b->Rep H p x->Rep H q y->Zc p u->Zc q w->EqN A.in1 s u w b):EqN A s (.ref a) (.ref c) b:=by
 obtain⟨its,v,p,l,_⟩:=zT I ha r;obtain⟨its',v',p',l',_⟩:=zT I hc r';obtain⟨e,he,hb'⟩:=yV hb;have hp:=yW r r' v v' he ih;have RN:eY A s (.ref a) (.ref c) b/\dg A s (.ref a) (.ref c) (!b):=by
  by_cases hl:its.toArray.size=its'.toArray.size
  ·have z:(a_ its.toArray.size).all e=b:=by
    rw[← hb'];have:ts.length=us.length:=by simp at hl;omega
    rw[this];have k:its.toArray.size=us.length:=by simp;omega
    rw[k];simp
   have R:=eY.lists p p' hl hu hp;have N:=dg.lists p p' hl hu hp;rw[z]at R;refine⟨R, ?_⟩;rw[← z];exact N
  ·have hl' :(its.toArray.size != its'.toArray.size)=true:=by simpa using hl
   have z:b=false:=by
    rw[← hb'];have:¬ ts.length=us.length:=by simp at hl;omega
    simp[this]
   subst z;exact⟨eY.lists_lengths p p' hl' hu,dg.lists_lengths p p' hl' hu⟩
 refine⟨?_,RN.1,RN.2⟩
 by_cases hac:a=c
 ·subst hac;have hxy:xs=ys:=by
   rcases ha with ha | ⟨o,ha⟩ <;> rcases hc with hc | ⟨o',hc⟩ <;> (rw[ha]at hc;cases hc) <;> rfl
  subst hxy;have:=r.fn r';subst this;rw[Zk hr ts b hb];exact iu _
 ·exact fM hac RN.1
end
section
variable {X:Cx}{pins:List (Addr×Obj)}{σ:Sg}{H:Hp}{s:Shared}
theorem jC {A:Around}:A.in1.units=A.units+1:=rfl
set_option maxHeartbeats 2000000 in
theorem yX (I:L2.Inv X pins σ H s):∀(A:Around),A.units < cLine->∀(x y:T) (b:Bool) (p q:V) (u w:Value),eqF 0 x y=some b->Rep H p x->Rep H q y->Zc p u->Zc q w->EqN A s u w b:=by
 intro A hu x y b p q u w h rp rq ru rw';have hu' :=hu;cases rp with
 | non=>
  obtain rfl:u=Value.none:=ru;cases rq with
  | non=>obtain rfl:w=Value.none:=rw';unfold eqF at h;cases h;exact⟨.same _,.none_none,.none_none⟩
  | bl c=>obtain rfl:w=Value.bool c:=rw';unfold eqF at h;cases h;exact⟨.none_bool _,.none_bool _,.none_bool _⟩
  | int c=>obtain⟨t,rfl⟩:=rw';unfold eqF at h;cases h;exact⟨.none_int _ _,.none_int _ _,.none_int _ _⟩
  | str c=>obtain⟨t,rfl⟩:=rw';unfold eqF at h;cases h;exact⟨.none_str _ _,.none_str _ _,.none_str _ _⟩
  | tup h1 r1=>obtain rfl:w=Value.ref _:=rw';unfold eqF at h;cases h;obtain⟨i,_,p,_⟩:=ZJ I h1 r1;exact⟨.none_tuple p hu',.none_tuple p hu',.none_tuple p hu'⟩
  | lst h1 r1=>obtain rfl:w=Value.ref _:=rw';unfold eqF at h;cases h;obtain⟨i,_,p,_⟩:=zT I (.inl h1) r1;exact⟨.none_list p hu',.none_list p hu',.none_list p hu'⟩
  | fz h1 r1=>obtain rfl:w=Value.ref _:=rw';unfold eqF at h;cases h;obtain⟨i,_,p,_⟩:=zT I (.inr ⟨_,h1⟩) r1;exact⟨.none_list p hu',.none_list p hu',.none_list p hu'⟩
 | bl d=>
  obtain rfl:u=Value.bool d:=ru;cases rq with
  | non=>obtain rfl:w=Value.none:=rw';unfold eqF at h;cases h;exact⟨.bool_none _,.bool_none _,.bool_none _⟩
  | bl c=>obtain rfl:w=Value.bool c:=rw';unfold eqF at h;cases h;exact⟨.bool_bool _ _,.bool_bool _ _,.bool_bool _ _⟩
  | int c=>obtain⟨t,rfl⟩:=rw';unfold eqF at h;cases h;exact⟨.bool_int _ _ _,.bool_int _ _ _,.bool_int _ _ _⟩
  | str c=>obtain⟨t,rfl⟩:=rw';unfold eqF at h;cases h;exact⟨.bool_str _ _ _,.bool_str _ _ _,.bool_str _ _ _⟩
  | tup h1 r1=>obtain rfl:w=Value.ref _:=rw';unfold eqF at h;cases h;obtain⟨i,_,p,_⟩:=ZJ I h1 r1;exact⟨.bool_tuple _ p hu',.bool_tuple _ p hu',.bool_tuple _ p hu'⟩
  | lst h1 r1=>obtain rfl:w=Value.ref _:=rw';unfold eqF at h;cases h;obtain⟨i,_,p,_⟩:=zT I (.inl h1) r1;exact⟨.bool_list _ p hu',.bool_list _ p hu',.bool_list _ p hu'⟩
  | fz h1 r1=>obtain rfl:w=Value.ref _:=rw';unfold eqF at h;cases h;obtain⟨i,_,p,_⟩:=zT I (.inr ⟨_,h1⟩) r1;exact⟨.bool_list _ p hu',.bool_list _ p hu',.bool_list _ p hu'⟩
 | int d=>
  obtain⟨t0,rfl⟩:=ru;cases rq with
  | non=>obtain rfl:w=Value.none:=rw';unfold eqF at h;cases h;exact⟨.int_none _ _,.int_none _ _,.int_none _ _⟩
  | bl c=>obtain rfl:w=Value.bool c:=rw';unfold eqF at h;cases h;exact⟨.int_bool _ _ _,.int_bool _ _ _,.int_bool _ _ _⟩
  | int c=>obtain⟨t,rfl⟩:=rw';unfold eqF at h;cases h;exact⟨.int_int _ _ _ _,.int_int _ _ _ _,.int_int _ _ _ _⟩
  | str c=>obtain⟨t,rfl⟩:=rw';unfold eqF at h;cases h;exact⟨.int_str _ _ _ _,.int_str _ _ _ _,.int_str _ _ _ _⟩
  | tup h1 r1=>obtain rfl:w=Value.ref _:=rw';unfold eqF at h;cases h;obtain⟨i,_,p,_⟩:=ZJ I h1 r1;exact⟨.int_tuple _ _ p hu',.int_tuple _ _ p hu',.int_tuple _ _ p hu'⟩
  | lst h1 r1=>obtain rfl:w=Value.ref _:=rw';unfold eqF at h;cases h;obtain⟨i,_,p,_⟩:=zT I (.inl h1) r1;exact⟨.int_list _ _ p hu',.int_list _ _ p hu',.int_list _ _ p hu'⟩
  | fz h1 r1=>obtain rfl:w=Value.ref _:=rw';unfold eqF at h;cases h;obtain⟨i,_,p,_⟩:=zT I (.inr ⟨_,h1⟩) r1;exact⟨.int_list _ _ p hu',.int_list _ _ p hu',.int_list _ _ p hu'⟩
 | str d=>
  obtain⟨t0,rfl⟩:=ru;cases rq with
  | non=>obtain rfl:w=Value.none:=rw';unfold eqF at h;cases h;exact⟨.str_none _ _,.str_none _ _,.str_none _ _⟩
  | bl c=>obtain rfl:w=Value.bool c:=rw';unfold eqF at h;cases h;exact⟨.str_bool _ _ _,.str_bool _ _ _,.str_bool _ _ _⟩
  | int c=>obtain⟨t,rfl⟩:=rw';unfold eqF at h;cases h;exact⟨.str_int _ _ _ _,.str_int _ _ _ _,.str_int _ _ _ _⟩
  | str c=>obtain⟨t,rfl⟩:=rw';unfold eqF at h;cases h;exact⟨.str_str _ _ _ _,.str_str _ _ _ _,.str_str _ _ _ _⟩
  | tup h1 r1=>obtain rfl:w=Value.ref _:=rw';unfold eqF at h;cases h;obtain⟨i,_,p,_⟩:=ZJ I h1 r1;exact⟨.str_tuple _ _ p hu',.str_tuple _ _ p hu',.str_tuple _ _ p hu'⟩
  | lst h1 r1=>obtain rfl:w=Value.ref _:=rw';unfold eqF at h;cases h;obtain⟨i,_,p,_⟩:=zT I (.inl h1) r1;exact⟨.str_list _ _ p hu',.str_list _ _ p hu',.str_list _ _ p hu'⟩
  | fz h1 r1=>obtain rfl:w=Value.ref _:=rw';unfold eqF at h;cases h;obtain⟨i,_,p,_⟩:=zT I (.inr ⟨_,h1⟩) r1;exact⟨.str_list _ _ p hu',.str_list _ _ p hu',.str_list _ _ p hu'⟩
 | tup h0 r0=>
  obtain rfl:u=Value.ref _:=ru;obtain⟨i0,_,p0,_⟩:=ZJ I h0 r0;cases rq with
  | non=>obtain rfl:w=Value.none:=rw';unfold eqF at h;cases h;exact⟨.tuple_none p0 hu',.tuple_none p0 hu',.tuple_none p0 hu'⟩
  | bl c=>obtain rfl:w=Value.bool c:=rw';unfold eqF at h;cases h;exact⟨.tuple_bool _ p0 hu',.tuple_bool _ p0 hu',.tuple_bool _ p0 hu'⟩
  | int c=>obtain⟨t,rfl⟩:=rw';unfold eqF at h;cases h;exact⟨.tuple_int _ _ p0 hu',.tuple_int _ _ p0 hu',.tuple_int _ _ p0 hu'⟩
  | str c=>obtain⟨t,rfl⟩:=rw';unfold eqF at h;cases h;exact⟨.tuple_str _ _ p0 hu',.tuple_str _ _ p0 hu',.tuple_str _ _ p0 hu'⟩
  | tup h1 r1=>unfold eqF at h;cases h
  | lst h1 r1=>obtain rfl:w=Value.ref _:=rw';unfold eqF at h;cases h;obtain⟨i,_,p,_⟩:=zT I (.inl h1) r1;exact⟨.tuple_list p0 p hu',.tuple_list p0 p hu',.tuple_list p0 p hu'⟩
  | fz h1 r1=>obtain rfl:w=Value.ref _:=rw';unfold eqF at h;cases h;obtain⟨i,_,p,_⟩:=zT I (.inr ⟨_,h1⟩) r1;exact⟨.tuple_list p0 p hu',.tuple_list p0 p hu',.tuple_list p0 p hu'⟩
 | lst h0 r0=>
  obtain rfl:u=Value.ref _:=ru;obtain⟨i0,_,p0,_⟩:=zT I (.inl h0) r0;cases rq with
  | non=>obtain rfl:w=Value.none:=rw';unfold eqF at h;cases h;exact⟨.list_none p0 hu',.list_none p0 hu',.list_none p0 hu'⟩
  | bl c=>obtain rfl:w=Value.bool c:=rw';unfold eqF at h;cases h;exact⟨.list_bool _ p0 hu',.list_bool _ p0 hu',.list_bool _ p0 hu'⟩
  | int c=>obtain⟨t,rfl⟩:=rw';unfold eqF at h;cases h;exact⟨.list_int _ _ p0 hu',.list_int _ _ p0 hu',.list_int _ _ p0 hu'⟩
  | str c=>obtain⟨t,rfl⟩:=rw';unfold eqF at h;cases h;exact⟨.list_str _ _ p0 hu',.list_str _ _ p0 hu',.list_str _ _ p0 hu'⟩
  | tup h1 r1=>obtain rfl:w=Value.ref _:=rw';unfold eqF at h;cases h;obtain⟨i,_,p,_⟩:=ZJ I h1 r1;exact⟨.list_tuple p0 p hu',.list_tuple p0 p hu',.list_tuple p0 p hu'⟩
  | lst h1 r1=>unfold eqF at h;cases h
  | fz h1 r1=>unfold eqF at h;cases h
 | fz h0 r0=>
  obtain rfl:u=Value.ref _:=ru;obtain⟨i0,_,p0,_⟩:=zT I (.inr ⟨_,h0⟩) r0;cases rq with
  | non=>obtain rfl:w=Value.none:=rw';unfold eqF at h;cases h;exact⟨.list_none p0 hu',.list_none p0 hu',.list_none p0 hu'⟩
  | bl c=>obtain rfl:w=Value.bool c:=rw';unfold eqF at h;cases h;exact⟨.list_bool _ p0 hu',.list_bool _ p0 hu',.list_bool _ p0 hu'⟩
  | int c=>obtain⟨t,rfl⟩:=rw';unfold eqF at h;cases h;exact⟨.list_int _ _ p0 hu',.list_int _ _ p0 hu',.list_int _ _ p0 hu'⟩
  | str c=>obtain⟨t,rfl⟩:=rw';unfold eqF at h;cases h;exact⟨.list_str _ _ p0 hu',.list_str _ _ p0 hu',.list_str _ _ p0 hu'⟩
  | tup h1 r1=>obtain rfl:w=Value.ref _:=rw';unfold eqF at h;cases h;obtain⟨i,_,p,_⟩:=ZJ I h1 r1;exact⟨.list_tuple p0 p hu',.list_tuple p0 p hu',.list_tuple p0 p hu'⟩
  | lst h1 r1=>unfold eqF at h;cases h
  | fz h1 r1=>unfold eqF at h;cases h
set_option maxHeartbeats 2000000 in
theorem yY (I:L2.Inv X pins σ H s):∀(n:Nat) (A:Around),A.units+n < cLine->∀(x y:T) (b:Bool) (p q:V) (u w:Value),eqF n x y=some b->Rep H p x->Rep H q y->Zc p u->Zc q w->EqN A s u w b:=by
 intro n
 induction n with
 | zero=>exact λA hu x y b p q u w h=>yX I A (by omega) x y b p q u w h
 | succ n ih=>
  intro A hu x y b p q u w h rp rq ru rw';have low:=λh=>yX I A (by omega) x y b p q u w h rp rq ru rw'
  have hu' :A.units < cLine:=by omega
  have ih' :=ih A.in1 (by rw[jC];omega)
  cases rp with
  | tup h0 r0=>
   cases rq with
   | tup h1 r1=>
    obtain rfl:u=Value.ref _:=ru;obtain rfl:w=Value.ref _:=rw';exact x9 I hu' h0 h1 r0 r1 h (Zd n) ih'
   | _=>exact low (by exact h)
  | lst h0 r0=>
   cases rq with
   | lst h1 r1=>
    obtain rfl:u=Value.ref _:=ru;obtain rfl:w=Value.ref _:=rw';exact wF I hu' (.inl h0) (.inl h1) r0 r1 h (Zd n) ih'
   | fz h1 r1=>
    obtain rfl:u=Value.ref _:=ru;obtain rfl:w=Value.ref _:=rw';exact wF I hu' (.inl h0) (.inr ⟨_,h1⟩) r0 r1 h (Zd n) ih'
   | _=>exact low (by exact h)
  | fz h0 r0=>
   cases rq with
   | lst h1 r1=>
    obtain rfl:u=Value.ref _:=ru;obtain rfl:w=Value.ref _:=rw';exact wF I hu' (.inr ⟨_,h0⟩) (.inl h1) r0 r1 h (Zd n) ih'
   | fz h1 r1=>
    obtain rfl:u=Value.ref _:=ru;obtain rfl:w=Value.ref _:=rw';exact wF I hu' (.inr ⟨_,h0⟩) (.inr ⟨_,h1⟩) r0 r1 h (Zd n) ih'
   | _=>exact low (by exact h)
  | _=>exact low (by cases rq <;> (exact h))
end
section
def rG (Y:Fx)(g:T->T->R T):R2:=λx y H Q=>∃B t t',zv B H/\Rep B x t/\Rep B y t' /\Po Y rC B H (g t t') Q
def zb (g:T->T->R T)(fa fb:En->R T):En->R T:=λρ=>(fa ρ).bind λx=>(fb ρ).bind λy=>g x y
theorem yZ (ho:OpR X (binaryOp op) (rG Y g))(ha:Snd X Y a fa)(hb:Snd X Y b fb):Snd X Y (.BinOp a op b pos) (zb g fa fb):= .mk λρ=>
 PE.imp (z0q ho (ha ρ) (hb ρ)) λσ H Q ⟨B,I,q⟩=>step I q λt v H1 _ s1 r1 I1 q1=>step I1 q1 λt' v' H2 _ s2 r2 I2 q2=>
  ⟨_,t,t',I2.sB,r1.mono (zO.ge I1.sB s2),r2,q2⟩
theorem po0 (sB:zv B H)(q:Po Y rC B H g Q)(e:g= .ok t)(r:Rep B v t):Q v H:=by
 subst e;exact q v H (zv.refl H) (by rw[zO.self B H sB];exact r)
theorem kT (sB:zv B H)(q:Po Y rC B H g Q)(e:g= .ok (.tup ts))(r:zE B xs ts)(h:H p=none):Q (.ref p) (upd H p (.tup xs)):=by
 subst e;exact q _ _ (zv.new h _) (.tup (jb h _) (r.mono (zO.ge sB (zv.new h _))))
theorem kU (sB:zv B H)(q:Po Y rC B H g Q)(e:g= .ok (.lst ts))(r:zE B xs ts)(h:H p=none):Q (.ref p) (upd H p (.lst xs)):=by
 subst e;exact q _ _ (zv.new h _) (.lst (jb h _) (r.mono (zO.ge sB (zv.new h _))))
def zC:T->T->R T
 | .int i,.int j=> .ok (.int (i+j))
 | .bl x,.int j=> .ok (.int (b2 x+j))
 | .int i,.bl y=> .ok (.int (i+b2 y))
 | .str x,.str y=>if x.length+y.length<=bnd then .ok (.str (x++y)) else .bad
 | .tup xs,.tup ys=>if xs.length+ys.length<=bnd then .ok (.tup (xs++ys)) else .bad
 | .lst xs,.lst ys=>if xs.length+ys.length<=bnd then .ok (.lst (xs++ys)) else .bad
 | _,_=> .bad
theorem QC {prog:Program}{w:World}{A:Around}{E:Value->Shared->Prop}{s:Shared}{t b:Addr}{vs ws:List Value}{Q:Value->Shared->Prop}(ht:IsTup s.heap t vs.toArray)(hb:IsTup s.heap b ws.toArray)(hv:vs=[])
  (h1:Q (.ref b) s):wpAny (model prog w) A (binaryOp .Add (.ref t) (.ref b)) Q E s:=by
 obtain⟨⟨cls,dd,data,sl⟩,ho,hc,n,hd⟩:=id ht;obtain⟨⟨cls2,dd2,data2,sl2⟩,ho2,hc2,n2,hd2⟩:=id hb;subst hc hd hc2 hd2;exact concat_meets ⟨_,ho,rfl⟩ ⟨_,ho2,rfl⟩ noFill_tuple_add seq_tuple_add de d9 (cX _ _)
   (tuple_addW0 t b _ _ n n2 dd dd2 sl sl2 (by simp[hv])) ⟨ho,ho2,h1⟩
theorem xa:OpR X (binaryOp .Add) (rG Y zC):=by
 intro pins s σ H x y v u Q I rx ry h;obtain⟨B,t,t',sB,r,r',q⟩:=h;cases r with
 | int i=>
  cases r' with
  | int j=>exact kx pins s σ H _ _ v u Q I rx ry ⟨i,j,rfl,rfl,po0 sB q rfl (.int _)⟩
  | bl y=>exact yB pins s σ H _ _ v u Q I rx ry ⟨i,y,rfl,rfl,po0 sB q rfl (.int _)⟩
  | _=>exact q.elim
 | bl x=>
  cases r' with
  | int j=>
   obtain rfl:v=Value.bool x:=rx;obtain⟨tk,rfl⟩:=ry;exact IntBool.add_bool_int (⟨.int _,H,I.tok _,⟨_,rfl⟩,po0 sB q rfl (.int _)⟩)
  | _=>exact q.elim
 | str x=>
  cases r' with
  | str y=>
   by_cases hb:x.length+y.length<=bnd
   ·exact UB pins s σ H _ _ v u Q I rx ry ⟨x,y,rfl,rfl,Zs hb,po0 sB q (if_pos hb) (.str _)⟩
   ·rw[show zC (.str x) (.str y)= .bad from if_neg hb]at q;exact q.elim
  | _=>exact q.elim
 | @tup a xs ts h1 r1=>
  cases r' with
  | @tup a' ys us h2 r2=>
   by_cases hb:ts.length+us.length<=bnd
   ·have eg:zC (.tup ts) (.tup us)= .ok _:=if_pos hb;have hz:xs.length+ys.length<=sizeLine:=by rw[r1.length,r2.length];exact Zs hb
    by_cases hx:xs=[]
    ·obtain rfl:v=Value.ref a:=rx;obtain rfl:u=Value.ref a' :=ry;obtain⟨its,rv,p,_⟩:=I.tuple (SqT.of (sB _ _ h1));obtain⟨its',rv',p',_⟩:=I.tuple (SqT.of (sB _ _ h2));have et:=r1.nil_iff.mp hx;refine QC p p' (rv.nil_iff.mpr hx) ⟨.ref a',H,I,rfl,po0 sB q eg ?_⟩;rw[et];exact .tup h2 r2
    ·refine VS _ s σ H _ _ v u Q I rx ry ⟨a,a',xs,ys,rfl,rfl,SqT.of (sB _ _ h1),SqT.of (sB _ _ h2),hx,hz,λhy=> ?_,λhy p hp=> ?_⟩
     ·refine po0 sB q eg ?_;rw[r2.nil_iff.mp hy,aW];exact .tup h1 r1
     ·exact kT sB q eg (r1.append r2) hp
   ·rw[show zC (.tup ts) (.tup us)= .bad from if_neg hb]at q;exact q.elim
  | _=>exact q.elim
 | @lst a xs ts h1 r1=>
  cases r' with
  | @lst a' ys us h2 r2=>
   by_cases hb:ts.length+us.length<=bnd
   ·have eg:zC (.lst ts) (.lst us)= .ok _:=if_pos hb;have hz:xs.length+ys.length<=sizeLine:=by rw[r1.length,r2.length];exact Zs hb
    exact kL _ s σ H _ _ v u Q I rx ry ⟨a,a',xs,ys,rfl,rfl,sB _ _ h1,sB _ _ h2,hz,λp hp=>kU sB q eg (r1.append r2) hp⟩
   ·rw[show zC (.lst ts) (.lst us)= .bad from if_neg hb]at q;exact q.elim
  | _=>exact q.elim
 | _=>cases r' <;> exact q.elim
theorem z0F (ha:Snd X Y a fa)(hb:Snd X Y b fb):Snd X Y (.BinOp a .Add b pos) (zb zC fa fb):=yZ xa ha hb
noncomputable def ZY:T->T->R T
 | .int i,.int j=> .ok (.int (i - j))
 | _,_=> .bad
noncomputable def jR:T->T->R T
 | .int i,.int j=>if 0 < j then .ok (.int (i % j)) else .bad
 | _,_=> .bad
noncomputable def wG:T->T->R T
 | .int i,.int j=>if 0 < j/\j < 1073741824 then .ok (.int (i / j)) else .bad
 | _,_=> .bad
instance (i j:Int):Decidable (WZ i j):=by unfold WZ;infer_instance
def Z6:T->T->R T
 | .int i,.int j=>if WZ i j then .ok (.int (i*j)) else .bad
 | .lst xs,.int k=>if 0<=k/\k < 1000000/\xs.length*k.toNat<=bnd then .ok (.lst (ai k.toNat xs).flatten) else .bad
 | .tup xs,.int k=>if 2<=k/\k < 1000000/\xs ≠ []/\xs.length*k.toNat<=bnd then .ok (.tup (ai k.toNat xs).flatten) else .bad
 | _,_=> .bad
theorem xb:OpR X (binaryOp .Sub) (rG Y ZY):=by
 intro pins s σ H x y v u Q I rx ry h;obtain⟨B,t,t',sB,r,r',q⟩:=h;cases r with
 | int i=>
  cases r' with
  | int j=>exact ky _ s σ H _ _ v u Q I rx ry ⟨i,j,rfl,rfl,po0 sB q rfl (.int _)⟩
  | _=>exact q.elim
 | _=>cases r' <;> exact q.elim
theorem xf:OpR X (binaryOp .Mod) (rG Y jR):=by
 intro pins s σ H x y v u Q I rx ry h;obtain⟨B,t,t',sB,r,r',q⟩:=h;cases r with
 | int i=>
  cases r' with
  | int j=>
   by_cases hj:0 < j
   ·exact kA _ s σ H _ _ v u Q I rx ry ⟨i,j,rfl,rfl,hj,po0 sB q (if_pos hj) (.int _)⟩
   ·rw[show jR (.int i) (.int j)= .bad from if_neg hj]at q;exact q.elim
  | _=>exact q.elim
 | _=>cases r' <;> exact q.elim
theorem QE:OpR X (binaryOp .FloorDiv) (rG Y wG):=by
 intro pins s σ H x y v u Q I rx ry h;obtain⟨B,t,t',sB,r,r',q⟩:=h;cases r with
 | int i=>
  cases r' with
  | int j=>
   by_cases hj:0 < j/\j < 1073741824
   ·exact VF _ s σ H _ _ v u Q I rx ry ⟨i,j,rfl,rfl,hj,po0 sB q (if_pos hj) (.int _)⟩
   ·rw[show wG (.int i) (.int j)= .bad from if_neg hj]at q;exact q.elim
  | _=>exact q.elim
 | _=>cases r' <;> exact q.elim
theorem UP (l:Addr)(items:Array Value)(n:Nat)(dd:Option Addr)(sl:Array (Option Value))(x:Int)(u:Tok)(h1:2<=x)(h2:x < 1000000)(hne:items.isEmpty=false)(hsz:items.size*x.toNat<=sizeLine):
  Meets (Builtin.«tuple.__mul__» ⟨[.ref l,.int x u],[]⟩) (λ_ R s=>s.heap.get? l=some { cls:= .type "tuple",dict:=dd,data:= .seq items n,slots:=sl }/\
   R (.ok (.ret (Value.ref s.heap.objs.size))) { s with heap:=s.heap.push { cls:=Value.type "tuple",data:=Data.seq (dJ (λx1 x2=>x1++x2) #[] (ai x.toNat items)) },toks:=s.toks }):=
 .of_wp λprog w A R s h=>by
  obtain⟨hl,h⟩:=h;have e0:(items.size:Int)*x=((items.size*x.toNat:Nat):Int):=by
   have:x=((x.toNat:Nat):Int):=by omega
   rw[iw,← this]
  have sl1:(sizeLine:Nat)=16777216:=bT;have c1:¬ (decide (x < -(2 ^ 63)) || decide (x ≥ 2 ^ 63))=true:=by simp;omega
  have c2:¬ (items.isEmpty || x == 1)=true:=by simp[hne];omega
  have c3:¬ (decide (x<=0) || items.isEmpty)=true:=by simp[hne];omega
  have c4:¬ ((items.size:Int)*x > (2 ^ 63 - 1) / 8):=by rw[e0];omega
  have c5:¬ dL ((items.size:Int)*x)=true:=by
   unfold dL;rw[e0];intro z;have:=of_decide_eq_true z;omega
  unfold Builtin.«tuple.__mul__»
  wp_walk using wpAny_loadPart' hl
  rw[if_neg c1]
  wp_walk using wpAny_loadPart' hl
  rw[if_neg c2]
  try dsimp only
  rw[if_neg c3]
  try dsimp only
  rw[if_neg c4]
  try dsimp only
  rw[if_neg c5]
  try dsimp only
  have hsz' :sizeOk (.seq (dJ (λx1 x2=>x1++x2) #[] (ai x.toNat items))):=by
   show (dJ (λx1 x2=>x1++x2) #[] _).size<=sizeLine;have:=jA items.toList x.toNat [];have q:=by
    simpa using this
   rw[q,ay,jP,cO];exact hsz
  exact a7 (bv (au ⟨_,rfl,h⟩) hsz')
theorem Wo:seqRepeat? (.type "tuple")=pure (some (.builtin "tuple.__mul__")):=by
 unfold seqRepeat?;rw[i7 (name:="__mul__") eG.lookup (by decide+kernel),i7 (name:="__rmul__") g7.lookup (by decide+kernel)]
 rfl
theorem Jd:fillsNumberSlot (.type "tuple") "mul"=pure false:=
 PySem.fillsNumberSlot_seq eG.lookup (by decide+kernel) g7.lookup (by decide+kernel)
theorem JV (a:Int)(t:Tok)(l:Addr)(items:Array Value)(n:Nat)(dd:Option Addr)(sl:Array (Option Value)):
  Meets (Builtin.«int.__rmul__» ⟨[.int a t,.ref l],[]⟩) (λ_ R s=>s.heap.get? l=some { cls:= .type "tuple",dict:=dd,data:= .seq items n,slots:=sl }/\R (.ok (.ret Value.notImplemented)) s):=
 .of_wp λprog w A R s h=>by obtain⟨hl,h⟩:=h;wp_walk;exact⟨_,rfl,h⟩
theorem xg {t:Tok}(p:IsTup s.heap l its.toArray)(hne:its ≠ [])(h1:2<=k)(h2:k < 1000000)
  (hsz:its.length*k.toNat<=sizeLine) (q:Q (.ref s.heap.objs.size) { s with heap:=s.heap.push { cls:= .type "tuple",data:= .seq (ai k.toNat its).flatten.toArray } }):
  wpAny (model prog w) A (binaryOp .Mult (.ref l) (.int k t)) Q E s:=by
 obtain⟨⟨cls,dd,data,sl⟩,ho,hc,n,hd⟩:=id p;subst hc hd;refine wpAny_binaryOp_repeat_ref (by decide) ⟨_,ho,rfl⟩ (λs' =>typeIs_int s' k t) Jd ir dA Wo i5.lookup
  (cK dA (typeIs_int s k t) i6 (fZ _ _) (JV k t l _ n dd sl)
   ⟨ho,rfl,⟨_,ho,rfl⟩,cK eG ⟨_,ho,rfl⟩ F.entry_tuple_mul (F.args_tuple_mul_2 _ _) (UP l _ n dd sl k t h1 h2 (by simpa using hne) (by simpa using hsz)) ⟨ho, ?_⟩⟩)
 have:=jA its k.toNat [];rw[this];exact q
theorem xh:OpR X (binaryOp .Mult) (rG Y Z6):=by
 intro pins s σ H x y v u Q I rx ry h;obtain⟨B,t,t',sB,r,r',q⟩:=h;cases r with
 | int i=>
  cases r' with
  | int j=>
   by_cases hj:WZ i j
   ·exact kz _ s σ H _ _ v u Q I rx ry ⟨i,j,rfl,rfl,hj,po0 sB q (if_pos hj) (.int _)⟩
   ·rw[show Z6 (.int i) (.int j)= .bad from if_neg hj]at q;exact q.elim
  | _=>exact q.elim
 | @lst l xs ts h1 r1=>
  cases r' with
  | int k=>
   by_cases hk:0<=k/\k < 1000000/\ts.length*k.toNat<=bnd
   ·have eg:Z6 (.lst ts) (.int k)= .ok _:=if_pos hk;exact kN _ s σ H _ _ v u Q I rx ry ⟨l,k,xs,rfl,rfl,sB _ _ h1,by omega,by omega,by rw[r1.length];exact Zs hk.2.2,λp hp=>kU sB q eg (r1.rep _) hp⟩
   ·rw[show Z6 (.lst ts) (.int k)= .bad from if_neg hk]at q;exact q.elim
  | _=>exact q.elim
 | @tup l xs ts h1 r1=>
  cases r' with
  | int k=>
   by_cases hk:2<=k/\k < 1000000/\ts ≠ []/\ts.length*k.toNat<=bnd
   ·have eg:Z6 (.tup ts) (.int k)= .ok _:=if_pos hk;obtain rfl:v=Value.ref l:=rx;obtain⟨tk,rfl⟩:=ry;obtain⟨its,rv,p,_⟩:=I.tuple (SqT.of (sB _ _ h1));have ln:=r1.length.symm.trans rv.length;have hne:its ≠ []:=λz=>hk.2.2.1 (by rw[z]at ln;exact eH.mp ln)
    refine xg p hne hk.1 hk.2.1 (by rw[← ln];exact Zs hk.2.2.2) ⟨.ref _,upd H _ (.tup (ai k.toNat xs).flatten),I.laid (λb u e=>aa _ e) (aj _) ?_,rfl, ?_⟩
    ·exact⟨by rw[jP,r1.length,cO];exact Zs hk.2.2.2,(ai _ its).flatten,rv.rep _,⟨_,ah _ rfl,rfl,_,rfl⟩,.inr ⟨_,ah _ rfl,rfl⟩⟩
    ·exact kT sB q eg (r1.rep _) (I.hok.fresh (aj _))
   ·rw[show Z6 (.tup ts) (.int k)= .bad from if_neg hk]at q;exact q.elim
  | _=>exact q.elim
 | _=>cases r' <;> exact q.elim
theorem z0G (ha:Snd X Y a fa)(hb:Snd X Y b fb):Snd X Y (.BinOp a .Sub b pos) (zb ZY fa fb):=yZ xb ha hb
theorem z0H (ha:Snd X Y a fa)(hb:Snd X Y b fb):Snd X Y (.BinOp a .Mod b pos) (zb jR fa fb):=yZ xf ha hb
theorem kW (ha:Snd X Y a fa)(hb:Snd X Y b fb):Snd X Y (.BinOp a .FloorDiv b pos) (zb wG fa fb):=yZ QE ha hb
theorem z0I (ha:Snd X Y a fa)(hb:Snd X Y b fb):Snd X Y (.BinOp a .Mult b pos) (zb Z6 fa fb):=yZ xh ha hb
def Wp (fa:En->R T):En->R T:=λρ=>(fa ρ).bind λx=>match x with
 | .int i=> .ok (.int (-i))
 | _=> .bad
theorem z0J (ha:Snd X Y a fa):Snd X Y (.UnaryOp .USub a pos) (Wp fa):= .mk λρ=>PE.imp (z0r kB (ha ρ)) λσ H Q ⟨B,I,q⟩=>step I q λt v H1 _ s1 r1 I1 q1=>by
 cases r1 with
 | int i=>exact⟨i,rfl,po0 I1.sB q1 rfl (.int _)⟩
 | _=>exact q1.elim
def wH (g:T->T->R Bool):R2:=λx y H Q=>∃t t' b,Rep H x t/\Rep H y t' /\g t t' = .ok b/\Q (.bl b) H
def ZV (g:T->T->R Bool)(fa fb:En->R T):En->R T:=λρ=>(fa ρ).bind λx=>(fb ρ).bind λy=>(g x y).bind λb=> .ok (.bl b)
def zD (g:T->T->R Bool)(fa fb:En->R T):En->R Bool:=λρ=>(fa ρ).bind λx=>(fb ρ).bind λy=>g x y
noncomputable def Nx (g:T->T->R Bool):Prop:=∀t t' c,g t t' ≠ .ex c
theorem Y0 (nx:Nx g)(ho:OpR X (compareOp op) (wH g))(ha:j6 X Y a fa)(hb:j6 X Y b fb)(hm:behindInMarks op b=false):Snd X Y (.Compare a [op] [b] pos) (ZV g fa fb):= .mk λρ=>
 PE.imp (VG ho (ha ρ) (hb ρ) hm) λσ H Q ⟨B,I,q⟩=>step I q λt v H1 _ s1 r1 I1 q1=>step I1 q1 λt' v' H2 _ s2 r2 I2 q2=>by
  cases e:g t t' with
  | bad=>rw[e]at q2;exact q2.elim
  | ex c=>exact absurd e (nx _ _ _)
  | ok b=>rw[e]at q2;exact⟨t,t',b,r1.mono s2,r2,e,ZB I2 q2 (.bl b)⟩
theorem ua (nx:Nx g)(ho:OpR X (compareOp op) (wH g))(ha:j6 X Y a fa)(hb:j6 X Y b fb)(hm:behindInMarks op b=false):W7 X Y (.Compare a [op] [b] pos) (zD g fa fb):= .mk λρ=>
 PT.imp (yC ho (ha ρ) (hb ρ) hm) λσ H Q ⟨B,I,q⟩=>step I q λt v H1 _ s1 r1 I1 q1=>step I1 q1 λt' v' H2 _ s2 r2 I2 q2=>by
  cases e:g t t' with
  | bad=>rw[e]at q2;exact q2.elim
  | ex c=>exact absurd e (nx _ _ _)
  | ok b=>rw[e]at q2;exact⟨t,t',b,r1.mono s2,r2,e,b,rfl,ZB I2 q2 rfl⟩
def eqC (t t' :T):R Bool:=match eqF 30 t t' with
 | some b=> .ok b
 | none=> .bad
def neC (t t' :T):R Bool:=match eqF 30 t t' with
 | some b=> .ok (!b)
 | none=> .bad
theorem kX:Nx eqC:=λt t' c h=>by unfold eqC at h;split at h <;> cases h
theorem xi:Nx neC:=λt t' c h=>by unfold neC at h;split at h <;> cases h
theorem V5 (hu:X.A.units+64 < cLine):OpR X (compareOp .Eq) (wH eqC):=by
 intro pins s σ H x y v u Q I rx ry h;obtain⟨t,t',b,r,r',e,q⟩:=h;unfold eqC at e;split at e
 ·rename_i k ek;have e' :=by injection e
  subst e';exact(yY I 30 X.A (by omega) t t' k x y v u ek r r' rx ry).2.1 _ _ _ _ ⟨.bl k,H,I,rfl,q⟩
 ·cases e
theorem Y1 (hu:X.A.units+64 < cLine):OpR X (compareOp .NotEq) (wH neC):=by
 intro pins s σ H x y v u Q I rx ry h;obtain⟨t,t',b,r,r',e,q⟩:=h;unfold neC at e;split at e
 ·rename_i k ek;cases e;exact(yY I 30 X.A (by omega) t t' k x y v u ek r r' rx ry).2.2 _ _ _ _ ⟨.bl _,H,I,rfl,q⟩
 ·cases e
noncomputable def ltC:T->T->R Bool
 | .int i,.int j=> .ok (decide (i < j))
 | _,_=> .bad
noncomputable def leC:T->T->R Bool
 | .int i,.int j=> .ok (decide (i<=j))
 | .str x,.str y=> .ok (!decide (y.cps.toList < x.cps.toList))
 | _,_=> .bad
noncomputable def gtC:T->T->R Bool
 | .int i,.int j=> .ok (decide (j < i))
 | _,_=> .bad
noncomputable def geC:T->T->R Bool
 | .int i,.int j=> .ok (decide (j<=i))
 | _,_=> .bad
theorem z0K:Nx ltC:=λt t' c h=>by unfold ltC at h;split at h <;> cases h
theorem wI:Nx leC:=λt t' c h=>by unfold leC at h;split at h <;> cases h
theorem z0L:Nx gtC:=λt t' c h=>by unfold gtC at h;split at h <;> cases h
theorem z0M:Nx geC:=λt t' c h=>by unfold geC at h;split at h <;> cases h
theorem kY:OpR X (compareOp .Lt) (wH ltC):=by
 intro pins s σ H x y v u Q I rx ry h;obtain⟨t,t',b,r,r',e,q⟩:=h;unfold ltC at e;split at e
 ·rename_i i j;cases e;cases r;cases r';exact z0s _ s σ H _ _ v u Q I rx ry ⟨i,j,rfl,rfl,q⟩
 ·cases e
theorem kZ:OpR X (compareOp .Gt) (wH gtC):=by
 intro pins s σ H x y v u Q I rx ry h;obtain⟨t,t',b,r,r',e,q⟩:=h;unfold gtC at e;split at e
 ·rename_i i j;cases e;cases r;cases r';exact z0u _ s σ H _ _ v u Q I rx ry ⟨i,j,rfl,rfl,q⟩
 ·cases e
theorem K0:OpR X (compareOp .GtE) (wH geC):=by
 intro pins s σ H x y v u Q I rx ry h;obtain⟨t,t',b,r,r',e,q⟩:=h;unfold geC at e;split at e
 ·rename_i i j;cases e;cases r;cases r';exact z0v _ s σ H _ _ v u Q I rx ry ⟨i,j,rfl,rfl,q⟩
 ·cases e
theorem jD:OpR X (compareOp .LtE) (wH leC):=by
 intro pins s σ H x y v u Q I rx ry h;obtain⟨t,t',b,r,r',e,q⟩:=h;unfold leC at e;split at e
 ·rename_i i j;cases e;cases r;cases r';exact z0t _ s σ H _ _ v u Q I rx ry ⟨i,j,rfl,rfl,q⟩
 ·cases e;cases r;cases r';obtain⟨t1,rfl⟩:=rx;obtain⟨t2,rfl⟩:=ry;exact PySem.P.le_str ⟨.bl _,H,I,rfl,q⟩
 ·cases e
end
section
variable {X:Cx}{Y:Fx}{a b c d:Expr}{fa fb fc fd:En->R T}{pos:Pos}
noncomputable def W8 (f:T->Option Bool):List T->Option Bool
 | []=>some false
 | t :: r=>match f t with
  | none=>none
  | some b=>match W8 f r with
   | none=>none
   | some c=>some (b || c)
def inC (t t' :T):R Bool:=match t' with
 | .tup ys=>match W8 (λy=>eqF 30 y t) ys with | some b=> .ok b | none=> .bad
 | .lst ys=>match W8 (λy=>eqF 30 y t) ys with | some b=> .ok b | none=> .bad
 | _=> .bad
def QF (t t' :T):R Bool:=(inC t t').bind λb=> .ok (!b)
theorem QG:Nx inC:=λt t' c h=>by
 unfold inC at h;split at h
 ·split at h <;> cases h
 ·split at h <;> cases h
 ·cases h
theorem K1:Nx QF:=λt t' c h=>by
 unfold QF at h;cases e:inC t t' with
 | bad=>rw[e]at h;cases h
 | ex k=>exact absurd e (QG _ _ _)
 | ok k=>rw[e]at h;cases h
open Classical in
theorem ub (f:T->Option Bool):∃e:Value->Bool,∀(v:V) (t:T) (u:Value) (b:Bool),Zc v u->Rep H v t->f t=some b->e u=b:=by
 refine⟨λu=>decide (∃v t,Zc v u/\Rep H v t/\f t=some true),λv t u b rv r e=> ?_⟩;cases b with
 | true=>exact decide_eq_true ⟨v,t,rv,r,e⟩
 | false=>
  refine decide_eq_false ?_
  rintro⟨v',t',rv',r',e'⟩
  have:=rv.inj rv';subst this;have:=r.fn r';subst this;rw[e]at e';cases e'
theorem Y2 {H:Hp}{f:T->Option Bool}{e:Value->Bool}(he:∀(v:V) (t:T) (u:Value) (b:Bool),Zc v u->Rep H v t->f t=some b->e u=b):∀{xs:List V} {ts:List T} {its:List Value} {b:Bool},
  zS xs its->zE H xs ts->W8 f ts=some b->its.any e=b/\∀u∈its,∃v t k,Zc v u/\Rep H v t/\f t=some k
 | _,_,_,b,.nil,.nil,h=>by
  have h' :=h;cases h';exact⟨rfl,λu hu=>by simp at hu⟩
 | _,_,_,b,.cons rv vs,.cons r rs,h=>by
  rename_i v u vals us t ts;unfold W8 at h;cases q:f t with
  | none=>rw[q]at h;cases h
  | some k=>
   rw[q]at h;cases q' :W8 f ts with
   | none=>rw[q']at h;cases h
   | some k' =>
    rw[q']at h;cases h;obtain⟨h1,h2⟩:=Y2 he vs rs q';refine⟨by rw[fJ,h1,he v t u k rv r q],λw hw=> ?_⟩
    rcases am.mp hw with rfl | hw
    ·exact⟨v,t,k,rv,r,q⟩
    ·exact h2 w hw
theorem Y3 (hu:X.A.units+64 < cLine)(neg:Bool):OpR X (compareOp (if neg then .NotIn else .In)) (wH (if neg then QF else inC)):=by
 intro pins s σ H x y v u Q I rx ry h;obtain⟨t,t',b,r,r',e,q⟩:=h;have hs:∃k,inC t t' = .ok k/\b=(if neg then !k else k):=by
  cases neg with
  | false=>exact⟨b,e,rfl⟩
  | true=>
   have e' :QF t t' = .ok b:=e;unfold QF at e';cases z:inC t t' with
   | bad=>rw[z]at e';cases e'
   | ex k=>exact absurd z (QG _ _ _)
   | ok k=>rw[z]at e';cases e';exact⟨k,rfl,rfl⟩
 obtain⟨k,ek,rfl⟩:=hs;unfold inC at ek;obtain⟨f,hf⟩:=ub λy=>eqF 30 y t;have eqa:∀w,(∃v t' k,Zc v w/\Rep H v t' /\eqF 30 t' t=some k)->cJ X.A.in1 s w v (f w):=λw ⟨v',t',k,rv,rr,ee⟩=>by
  rw[hf v' t' w k rv rr ee];exact(yY I 30 _ (by rw[jC];omega) t' t k v' x w v ee rr r rv rx).1
 split at ek
 ·split at ek
  ·rename_i k' hk;cases ek;cases r' with
   | @tup l xs _ h1 r1=>
    obtain rfl:u=Value.ref l:=ry;obtain⟨its,rv,p,_⟩:=ZJ I h1 r1;obtain⟨h2,h3⟩:=Y2 hf rv r1 hk;have h4:its.toArray.any f=k:=by simpa using h2
    cases neg with
    | false=>exact SeqAt.in_tupleAt f p (λw hw=>eqa w (h3 w (by simpa using hw))) (by rw[h4];exact⟨.bl k,H,I,rfl,q⟩)
    | true=>exact SeqAt.notIn_tupleAt f p (λw hw=>eqa w (h3 w (by simpa using hw))) (by rw[h4];exact⟨.bl _,H,I,rfl,q⟩)
  ·cases ek
 ·split at ek
  ·rename_i k' hk;cases ek;cases r' with
   | @lst l xs _ h1 r1=>
    obtain rfl:u=Value.ref l:=ry;obtain⟨its,rv,p,_⟩:=zT I (.inl h1) r1;obtain⟨h2,h3⟩:=Y2 hf rv r1 hk;have h4:its.toArray.any f=k:=by simpa using h2
    cases neg with
    | false=>exact SeqAt.in_listAt f p (λw hw=>eqa w (h3 w (by simpa using hw))) (by rw[h4];exact⟨.bl k,H,I,rfl,q⟩)
    | true=>exact SeqAt.notIn_listAt f p (λw hw=>eqa w (h3 w (by simpa using hw))) (by rw[h4];exact⟨.bl _,H,I,rfl,q⟩)
  ·cases ek
 ·cases ek
theorem V6 (hu:X.A.units+64 < cLine):OpR X (compareOp .In) (wH inC):=Y3 hu false
theorem xj (hu:X.A.units+64 < cLine):OpR X (compareOp .NotIn) (wH QF):=Y3 hu true
noncomputable def isNC (t t' :T):R Bool:=match t' with
 | .non=>match t with | .non=> .ok true | _=> .ok false
 | .bl k=>match t with | .bl j=> .ok (j == k) | _=> .ok false
 | _=> .bad
def chE (g g' :T->T->R Bool)(fa fb fc:En->R T):En->R T:=λρ=>(fa ρ).bind λx=>(fb ρ).bind λy=>(g x y).bind λk=>if k=true then (fc ρ).bind λz=>(g' y z).bind λk' => .ok (.bl k') else .ok (.bl false)
def chT (g g' :T->T->R Bool)(fa fb fc:En->R T):En->R Bool:=λρ=>(fa ρ).bind λx=>(fb ρ).bind λy=>(g x y).bind λk=>if k=true then (fc ρ).bind λz=>g' y z else .ok false
theorem xk (nx:Nx g)(nx' :Nx g')(ho:OpR X (compareOp op) (wH g))(ho' :OpR X (compareOp op') (wH g'))(ha:j6 X Y a fa)(hb:j6 X Y b fb)(hc:j6 X Y c fc)
  (hm:lastMarks [op,op'] [b,c]=false:=by with_unfolding_all rfl):Snd X Y (.Compare a [op,op'] [b,c] pos) (chE g g' fa fb fc):= .mk λρ=>
 PE.imp (Qu ho ho' (ha ρ) (hb ρ) (hc ρ) hm) λσ H Q ⟨B,I,q⟩=>step I q λt v H1 _ s1 r1 I1 q1=>step I1 q1 λt' v' H2 _ s2 r2 I2 q2=>by
  cases e:g t t' with
  | bad=>rw[e]at q2;exact q2.elim
  | ex c=>exact absurd e (nx _ _ _)
  | ok k=>
   rw[e]at q2;refine⟨t,t',k,r1.mono s2,r2,e,k,rfl, ?_⟩;cases k with
   | false=>exact ZB I2 q2 (.bl _)
   | true=>
    refine step I2 q2 λt3 v3 H3 _ s3 r3 I3 q3=> ?_
    ·cases e:g' t' t3 with
     | bad=>rw[e]at q3;exact q3.elim
     | ex c=>exact absurd e (nx' _ _ _)
     | ok k=>rw[e]at q3;exact⟨t',t3,k,r2.mono s3,r3,e,ZB I3 q3 (.bl k)⟩
theorem xl (nx:Nx g)(nx' :Nx g')(ho:OpR X (compareOp op) (wH g))(ho' :OpR X (compareOp op') (wH g'))(ha:j6 X Y a fa)(hb:j6 X Y b fb)(hc:j6 X Y c fc)
  (hm:lastMarks [op,op'] [b,c]=false:=by with_unfolding_all rfl):W7 X Y (.Compare a [op,op'] [b,c] pos) (chT g g' fa fb fc):= .mk λρ=>
 PT.imp (Qv ho ho' (ha ρ) (hb ρ) (hc ρ) hm) λσ H Q ⟨B,I,q⟩=>step I q λt v H1 _ s1 r1 I1 q1=>step I1 q1 λt' v' H2 _ s2 r2 I2 q2=>by
  cases e:g t t' with
  | bad=>rw[e]at q2;exact q2.elim
  | ex c=>exact absurd e (nx _ _ _)
  | ok k=>
   rw[e]at q2;refine⟨t,t',k,r1.mono s2,r2,e,k,rfl, ?_⟩;cases k with
   | false=>exact⟨false,rfl,ZB I2 q2 rfl⟩
   | true=>
    refine step I2 q2 λt3 v3 H3 _ s3 r3 I3 q3=> ?_
    ·cases e:g' t' t3 with
     | bad=>rw[e]at q3;exact q3.elim
     | ex c=>exact absurd e (nx' _ _ _)
     | ok k=>rw[e]at q3;exact⟨t',t3,k,r2.mono s3,r3,e,k,rfl,ZB I3 q3 rfl⟩
def xm (r r' r'' :R2)(ta tb tc td:TE):TE:=λσ H Q=>ta σ H λx H1=>tb σ H1 λy H2=>r x y H2 λz H3=>∃k,z= .bl k/\
 (if k=true then tc σ H3 λw' H4=>r' y w' H4 λz' H5=>∃k',z' = .bl k' /\(if k' =true then td σ H5 λw2 H6=>r'' w' w2 H6 Q else Q (.bl false) H5) else Q (.bl false) H3)
theorem Y4 (ho:OpR X (compareOp op) r)(ho' :OpR X (compareOp op') r')(ho'' :OpR X (compareOp op'') r'')(ha:PE X a ta)(hb:PE X b tb)(hc:PE X c tc)(hd:PE X d td)
  (hm:lastMarks [op,op',op''] [b,c,d]=false:=by with_unfolding_all rfl):PE X (.Compare a [op,op',op''] [b,c,d] pos) (xm r r' r'' ta tb tc td):=by
 intro pins s σ H Q I h;refine Compare_chain (thn (ha _ s σ H _ I h) λv s1 ⟨x,H1,I1,r1,q1⟩=>chain_link (thn (hb _ s1 σ H1 _ I1 q1) λu s2 ⟨y,H2,I2,r2,q2⟩=>
  thn (ho _ s2 σ H2 x y v u _ I2 r1 r2 q2) λd' s3 ⟨z,H3,I3,r3,k,e,q3⟩=> ?_)) hm
 subst e;cases r3;refine ba ?_;cases k with
 | false=>exact ite_ff ⟨.bl _,H3,I3,rfl,q3⟩
 | true=>
  refine ite_tt (chain_link (thn (hc _ s3 σ H3 _ I3 q3) λw' s4 ⟨z',H4,I4,r4,q4⟩=>thn (ho' _ s4 σ H4 y z' u w' _ I4 r2 r4 q4) λd2 s5 ⟨z5,H5,I5,r5,k5,e5,q5⟩=> ?_));subst e5;cases r5;refine ba ?_;cases k5 with
  | false=>exact ite_ff ⟨.bl _,H5,I5,rfl,q5⟩
  | true=>exact ite_tt (chain_last (thn (hd _ s5 σ H5 _ I5 q5) λw6 s6 ⟨z6,H6,I6,r6,q6⟩=>ho'' _ s6 σ H6 z' z6 w' w6 Q I6 r4 r6 q6))
def ch3E (g g' g'' :T->T->R Bool)(fa fb fc fd:En->R T):En->R T:=λρ=>(fa ρ).bind λx=>(fb ρ).bind λy=>(g x y).bind λk=>if k=true then (fc ρ).bind λz=>(g' y z).bind λk' =>
 if k' =true then (fd ρ).bind λw=>(g'' z w).bind λk'' => .ok (.bl k'') else .ok (.bl false) else .ok (.bl false)
theorem QH (nx:Nx g)(nx' :Nx g')(nx'' :Nx g'')(ho:OpR X (compareOp op) (wH g))(ho' :OpR X (compareOp op') (wH g'))(ho'' :OpR X (compareOp op'') (wH g''))
  (ha:j6 X Y a fa) (hb:j6 X Y b fb) (hc:j6 X Y c fc) (hd:j6 X Y d fd)
  (hm:lastMarks [op,op',op''] [b,c,d]=false:=by with_unfolding_all rfl):Snd X Y (.Compare a [op,op',op''] [b,c,d] pos) (ch3E g g' g'' fa fb fc fd):= .mk λρ=>
 PE.imp (Y4 ho ho' ho'' (ha ρ) (hb ρ) (hc ρ) (hd ρ) hm) λσ H Q ⟨B,I,q⟩=>step I q λt v H1 _ s1 r1 I1 q1=>step I1 q1 λt' v' H2 _ s2 r2 I2 q2=>by
  cases e:g t t' with
  | bad=>rw[e]at q2;exact q2.elim
  | ex c=>exact absurd e (nx _ _ _)
  | ok k=>
   rw[e]at q2;refine⟨t,t',k,r1.mono s2,r2,e,k,rfl, ?_⟩;cases k with
   | false=>exact ZB I2 q2 (.bl _)
   | true=>
    refine step I2 q2 λt3 v3 H3 _ s3 r3 I3 q3=> ?_
    ·cases e:g' t' t3 with
     | bad=>rw[e]at q3;exact q3.elim
     | ex c=>exact absurd e (nx' _ _ _)
     | ok k=>
      rw[e]at q3;refine⟨t',t3,k,r2.mono s3,r3,e,k,rfl, ?_⟩;cases k with
      | false=>exact ZB I3 q3 (.bl _)
      | true=>
       refine step I3 q3 λt4 v4 H4 _ s4 r4 I4 q4=> ?_
       ·cases e:g'' t3 t4 with
        | bad=>rw[e]at q4;exact q4.elim
        | ex c=>exact absurd e (nx'' _ _ _)
        | ok k=>rw[e]at q4;exact⟨t3,t4,k,r3.mono s4,r4,e,ZB I4 q4 (.bl k)⟩
variable {rest:List Expr}{ga gb:En->R Bool}
def jr (fa fb:En->R T):En->R T:=λρ=>(fa ρ).bind λx=>match x with
 | .bl true=>fb ρ
 | .bl false=> .ok (.bl false)
 | _=> .bad
def orE (fa fb:En->R T):En->R T:=λρ=>(fa ρ).bind λx=>match x with
 | .bl true=> .ok (.bl true)
 | .bl false=>fb ρ
 | _=> .bad
def Qj (fa:En->R T):En->R T:=λρ=>(fa ρ).bind λx=>match x with
 | .bl k=> .ok (.bl (!k))
 | _=> .bad
theorem z0N {op}(h:Snd X Y a fa):Snd X Y (.BoolOp op [a] pos) fa:= .mk λρ=>ki (h ρ)
theorem z0O (ha:Snd X Y a fa)(hb:Snd X Y (.BoolOp .And (b :: rest) pos) fb):Snd X Y (.BoolOp .And (a :: b :: rest) pos) (jr fa fb):= .mk λρ=>
 PE.imp (kl (ha ρ) (hb ρ)) λσ H Q ⟨B,I,q⟩=>step I q λt v H1 _ s1 r1 I1 q1=>by
  cases r1 with
  | bl k=>
   refine⟨k,rfl, ?_⟩;cases k with
   | true=>exact⟨_,I1,q1⟩
   | false=>exact ZB I1 q1 (.bl _)
  | _=>exact q1.elim
theorem s_or (ha:Snd X Y a fa)(hb:Snd X Y (.BoolOp .Or (b :: rest) pos) fb):Snd X Y (.BoolOp .Or (a :: b :: rest) pos) (orE fa fb):= .mk λρ=>
 PE.imp (z0i (ha ρ) (hb ρ)) λσ H Q ⟨B,I,q⟩=>step I q λt v H1 _ s1 r1 I1 q1=>by
  cases r1 with
  | bl k=>
   refine⟨k,rfl, ?_⟩;cases k with
   | false=>exact⟨_,I1,q1⟩
   | true=>exact ZB I1 q1 (.bl _)
  | _=>exact q1.elim
theorem z0P (ha:Snd X Y a fa):Snd X Y (.UnaryOp .Not a pos) (Qj fa):= .mk λρ=>
 PE.imp (km (ha ρ)) λσ H Q ⟨B,I,q⟩=>step I q λt v H1 _ s1 r1 I1 q1=>by
  cases r1 with
  | bl k=>exact⟨k,rfl,ZB I1 q1 (.bl _)⟩
  | _=>exact q1.elim
structure yj (X:Cx) (Y:Fx) (e:Expr) (f:En->R Bool):Prop where
 mk ::
 go:∀ρ,PW X e (tS Y rE f ρ)
instance {X:Cx}{Y:Fx}{e:Expr}{f:En->R Bool}:CoeFun (yj X Y e f) λ_=>∀ρ,PW X e (tS Y rE f ρ):=⟨yj.go⟩
theorem yj.t (h:yj X Y e f):W7 X Y e f:= .mk λρ=>(h ρ).pt
theorem PW.imp (h:PW X e t)(i:∀σ H Q,t' σ H Q->t σ H Q):PW X e t' :=λwh pins s σ H Q I q=>h wh _ s σ H Q I (i σ H Q q)
def K2 (fa fb:En->R Bool):En->R Bool:=λρ=>(fa ρ).bind λx=>if x=true then fb ρ else .ok false
def orT (fa fb:En->R Bool):En->R Bool:=λρ=>(fa ρ).bind λx=>if x=true then .ok true else fb ρ
def u1 (fa:En->R Bool):En->R Bool:=λρ=>(fa ρ).bind λx=> .ok (!x)
theorem K3 (h:W7 X Y a ga):yj X Y (.BoolOp .And [a] pos) ga:= .mk λρ=>VE (h ρ)
theorem z0Q (h:W7 X Y a ga):yj X Y (.BoolOp .Or [a] pos) ga:= .mk λρ=>kf (h ρ)
theorem z0R (ha:W7 X Y a ga)(hb:yj X Y (.BoolOp .And (b :: rest) pos) gb):yj X Y (.BoolOp .And (a :: b :: rest) pos) (K2 ga gb):= .mk λρ=>
 PW.imp (kg (ha ρ) (hb ρ)) λσ H Q ⟨B,I,q⟩=>step I q λt v H1 _ s1 r1 I1 q1=>by
  have r1' :=r1;subst r1';cases v with
  | true=>exact⟨_,I1,q1⟩
  | false=>exact ZB I1 q1 rfl
theorem w_or (ha:W7 X Y a ga)(hb:yj X Y (.BoolOp .Or (b :: rest) pos) gb):yj X Y (.BoolOp .Or (a :: b :: rest) pos) (orT ga gb):= .mk λρ=>
 PW.imp (z0f (ha ρ) (hb ρ)) λσ H Q ⟨B,I,q⟩=>step I q λt v H1 _ s1 r1 I1 q1=>by
  have r1' :=r1;subst r1';cases v with
  | false=>exact⟨_,I1,q1⟩
  | true=>exact ZB I1 q1 rfl
theorem z0S (ha:W7 X Y a ga):W7 X Y (.UnaryOp .Not a pos) (u1 ga):= .mk λρ=>
 PT.imp (kh (ha ρ)) λσ H Q ⟨B,I,q⟩=>step I q λt v H1 _ s1 r1 I1 q1=>by
  have r1' :=r1;subst r1';exact ZB I1 q1 rfl
noncomputable def tru:T->R Bool
 | .bl k=> .ok k
 | .non=> .ok false
 | .int i=> .ok (i != 0)
 | .tup xs=> .ok (!xs.isEmpty)
 | .lst xs=> .ok (!xs.isEmpty)
 | _=> .bad
def Ji (fa:En->R T):En->R Bool:=λρ=>(fa ρ).bind tru
theorem isE (r:zE H xs ts):(!xs.isEmpty)= !ts.isEmpty:=by cases r <;> rfl
theorem z0T (ha:j6 X Y a fa)(he:∀whole,isTrue a X.env whole=(do let v ← whole;standAt a.pos;holding [v] (truthy v)):=by intro _;rfl):W7 X Y a (Ji fa):= .mk λρ=>
 PT.imp (Qw (ha ρ) he) λσ H Q ⟨B,I,q⟩=>step I q λt v H1 _ s1 r1 I1 q1=>by
  cases r1 with
  | bl k=>exact⟨k,rfl,ZB I1 q1 rfl⟩
  | non=>exact⟨false,rfl,ZB I1 q1 rfl⟩
  | int i=>exact⟨_,rfl,ZB I1 q1 rfl⟩
  | tup h r=>exact⟨_,.inr (.inl ⟨_,SqT.of h,rfl⟩),ZB I1 q1 (isE r)⟩
  | lst h r=>exact⟨_,.inl ⟨_,SqL.of h,rfl⟩,ZB I1 q1 (isE r)⟩
  | _=>exact q1.elim
def ifE (g:En->R Bool)(fa fb:En->R T):En->R T:=λρ=>(g ρ).bind λk=>if k=true then fa ρ else fb ρ
theorem s_if (hc:W7 X Y c ga)(ha:Snd X Y a fa)(hb:Snd X Y b fb):Snd X Y (.IfExp c a b pos) (ifE ga fa fb):= .mk λρ=>
 PE.imp (uF (hc ρ) (ha ρ) (hb ρ)) λσ H Q ⟨B,I,q⟩=>step I q λt v H1 _ s1 r1 I1 q1=>by
  have r1' :=r1;subst r1';cases v with
  | true=>exact⟨_,I1,q1⟩
  | false=>exact⟨_,I1,q1⟩
end
end PV
namespace PV
open PySem PySem.Spec PyProof.Rows L2
section
variable {X:Cx}{Y:Fx}{a b c d:Expr}{fa fb fc fd:En->R T}{pos p:Pos}
def ap1 (g:T->R T)(fa:En->R T):En->R T:=λρ=>(fa ρ).bind g
noncomputable abbrev St1 (X:Cx)(a:Expr):Prop:=starEach [a] X.env=[(false,eval a X.env)]
theorem Wq {id:String}{x:Str}{r:List V->Hp->VK->Prop}{g:T->R T}(hc:Zp X (.builtin id) r)(hr:∀v t B H Q,Rep H v t->zv B H->Po Y rC B H (g t) Q->r [v] H Q)
  (gl:Gl X x) (mg:X.mg x=none) (bt:bootBuiltins x=some (.builtin id)) (ha:j6 X Y a fa) (hs:St1 X a:=by exact st1 rfl) (hn:x ≠ "__name__":=by decide) (hd:(x == ("__debug__":Str))=false:=by decide):Snd X Y (.Call (.Name x p) [a] [] pos) (ap1 g fa):= .mk λρ=>
 PE.imp (ZW hc gl mg bt (zA (ha ρ) zU hs) hn hd hs rfl) λσ H Q ⟨B,I,q⟩=>step I q λt v H1 _ s1 r1 I1 q1=>hr v t _ H1 Q r1 I1.sB q1
theorem Y5 {id:String}{x:Str}{r:List V->Hp->VK->Prop}{g:T->R T}(hc:Zp X (.type id) r)(hr:∀v t B H Q,Rep B v t->zv B H->Po Y rC B H (g t) Q->r [v] H Q)
  (gl:Gl X x) (mg:X.mg x=none) (bt:bootBuiltins x=some (.type id)) (ha:Snd X Y a fa) (hs:St1 X a:=by exact st1 rfl) (hn:x ≠ "__name__":=by decide) (hd:(x == ("__debug__":Str))=false:=by decide):Snd X Y (.Call (.Name x p) [a] [] pos) (ap1 g fa):= .mk λρ=>
 PE.imp (ja hc gl mg bt (zA (ha ρ) zU hs) hn hd hs rfl) λσ H Q ⟨B,I,q⟩=>step I q λt v H1 _ s1 r1 I1 q1=>hr v t _ H1 Q r1 I1.sB q1
def Ze:T->R T
 | .tup xs=> .ok (.int xs.length)
 | .lst xs=> .ok (.int xs.length)
 | .fz xs=> .ok (.int xs.length)
 | .str x=>if x.length<=bnd then .ok (.int x.length) else .bad
 | _=> .bad
theorem z0U (v:V)(t:T)(B H:Hp)(Q:VK)(r:Rep H v t)(sB:zv B H)(q:Po Y rC B H (Ze t) Q):
  (∃p ys,[v]=[V.ref p]/\(SqL X.K H p ys\/SqT X.K H p ys)/\Q (V.int ys.length) H)\/(∃z,[v]=[V.str z]/\z.length<=sizeLine/\Q (V.int z.length) H):=by
 cases r with
 | tup h r=>exact .inl ⟨_,_,rfl,.inr (SqT.of h),po0 sB q rfl (by rw[r.length];exact .int _)⟩
 | lst h r=>exact .inl ⟨_,_,rfl,.inl (SqL.of h),po0 sB q rfl (by rw[r.length];exact .int _)⟩
 | fz h r=>exact .inl ⟨_,_,rfl,.inl (.inl (.inr ⟨_,h⟩)),po0 sB q rfl (by rw[r.length];exact .int _)⟩
 | str x=>
  by_cases hb:x.length<=bnd
  ·exact .inr ⟨x,rfl,Zs hb,po0 sB q (if_pos hb) (.int _)⟩
  ·rw[show Ze (.str x)= .bad from if_neg hb]at q;exact q.elim
 | _=>exact q.elim
theorem z0V (gl:Gl X "len")(mg:X.mg "len"=none)(ha:j6 X Y a fa)(hs:St1 X a:=by exact st1 rfl):Snd X Y (.Call (.Name "len" p) [a] [] pos) (ap1 Ze fa):=
 Wq (Wl.or Wm) z0U gl mg PySem.boot_len ha hs
noncomputable def GG:T->R T
 | .tup xs=> .ok (.tup xs)
 | .lst xs=> .ok (.tup xs)
 | _=> .bad
theorem z0W (v:V)(t:T)(B H:Hp)(Q:VK)(r:Rep B v t)(sB:zv B H)(q:Po Y rC B H (GG t) Q):
  ∃p ys,[v]=[V.ref p]/\((SqL X.K H p ys/\∀l,H l=none->Q (.ref l) (upd H l (.tup ys)))\/(SqT X.K H p ys/\Q (.ref p) H)):=by
 cases r with
 | tup h r=>exact⟨_,_,rfl,.inr ⟨SqT.of (sB _ _ h),po0 sB q rfl (.tup h r)⟩⟩
 | lst h r=>exact⟨_,_,rfl,.inl ⟨SqL.of (sB _ _ h),λl hl=>kT sB q rfl r hl⟩⟩
 | _=>exact q.elim
theorem xn (gl:Gl X "tuple")(mg:X.mg "tuple"=none)(ha:Snd X Y a fa)(hs:St1 X a:=by exact st1 rfl):Snd X Y (.Call (.Name "tuple" p) [a] [] pos) (ap1 GG fa):=
 Y5 wD z0W gl mg (PyProof.Rows.Boot.«tuple») ha hs
noncomputable def tyN:T->String
 | .non=>"NoneType"
 | .bl _=>"bool"
 | .int _=>"int"
 | .str _=>"str"
 | .tup _=>"tuple"
 | .lst _=>"list"
 | .fz _=>"list"
def isT (n:String)(t:T):Bool:=tyN t == n || (n == "int" && tyN t == "bool")
theorem z0X (K:a8)(r:Rep H v t):UF K H v (.type (tyN t)):=by
 cases r with
 | non=>exact .non
 | bl b=>exact .bl b
 | int b=>exact .int b
 | str b=>exact .str b
 | tup h _=>exact .tup h
 | lst h _=>exact .lst h
 | fz h _=>exact .frz h
theorem QJ:Zp X (.builtin "isinstance") (λxs H Q=>∃v n t,xs=[v,.ty n]/\Rep H v t/\aM X.K (.type (tyN t)) (.type n)=some (isT n t)/\Q (.bl (isT n t)) H):=by
 intro pins s σ H xs us Q I rv h;obtain⟨v,n,t,rfl,r,hk,q⟩:=h;obtain⟨u,w,rfl,ru,rw'⟩:=UC rv;obtain rfl:w=Value.type n:=rw';exact yI I ru (z0X X.K r) hk λtk=>⟨.bl _,H,I.tok tk,rfl,q⟩
def W9 (n:String)(t:T):R T:= .ok (.bl (isT n t))
theorem xo (K:a8)(t:T):aM K (.type (tyN t)) (.type "int")=some (isT "int" t):=by cases t <;> rfl
theorem QK (K:a8)(t:T):aM K (.type (tyN t)) (.type "bool")=some (isT "bool" t):=by cases t <;> rfl
theorem xp (K:a8)(t:T):aM K (.type (tyN t)) (.type "str")=some (isT "str" t):=by cases t <;> rfl
theorem Y6 (K:a8)(t:T):aM K (.type (tyN t)) (.type "tuple")=some (isT "tuple" t):=by cases t <;> rfl
theorem QL (hk:∀t,aM X.K (.type (tyN t)) (.type n)=some (isT n t))(gl:Gl X "isinstance")(mg:X.mg "isinstance"=none)(gl' :Gl X (bj n))(mg' :X.mg (bj n)=none)(bt:bootBuiltins (bj n)=some (.type n))(ha:j6 X Y a fa)
  (hs:starEach [a,.Name (bj n) p'] X.env=[(false,eval a X.env),(false,eval (.Name (bj n) p') X.env)]:=by exact st2 rfl rfl) (hs2:starEach [.Name (bj n) p'] X.env=[(false,eval (.Name (bj n) p') X.env)]:=by exact st1 rfl)
  (hn:bj n ≠ "__name__":=by decide) (hd:(bj n == ("__debug__":Str))=false:=by decide) (hz:((backTo pos (starEach [.Name (bj n) p'] X.env)).any λx=>x.fst)=false:=by exact Zh rfl):
  Snd X Y (.Call (.Name "isinstance" p) [a,.Name (bj n) p'] [] pos) (ap1 (W9 n) fa):= .mk λρ=>
 PE.imp (ZW QJ gl mg PyProof.Rows.Boot.«isinstance» (zA (ha ρ) (zA (yt (v:= .ty n) gl' mg' bt rfl hn hd) zU hs2) (by rw[hs,hs2])) (by decide) (by decide) (by rw[hs,hs2]) hz) λσ H Q ⟨B,I,q⟩=>
  step I q λt v H1 _ s1 r1 I1 q1=>⟨v,n,t,rfl,r1,hk t,po0 I1.sB q1 rfl (.bl _)⟩
def atT (xs:List T)(i:Int):R T:=match atI xs i with
 | some t=> .ok t
 | none=> .bad
def ixT:T->T->R T
 | .tup xs,.int i=>atT xs i
 | .lst xs,.int i=>atT xs i
 | .fz xs,.int i=>atT xs i
 | .str z,.int i=>if z.length<=bnd then match atI z.cps.toList i with | some c=> .ok (.str ⟨#[c]⟩) | none=> .bad else .bad
 | _,_=> .bad
theorem Wr (r:zE H xs ts)(h:atI ts i=some t):∃v,atI xs i=some v/\Rep H v t:=by
 unfold atI at h ⊢;rw[r.length];cases e:ixN _ i with
 | none=>rw[e]at h;cases h
 | some j=>
  rw[e]at h;obtain⟨v,h1,h2⟩:=r.get (h);exact⟨v,h1,h2⟩
theorem s_ix (ha:Snd X Y a fa)(hb:Snd X Y b fb)(hs:wB b:=by exact λ_ _=>rfl):Snd X Y (.Subscript a b pos) (zb ixT fa fb):= .mk λρ=>
 PE.imp (VU yO (ha ρ) (hb ρ) hs) λσ H Q ⟨B,I,q⟩=>step I q λt v H1 _ s1 r1 I1 q1=>step I1 q1 λt' v' H2 _ s2 r2 I2 q2=>by
  have r1:=r1.mono (zO.ge I1.sB s2);cases r2 with
  | int i=>
   cases r1 with
   | @tup _ xs ts h r=>
    have q2:Po Y rC _ H2 (atT ts i) Q:=q2;unfold atT at q2;split at q2
    ·rename_i t' e;obtain⟨w,e1,e2⟩:=Wr r e;exact .inr (.inl ⟨_,xs,i,w,rfl,rfl,SqT.of (I2.sB _ _ h),e1,po0 I2.sB q2 rfl e2⟩)
    ·exact q2.elim
   | @lst _ xs ts h r=>
    have q2:Po Y rC _ H2 (atT ts i) Q:=q2;unfold atT at q2;split at q2
    ·rename_i t' e;obtain⟨w,e1,e2⟩:=Wr r e;exact .inl ⟨_,xs,i,w,rfl,rfl,SqL.of (I2.sB _ _ h),e1,po0 I2.sB q2 rfl e2⟩
    ·exact q2.elim
   | @fz _ _ xs ts h r=>
    have q2:Po Y rC _ H2 (atT ts i) Q:=q2;unfold atT at q2;split at q2
    ·rename_i t' e;obtain⟨w,e1,e2⟩:=Wr r e;exact .inl ⟨_,xs,i,w,rfl,rfl,.inl (.inr ⟨_,I2.sB _ _ h⟩),e1,po0 I2.sB q2 rfl e2⟩
    ·exact q2.elim
   | str z=>
    have q2:Po Y rC _ H2 (if z.length<=bnd then match atI z.cps.toList i with | some c=> .ok _ | none=> .bad else .bad) Q:=q2
    split at q2
    ·rename_i hb;split at q2
     ·rename_i c e;exact .inr (.inr ⟨z,i,c,rfl,rfl,Zs hb,e,po0 I2.sB q2 rfl (.str _)⟩)
     ·exact q2.elim
    ·exact q2.elim
   | _=>exact q2.elim
  | _=>cases r1 <;> exact q2.elim
structure xr (X:Cx) (Y:Fx) (e:Option Expr) (f:En->R (Option Int)):Prop where
 mk ::
 go:∀ρ,PO X e (tS Y rE f ρ)
instance {X:Cx}{Y:Fx}{e:Option Expr}{f:En->R (Option Int)}:CoeFun (xr X Y e f) λ_=>∀ρ,PO X e (tS Y rE f ρ):=⟨xr.go⟩
def noO:En->R (Option Int):=λ_=> .ok none
def ZE (fa:En->R T):En->R (Option Int):=λρ=>(fa ρ).bind λt=>match t with
 | .int i=> .ok (some i)
 | _=> .bad
theorem PO.imp {e:Option Expr}{t t' :TO}(h:PO X e t)(i:∀σ H Q,t' σ H Q->t σ H Q):PO X e t' :=λpins s σ H Q I q=>h _ s σ H Q I (i σ H Q q)
theorem K4:xr X Y none noO:= .mk λρ=>PO.imp VQ λσ H Q ⟨B,I,q⟩=>ZB I q rfl
theorem K5 (ha:Snd X Y a fa):xr X Y (some a) (ZE fa):= .mk λρ=>PO.imp (VR (ha ρ)) λσ H Q ⟨B,I,q⟩=>step I q λt v H1 _ s1 r1 I1 q1=>by
 cases r1 with
 | int i=>exact⟨i,rfl,ZB I1 q1 rfl⟩
 | _=>exact q1.elim
noncomputable def cut (xs:List T)(lo hi:Option Int):List T:=(xs.drop (HT.sIx xs.length 0 lo)).take (HT.sIx xs.length xs.length hi - HT.sIx xs.length 0 lo)
def slT (t:T)(lo hi:Option Int):R T:=match t with
 | .tup xs=> .ok (.tup (cut xs lo hi))
 | .lst xs=> .ok (.lst (cut xs lo hi))
 | _=> .bad
def slE (fa:En->R T)(fl fh:En->R (Option Int)):En->R T:=λρ=>(fa ρ).bind λt=>(fl ρ).bind λlo=>(fh ρ).bind λhi=>slT t lo hi
theorem Y7 {lo hi:Option Int}(r:zE H xs ts):zE H (XS xs lo hi) (cut ts lo hi):=by
 unfold XS cut;rw[r.length];exact(r.drop _).take _
theorem jS {lo hi:Option Int}(ht:IsTup s.heap t items)(hs:s.heap.IsSliceOf sl vl vu .none)(pl:IsPart vl lo)(pu:IsPart vu hi)
  (hw:HT.sIx items.size 0 lo=0/\HT.sIx items.size items.size hi=items.size) (h:Q (.ref t) s):wpAny (model prog w) A (getItem (.ref t) (.ref sl)) Q E s:=by
 obtain⟨os,hos,hcs,hds⟩:=id hs;have hTs:s.TypeIs (.ref sl) _:=⟨os,hos,hcs⟩;unfold getItem
 try with_reducible refine cC ?_
 refine a7 (wpAny_sequenceKey ht.typeIs (by decide) ?_)
 refine a7 (bw ht.typeIs bh
  (bP bh ht.typeIs entry_tuple_getitem ?_ (args_tuple_getitem _ _)))
 show wpAny _ _ (dI _ >>= _) _ _ s;refine a7 (tupleItemsOf_ ht ?_);refine a7 (wpAny_typeOf hTs ?_);refine a7 (HT.sliceApplied_gen hs pl pu ?_);have hyes:(((HT.sIx items.size 0 lo):Int) == 0 && (1:Int) == 1 && (HT.sIx items.size items.size hi - HT.sIx items.size 0 lo) == items.size)=true:=by
  rw[hw.1,hw.2];simp
 show wpAny _ _ (if (((HT.sIx _ 0 lo:Nat):Int) == 0 && (1) == 1 && (HT.sIx _ _ hi - HT.sIx _ 0 lo) == items.size)=true then _ else _) _ _ s
 rw[if_pos hyes];refine a7 (a7 (wpAny_typeOf ht.typeIs (au ?_)));exact a7 (wpAny_rule (au ⟨_,rfl,au h⟩))
theorem UQ:SlR X (λx lo hi H Q=>∃a xs,x= .ref a/\SqT X.K H a xs/\(HT.sIx xs.length 0 lo=0/\HT.sIx xs.length xs.length hi=xs.length)/\Q (.ref a) H):=by
 intro pins s σ H x v vl vu lo hi sl Q I rx hs pl pu h;obtain⟨a,xs,rfl,hx,hw,q⟩:=h;obtain rfl:v=Value.ref a:=rx;obtain⟨its,r,ht,hz⟩:=I.tuple hx;have hlen:its.toArray.size=xs.length:=by exact r.length.symm
 refine⟨"tuple",_,bh.lookup,ht.typeIs, ?_⟩;exact jS ht hs pl pu (by rw[hlen];exact hw) ⟨.ref a,H,I,rfl,q⟩
theorem xt {lo hi:Option Int}(h1:HT.sIx xs.length 0 lo=0)(h2:HT.sIx xs.length xs.length hi=xs.length):cut xs lo hi=xs:=by
 unfold cut;rw[h1,h2];simp
theorem xu {lo hi:Option Expr}{fl fh:En->R (Option Int)}(ha:Snd X Y a fa)(hl:xr X Y lo fl)(hh:xr X Y hi fh):Snd X Y (.Subscript a (.Slice lo hi none p2) pos) (slE fa fl fh):= .mk λρ=>
 PE.imp (QB (kG.or (UQ.or VW)) (ha ρ) (hl ρ) (hh ρ)) λσ H Q ⟨B,I,q⟩=>step I q λt v H1 _ s1 r1 I1 q1=>step I1 q1 λl l' H2 _ s2 el I2 q2=>step I2 q2 λh h' H3 _ s3 eh I3 q3=>by
  have el' :=el;have eh' :=eh;subst el' eh';have r1:=r1.mono ((zO.ge I1.sB s2).trans (zO.ge I2.sB s3));cases r1 with
  | @tup _ xs ts hx r=>
   by_cases hw:HT.sIx xs.length 0 l' =0/\HT.sIx xs.length xs.length h' =xs.length
   ·refine .inr (.inl ⟨_,xs,rfl,SqT.of (I3.sB _ _ hx),hw,po0 I3.sB q3 rfl ?_⟩);rw[r.length]at hw;rw[xt hw.1 hw.2];exact .tup hx r
   ·exact .inl ⟨_,xs,rfl,SqT.of (I3.sB _ _ hx),hw,λp hp=>kT I3.sB q3 rfl (Y7 r) hp⟩
  | @lst _ xs ts hx r=>
   exact .inr (.inr ⟨_,xs,rfl,SqL.of (I3.sB _ _ hx),λp hp=>kU I3.sB q3 rfl (Y7 r) hp⟩)
  | _=>exact q3.elim
noncomputable def Ws (t t' :T):R T:=match t,t' with
 | .int i,.int j=> .ok (.int (if j < i then j else i))
 | _,_=> .bad
theorem K6 (hc:X.calm=true)(gl:Gl X "min")(mg:X.mg "min"=none)(ha:Snd X Y a fa)(hb:Snd X Y b fb)
  (hs:starEach [a,b] X.env=[(false,eval a X.env),(false,eval b X.env)]:=by exact st2 rfl rfl) (hs2:starEach [b] X.env=[(false,eval b X.env)]:=by exact st1 rfl):
  Snd X Y (.Call (.Name "min" p) [a,b] [] pos) (zb Ws fa fb):= .mk λρ=>
 PE.imp (ZW (yE hc) gl mg PyProof.Rows.Boot.«min» (zA (ha ρ) (zA (hb ρ) zU hs2) (by rw[hs,hs2])) (by decide) (by decide) (by rw[hs,hs2]) (by rw[hs2];rfl)) λσ H Q ⟨B,I,q⟩=>
  step I q λt v H1 _ s1 r1 I1 q1=>step I1 q1 λt' v' H2 _ s2 r2 I2 q2=>by
   cases r1 with
   | int i=>
    cases r2 with
    | int j=>exact⟨i,j,rfl,po0 I2.sB q2 rfl (.int _)⟩
    | _=>exact q2.elim
   | _=>cases r2 <;> exact q2.elim
noncomputable def u2:List T->Option Bool
 | []=>some true
 | .bl k :: r=>match u2 r with | some j=>some (k && j) | none=>none
 | _ :: _=>none
def xv:T->R T
 | .lst ts=>match u2 ts with | some k=> .ok (.bl k) | none=> .bad
 | _=> .bad
theorem Y8:∀{H:Hp} {xs:List V} {ts:List T} {its:List Value} {k:Bool},zE H xs ts->zS xs its->u2 ts=some k->∃tr:Nat->Bool,(∀i v,its[i]? =some v->v=Value.bool (tr i))/\(a_ its.length).all tr=k
 | _,_,_,_,k,.nil,.nil,h=>by
  have h' :=h;cases h';exact⟨λ_=>true,λi v e=>by simp at e,rfl⟩
 | H,_,_,_,k,.cons r rs,.cons (b:=u) rv vs,h=>by
  cases r with
  | bl b=>
   unfold u2 at h;split at h
   ·rename_i j e;cases h;obtain⟨tr,h1,h2⟩:=Y8 rs vs e;obtain rfl:u=Value.bool b:=rv;refine⟨λi=>match i with | 0=>b | i+1=>tr i,λi v e=> ?_, ?_⟩
    ·cases i with
     | zero=>simp at e;exact e.symm
     | succ i=>exact h1 i v (by simpa using e)
    ·rw[af,cq,c_,f_,← h2];rfl
   ·cases h
  | _=>cases h
theorem Y9 (hh:X.A.handled=none):Zp X (.builtin "all") (λvs H Q=>∃l xs ts k,vs=[.ref l]/\H l=some (.lst xs)/\zE H xs ts/\u2 ts=some k/\Q (.bl k) H):=by
 intro pins s σ H vs us Q I rv h;obtain⟨l,xs,ts,k,rfl,hl,r,hk,q⟩:=h;obtain⟨u,rfl,ru⟩:=ZR rv;obtain rfl:u=Value.ref l:=ru;obtain⟨its,rv,p,_⟩:=zT I (.inl hl) r;obtain⟨tr,h1,h2⟩:=Y8 r rv hk;refine call_all_walk (wpAny_pyIter_list p ?_);have hlt:=I.hok.lt hl;have old:∀b o,s.heap.get? b=some o->(s.heap.push { cls:= .type "list_iterator",data:= .fields #[.ref l,.int 0 0] }).get? b=some o:=λb o e=>aa _ e;refine⟨s.heap.objs.size,_,_,_,_,_,tr,rfl,iD (A:=X.A.in1) hh _ l (aE hlt) its.toArray, ?_, ?_,λh' tk hk' => ?_⟩
 ·refine⟨?_,p.at λo e=>old _ o e⟩;exact⟨_,ah _ rfl,rfl,rfl⟩
 ·intro i v s' Q' E' hi hq;rw[h1 i v (by simpa using hi)]
  exact ba hq
 ·rw[ay,h2];refine⟨.bl k,H,I.kept (λb o e=>hk' b o ?_ (old b o e)),rfl,q⟩;simp;exact aE (ar e)
theorem z0Y (hh:X.A.handled=none)(gl:Gl X "all")(mg:X.mg "all"=none)(ha:j6 X Y a fa)(hs:St1 X a:=by exact st1 rfl):Snd X Y (.Call (.Name "all" p) [a] [] pos) (ap1 xv fa):=
 Wq (Y9 hh) (λv t B H Q r sB q=>by
  cases r with
  | @lst l xs ts h r=>
   have q:Po Y rC B H (match u2 ts with | some k=> .ok _ | none=> .bad) Q:=q
   split at q
   ·rename_i k e;exact⟨l,xs,ts,k,rfl,h,r,e,po0 sB q rfl (.bl k)⟩
   ·exact q.elim
  | _=>exact q.elim) gl mg PyProof.Rows.Boot.«all» ha hs
end
inductive RS where
 | nx (ρ:En) | rt (t:T) | bk (ρ:En) | ct (ρ:En) | ex (c:Nat) | bad | rf (ts:List T)
noncomputable def R.s {α:Type}(r:R α)(k:α->RS):RS:=match r with
 | .ok a=>k a
 | .ex c=> .ex c
 | .bad=> .bad
def PoS (Y:Fx)(B:Hp)(r:RS)(D:yq):Prop:=match r with
 | .nx ρ' =>∀σ' H' B',zv B B' ->SI Y B' ρ' σ' H' ->D.nx σ' H'
 | .rt t=>∀v H',zv Y.H0 H' ->Rep (zO Y.B0 Y.H0 H') v t->D.rt v H'
 | .bk ρ' =>∀σ' H' B',zv B B' ->SI Y B' ρ' σ' H' ->D.bk σ' H'
 | .ct ρ' =>∀σ' H' B',zv B B' ->SI Y B' ρ' σ' H' ->D.ct σ' H'
 | .ex c=>XP Y B c
 | .bad=>False
 | .rf ts=>∀a xs H' B',zv Y.H0 H' ->Y.H0 a=none->H' a=some (.lst xs)->zE B' xs ts->B' a=none->zv B' (zO Y.B0 Y.H0 H')->D.rt (.ref a) H'
theorem PoS.up {r:RS}{D:yq}(s:zv B B')(h:PoS Y B r D):PoS Y B' r D:=by
 cases r with
 | nx ρ=>exact λσ' H' B2 s2 I=>h σ' H' B2 (s.trans s2) I
 | bk ρ=>exact λσ' H' B2 s2 I=>h σ' H' B2 (s.trans s2) I
 | ct ρ=>exact λσ' H' B2 s2 I=>h σ' H' B2 (s.trans s2) I
 | rt t=>exact h
 | rf t=>exact h
 | ex c=>exact λd H' s0 sB=>h d H' s0 (s.trans sB)
 | bad=>exact h
def tSS (Y:Fx)(f:En->RS)(ρ:En):TS:=λD σ H=>∃B,SI Y B ρ σ H/\PoS Y B (f ρ) D
structure jT (X:Cx) (Y:Fx) (e:Stmt) (f:En->RS):Prop where
 mk ::
 go:∀ρ,PS X e (tSS Y f ρ)
instance {X:Cx}{Y:Fx}{e:Stmt}{f:En->RS}:CoeFun (jT X Y e f) λ_=>∀ρ,PS X e (tSS Y f ρ):=⟨jT.go⟩
structure JW (X:Cx) (Y:Fx) (e:List Stmt) (f:En->RS):Prop where
 mk ::
 go:∀ρ,PSs X e (tSS Y f ρ)
instance {X:Cx}{Y:Fx}{e:List Stmt}{f:En->RS}:CoeFun (JW X Y e f) λ_=>∀ρ,PSs X e (tSS Y f ρ):=⟨JW.go⟩
theorem jE {α β:Type}{rel:Hp->Hp->β->α->Prop}{f:En->R α}{k:α->RS}{D:yq}{K:β->Hp->Prop}
  (I:SI Y B ρ σ H) (h:PoS Y B ((f ρ).s k) D)
  (n:∀a b H1,f ρ= .ok a->zv H H1->rel (zO B H H1) H1 b a->SI Y (zO B H H1) ρ σ H1->PoS Y (zO B H H1) (k a) D->K b H1):tS Y rel f ρ σ H K:=by
 refine⟨B,I, ?_⟩;cases e:f ρ with
 | bad=>rw[e]at h;exact h
 | ex c=>rw[e]at h;exact h
 | ok a=>
  rw[e]at h;exact λb H1 s r=>n a b H1 e s r (I.grow s) (PoS.up (zO.ge I.sB s) h)
theorem zr {α:Type}{xs:List α}{x y:α}(h:(xs.set i x)[j]? =some y):(j=i/\y=x)\/(j ≠ i/\xs[j]? =some y):=by
 by_cases e:j=i
 ·subst e
  by_cases hl:j < xs.length
  ·rw[aP hl]at h;exact .inl ⟨rfl,(aB h).symm⟩
  ·rw[aZ (by rw[aI];omega)]at h;cases h
 ·rw[ax (bi e)]at h;exact .inr ⟨e,h⟩
theorem Wt {α:Type}{xs:List α}{x y:α}(h:(xs.set i x)[i]? =some y):i < xs.length:=by
 by_cases hl:i < xs.length
 ·exact hl
 ·rw[aZ (by rw[aI];omega)]at h;cases h
theorem StI.set {O:Addr->Option (Nat×Nat)}(x:StI Y B ρ σ H as O)(i:Nat)(s:Sl)(v:Option V)(h1:s.isO=false)(h3:∀ts,s ≠ .ow ts):StI Y B (ρ.set i s) (σ.set i v) H as O:=
 x.on (λj y hy h=>by
  rcases zr h with ⟨_,e⟩ | ⟨hj,h'⟩
  ·rw[e,h1]at hy;cases hy
  ·exact⟨h',ax (bi hj)⟩) (zv.refl _) rfl rfl (zv.refl _) λb o hb b0 h0 _=>⟨hb,b0,h0,λok j us h=>by
  rcases zr h with ⟨_,e⟩ | ⟨hj,h'⟩
  ·exact absurd e.symm (h3 us)
  ·rw[ax (bi hj)];exact ok j us h'⟩
theorem SI.setV (I:SI Y B ρ σ H)(i:Nat)(r:Rep B v t):SI Y B (ρ.set i (.vl t)) (σ.set i (some v)) H where
 s0:=I.s0
 sH:=I.sH
 sB:=I.sB
 old:=I.old
 len:=by rw[aI,aI];exact I.len
 vl:=λj u h=>by
  rcases zr h with ⟨rfl,e⟩ | ⟨hj,h'⟩
  ·cases e;exact⟨v,aP (by rw[← I.len];exact Wt h),r⟩
  ·obtain⟨w,e,rr⟩:=I.vl j u h';exact⟨w,by rw[ax (bi hj)];exact e,rr⟩
 ow:=λj us h=>by
  rcases zr h with ⟨rfl,e⟩ | ⟨hj,h'⟩
  ·cases e
  ·obtain⟨a,xs,e,b0,h0,hh,rr,d⟩:=I.ow j us h';refine⟨a,xs,by rw[ax (bi hj)];exact e,b0,h0,hh,rr,λk ws hk hw=> ?_⟩
   rcases zr hw with ⟨rfl,e'⟩ | ⟨hk',hw'⟩
   ·cases e'
   ·rw[ax (bi hk')];exact d k ws hk hw'
 xc:=λj c h=>by
  rcases zr h with ⟨rfl,e⟩ | ⟨hj,h'⟩
  ·cases e
  ·obtain⟨a,e,r⟩:=I.xc j c h';exact⟨a,by rw[ax (bi hj)];exact e,r⟩
 st:=let ⟨as,O,x⟩:=I.st;⟨as,O,x.set i _ _ rfl (λ_=>Sl.noConfusion)⟩
theorem SI.newO (I:SI Y B ρ σ H)(i:Nat)(hp:H p=none)(r:zE B xs ts):SI Y B (ρ.set i (.ow ts)) (σ.set i (some (.ref p))) (upd H p (.lst xs)) where
 s0:=I.s0
 sH:=I.sH.trans (zv.new hp _)
 sB:=I.sB.trans (zv.new hp _)
 old:=I.old
 len:=by rw[aI,aI];exact I.len
 vl:=λj u h=>by
  rcases zr h with ⟨rfl,e⟩ | ⟨hj,h'⟩
  ·cases e
  ·obtain⟨w,e,rr⟩:=I.vl j u h';exact⟨w,by rw[ax (bi hj)];exact e,rr⟩
 ow:=λj us h=>by
  have op:∀k ws a,ρ[k]? =some (Sl.ow ws)->σ[k]? =some (some (V.ref a))->a ≠ p:=λk ws a h1 h2=>by
   obtain⟨a',xs',e,_,_,hh,_⟩:=I.ow k ws h1;rw[e]at h2;cases h2;exact zJ hh hp
  rcases zr h with ⟨rfl,e⟩ | ⟨hj,h'⟩
  ·cases e;refine⟨p,xs,aP (by rw[← I.len];exact Wt h),I.sB.free hp,I.sH.free hp,zx,r,λk ws hk hw=> ?_⟩
   rcases zr hw with ⟨rfl,e'⟩ | ⟨hk',hw'⟩
   ·exact absurd rfl hk
   ·rw[ax (bi hk')];exact λz=>op k ws p hw' z rfl
  ·obtain⟨a,xs',e,b0,h0,hh,rr,d⟩:=I.ow j us h';refine⟨a,xs',by rw[ax (bi hj)];exact e,b0,h0,by rw[zu (op j us a h' e)];exact hh,rr,λk ws hk hw=> ?_⟩
   rcases zr hw with ⟨rfl,e'⟩ | ⟨hk',hw'⟩
   ·rw[aP (by rw[← I.len];exact Wt hw)]
    intro z;exact op j us a h' e (by injection z with z;injection z with z;injection z with z;exact z.symm)
   ·rw[ax (bi hk')];exact d k ws hk hw'
 xc:=λj c h=>by
  rcases zr h with ⟨rfl,e⟩ | ⟨hj,h'⟩
  ·cases e
  ·obtain⟨a,e,r⟩:=I.xc j c h';exact⟨a,by rw[ax (bi hj)];exact e,r⟩
 st:=by
  obtain⟨as,O,x⟩:=I.st;refine⟨as,O,x.on (λj y hy h=> ?_) (zv.refl _) rfl rfl (zv.refl _) λb o hb b0 h0 _=> ?_⟩
  ·rcases zr h with ⟨_,e⟩ | ⟨hj,h'⟩
   ·subst e;cases hy
   ·exact⟨h',ax (bi hj)⟩
  ·have hne:b ≠ p:=zJ hb hp;refine⟨by rw[zu hne];exact hb,b0,h0,λok j us h=> ?_⟩
   rcases zr h with ⟨rfl,e⟩ | ⟨hj,h'⟩
   ·rw[aP (by rw[← I.len];exact Wt h)]
    intro z;injection z with z;injection z with z;injection z with z;exact hne z.symm
   ·rw[ax (bi hj)];exact ok j us h'
theorem SI.chg (I:SI Y B ρ σ H)(i:Nat)(hi:ρ[i]? =some (.ow ts))(he:σ[i]? =some (some (.ref p)))(r:zE B ys us):SI Y B (ρ.set i (.ow us)) σ (upd H p (.lst ys)):=by
 obtain⟨p',xs,e,b0,h0,hh,rr,d⟩:=I.ow i ts hi;rw[he]at e;cases e;have nb:∀b o,B b=some o->b ≠ p:=λb o h z=>by subst z;rw[b0]at h;cases h
 have n0:∀b o,Y.H0 b=some o->b ≠ p:=λb o h z=>by subst z;rw[h0]at h;cases h
 refine⟨I.s0,λb o h=>by rw[zu (n0 b o h)];exact I.sH b o h,λb o h=>by rw[zu (nb b o h)];exact I.sB b o h,I.old,by rw[aI];exact I.len,λj u h=> ?_,λj ws h=> ?_,λj c h=> ?_, ?_⟩
 rotate_right
 ·obtain⟨as,O,x⟩:=I.st;refine⟨as,O,x.on (λj y hy h=> ?_) (zv.refl _) rfl rfl (zv.refl _) λb o hb b0' h0' cs=> ?_⟩
  ·rcases zr h with ⟨_,e⟩ | ⟨hj,h'⟩
   ·subst e;cases hy
   ·exact⟨h',rfl⟩
  ·have hne:b ≠ p:=λz=>by
    subst z;rcases cs with ⟨C,dx,vs,ez⟩ | ok
    ·rw[hh]at hb;cases hb;cases ez
    ·exact ok i ts hi he
   refine⟨by rw[zu hne];exact hb,b0',h0',λok j us h=> ?_⟩
   rcases zr h with ⟨rfl,e⟩ | ⟨hj,h'⟩
   ·rw[he];intro z;injection z with z;injection z with z;injection z with z;exact hne z.symm
   ·exact ok j us h'
 rotate_right
 ·rcases zr h with ⟨rfl,z⟩ | ⟨hj,h'⟩
  ·cases z
  ·exact I.xc j c h'
 ·rcases zr h with ⟨rfl,z⟩ | ⟨hj,h'⟩
  ·cases z
  ·exact I.vl j u h'
 ·rcases zr h with ⟨rfl,z⟩ | ⟨hj,h'⟩
  ·cases z;refine⟨p,ys,he,b0,h0,zx,r,λk vs hk hw=> ?_⟩;rcases zr hw with ⟨rfl,e'⟩ | ⟨hk',hw'⟩
   ·exact absurd rfl hk
   ·exact d k vs hk hw'
  ·obtain⟨a,xs',e,c0,g0,gg,ss,d'⟩:=I.ow j ws h';have hne:a ≠ p:=λz=>by subst z;exact d j ws hj h' e
   refine⟨a,xs',e,c0,g0,by rw[zu hne];exact gg,ss,λk vs hk hw=> ?_⟩
   rcases zr hw with ⟨rfl,e'⟩ | ⟨hk',hw'⟩
   ·rw[he];intro z;injection z with z;injection z with z;injection z with z;exact hne z.symm
   ·exact d' k vs hk hw'
noncomputable def frz1:Sl->Sl
 | .ow ts=> .vl (.lst ts)
 | .ob _ _=> .un
 | .st _=> .un
 | x=>x
def frz (ρ:En):En:=ρ.map frz1
theorem SI.up (I:SI Y B ρ σ H):zv B (zO B Y.H0 H):=λb o h=>by
 cases q:Y.H0 b with
 | none=>rw[zZ q];exact I.sB b o h
 | some u=>rw[Z9 q];exact h
theorem SI.frz (I:SI Y B ρ σ H):SI Y (zO B Y.H0 H) (PV.frz ρ) σ H:=by
 have up:zv B (zO B _ H):=λb o h=>by
  cases q:Y.H0 b with
  | none=>rw[zZ q];exact I.sB b o h
  | some u=>rw[Z9 q];exact h
 refine⟨I.s0,I.sH,λb o h=> ?_,λb o h=>by rw[Z9 h];exact I.old b o h,by unfold PV.frz;rw[a9];exact I.len,λj t h=> ?_,λj ts h=> ?_,λj c h=> ?_, ?_⟩
 rotate_right
 ·have no:∀(j:Nat) (y:Sl),y.isS=true->(PV.frz ρ)[j]? ≠ some y:=λj y hy h=>by
   unfold PV.frz at h;rw[av]at h;cases e:ρ[j]? with
   | none=>rw[e]at h;cases h
   | some x=>rw[e]at h;cases x <;> (cases h;cases hy)
  obtain⟨as,O,x⟩:=I.st;refine⟨Y.as,λ_=>none,ce _,λi os e=>(no i _ rfl e).elim,λi j os os' e=>(no i _ rfl e).elim,λi k n e=>(no i _ rfl e).elim,λi k fs h=> ?_,λi os e=>(no i _ rfl e).elim⟩;have h' :ρ[i]? =some (Sl.oc k fs):=by
   unfold PV.frz at h;rw[av]at h;cases e:ρ[i]? with
   | none=>rw[e]at h;cases h
   | some x=>rw[e]at h;cases x <;> (cases h;try rfl)
  obtain⟨a,C,dx,vs,e1,e2,e3,e4,e5⟩:=x.oc i k fs h';exact⟨a,C,dx,vs,e1,e2,e3,e4,e5.mono up (zv.refl _)⟩
 rotate_right
 ·unfold PV.frz at h;rw[av]at h;cases e:ρ[j]? with
  | none=>rw[e]at h;cases h
  | some x=>
   rw[e]at h;cases x with
   | xc d=>
    cases h;obtain⟨a,e1,r⟩:=I.xc j _ e;exact⟨a,e1,up a _ r⟩
   | un=>cases h
   | vl _=>cases h
   | ow _=>cases h
   | ob _ _=>cases h
   | oc _ _=>cases h
   | st _=>cases h
 ·cases q:Y.H0 b with
  | none=>rw[zZ q]at h;exact h
  | some u=>rw[Z9 q]at h;exact I.sB b o h
 ·unfold PV.frz at h;rw[av]at h;cases e:ρ[j]? with
  | none=>rw[e]at h;cases h
  | some x=>
   rw[e]at h;cases x with
   | un=>cases h
   | vl u=>
    cases h;obtain⟨v,e1,r⟩:=I.vl j _ e;exact⟨v,e1,r.mono up⟩
   | ow us=>
    cases h;obtain⟨a,xs,e1,b0,h0,hh,rr,_⟩:=I.ow j us e;exact⟨.ref a,e1,.lst (by rw[zZ h0];exact hh) (rr.mono up)⟩
   | xc _=>cases h
   | ob _ _=>cases h
   | oc _ _=>cases h
   | st _=>cases h
 ·unfold PV.frz at h;rw[av]at h;cases e:ρ[j]? with
  | none=>rw[e]at h;cases h
  | some x=>
   rw[e]at h;cases x with
   | un=>cases h
   | vl u=>cases h
   | ow us=>cases h
   | xc _=>cases h
   | ob _ _=>cases h
   | oc _ _=>cases h
   | st _=>cases h
theorem V7 {Y:Fx}{B H H' :Hp}(s0:zv Y.H0 H)(old:∀b o,Y.H0 b=some o->B b=Y.B0 b)(s:zv H H')(sB:zv B H):zv (zO B H H') (zO Y.B0 Y.H0 H'):=λb o h=>by
 cases q:H b with
 | none=>
  rw[zZ q]at h;rw[zZ (s0.free q)];exact h
 | some u=>
  rw[Z9 q]at h;cases z:Y.H0 b with
  | none=>rw[zZ z];exact s b o (sB b o h)
  | some w=>rw[Z9 z,← old b w z];exact h
section
variable {X:Cx}{Y:Fx}{a b c d:Expr}{fa fb fc fd:En->R T}{pos p:Pos}{st:Stmt}{sts sts' :List Stmt}{f g:En->RS}
def nxS:En->RS:=λρ=> .nx ρ
def zB (f g:En->RS):En->RS:=λρ=>match f ρ with
 | .nx ρ' =>g ρ'
 | r=>r
theorem z0Z:JW X Y [] nxS:= .mk λρ=>PSs.imp yu λD σ H ⟨B,I,q⟩=>q σ H B (zv.refl B) I
theorem z10 (h:jT X Y st f):JW X Y [st] f:= .mk λρ=>Jr (h ρ)
theorem K7 (h1:jT X Y st f)(h2:JW X Y sts g):JW X Y (st :: sts) (zB f g):= .mk λρ=>by
 refine PSs.imp (uG (u:=λD σ H=>∃ρ',tSS Y g ρ' D σ H) (h1 ρ) ?_) ?_
 ·intro pins s σ H D I ⟨ρ',q⟩;exact h2 ρ' _ s σ H D I q
 ·intro D σ H ⟨B,I,q⟩;refine⟨B,I, ?_⟩;unfold zB at q;cases e:f ρ with
  | nx ρ' =>
   rw[e]at q;intro σ' H' B' s' I';exact⟨ρ',B',I',PoS.up s' q⟩
  | rt t=>rw[e]at q;exact q
  | rf t=>rw[e]at q;exact q
  | bk ρ' =>rw[e]at q;exact q
  | ct ρ' =>rw[e]at q;exact q
  | ex c=>rw[e]at q;exact q
  | bad=>rw[e]at q;exact q
def zL (i:Nat)(fa:En->R T):En->RS:=λρ=>(fa ρ).s λt=> .nx (ρ.set i (.vl t))
theorem K8 (hN:X.N.Nodup)(hi:X.N[i]? =some x)(hx:L2.Loc X.env.scope x)(ha:Snd X Y a fa)(hs:swapsWith a (some (.Name x p')) pos.line X.env=pure false:=by rfl)
  (hf:X.fn x=true\/X.env.scope.names.lookup x=some .local:=by first | exact .inl rfl | exact .inr rfl | assumption):jT X Y (.Assign [.Name x p'] a pos) (zL i fa):= .mk λρ=>
 PS.imp (uH hN hi hx (ha ρ) hs hf) λD σ H ⟨B,I,q⟩=>jE I q λt v H1 _ s1 r1 I1 q1=>q1 _ _ _ (zv.refl _) (I1.setV i r1)
def yk (i:Nat)(ga:En->R (List T)):En->RS:=λρ=>(ga ρ).s λts=>if ts.length<=bnd then .nx (ρ.set i (.ow ts)) else .bad
theorem K9 (hN:X.N.Nodup)(hi:X.N[i]? =some x)(hx:L2.Loc X.env.scope x)(ha:wE X Y es ga)(hs:swapsWith (.List es p) (some (.Name x p')) pos.line X.env=pure false:=by rfl)
  (hf:X.fn x=true\/X.env.scope.names.lookup x=some .local:=by first | exact .inl rfl | exact .inr rfl | assumption):jT X Y (.Assign [.Name x p'] (.List es p) pos) (yk i ga):= .mk λρ=>
 PS.imp (uH hN hi hx (yJ (ha ρ)) hs hf) λD σ H ⟨B,I,q⟩=>jE I q λts vs H1 _ s1 r1 I1 q1=>by
  split at q1
  ·rename_i hb;exact⟨by rw[r1.length];exact Zs hb,λp hp=>q1 _ _ _ (zv.refl _) (I1.newO i hp r1)⟩
  ·exact q1.elim
def zF (fa:En->R T):En->RS:=λρ=>(fa (frz ρ)).s λt=> .rt t
theorem z11 (ha:Snd X Y a fa):jT X Y (.Return (some a) pos) (zF fa):= .mk λρ=>
 PS.imp (Wc (ha _)) λD σ H ⟨B,I,q⟩=>by
  refine⟨_,I.frz, ?_⟩;unfold zF at q;cases e:fa _ with
  | bad=>rw[e]at q;exact q
  | ex c=>
   rw[e]at q;exact λd H' s0 sG=>q d H' s0 (I.up.trans sG)
  | ok t=>
   rw[e]at q;intro v H' s r;have J:=I.frz;exact q v H' (I.sH.trans s) (r.mono (V7 J.sH J.old s J.sB))
def ifS (g:En->R Bool)(f1 f2:En->RS):En->RS:=λρ=>(g ρ).s λk=>if k=true then f1 ρ else f2 ρ
theorem z12 (hc:W7 X Y c ga)(h1:JW X Y sts f)(h2:JW X Y sts' g):jT X Y (.If c sts sts' pos) (ifS ga f g):= .mk λρ=>
 PS.imp (kn (hc ρ) (h1 ρ) (h2 ρ)) λD σ H ⟨B,I,q⟩=>jE I q λt v H1 _ s1 r1 I1 q1=>by
  have r1' :=r1;subst r1';cases v with
  | true=>exact⟨_,I1,q1⟩
  | false=>exact⟨_,I1,q1⟩
def UR (fa:En->R T):En->RS:=λρ=>(fa ρ).s λ_=> .nx ρ
theorem Ka (ha:Snd X Y a fa)(hs:swapsWith a none pos.line X.env=pure false:=by rfl):jT X Y (.Expr a pos) (UR fa):= .mk λρ=>
 PS.imp (Js (ha ρ) hs) λD σ H ⟨B,I,q⟩=>jE I q λt v H1 _ s1 r1 I1 q1=>q1 _ _ _ (zv.refl _) I1
def QN (i:Nat)(fa:En->R T):En->RS:=λρ=>match ρ[i]? with
 | some (.ow ts)=>(fa ρ).s λt=>if ts.length < bnd then .nx (ρ.set i (.ow (ts++[t]))) else .bad
 | _=> .bad
def Qk (i:Nat)(fa:En->R T):En->RS:=λρ=>match ρ[i]? with
 | some (.ow ts)=>(fa ρ).s λt=>match t with
  | .lst us=>if ts.length+us.length<=bnd then .nx (ρ.set i (.ow (ts++us))) else .bad
  | _=> .bad
 | _=> .bad
theorem V8 (h:n < bnd):n < sizeLine:=by exact h
theorem z13 (hv:PE X (.Name x px) (Jh i))(ha:Snd X Y a fa)(hb:attributeBase (.Name x px) "append" X.env (eval (.Name x px) X.env)=eval (.Name x px) X.env:=by rfl)(hs:St1 X a:=by exact st1 rfl)
  (hz:(pa.endLine == p.line)=true:=by rfl) (hw:swapsWith (.Call (.Attribute (.Name x px) "append" pa) [a] [] p) none pos.line X.env=pure false:=by rfl):jT X Y (.Expr (.Call (.Attribute (.Name x px) "append" pa) [a] [] p) pos) (QN i fa):= .mk λρ=>by
 have e1:(((((backTo p (starEach [a] X.env)).all λx=> !x.fst) && (backToKw p (keywordEach [] X.env)).all λx=>x.fst.isSome) && decide (([a].length+([]:List Keyword).length+if ([]:List Keyword).isEmpty=true then 0 else 1) < 30))=true):=by rw[hs];rfl
 refine PS.imp (Js (UK bJ dX dY Jx hv (zA (ha ρ) zU hs) hb e1 hz hs rfl) hw) λD σ H ⟨B,I,q⟩=> ?_;unfold QN at q;split at q
 ·rename_i ts e;obtain⟨l,xs,e1,b0,h0,hh,rr,d⟩:=I.ow i ts e;refine⟨.ref l,e1,.inl ⟨rfl,_,SqL.of hh⟩, ?_⟩;refine jE I q λt v H1 _ s1 r1 I1 q1=> ?_;split at q1
  ·rename_i hb;refine⟨l,xs,v,rfl,rfl,s1 _ _ hh,by rw[rr.length];exact V8 hb, ?_⟩
   exact q1 _ _ _ (zv.refl _) (I1.chg i e e1 ((rr.mono (zO.ge I.sB s1)).append (.cons r1 .nil)))
  ·exact q1.elim
 ·exact q.elim
theorem z14 (hv:PE X (.Name x px) (Jh i))(ha:Snd X Y a fa)(hb:attributeBase (.Name x px) "extend" X.env (eval (.Name x px) X.env)=eval (.Name x px) X.env:=by rfl)(hs:St1 X a:=by exact st1 rfl)
  (hz:(pa.endLine == p.line)=true:=by rfl) (hw:swapsWith (.Call (.Attribute (.Name x px) "extend" pa) [a] [] p) none pos.line X.env=pure false:=by rfl):jT X Y (.Expr (.Call (.Attribute (.Name x px) "extend" pa) [a] [] p) pos) (Qk i fa):= .mk λρ=>by
 have e1:(((((backTo p (starEach [a] X.env)).all λx=> !x.fst) && (backToKw p (keywordEach [] X.env)).all λx=>x.fst.isSome) && decide (([a].length+([]:List Keyword).length+if ([]:List Keyword).isEmpty=true then 0 else 1) < 30))=true):=by rw[hs];rfl
 refine PS.imp (Js (UK bJ PySem.F.slot_list_extend PySem.F.type_list_extend yP hv (zA (ha ρ) zU hs) hb e1 hz hs rfl) hw) λD σ H ⟨B,I,q⟩=> ?_;unfold Qk at q;split at q
 ·rename_i ts e;obtain⟨l,xs,e1,b0,h0,hh,rr,d⟩:=I.ow i ts e;refine⟨.ref l,e1,.inl ⟨rfl,_,SqL.of hh⟩, ?_⟩;refine jE I q λt v H1 _ s1 r1 I1 q1=> ?_;cases r1 with
  | @lst b zs us hb r=>
   have q1:PoS Y _ (if ts.length+us.length<=bnd then .nx _ else .bad) D:=q1
   split at q1
   ·rename_i hl;refine⟨l,b,xs,zs,rfl,rfl,s1 _ _ hh,I1.sB _ _ hb,by rw[rr.length,r.length];exact Zs hl, ?_⟩
    exact q1 _ _ _ (zv.refl _) (I1.chg i e e1 ((rr.mono (zO.ge I.sB s1)).append r))
   ·exact q1.elim
  | _=>exact q1.elim
 ·exact q.elim
end
def spP (cl:Nat->Value)(n:Nat)(g:List T->R T):Sp:=λvs H Q E=>∃B ts,ts.length=n/\zv B H/\zE B vs ts/\Po ⟨B,H,E,cl,[]⟩ rC B H (g ts) Q
theorem spP.len (vs:List V)(H:Hp)(Q:VK)(E:XK)(h:spP cl n g vs H Q E):vs.length=n:=by
 obtain⟨B,ts,hl,_,r,_⟩:=h;rw[r.length,hl]
def za (n:Nat)(g:List T->R T)(ga:En->R (List T)):En->R T:=λρ=>(ga ρ).bind λts=>if ts.length=n then g ts else .bad
section
theorem Kb (F:j9 X.prog X.w X.K X.mg X.base CX k f fd ps (spP Y.cl n g))(hr:ZA k X.A)(gl:Gl X x)(mg:X.mg x=some (.ref f))
  (kp:bL X.K (.ref f)=true) (bd:L2.Binds X.K fd ps []) (hx:Z5 CX X Y.E) (ha:wE X Y (a :: es) ga) (hd:(x == ("__debug__":Str))=false:=by decide)
  (hs:starEach (a :: es) X.env=(false,eval a X.env) :: starEach es X.env:=by exact zR rfl) (hz:((backTo pos (starEach es X.env)).any λx=>x.fst)=false:=by exact Zh rfl):Snd X Y (.Call (.Name x p) (a :: es) [] pos) (za n g ga):= .mk λρ=>
 PE.imp (yL F hr gl mg kp bd .nil hx (ha ρ) hd hs hz) λσ H Q ⟨B,I,q⟩=>step I q λts vs H1 _ s1 r1 I1 q1=>by
  split at q1
  ·rename_i hn;rw[aW];refine⟨_,ts,hn,I1.sB,r1, ?_⟩;revert q1;cases g ts with
   | bad=>exact λq1=>q1
   | ex c=>exact λq1 d H' s sB=>q1 d H' (I1.sH.trans s) sB
   | ok t=>exact λq1=>q1
  ·exact q1.elim
end
noncomputable def zz:RS->R T
 | .rt t=> .ok t
 | .rf ts=> .ok (.lst ts)
 | .nx _=> .ok .non
 | .ex c=> .ex c
 | _=> .bad
def en0 (n:Nat)(ts:List T):En:=ts.map Sl.vl++ai (n - ts.length) Sl.un
theorem zE.vl {H:Hp}:∀{vs:List V} {ts:List T} {i:Nat} {t:T} {n m:Nat},zE H vs ts->(ts.map Sl.vl++ai n Sl.un)[i]? =some (Sl.vl t)->∃v:V,(vs.map some++ai m none)[i]? =some (some v)/\Rep H v t
 | _,_,i,t,n,m,.nil,h=>by
  simp only[cP,bO]at h;rw[aF]at h;split at h
  ·cases h
  ·cases h
 | _,_,0,t,n,m,.cons r _,h=>by
  simp at h;subst h;exact⟨_,rfl,r⟩
 | _,_,i+1,t,n,m,.cons _ q,h=>by
  obtain⟨v,h1,h2⟩:=zE.vl q (by simpa using h)
  exact⟨v,by simpa using h1,h2⟩
theorem V9 {n:Nat}:∀{ts:List T} {i:Nat} {us:List T},(ts.map Sl.vl++ai n Sl.un)[i]? =some (Sl.ow us)->False
 | [],i,us,h=>by
  simp only[cP,bO]at h;rw[aF]at h;split at h
  ·cases h
  ·cases h
 | t :: ts,0,us,h=>by simp at h
 | t :: ts,i+1,us,h=>V9 (by simpa using h)
theorem Va {n:Nat}:∀{ts:List T} {i:Nat} {c:Nat},(ts.map Sl.vl++ai n Sl.un)[i]? =some (Sl.xc c)->False
 | [],i,us,h=>by
  simp only[cP,bO]at h;rw[aF]at h;split at h
  ·cases h
  ·cases h
 | t :: ts,0,us,h=>by simp at h
 | t :: ts,i+1,us,h=>Va (by simpa using h)
theorem uc {n:Nat}{x:Sl}(h1:∀t,x ≠ .vl t)(h2:x ≠ .un):∀{ts:List T} {i:Nat},(ts.map Sl.vl++ai n Sl.un)[i]? =some x->False
 | [],i,h=>by
  simp only[cP,bO]at h;rw[aF]at h;split at h
  ·exact h2 (aB h).symm
  ·cases h
 | t :: ts,0,h=>h1 t (aB (by simpa using h)).symm
 | t :: ts,i+1,h=>uc h1 h2 (by simpa using h)
theorem SI.start {Y:Fx}{N:List Str}{vs:List V}{ts:List T}(s:zv Y.B0 Y.H0)(r:zE Y.B0 vs ts):SI Y Y.B0 (en0 N.length ts) (L2.start N vs) Y.H0 where
 s0:=s
 sH:=zv.refl _
 sB:=s
 old:=λ_ _ _=>rfl
 len:=by unfold en0 L2.start;simp[r.length]
 vl:=λi t h=>r.vl h
 ow:=λi ts h=>(V9 h).elim
 xc:=λi c h=>(Va h).elim
 st:=StI.no λi s hs h=>uc (λt z=>by rw[z]at hs;cases hs) (λz=>by rw[z]at hs;cases hs) h
section
variable {P:Program}{w:World}{K:a8}{mg:Str->Option Value}{base:Heap}
theorem z15 {cl:Nat->Value}{x qual:Str}{st:Stmt}{f:Addr}{fd:FuncData}{N ps:List Str}{k n:Nat}{fb:En->RS}{g:List T->R T}(F:Fun K x qual st f fd)(S:Zx N ps (zq st))(hn:n=ps.length)
  (hb:∀(cdv:Value) (A:Around) (outer:List Env) (s:Shared) (H:Hp) (E:XK) (Y:Fx),Y.cl=cl->ZA k (A.deeper (envOfC qual (zq st) s.heap.objs.size f cdv))->
   JW (jM CX0 P w K mg base N qual (zq st) f cdv A outer s H E).nox Y (zH st) fb)
  (hg:∀ts,ts.length=n->g ts=zz (fb (en0 N.length ts))):j9 P w K mg base CX0 (k+1) f fd ps (spP cl n g):=by
 subst hn;refine F.ok S spP.len λcdv A outer s H vs Q E hr ⟨B,ts,hl,sB,r,q⟩=> ?_;refine⟨_,hb cdv A _ s H E ⟨B,H,E,cl,[]⟩ rfl hr _,B,SI.start sB r, ?_⟩;rw[hg ts hl]at q;revert q;cases fb _ with
 | rt t=>exact λq v H' s r=>q v H' s r
 | rf t=>exact λq a xs H' B' s0 n e r _ l=>q _ H' s0 (.lst (by rw[zZ n];exact e) (r.mono l))
 | nx ρ=>exact λq σ' H' B' _ I=>q _ H' I.sH .non
 | ex c=>exact λq=>q
 | bk ρ=>exact λq=>q.elim
 | ct ρ=>exact λq=>q.elim
 | bad=>exact λq=>q
end
abbrev rI:Hp->Hp->It->List T->Prop:=λB1 _ J ts=>∀B2 H2,zv B1 B2->zv B2 H2->(∀i,i < ts.length->J.go i H2)/\(∀(i:Nat) t x H3,ts[i]? =some t->J.yld i H2 x H3->zv H2 H3/\Rep (zO B2 H2 H3) x t)/\(∀i,ts.length<=i->J.stop i H2)
structure ud (X:Cx) (Y:Fx) (tg iter:Expr) (f:En->R (List T)):Prop where
 mk ::
 go:∀ρ,PI X tg iter (tS Y rI f ρ)
instance {X:Cx}{Y:Fx}{tg iter:Expr}{f:En->R (List T)}:CoeFun (ud X Y tg iter f) λ_=>∀ρ,PI X tg iter (tS Y rI f ρ):=⟨ud.go⟩
section
theorem PI.imp (h:PI X tg e t)(i:∀σ H Q,t' σ H Q->t σ H Q):PI X tg e t' :=λpins s σ H Q I q=>h _ s σ H Q I (i σ H Q q)
theorem Kc {K:a8}{B1 H1:Hp}{a:Addr}{xs:List V}{ts:List T}(h:B1 a=some (.tup xs))(r:zE B1 xs ts):rI B1 H1 (Itt K a) ts:=λB2 H2 s1 s2=>by
 have h2:=s2 _ _ (s1 _ _ h);refine⟨λi hi=> ?_,λi t x H3 e y=> ?_,λi hi=>⟨xs,SqT.of h2,by rw[r.length];exact hi⟩⟩
 ·obtain⟨v,e,_⟩:=r.get (ag hi);exact⟨xs,v,SqT.of h2,e⟩
 ·obtain⟨rfl,y⟩:=y;obtain⟨v,e1,r1⟩:=r.get e;have:=y xs (SqT.of h2);rw[e1]at this;cases this;refine⟨zv.refl _, ?_⟩;rw[zO.self B2 _ s2];exact r1.mono s1
theorem Ke {K:a8}{B1 H1:Hp}{a:Addr}{xs:List V}{ts:List T}(h:B1 a=some (.lst xs))(r:zE B1 xs ts):rI B1 H1 (Itl K a) ts:=λB2 H2 s1 s2=>by
 have h2:=s2 _ _ (s1 _ _ h);refine⟨λi hi=> ?_,λi t x H3 e y=> ?_,λi hi=>⟨xs,SqL.of h2,by rw[r.length];exact hi⟩⟩
 ·obtain⟨v,e,_⟩:=r.get (ag hi);exact⟨xs,v,SqL.of h2,e⟩
 ·obtain⟨rfl,y⟩:=y;obtain⟨v,e1,r1⟩:=r.get e;have:=y xs (SqL.of h2);rw[e1]at this;cases this;refine⟨zv.refl _, ?_⟩;rw[zO.self B2 _ s2];exact r1.mono s1
noncomputable def rng (lo:Int)(n:Nat):List T:=(a_ n).map λ(i:Nat)=>T.int (lo+(i:Int))
theorem Vb {B1 H1:Hp}{lo:Int}{n:Nat}:rI B1 H1 (Itr lo n) (rng lo n):=λB2 H2 s1 s2=>by
 have hl:(rng lo n).length=n:=by unfold rng;simp
 refine⟨λi hi=>by rw[hl]at hi;exact hi,λi t x H3 e y=> ?_,λi hi=>by rw[hl]at hi;exact hi⟩
 obtain⟨rfl,rfl⟩:=y;refine⟨zv.refl _, ?_⟩;unfold rng at e;rw[av]at e
 by_cases hi:i < n
 ·rw[cU hi]at e;cases e;exact .int _
 ·rw[aZ (by simp;omega)]at e;cases e
def Zu (fa:En->R T):En->R (List T):=λρ=>(fa ρ).bind λt=>match t with
 | .int j=>if -1000000 < j/\j < 1000000 then .ok (rng 0 j.toNat) else .bad
 | _=> .bad
def Je (fa fb:En->R T):En->R (List T):=λρ=>(fa ρ).bind λt=>(fb ρ).bind λt' =>match t,t' with
 | .int i,.int j=>if -1000000 < i/\i < 1000000/\ -1000000 < j/\j < 1000000 then .ok (rng i (j - i).toNat) else .bad
 | _,_=> .bad
theorem Kf (gl:Gl X "range")(mg:X.mg "range"=none)(ha:Snd X Y a fa)(hs:St1 X a:=by exact st1 rfl):ud X Y tg (.Call (.Name "range" p) [a] [] pos) (Zu fa):= .mk λρ=>PI.imp (yy gl mg (zA (ha ρ) zU hs) hs) λσ H R ⟨B,I,q⟩=>step I q λt v H1 _ s1 r1 I1 q1=>by
 cases r1 with
 | int j=>
  have q1:Po Y rI _ H1 (if -1000000 < j/\j < 1000000 then .ok _ else .bad) R:=q1
  split at q1
  ·exact⟨j,rfl,by omega,by omega,ZB I1 q1 Vb⟩
  ·exact q1.elim
 | _=>exact q1.elim
theorem Kg (gl:Gl X "range")(mg:X.mg "range"=none)(ha:Snd X Y a fa)(hb:Snd X Y b fb)(hs:starEach [a,b] X.env=[(false,eval a X.env),(false,eval b X.env)]:=by exact st2 rfl rfl)(hs2:St1 X b:=by exact st1 rfl):ud X Y tg (.Call (.Name "range" p) [a,b] [] pos) (Je fa fb):= .mk λρ=>
 PI.imp (yz gl mg (zA (ha ρ) (zA (hb ρ) zU hs2) (by rw[hs,hs2])) hs hs2) λσ H R ⟨B,I,q⟩=>step I q λt v H1 _ s1 r1 I1 q1=>step I1 q1 λt' v' H2 _ s2 r2 I2 q2=>by
  cases r1 with
  | int i=>
   cases r2 with
   | int j=>
    have q2:Po Y rI _ H2 (if -1000000 < i/\i < 1000000/\ -1000000 < j/\j < 1000000 then .ok _ else .bad) R:=q2
    split at q2
    ·exact⟨i,j,rfl,⟨by omega,by omega,by omega,by omega⟩,ZB I2 q2 Vb⟩
    ·exact q2.elim
   | _=>exact q2.elim
  | _=>cases r2 <;> exact q2.elim
def z16 (X:Cx)(Y:Fx)(tg:Expr)(g:T->En->R En):Prop:=∃t:TG,PG X tg t/\∀B ρ σ H v x Q,SI Y B ρ σ H->Rep B v x->(match g x ρ with | .ok ρ' =>∀σ',SI Y B ρ' σ' H->Q σ' H | _=>False)->t v σ H Q
def zK (i:Nat):T->En->R En:=λt ρ=> .ok (ρ.set i (.vl t))
theorem Vc (hN:X.N.Nodup)(hi:X.N[i]? =some x)(hx:L2.Loc X.env.scope x)(hf:X.fn x=true\/X.env.scope.names.lookup x=some .local:=by first | exact .inl rfl | exact .inr rfl | assumption):z16 X Y (.Name x pos) (zK i):=
 ⟨wy i,j8 hN hi hx hf,λB ρ σ H v x Q I r q=>q _ (I.setV i r)⟩
def ZF (i j:Nat):T->En->R En:=λt ρ=>match t with
 | .tup [x,y]=> .ok ((ρ.set i (.vl x)).set j (.vl y))
 | _=> .bad
def ZC (g:T->En->R En)(fb:En->RS):List T->En->RS
 | [],ρ=> .nx ρ
 | t :: ts,ρ=>match g t ρ with
  | .ok ρ1=>match fb ρ1 with
   | .nx ρ2=>ZC g fb ts ρ2
   | .ct ρ2=>ZC g fb ts ρ2
   | .bk ρ2=> .nx ρ2
   | r=>r
  | .ex c=> .bad
  | .bad=> .bad
def jt (fi:En->R (List T))(g:T->En->R En)(fb:En->RS):En->RS:=λρ=>(fi ρ).s λts=>ZC g fb ts ρ
theorem Kh {g:T->En->R En}(hp:PassesOwn (model X.prog X.w) X.A X.env X.xe)(hc:X.calm=true)(hi:ud X Y tg iter fi)(hg:z16 X Y tg g)(hb:JW X Y sts fb)
  (hs:∀x,foldedSetIterable iter X.env x=pure x:=by intro _;rfl):jT X Y (.For tg iter sts [] pos) (jt fi g fb):= .mk λρ=>by
 obtain⟨tG,hG,hG'⟩:=hg;refine PS.imp (kv (tb:=λD σ H=>∃ρ',tSS Y fb ρ' D σ H) hp hc (hi ρ) hG (λpins s σ H D I ⟨ρ',q⟩=>hb ρ' _ s σ H D I q) hs) λD σ H ⟨B,I,q⟩=> ?_;refine jE I q λts J H1 _ s1 r1 I1 q1=> ?_;refine⟨λi m σ' H' =>m=ts.length - i/\i<=ts.length/\∃ρ' B',SI Y B' ρ' σ' H' /\zv _ B' /\PoS Y B' (ZC g fb (ts.drop i) ρ') D,⟨ts.length,by simp,bx _,ρ,_,I1,zv.refl _,q1⟩, ?_⟩
 rintro i m σ' H' ⟨rfl,hi,ρ',B',I',sB',q'⟩
 obtain⟨hgo,hyld,hstop⟩:=r1 B' H' sB' I'.sB
 by_cases hlt:i < ts.length
 ·refine .inr ⟨hgo i hlt,λσ2 H2=>∃ρ2 B2,SI Y B2 ρ2 σ2 H2/\zv _ B2/\PoS Y B2 _ D,λσ2 H2 ⟨ρ2,B2,I2,s2,q2⟩=>⟨ts.length - (i+1),by omega,rfl,hlt,ρ2,B2,I2,s2,q2⟩,λx H2 y=> ?_⟩
  obtain⟨s2,r2⟩:=hyld i _ x H2 (ag hlt) y;rw[dQ hlt]at q';unfold ZC at q';refine hG' _ ρ' σ' H2 x _ _ (I'.grow s2) r2 ?_;cases eg:g _ ρ' with
  | bad=>rw[eg]at q';exact q'
  | ex c=>rw[eg]at q';exact q'
  | ok ρ1=>
   rw[eg]at q';intro σ1 J1;refine⟨ρ1,_,J1, ?_⟩;have q2:=PoS.up (zO.ge I'.sB s2) q';dsimp only at q2;have s3:=sB'.trans (zO.ge I'.sB s2);revert q2;cases fb ρ1 with
   | nx ρ2=>exact λq2 σ3 H3 B3 s4 I3=>⟨ρ2,B3,I3,s3.trans s4,PoS.up s4 q2⟩
   | ct ρ2=>exact λq2 σ3 H3 B3 s4 I3=>⟨ρ2,B3,I3,s3.trans s4,PoS.up s4 q2⟩
   | bk ρ2=>exact λq2=>q2
   | rt t=>exact λq2=>q2
   | rf t=>exact λq2=>q2
   | ex c=>exact λq2=>q2
   | bad=>exact λq2=>q2
 ·have e:i=ts.length:=by omega
  subst e;rw[i8]at q';exact .inl ⟨hstop _ (aj _),q' σ' H' B' (zv.refl _) I'⟩
def jo (g:En->R Bool)(fb:En->RS):Nat->En->RS
 | 0,_=> .bad
 | n+1,ρ=>(g ρ).s λk=>if k=true then match fb ρ with
   | .nx ρ2=>jo g fb n ρ2
   | .ct ρ2=>jo g fb n ρ2
   | .bk ρ2=> .nx ρ2
   | r=>r
  else .nx ρ
theorem xw (hp:PassesOwn (model X.prog X.w) X.A X.env X.xe)(hc:W7 X Y c ga)(hb:JW X Y sts fb):jT X Y (.While c sts [] pos) (jo ga fb n):= .mk λρ=>by
 refine PS.imp (Qt (tc:=λσ H Q=>∃ρ',tS Y rE ga ρ' σ H Q) (tb:=λD σ H=>∃ρ',tSS Y fb ρ' D σ H) hp (λpins s σ H D I ⟨ρ',q⟩=>hc ρ' _ s σ H D I q) (λpins s σ H D I ⟨ρ',q⟩=>hb ρ' _ s σ H D I q)) λD σ H ⟨B,I,q⟩=> ?_;refine⟨λm σ' H' =>∃ρ' B',SI Y B' ρ' σ' H' /\PoS Y B' (jo ga fb m ρ') D,⟨n,ρ,B,I,q⟩, ?_⟩
 rintro m σ' H' ⟨ρ',B',I',q'⟩
 cases m with
 | zero=>exact q'.elim
 | succ m=>
  unfold jo at q';refine⟨ρ',jE I' q' λt v H1 _ s1 r1 I1 q1=> ?_⟩;have r1' :=r1;subst r1';cases v with
  | false=>exact q1 _ _ _ (zv.refl _) I1
  | true=>
   refine⟨λσ2 H2=>∃ρ2 B2,SI Y B2 ρ2 σ2 H2/\PoS Y B2 _ D,λσ2 H2 h=>⟨m,cM m,h⟩,ρ',_,I1, ?_⟩;revert q1;cases fb ρ' with
   | nx ρ2=>exact λq2 σ3 H3 B3 s4 I3=>⟨ρ2,B3,I3,PoS.up s4 q2⟩
   | ct ρ2=>exact λq2 σ3 H3 B3 s4 I3=>⟨ρ2,B3,I3,PoS.up s4 q2⟩
   | bk ρ2=>exact λq2=>q2
   | rt t=>exact λq2=>q2
   | rf t=>exact λq2=>q2
   | ex c=>exact λq2=>q2
   | bad=>exact λq2=>q2
end
theorem Jz:∀(ns:List (Str×NameKind)) (acc:List (Str×Addr)),(∀x∈ns,x.2=NameKind.free->∃c,env.cells.lookup x.1=some c)->(∀x c,acc.lookup x=some c->env.cells.lookup x=some c)->
  ∃cl,(forIn ns acc (λ(x:Str×NameKind) (r:List (Str×Addr))=>if (x.2 == NameKind.free)=true then (do let c ← cellOf env x.1;pure (ForInStep.yield ((x.1,c) :: r))) else pure (ForInStep.yield r)):Sem _)=pure cl/\
   (∀x c,cl.lookup x=some c->env.cells.lookup x=some c)/\(∀x c,acc.lookup x=some c->∃c',cl.lookup x=some c')/\(∀x∈ns,x.2=NameKind.free->∃c,cl.lookup x.1=some c)
 | [],acc,_,h=>⟨acc,rfl,h,λx c e=>⟨c,e⟩,λx hx=>by simp at hx⟩
 | (n,k) :: ns,acc,hf,h=>by
  by_cases hk:k=NameKind.free
  ·obtain⟨c,hc⟩:=hf _ ak hk;have h' :∀x d,((n,c) :: acc).lookup x=some d->env.cells.lookup x=some d:=λx d e=>by
    by_cases hx:x=n
    ·subst hx;have e' :=by simpa[aJ] using e
     cases e';exact hc
    ·have e' :=by
      rw[aJ,(beq_eq_false_iff_ne.mpr hx)]at e;exact e
     exact h x d e'
   obtain⟨cl,e,h1,h2,h3⟩:=Jz ns _ (λx hx=>hf x (ac _ hx)) h';refine⟨cl, ?_,h1,λx d ed=> ?_,λx hx hxf=> ?_⟩
   ·rw[ix];subst hk;have q:cellOf env n=pure c:=by unfold cellOf;rw[hc]
    simp only[beq_self_eq_true,if_true,q];exact e
   ·by_cases hx:x=n
    ·subst hx;exact h2 x c (by simp[aJ])
    ·exact h2 x d (by rw[aJ,(beq_eq_false_iff_ne.mpr hx)];exact ed)
   ·rcases am.mp hx with rfl | hx
    ·exact h2 n c (by simp[aJ])
    ·exact h3 x hx hxf
  ·obtain⟨cl,e,h1,h2,h3⟩:=Jz ns acc (λx hx=>hf x (ac _ hx)) h;refine⟨cl, ?_,h1,h2,λx hx hxf=> ?_⟩
   ·rw[ix];have q:(k == NameKind.free)=false:=by simpa using hk
    simp only[q,aV,if_false];exact e
   ·rcases am.mp hx with rfl | hx
    ·exact absurd hxf hk
    ·exact h3 x hx hxf
theorem Ya (hf:∀x∈scope.names,x.2=NameKind.free->∃c,env.cells.lookup x.1=some c):
  ∃cl,closureFor scope env=pure cl/\(∀x c,cl.lookup x=some c->env.cells.lookup x=some c)/\(∀x∈scope.names,x.2=NameKind.free->∃c,cl.lookup x.1=some c):=by
 obtain⟨cl,e,h1,_,h3⟩:=Jz _ [] hf (λx c e=>by simp at e)
 refine⟨cl, ?_,h1,h3⟩;unfold closureFor;exact(by simpa using e)
def cxC (X:Cx)(scope:Scope)(N' :List Str)(cl:List (Str×Addr))(C:Addr)(s3:Shared)(H3:Hp)(fp:List Addr)(pins:List (Addr×Obj)):Cx:=
 { X with N:=N',s₀:=s3,H₀:=H3,env:=compEnvC scope cl C X.env,outer:=X.stack,stack:=X.stack,ex:=fp,fn:=λ_=>false,pn:=X.pn++pins,xe:=λ_ _=>False }
structure CSc (X:Cx) (scope:Scope):Prop where
 kind:scope.kind= .function
 nocell:∀x∈scope.names,x.2 ≠ .cell
 loc:∀x∈scope.names,x.2= .local->scope.names.lookup x.1=some .local
 fre:∀x∈scope.names,x.2= .free->X.env.kindOf x.1=some .cell\/X.env.kindOf x.1=some .free
theorem jF (h:(relabel scope env).names.lookup x=some k)(hk:k= .cell\/k= .free)(hn:∀x∈scope.names,x.2 ≠ NameKind.cell):∃y∈scope.names,y.1=x/\y.2= .free:=by
 have go:∀ns:List (Str×NameKind),(∀x∈ns,x.2 ≠ NameKind.cell)->(ns.map λ(n,k)=>if (k == NameKind.free && env.scope.kind == .function && env.kindOf n == some .cell) then (n,NameKind.cell) else (n,k)).lookup x=some k->∃y∈ns,y.1=x/\y.2= .free:=by
  intro ns
  induction ns with
  | nil=>intro _ h;simp at h
  | cons y ns ih=>
   intro hn h;obtain⟨n,k'⟩:=y
   by_cases hx:x=n
   ·subst hx;refine⟨(x,k'),ak,rfl, ?_⟩;rw[aL]at h
    by_cases hc:(k' == NameKind.free && env.scope.kind == .function && env.kindOf x == some .cell)=true
    ·rw[ae,ae]at hc;exact eq_of_beq hc.1.1
    ·simp only[if_neg hc,aJ,beq_self_eq_true]at h;cases h;rcases hk with rfl | rfl
     ·exact absurd rfl (hn _ ak)
     ·rfl
   ·obtain⟨z,hz,h1,h2⟩:=ih (λz hz=>hn z (ac _ hz)) (by
     rw[aL]at h
     by_cases hc:(k' == NameKind.free && env.scope.kind == .function && env.kindOf n == some .cell)=true
     ·simp only[if_pos hc,aJ,(beq_eq_false_iff_ne.mpr hx)]at h;exact h
     ·simp only[if_neg hc,aJ,(beq_eq_false_iff_ne.mpr hx)]at h;exact h)
    exact⟨z,ac _ hz,h1,h2⟩
 exact go _ hn h
section
theorem Yb (I:L2.Inv X pins σ H s)(S:CSc X scope)(hc:X.calm=true)
  (hcl:∀x c,cl.lookup x=some c->X.env.cells.lookup x=some c) (hcf:∀x∈scope.names,x.2=NameKind.free->∃c,cl.lookup x.1=some c)
  (hfp:∀b∈fp,Wd X pins H b) (hfo:∀b∈fp,∃o,s.heap.get? b=some o)
  (hns:h'.Ns s.heap.objs.size (λ_=>none)) (hk:∀b o,s.heap.get? b=some o->h'.get? b=some o)
  (hl:σ'.length=N'.length) (hσ:∀(i:Nat) (x:Str) (v:V),N'[i]? =some x->σ'[i]? =some (some v)->∃j:Nat,X.N[j]? =some x/\σ[j]? =some (some v)/\Vis X.env.scope x/\(scope.names.lookup x=some .free)/\(X.env.kindOf x=some .cell\/X.env.kindOf x=some .free)):
  L2.Inv (cxC X scope N' cl s.heap.objs.size s H fp pins) [] σ' H { s with heap:=h',toks:=tk }:=by
 have stk:=I.stkSub;have hlt:=λb hb=>let ⟨o,e⟩:=hfo b hb;ar e;have fresh:=I.hok.fresh (aj _);refine⟨⟨I.ok.mod,S.kind,I.ok.glob,I.ok.blt,aj _,λx y c h1 h2=>I.ok.inj x y c (hcl _ _ h1) (hcl _ _ h2),λx hx=> ?_,λx c h _=>(aA h).elim,λ_=>I.ok.hd hc,I.ok.frames,.inl rfl,λb hb=> ?_,I.bs,
   aD I.ok.bsz I.sz,λb o e hb=> ?_,λb hb hb' => ?_,I.stack,I.stkFree⟩,rfl,I.bare,Un.kept hk,⟨_,hns,λi x v h1 h2 h3=> ?_⟩,λx c e=> ?_,fresh,λx c e=>I.freeC x c (hcl _ _ e),λp hp=> ?_,I.hok.kept hk,hl⟩
 ·have hx' :=hx;obtain⟨y,hy,rfl,hyf⟩:∃y∈scope.names,y.1=x/\y.2= .free:=by
   rcases hx' with h | h
   ·exact jF h (.inl rfl) S.nocell
   ·exact jF h (.inr rfl) S.nocell
  exact hcf y hy hyf
 ·refine⟨aE (hlt b hb),λx c e=>(hfp b hb).2.2.2.2.1 x c (hcl _ _ e)⟩
 ·rcases(hfp b hb).2.2.2.1 with h | h
  ·exact I.ok.noex b o e h
  ·exact absurd (aH (ar e) (aD I.ok.bsz h)) (bH _)
 ·have q:=hfp b hb;rcases am.mp (stk b hb') with z | z
  ·exact q.2.1 z
  ·exact q.2.2.1 z
 ·obtain⟨j,e1,e2,e3,e4,e5⟩:=hσ i x v h1 h2;obtain⟨m,hn,hloc⟩:=I.loc;obtain⟨u,ru,lk⟩:=hloc j x v e1 e2 e3;refine⟨u,ru,.inr ⟨?_, ?_⟩⟩
  ·rcases h3 with h | h | h
   ·exfalso;have:∀ns:List _,ns.lookup x=some .free->(ns.map λ(n,k)=>if (k == NameKind.free && X.env.scope.kind == .function && X.env.kindOf n == some .cell) then (n,NameKind.cell) else (n,k)).lookup x ≠ some .local:=by
     intro ns
     induction ns with
     | nil=>intro z;simp at z
     | cons y ns ih=>
      obtain⟨n,k⟩:=y;intro z w;rw[aL]at w
      by_cases hx:x=n
      ·subst hx;have hkf:=by simpa[aJ] using z
       by_cases hcn:(k == NameKind.free && X.env.scope.kind == .function && X.env.kindOf x == some .cell)=true
       ·simp only[if_pos hcn,aJ,beq_self_eq_true]at w;cases w
       ·simp only[if_neg hcn,aJ,beq_self_eq_true]at w;rw[hkf]at w;cases w
      ·have z' :=by rw[aJ,(beq_eq_false_iff_ne.mpr hx)]at z;exact z
       refine ih z' ?_
       by_cases hcn:(k == NameKind.free && X.env.scope.kind == .function && X.env.kindOf n == some .cell)=true
       ·simp only[if_pos hcn,aJ,(beq_eq_false_iff_ne.mpr hx)]at w;exact w
       ·simp only[if_neg hcn,aJ,(beq_eq_false_iff_ne.mpr hx)]at w;exact w
    exact this _ e4 h
   ·exact .inl h
   ·exact .inr h
  ·rcases lk with ⟨hk',_⟩ | ⟨_,c,hc',hcell⟩
   ·rcases e5 with z | z <;> (rw[z]at hk';cases hk')
   ·obtain⟨c',hc2⟩:=hcf _ (bu e4) rfl;have:=hcl x c' hc2;rw[hc']at this;cases this;obtain⟨o,eo,ed⟩:=hcell;exact⟨c,hc2,o,hk _ _ eo,ed⟩
 ·obtain⟨v,o,eo,ed⟩:=I.cell x c (hcl _ _ e);exact⟨v,o,hk _ _ eo,ed⟩
 ·have hp' :=by
   have:=hp;rwa[aW]at this
  obtain⟨e,n,ne,nf,dc⟩:=I.pin p hp';refine⟨hk _ _ e,n,aE (ar e),λhb=> ?_,dc⟩;rcases am.mp (stk _ hb) with z | z
  ·exact ne z
  ·exact nf z
end
def PIf (X:Cx)(ifs:List Expr)(t:TT):Prop:=
 ∀(pins:List (Addr×Obj)) (s:Shared) (σ:Sg) (H:Hp) (Q:Bool->Hp->Prop),L2.Inv X pins σ H s->t σ H Q->
  wpAny (model X.prog X.w) X.A (forIn ifs true λc r=>if r=true then do let ok ← isTrue c X.env (eval c X.env);pure (ForInStep.yield ok) else pure (ForInStep.yield r)) (TP X pins σ Q) X.xe s
theorem xx:PIf X [] (λ_ H Q=>Q true H):=λ_ _ σ H _ I h=>wpAny_tests_nil ⟨H,I,h⟩
theorem xy (h:PT X c t):PIf X [c] t:=λpins s σ H Q I q=>wpAny_tests_one (h _ s σ H Q I q)
noncomputable abbrev XE (X:Cx)(xe:Value->Shared->Prop):Cx:={ X with xe:=xe }
theorem uP (I:L2.Inv X pins σ H s):L2.Inv (XE X xe) pins σ H s:=
 ⟨⟨I.ok.mod,I.ok.kind,I.ok.glob,I.ok.blt,I.ok.above,I.ok.inj,I.ok.has,I.ok.cab,I.ok.hd,I.ok.frames,I.ok.stk,I.ok.exf,I.ok.bs,I.ok.bsz,I.ok.noex,I.ok.exfs,I.ok.funs,I.ok.frf⟩,I.os,I.bare,I.base,I.loc,I.cell,I.free,I.freeC,I.pin,I.hok,I.len⟩
theorem Yc (I:L2.Inv (XE X xe) pins σ H s):L2.Inv X pins σ H s:=(uP I:L2.Inv _ _ σ H s)
theorem z17 (hx:X.xe=λ_ _=>False)(h:PG X e t):PG (XE X xe) e t:=λpins s σ H v u Q I r q=>bK (h _ s σ H v u Q (Yc I) r q) (λ_ s' ⟨σ',H',I',q'⟩=>⟨σ',H',uP I',q'⟩) λe s' z=>by rw[hx]at z;exact z.elim
theorem Ki (hx:X.xe=λ_ _=>False)(h:PIf X e t):PIf (XE X xe) e t:=λpins s σ H Q I q=>bK (h _ s σ H Q (Yc I) q) (λ_ s' ⟨H',I',q'⟩=>⟨H',uP I',q'⟩) λe s' z=>by rw[hx]at z;exact z.elim
theorem uQ {α:Type}{m:Sem α}{Q:α->Shared->Prop}(hE:∀e s',E' e s' ->E e s')(h:wpAny M A m Q E' s):wpAny M A m Q E s:=bK h (λ_ _ q=>q) hE
def QO (J:It)(D:Addr)(g:TG)(tt:TT)(te:TE)(fin:Sg->Hp->Prop)(W:Nat->Nat->List V->Sg->Hp->Prop):Prop:=
 ∀i m ys σ H,W i m ys σ H->H D=some (.lst ys)/\((J.stop i H/\fin σ H)\/(J.go i H/\∀x H2,J.yld i H x H2->g x σ H2 λσ3 H3=>tt σ3 H3 λk H4=>
  if k=true then te σ3 H4 λv H5=>H5 D=some (.lst ys)/\ys.length < sizeLine/\∃m',m' < m/\W (i+1) m' (ys++[v]) σ3 (upd H5 D (.lst (ys++[v]))) else ∃m',m' < m/\W (i+1) m' ys σ3 H4))
theorem Yd {X:Cx}{R:Result->Shared->Prop}(hx:∀e s',X.xe e s' ->notedBy (model X.prog X.w) X.A X.env (λe s' =>R (.error e) s') e s')(hc:X.calm=true){tg iter elt:Expr}{ifs:List Expr}{scope:Scope}{pos:Pos}{J:It}{fp:List Addr}{it:Addr}{tn:Nat->Heap->Prop}(TJ:yi X.prog X.w X.K tg J fp it tn)
  {g:TG} {tt:TT} {te:TE} (hg:PG X tg g) (ht:PIf X ifs tt) (he:PE X elt te) {D:Addr} {fin:Sg->Hp->Prop} (W:Nat->Nat->List V->Sg->Hp->Prop) (turn:QO J D g tt te fin W)
  (hR:∀s σ H,L2.Inv X [] σ H s->fin σ H->R (.ok .next) s) {m0:Nat} {σ0:Sg} {H0:Hp} {s0:Shared} (w0:W 0 m0 [] σ0 H0) (I0:L2.Inv X [] σ0 H0 s0) (t0:tn 0 s0.heap) (f0:∀b∈fp,Wd X [] H0 b):
  codeAny (model X.prog X.w) X.A (.compLoop (.ListComp elt [⟨tg,iter,ifs,0⟩] scope pos) 0 (.ref it) (.ref D) X.env) R s0:=by
 have stat:∀{H' :Hp},(∀b∈fp,H' b=none)->∀b∈fp,Wd X [] H' b:=λhn b hb=>⟨hn b hb,(f0 b hb).2⟩;refine codeAny_loop rfl (λn s' =>∃i ys σ' H',L2.Inv X [] σ' H' s' /\tn i s'.heap/\(∀b∈fp,H' b=none)/\W i n ys σ' H') (λn s3 h3=> ?_) m0 ⟨0,[],σ0,H0,I0,t0,λb hb=>(f0 b hb).1,w0⟩;obtain⟨i,ys,σ3,H3,I3,st3,fr3,w3⟩:=h3;show wpAny _ X.A ((compTurn _ 0 _ _ _).onRaise (λx=>do noteFrame x _;theTreesLotGoes x)) _ _ s3
 refine wpAny_noted ?_;obtain⟨hD,h⟩:=turn i n ys σ3 H3 w3;rcases h with ⟨stop,qn⟩ | ⟨go,next⟩
 ·refine a7 (wpAny_standAt (a7 (thn (TJ.done X rfl rfl rfl hc i [] s3 σ3 H3 _ I3 (stat fr3) st3 stop) λr s4 ⟨hr,I4⟩=> ?_)));subst hr;exact au (hR s4 σ3 H3 I4 qn)
 ·refine a7 (wpAny_standAt (a7 (thn (TJ.item X rfl rfl rfl hc i [] s3 σ3 H3 _ I3 (stat fr3) st3 go) λr s4 ⟨u,hr,h4⟩=> ?_)));subst hr;refine a7 (thn h4 λ_ s5 ⟨x,H5,I5,r5,y5,st5,fr5⟩=> ?_);have I5' :=I5.pinned (stat fr5) (TJ.obj _ _ st5);refine a7 (uQ hx (thn (hg _ s5 σ3 H5 x u _ I5' r5 (next x H5 y5)) λ_ s6 ⟨σ6,H6,I6,q6⟩=> ?_));have again:∀{σ7:Sg} {H7:Hp} {s7:Shared} {ys' :List V},L2.Inv X _ σ7 H7 s7->(∃m',m' < n/\W (i+1) m' ys' σ7 H7)->∃m,m < n/\∃i ys σ' H',L2.Inv X [] σ' H' s7/\tn i _/\(∀b∈fp,H' b=none)/\W i m ys σ' H' :=λ{σ7 H7 s7 ys'} I7 ⟨m',hm,w7⟩=>by
   refine⟨m',hm,i+1,ys',σ7,H7,I7.unpinned,TJ.keep _ _ _ st5 λb hb o e=>(I7.pin _ (aY _ (aY _ (jj hb e)))).1,λb hb=> ?_,w7⟩;obtain⟨o,e,d⟩:=TJ.obj _ _ st5 b hb;exact(I7.pin _ (aY _ (aY _ (jj hb e)))).2.1
  refine a7 (uQ hx (thn (ht _ s6 σ6 H6 _ I6 q6) λk s7 ⟨H7,I7,q7⟩=> ?_));cases k with
  | false=>exact au ⟨rfl,again I7 q7⟩
  | true=>
   refine a7 (a7 (uQ hx (thn (he _ s7 σ6 H7 _ I7 q7) λv s8 ⟨y,H8,I8,r8,hD8,hlen,q8⟩=> ?_)));refine a7 (uQ hx (thn (Jx _ s8 σ6 H8 (.ref D) [y] _ [v] (λ_ H9=>∃m',m' < n/\W _ m' _ σ6 H9) I8 rfl (.cons r8 .nil) ⟨D,ys,y,rfl,rfl,hD8,hlen,q8⟩) λw s9 ⟨_,H9,I9,_,q9⟩=> ?_));exact au (au ⟨rfl,again I9 q9⟩)
def Wu (k:Nat)(js:List Nat)(σ:Sg):Sg:=ai k none++js.map λj=>(σ[j]?).getD none
section
abbrev Vd (X:Cx)(scope:Scope)(N' :List Str)(P:Cx->Prop):Prop:=∀cl C s3 H3 fp pins,P (cxC X scope N' cl C s3 H3 fp pins)
abbrev Kj (X:Cx)(scope:Scope)(N' :List Str)(E:XK)(P:Cx->Prop):Prop:=∀cl C s3 H3 fp pins xe,Z5 (CX1 X.prog X.w) (XE (cxC X scope N' cl C s3 H3 fp pins) xe) E->P (XE (cxC X scope N' cl C s3 H3 fp pins) xe)
structure GH (X:Cx) (scope:Scope) (N' :List Str) (k:Nat) (js:List Nat):Prop where
 len:N'.length=k+js.length
 cap:∀(i j:Nat),js[i]? =some j->∃x,N'[k+i]? =some x/\X.N[j]? =some x/\Vis X.env.scope x/\scope.names.lookup x=some .free/\(X.env.kindOf x=some .cell\/X.env.kindOf x=some .free)
theorem wJ (hp:kP X E){js:List Nat}{use:Option (Value->Sem Unit)}(S:CSc X scope)(CP:GH X scope N' k js)(hc:X.calm=true)
  (hi:PI X tg iter wi) (hg:Vd X scope N' λXC=>PG XC tg g) (ht:Vd X scope N' λXC=>PIf XC ifs tt) (he:Kj X scope N' E λXC=>PE XC elt te) {pins:List (Addr×Obj)} {σ:Sg} {H:Hp} {s:Shared} {Q:Value->Shared->Prop} {F:Addr->Hp->Prop} (I:L2.Inv X pins σ H s)
  (h:wi σ H λJ H1=>∀D,H1 D=none->∃W,(∃m,W 0 m [] (Wu k js σ) (upd H1 D (.lst [])))/\QO J D g tt te (λ_ H' =>F D H') W)
  (hQ:∀D C H' s',L2.Inv X pins σ H' s' ->F D H' ->H' C=none->(X.s₀.heap.objs.size<=C)->C ≠ X.env.locals->(∀x c,X.env.cells.lookup x=some c->c ≠ C)->(∀p∈X.pn++pins,p.1 ≠ C)->(∃m,s'.heap.Ns C m)->compPost (model X.prog X.w) X.A X.xe use Q (.ref D) C (.ok .next) s')
  (hs:∀x,foldedSetIterable iter X.env x=pure x:=by intro _;rfl):
  wpAny (model X.prog X.w) X.A (comprehension (.ListComp elt [⟨tg,iter,ifs,0⟩] scope pos) scope X.env pos' (newList []) false (eval iter X.env) use) Q X.xe s:=by
 obtain⟨cl,ecl,hcl,hcf⟩:=Ya (scope:=scope) (env:=X.env) λx hx hf=>I.ok.has x.1 (S.fre x hx hf);refine wpAny_comprehension_free rfl hs ecl S.kind S.loc ?_;refine thn (hi pins s σ H _ I h) λv s1 h1=>thn h1 λitv s2 h2=> ?_;obtain⟨it,fp,tn,J,H2,e,I2,TJ,st2,f2,q2⟩:=h2;subst e;refine bv ?_;have hD:=I2.hok.fresh (aj _);have I3:L2.Inv X pins σ (upd H2 s2.heap.objs.size (.lst [])) { s2 with heap:=s2.heap.push { cls:= .type "list",data:= .seq _ } }:=
  I2.laid (t' :=s2.toks) (λb u e=>aa _ e) (aj _) ⟨bx _,[],_,.nil,ah _ rfl⟩
 obtain⟨W,⟨m0,w0⟩,turn⟩:=q2 s2.heap.objs.size hD;have f3:∀b∈fp,Wd X pins (upd H2 s2.heap.objs.size (.lst [])) b:=λb hb=>by
  obtain⟨o,eo,_⟩:=TJ.obj _ _ st2 b hb;exact⟨by rw[zu (aE (ar eo))];exact(f2 b hb).1,(f2 b hb).2⟩
 have o3:∀b∈fp,∃o,(s2.heap.push { cls:= .type "list",data:= .seq ([]:List Value).toArray }).get? b=some o:=λb hb=>by
  obtain⟨o,eo,_⟩:=TJ.obj _ _ st2 b hb;exact⟨o,aa _ eo⟩
 refine wpAny_newFunctionEnv S.nocell (by intro y hy;simp at hy) (λh4 hns4 hsb4=> ?_) S.kind
 generalize hG:s2.heap.push _=G3 at I3 o3 hns4 hsb4 ⊢;have s3e:∃s3:Shared,s3={ s2 with heap:=G3 }:=⟨_,rfl⟩;obtain⟨s3,es3⟩:=s3e;have hh3:s3.heap=s2.heap.push { cls:= .type "list",data:= .seq ([]:List Value).toArray }:=by rw[es3,hG]
 have hg3:G3=s3.heap:=by rw[es3]
 rw[← es3]at I3;rw[hg3]at hns4 hsb4 o3;have k4:=λb o e=>hsb4.extBut b o (aE (ar e)) (aa _ e);have IC:=Yb (N' :=N') (cl:=cl) (fp:=fp) (σ' :=Wu k js σ) (tk:=s3.toks+([]:List (Str×Value)).length) I3 S hc hcl hcf f3 o3 hns4 k4 (by unfold Wu;simp[CP.len]) (λi x v h1 h2=>by
  unfold Wu at h2
  by_cases hik:i < k
  ·rw[az (by simpa using hik),aF,if_pos hik]at h2
   cases h2
  ·have hk' :k<=i:=by omega
   rw[aq (by simpa using hk'),aQ,av]at h2
   cases ej:js[i - k]? with
   | none=>rw[ej]at h2;cases h2
   | some j=>
    rw[ej]at h2;obtain⟨y,e1,e2,e3,e4,e5⟩:=CP.cap (i - k) j ej;have:k+(i - k)=i:=by omega
    rw[this,h1]at e1;cases e1;refine⟨j,e2, ?_,e3,e4,e5⟩;have h2' :some ((σ[j]?).getD none)=some (some v):=h2;cases ez:σ[j]? with
    | none=>rw[ez]at h2';cases h2'
    | some z=>rw[ez]at h2';exact congrArg some (aB h2'))
 have TC:yi _ _ _ tg J fp it tn:=TJ;have t4:tn 0 h4:=TJ.keep _ _ _ st2 λb hb o e=>k4 b o (by rw[hh3];exact aa _ e)
 have fC:∀b∈fp,Wd (cxC X scope N' cl s3.heap.objs.size s3 (upd H2 s2.heap.objs.size (.lst [])) fp pins) [] _ b:=λb hb=>by
  obtain⟨q0,q1,q2,q3,q4,q5⟩:=f3 b hb;obtain⟨o,eo⟩:=o3 b hb;refine⟨q0,aE (ar eo),λhb' => ?_,.inl hb,λx c e=>q4 x c (hcl _ _ e),λp hp=> ?_⟩
  ·rcases am.mp (I3.stkSub b hb') with z | z
   ·exact q1 z
   ·exact q2 z
  ·exact q5 p (by
    have:=hp;rwa[aW]at this)
 have fin:∀(s5:Shared) (σ5:Sg) (H5:Hp),L2.Inv (cxC X scope N' cl s3.heap.objs.size s3 (upd H2 s2.heap.objs.size (.lst [])) fp pins) [] σ5 H5 s5->F s2.heap.objs.size H5->compPost (model X.prog X.w) X.A X.xe use Q _ s3.heap.objs.size (.ok .next) s5:=λs5 σ5 H5 I5 q5=>by
  have J5:=I3.call' (ch:=fp) I5.os I5.base I5.hok I5.bare λb hb=>by
   obtain⟨q0,q1,q2,q3,q4,q5⟩:=f3 b hb;exact⟨q3,q1,q4,q5⟩
  refine hQ _ _ H5 s5 J5 q5 I5.free I3.sz (da I3.lt) (λx c e z=> ?_) (λp hp z=> ?_) (let ⟨m,hm,_⟩:=I5.loc;⟨m,hm⟩)
  ·obtain⟨v',o,eo,_⟩:=I3.cell x c e;exact absurd (ar eo) (by rw[z];exact bH _)
  ·exact absurd (ar (I3.pin p hp).1) (by rw[z];exact bH _)
 have pass:Z5 (CX1 X.prog X.w) (XE (cxC X scope N' cl s3.heap.objs.size s3 (upd H2 s2.heap.objs.size (.lst [])) fp pins) (notedBy (model X.prog X.w) X.A (compEnvC scope cl s3.heap.objs.size X.env) λe s' =>compPost (model X.prog X.w) X.A X.xe use Q (.ref s2.heap.objs.size) s3.heap.objs.size (.error e) s')) E:=by
  intro pins1 σ1 H1 s1 e s' I1 c1;have J1:=I3.call' I1.os I1.base I1.hok I1.bare λb hb=>by
   obtain⟨q0,q1,q2,q3,q4,q5⟩:=f3 b hb;exact⟨q3,q1,q4,q5⟩
  obtain⟨m1,hm1,_⟩:=I1.loc;refine thn (hp pins σ H1 s1 e s' _ m1 _ _ J1 hm1 I1.free I3.sz (λz=> ?_) rfl c1) λ_ s'' q=> ?_
  ·obtain⟨_,o,eo,_⟩:=I3.stack.mem z;exact absurd (ar eo) (bH _)
  ·cases use <;> exact q
 have loop:=Yd (X:=XE (cxC X scope N' cl _ s3 _ fp _) (notedBy _ X.A _ λe s' =>compPost _ X.A _ use Q _ _ _ s')) (iter:=iter) (scope:=scope) (pos:=pos) (λ_ _ z=>z) hc TC (z17 rfl (hg _ _ _ _ _ _)) (Ki rfl (ht _ _ _ _ _ _)) (he _ _ _ _ _ _ _ pass) W turn (λs5 σ5 H5 I5=>fin s5 σ5 H5 (Yc I5)) w0 (uP IC) t4 fC;rw[es3]at loop;exact codeAny_compStart_list loop (TJ.self _ _ _ _ _ t4 loop)
end
def zQ (g:T->En->R En)(ft:En->R Bool)(fe:En->R T):List T->En->R (List T)
 | [],_=> .ok []
 | t :: ts,ρ=>(g t ρ).bind λρ1=>(ft ρ1).bind λk=>if k=true then (fe ρ1).bind λv=>(zQ g ft fe ts ρ1).bind λvs=> .ok (v :: vs) else zQ g ft fe ts ρ1
noncomputable def ue:Option Sl->Sl
 | some (.vl t)=> .vl t
 | some (.ob k _)=> .oc k []
 | some (.oc k fs)=> .oc k fs
 | _=> .un
def Wv (k:Nat)(js:List Nat)(ρ:En):En:=ai k .un++js.map λj=>ue ρ[j]?
noncomputable def quiet {α:Type}:R α->R α
 | .ok a=> .ok a
 | _=> .bad
def zG (g:T->En->R En)(ft:En->R Bool)(fe:En->R T)(k:Nat)(js:List Nat)(ρ:En)(ts:List T):R (List T):=if ts.length<=bnd then quiet (zQ g ft fe ts (Wv k js ρ)) else .bad
def Z0 (fi:En->R (List T))(g:T->En->R En)(ft:En->R Bool)(fe:En->R T)(k:Nat)(js:List Nat):En->R T:=λρ=>(fi ρ).bind λts=>(zG g ft fe k js ρ ts).bind λvs=> .ok (.lst vs)
def GOk (tG:TG)(g:T->En->R En):Prop:=∀Y B ρ σ H v x Q,SI Y B ρ σ H->Rep B v x->(match g x ρ with | .ok ρ' =>∀σ',SI Y B ρ' σ' H->Q σ' H | _=>False)->tG v σ H Q
theorem QP (i:Nat):GOk (wy i) (zK i):=λY B ρ σ H v x Q I r q=>q _ (I.setV i r)
theorem QR (K:a8)(i j:Nat):GOk (z0m K 2 (yv (wy i) (yv (wy j) z0l))) (ZF i j):=λY B ρ σ H v t Q I r q=>by
 cases r with
 | @tup l xs ts h r=>
  cases r with
  | nil=>exact q.elim
  | cons r1 rr=>
   cases rr with
   | nil=>exact q.elim
   | cons r2 rr=>
    cases rr with
    | cons _ _=>exact q.elim
    | nil=>exact⟨l,_,rfl,SqT.of (I.sB _ _ h),rfl,_,_,rfl,_,_,rfl,rfl,q _ ((I.setV i r1).setV j r2)⟩
 | _=>exact q.elim
theorem SI.blockS (I:SI Y B ρ σ H)(k:Nat)(js:List Nat)(E:XK)(s:zv H H'):SI ⟨B,H,E,Y.cl,[]⟩ B (Wv k js ρ) (Wu k js σ) H' where
 s0:=I.sB
 sH:=s
 sB:=I.sB.trans s
 old:=λ_ _ _=>rfl
 len:=by unfold Wv Wu;simp
 vl:=λi t h=>by
  unfold Wv at h;unfold Wu
  by_cases hik:i < k
  ·rw[az (by simpa using hik),aF,if_pos hik]at h;cases h
  ·have hk' :k<=i:=by omega
   rw[aq (by simpa using hk'),aQ,av]at h ⊢
   cases ej:js[i - k]? with
   | none=>rw[ej]at h;cases h
   | some j=>
    rw[ej]at h;have h' :ue ρ[j]? = .vl t:=aB h;unfold ue at h';split at h'
    ·rename_i u e;cases h';obtain⟨v,e1,r⟩:=I.vl j _ e;exact⟨v,by show some ((σ[j]?).getD none)=_;rw[e1];rfl,r⟩
    all_goals cases h'
 ow:=λi ts h=>by
  exfalso;unfold Wv at h
  by_cases hik:i < k
  ·rw[az (by simpa using hik),aF,if_pos hik]at h;cases h
  ·have hk' :k<=i:=by omega
   rw[aq (by simpa using hk'),aQ,av]at h
   cases ej:js[i - k]? with
   | none=>rw[ej]at h;cases h
   | some j=>
    rw[ej]at h;have h' :ue ρ[j]? = .ow ts:=aB h;unfold ue at h';split at h' <;> cases h'
 xc:=λi c h=>by
  exfalso;unfold Wv at h
  by_cases hik:i < k
  ·rw[az (by simpa using hik),aF,if_pos hik]at h;cases h
  ·have hk' :k<=i:=by omega
   rw[aq (by simpa using hk'),aQ,av]at h
   cases ej:js[i - k]? with
   | none=>rw[ej]at h;cases h
   | some j=>
    rw[ej]at h;have h' :ue ρ[j]? = .xc c:=aB h;unfold ue at h';split at h' <;> cases h'
 st:=by
  have get:∀(i:Nat) (x:Sl),x.isO=true->(Wv k js ρ)[i]? =some x->∃j,js[i - k]? =some j/\k<=i/\ue ρ[j]? =x:=λi x hx h=>by
   unfold Wv at h
   by_cases hik:i < k
   ·rw[az (by simpa using hik),aF,if_pos hik]at h
    cases h;cases hx
   ·have hk' :k<=i:=by omega
    rw[aq (by simpa using hk'),aQ,av]at h
    cases ej:js[i - k]? with
    | none=>rw[ej]at h;cases h
    | some j=>
     rw[ej]at h;exact⟨j,rfl,hk',aB h⟩
  refine⟨[],λ_=>none,ce _,λi os h=> ?_,λi _ os _ h=> ?_,λi k' n h=> ?_,λi k' fs h=> ?_,λi os h=> ?_⟩
  ·obtain⟨j,_,_,e⟩:=get i _ rfl h;unfold ue at e;split at e <;> cases e
  ·obtain⟨j,_,_,e⟩:=get i _ rfl h;unfold ue at e;split at e <;> cases e
  ·obtain⟨j,_,_,e⟩:=get i _ rfl h;unfold ue at e;split at e <;> cases e
  ·obtain⟨j,ej,hk',e⟩:=get i _ rfl h;have sg:(Wu k js σ)[i]? =some ((σ[j]?).getD none):=by
    unfold Wu;rw[aq (by simpa using hk'),aQ,av,ej];rfl
   obtain⟨as,O,x⟩:=I.st;unfold ue at e;split at e
   ·cases e
   ·rename_i k2 n2 e2;cases e;obtain⟨a,C,dx,vs,_,e3,e4,e5,_,_,e6⟩:=x.ob j _ _ e2;exact⟨a,C,dx,vs,by rw[sg,e3];rfl,e4,e5,e6,λm f d z=>by cases z⟩
   ·rename_i k2 fs2 e2;cases e;obtain⟨a,C,dx,vs,e3,e4,e5,e6,e7⟩:=x.oc j _ _ e2;exact⟨a,C,dx,vs,by rw[sg,e3];rfl,e4,I.sH _ _ e5,e6,e7.mono (zv.refl _) I.sH⟩
   ·cases e
  ·obtain⟨j,_,_,e⟩:=get i _ rfl h;unfold ue at e;split at e <;> cases e
theorem SI.block {Y:Fx}{B:Hp}{ρ:En}{σ:Sg}{H H3:Hp}{D:Addr}(I:SI Y B ρ σ H)(k:Nat)(js:List Nat)(E:XK)(hD:H D=none)(o:HO):SI ⟨B,H,E,Y.cl,[]⟩ B (Wv k js ρ) (Wu k js σ) (upd H D o):=I.blockS k js E (zv.new hD _)
theorem SI.acc {Y:Fx}{B:Hp}{ρ:En}{σ:Sg}{H:Hp}{D:Addr}(I:SI Y B ρ σ H)(hb:B D=none)(h0:Y.H0 D=none)(ho:∀(i:Nat) (ts:List T),ρ[i]? =some (Sl.ow ts)->σ[i]? ≠ some (some (V.ref D)))(hso:∀(i:Nat) (x:Sl),ρ[i]? =some x->Sl.isS x=true->False)(o:HO):SI Y B ρ σ (upd H D o) where
 s0:=I.s0
 sH:=λb u h=>by
  rw[zu (λz=>by subst z;rw[h0]at h;cases h)];exact I.sH b u h
 sB:=λb u h=>by
  rw[zu (λz=>by subst z;rw[hb]at h;cases h)];exact I.sB b u h
 old:=I.old
 len:=I.len
 vl:=I.vl
 ow:=λi ts h=>by
  obtain⟨a,xs,e,b0,h0',hh,r,d⟩:=I.ow i ts h;refine⟨a,xs,e,b0,h0', ?_,r,d⟩;rw[zu (λz=>ho i ts h (by rw[e,z]))];exact hh
 xc:=I.xc
 st:=let ⟨as,O,x⟩:=I.st;⟨as,O,x.pre,λi os h=>hso i _ h rfl |>.elim,λi j os os' h=>hso i _ h rfl |>.elim,λi k n h=>hso i _ h rfl |>.elim,x.oc,λi os h=>hso i _ h rfl |>.elim⟩
def XT (ρ:En):Prop:=∀(i:Nat) (x:Sl),ρ[i]? =some x->(∀ts,x ≠ Sl.ow ts)/\(x.isS=true->False)
theorem QS (k:Nat)(js:List Nat)(ρ:En):XT (Wv k js ρ):=λi x h=>by
 unfold Wv at h
 by_cases hik:i < k
 ·rw[az (by simpa using hik),aF,if_pos hik]at h
  cases h;exact⟨λ_=>Sl.noConfusion,aA⟩
 ·have hk' :=by omega
  rw[aq (by simpa using hk'),aQ,av]at h
  cases ej:js[i - k]? with
  | none=>rw[ej]at h;cases h
  | some j=>
   rw[ej]at h;have h' :ue _=x:=aB h;unfold ue at h';split at h' <;> (subst h';exact⟨λ_=>Sl.noConfusion,aA⟩)
theorem wK {ρ:En}{i:Nat}{t:T}(h:XT ρ):XT (ρ.set i (.vl t)):=λj x e=>by
 rcases zr e with ⟨_,z⟩ | ⟨_,z⟩
 ·subst z;exact⟨λ_=>Sl.noConfusion,aA⟩
 ·exact h j x z
def GNo (g:T->En->R En):Prop:=(∀t ρ ρ',XT ρ->g t ρ= .ok ρ' ->XT ρ')/\∀t ρ c,g t ρ ≠ .ex c
theorem QT (i:Nat):GNo (zK i):=⟨λt ρ ρ' h e=>by
 cases e;exact wK h,λt ρ c e=>by cases e⟩
theorem QU (i j:Nat):GNo (ZF i j):=⟨λt ρ ρ' h e=>(by
 unfold ZF at e;split at e
 ·cases e;exact wK (wK h)
 ·cases e),λt ρ c e=>by unfold ZF at e;split at e <;> cases e⟩
section
variable {X:Cx}{Y:Fx}{tg iter elt:Expr}{ifs:List Expr}{scope:Scope}{pos pos' :Pos}{N' :List Str}{k:Nat}{js:List Nat}{fi:En->R (List T)}{tG:TG}{g:T->En->R En}{ft:En->R Bool}{fe:En->R T}
structure wL (X:Cx) (Y:Fx) (ifs:List Expr) (f:En->R Bool):Prop where
 mk ::
 go:∀ρ,PIf X ifs (tS Y rE f ρ)
instance {X:Cx}{Y:Fx}{ifs:List Expr}{f:En->R Bool}:CoeFun (wL X Y ifs f) λ_=>∀ρ,PIf X ifs (tS Y rE f ρ):=⟨wL.go⟩
theorem PIf.imp {X:Cx}{e:List Expr}{t t' :TT}(h:PIf X e t)(i:∀σ H Q,t' σ H Q->t σ H Q):PIf X e t' :=λpins s σ H Q I q=>h _ s σ H Q I (i σ H Q q)
def Zl:En->R Bool:=λ_=> .ok true
theorem Kk {X:Cx}:wL X Y [] Zl:= .mk λρ=>PIf.imp xx λσ H Q ⟨B,I,q⟩=>ZB I q rfl
theorem Kl {X:Cx}{c:Expr}(h:W7 X Y c ft):wL X Y [c] ft:= .mk λρ=>xy (h ρ)
noncomputable def CEnd (r:R (List T))(P:List T->Prop)(Z:Nat->Prop):Prop:=match r with
 | .ok vs=>P vs
 | .ex c=>Z c
 | .bad=>False
theorem US {B1 H1:Hp}{σ:Sg}{ρ:En}{J:It}{ts:List T}{r:R (List T)}{D:Addr}{E0:XK}(hG:GOk tG g)(hN:GNo g)(I:SI Y B1 ρ σ H1)(rI' :rI B1 H1 J ts)(hl:ts.length<=bnd)(ev:zQ g ft fe ts (Wv k js ρ)=r)(hD:H1 D=none){F:Hp->Prop}
  (hF:CEnd r (λvs=>∀H' xs B',zv H1 H' ->H' D=some (.lst xs)->zE B' xs vs->zv B' (zO B1 H1 H')->B' D=none->zv B1 B' ->F H') λc=>∀d H',zv H1 H' ->zv B1 H' ->E0 (Y.cl c) d H'):
  ∃W,(∃m,W 0 m [] (Wu k js σ) (upd H1 D (.lst [])))/\QO J D tG (λσ H Q=>∃Y' ρ',Y'.cl=Y.cl/\tS Y' rE ft ρ' σ H Q) (λσ H Q=>∃Y' ρ',Y'.cl=Y.cl/\Y'.E=E0/\tS Y' rC fe ρ' σ H Q) (λ_ H' =>F H') W:=by
 refine⟨λi m ys σ' H' =>m=ts.length - i/\i<=ts.length/\ys.length<=i/\H' D=some (.lst ys)/\∃ρ' B' us,SI ⟨B1,H1,E0,Y.cl,[]⟩ B' ρ' σ' H' /\XT ρ' /\zv B1 B' /\B' D=none/\zE B' ys us/\((zQ g ft fe (ts.drop i) ρ').bind λws=> .ok (us++ws))=r,
  ⟨ts.length,by simp,bx _,bx _,zx,_,B1,[],I.block (H3:=H1) k js _ hD _,QS k js ρ,zv.refl _,I.sB.free hD,.nil,by rw[dh,ev];cases r <;> rfl⟩, ?_⟩
 rintro i m ys σ' H' ⟨rfl,hi,hyl,hDl,ρ',B',us,I',no',s1',bD,r',ew⟩
 refine⟨hDl, ?_⟩;obtain⟨hgo,hyld,hstop⟩:=rI' B' H' s1' I'.sB;have tD:∀H2,zv H' H2->zO B' H' H2 D=none:=λH2 s=>by rw[Z9 hDl];exact bD
 by_cases hlt:i < ts.length
 ·refine .inr ⟨hgo i hlt,λx H2 y=> ?_⟩;obtain⟨s2,r2⟩:=hyld i _ x H2 (ag hlt) y;rw[dQ hlt]at ew;unfold zQ at ew;have I2:=I'.grow s2;refine hG _ _ ρ' σ' H2 x _ _ I2 r2 ?_;cases eg:g ts[i] ρ' with
  | bad=>rw[eg]at ew;subst ew;exact hF
  | ex c=>exact(hN.2 _ _ _ eg).elim
  | ok ρ1=>
   rw[eg]at ew;have no1:=hN.1 _ _ _ no' eg;intro σ1 J1;refine⟨⟨B1,H1,E0,Y.cl,[]⟩,ρ1,rfl,_,J1, ?_⟩;have ew1:((ft ρ1).bind (λk=>if k=true then (fe ρ1).bind λv=>(zQ g ft fe (ts.drop (i+1)) ρ1).bind λvs=> .ok (v :: vs) else zQ g ft fe (ts.drop _) ρ1)).bind (λws=> .ok _)=r:=ew
   cases ef:ft ρ1 with
   | bad=>rw[ef]at ew1;subst ew1;exact hF
   | ex c=>
    rw[ef]at ew1;subst ew1;exact λd H' a b=>hF d H' a ((s1'.trans (zO.ge I'.sB s2)).trans b)
   | ok kk=>
    rw[ef]at ew1;intro b H3 s3 eb;have eb' :=eb;subst eb';have ew2:=ew1;have J2:=J1.grow s3;have hD3:H3 D=some _:=s3 _ _ (s2 _ _ hDl);have bD3:zO (zO B' H' H2) H2 H3 D=none:=by rw[Z9 (s2 _ _ hDl)];exact tD H2 s2
    have sB3:=(zO.ge I'.sB s2).trans (zO.ge I2.sB s3);cases b with
    | false=>exact⟨ts.length - (i+1),by omega,rfl,hlt,by omega,hD3,ρ1,_,us,J2,no1,s1'.trans sB3,bD3,r'.mono sB3,ew2⟩
    | true=>
     refine⟨⟨B1,H1,E0,Y.cl,[]⟩,ρ1,rfl,rfl,_,J2, ?_⟩;have ew3:=ew2;cases ee:fe ρ1 with
     | bad=>rw[ee]at ew3;subst ew3;exact hF
     | ex c=>
      rw[ee]at ew3;subst ew3;exact λd H' a b=>hF d H' a ((s1'.trans sB3).trans b)
     | ok v=>
      rw[ee]at ew3;have ew4:=ew3;have ew5:(zQ g ft fe (ts.drop (i+1)) ρ1).bind (λws=> .ok ((us++[v])++ws))=r:=by
       rw[← ew4];cases zQ g ft fe _ ρ1 with
       | ok ws=>show R.ok _=R.ok _;rw[aX];rfl
       | _=>rfl
      intro w H4 s4 rw4;have hD4:=s4 _ _ hD3;have J3:=J2.grow s4;have bD4:zO (zO (zO B' H' H2) H2 H3) H3 H4 D=none:=by rw[Z9 hD3];exact bD3
      have sB4:=sB3.trans (zO.ge J2.sB s4);refine⟨hD4,aH (bU hyl hlt) (Zs hl),ts.length - (i+1),by omega,rfl,hlt,by rw[ao,aC];omega,zx,ρ1,_,us++[v], ?_,no1,s1'.trans sB4,bD4,(r'.mono sB4).append (.cons rw4 .nil),ew5⟩
      exact J3.acc bD4 hD (λj ts' e=>((no1 j _ e).1 ts' rfl).elim) (λj x e=>(no1 j x e).2) _
 ·have e:i=ts.length:=by omega
  subst e;refine .inl ⟨hstop _ (aj _), ?_⟩;rw[i8]at ew;have ew' :R.ok _=r:=ew;rw[aW]at ew';subst ew';refine hF H' ys B' I'.sH hDl r' (λb o h=> ?_) bD s1';cases q:H1 b with
  | none=>rw[zZ q];exact I'.sB b o h
  | some u=>
   rw[Z9 q];have z:B' b=B1 b:=I'.old b u q;rw[← z];exact h
theorem JA {J:It}(hG:GOk tG g)(hN:GNo g)(I:SI Y B1 ρ σ H1)(rI' :rI B1 H1 J ts)(hl:ts.length<=bnd)(ev:zQ g ft fe ts (Wv k js ρ)= .ok vs)(hD:H1 D=none){F:Hp->Prop}
  (hF:∀H' xs B',zv H1 H' ->H' D=some (.lst xs)->zE B' xs vs->zv B' (zO B1 H1 H')->B' D=none->zv B1 B' ->F H'):
  ∃W,(∃m,W 0 m [] (Wu k js σ) (upd H1 D (.lst [])))/\QO J D tG (λσ H Q=>∃Y' ρ',Y'.cl=Y.cl/\tS Y' rE ft ρ' σ H Q) (λσ H Q=>∃Y' ρ',Y'.cl=Y.cl/\(Y'.E=λ_ _ _=>False)/\tS Y' rC fe ρ' σ H Q) (λ_ H' =>F H') W:=US hG hN I rI' hl ev hD hF
structure we (X:Cx) (Y:Fx) (tg iter elt:Expr) (ifs:List Expr) (scope:Scope) (N' :List Str) (k:Nat) (js:List Nat) (fi:En->R (List T)) (tG:TG) (g:T->En->R En) (ft:En->R Bool) (fe:En->R T):Prop where
 sc:CSc X scope
 cp:GH X scope N' k js
 cm:X.calm=true
 it:ud X Y tg iter fi
 gt:Vd X scope N' λXC=>PG XC tg tG
 gk:GOk tG g
 gn:GNo g
 tt:∀Y',Y'.cl=Y.cl->Vd X scope N' λXC=>wL XC Y' ifs ft
 el:∀Y',Y'.cl=Y.cl->Kj X scope N' Y'.E λXC=>Snd XC Y' elt fe
 hs:∀x,foldedSetIterable iter X.env x=pure x
theorem Ve (C:we X Y tg iter elt ifs scope N' k js fi tG g ft fe):Snd X Y (.ListComp elt [⟨tg,iter,ifs,0⟩] scope pos) (Z0 fi g ft fe k js):= .mk λρ=>by
 intro pins s σ H Q I ⟨B,J,q⟩;refine wJ (jQ rfl) (F:=λD H' =>Q (.ref D) H') (te:=λσ H Q=>∃Y' ρ',Y'.cl=Y.cl/\(Y'.E=λ_ _ _=>False)/\tS Y' rC fe ρ' σ H Q) (tt:=λσ H Q=>∃Y' ρ',Y'.cl=Y.cl/\tS Y' rE ft ρ' σ H Q) C.sc C.cp C.cm (C.it ρ) C.gt
  (λcl Cx' s3 H3 fp pins pins' s σ H Q I ⟨Y',ρ',ey,q⟩=>C.tt Y' ey cl Cx' s3 H3 fp _ ρ' _ s σ H Q I q) (λcl Cx' s3 H3 fp pins xe hp pins' s σ H Q I ⟨Y',ρ',ey,eE,q⟩=>C.el Y' ey cl Cx' s3 H3 fp _ xe (eE ▸ hp) ρ' _ s σ H Q I q) I ?_ ?_ C.hs
 ·refine step J q λts it' H1 _ s1 r1 J1 q1=> ?_;intro D hD;unfold zG at q1;split at q1
  ·rename_i hl;cases ev:zQ g ft fe ts _ with
   | bad=>rw[ev]at q1;exact q1.elim
   | ex c=>rw[ev]at q1;exact q1.elim
   | ok vs=>
    rw[ev]at q1;refine JA C.gk C.gn J1 r1 hl ev hD λH' xs B' s' e' r' l' b' sb' => ?_;refine(show Po Y rC _ H1 _ Q from q1) _ H' s' ?_;exact .lst (by rw[zZ hD];exact e') (r'.mono l')
  ·exact q1.elim
 ·intro D Cc H' s' I' q' hC h0 hL hcell hpin hns;obtain⟨m,hm⟩:=hns;refine⟨m,hm,λh' hsb=>⟨.ref D,H', ?_,rfl,q'⟩⟩;exact I'.turned (λb o hb e=>hsb.extBut b o hb e) hC (bi hL).symm (.inr h0) hcell hpin
end
section
variable {js:List Nat}{g:T->En->R En}
theorem Km (C:we X Y tg iter elt ifs scope N' k js fi tG g ft fe)(hN:X.N.Nodup)(hi:X.N[i]? =some x)(hx:L2.Loc X.env.scope x)
  (hsw:swapsWith (.ListComp elt [⟨tg,iter,ifs,0⟩] scope pc) (some (.Name x p')) pos.line X.env=pure true) (hf:X.fn x=true\/X.env.scope.names.lookup x=some .local:=by first | exact .inl rfl | exact .inr rfl | assumption):
  jT X Y (.Assign [.Name x p'] (.ListComp elt [⟨tg,iter,ifs,0⟩] scope pc) pos) (zL i (Z0 fi g ft fe k js)):= .mk λρ=>by
 intro pins s σ H D I ⟨B,J,q⟩;rw[exec_Assign_Name_used _ _ _ _ hsw];refine a7 (wpAny_standAt (a7 ?_));refine a7 (thn (wJ (jQ rfl) (F:=λD' H' =>D.nx (σ.set i (some (.ref D'))) H') (te:=λσ H Q=>∃Y' ρ',Y'.cl=Y.cl/\(Y'.E=λ_ _ _=>False)/\tS Y' rC fe ρ' σ H Q) (tt:=λσ H Q=>∃Y' ρ',Y'.cl=Y.cl/\tS Y' rE ft ρ' σ H Q) C.sc C.cp C.cm (C.it ρ) C.gt
  (λcl Cx' s3 H3 fp pins pins' s σ H Q I ⟨Y',ρ',ey,q⟩=>C.tt Y' ey cl Cx' s3 H3 fp _ ρ' _ s σ H Q I q) (λcl Cx' s3 H3 fp pins xe hp pins' s σ H Q I ⟨Y',ρ',ey,eE,q⟩=>C.el Y' ey cl Cx' s3 H3 fp _ xe (eE ▸ hp) ρ' _ s σ H Q I q) I ?_ ?_ C.hs) λ_ s' hq=>au (au hq))
 ·have q' :PoS Y B (((fi ρ).s λts=>(zG g ft fe k js ρ ts).s λvs=> .nx (ρ.set i (.vl (.lst vs))))) D:=by
   unfold zL Z0 at q;revert q;cases fi ρ with
   | bad=>exact λq=>q
   | ex c=>exact λq=>q
   | ok ts=>
    intro q;have q2:PoS Y B (((zG g ft fe k js ρ ts).bind λvs=>R.ok _).s λt=>RS.nx _) D:=q;show PoS Y B ((zG g ft fe k js ρ ts).s λvs=>RS.nx _) D;revert q2;cases zG g ft fe k js ρ ts with
    | bad=>exact λq=>q
    | ex c=>exact λq=>q
    | ok vs=>exact λq=>q
  refine jE J q' λts it' H1 _ s1 r1 J1 q1=> ?_;intro D' hD;unfold zG at q1;split at q1
  ·rename_i hl;cases ev:zQ g ft fe ts _ with
   | bad=>rw[ev]at q1;exact q1.elim
   | ex c=>rw[ev]at q1;exact q1.elim
   | ok vs=>
    rw[ev]at q1;refine JA C.gk C.gn J1 r1 hl ev hD λH' xs B' s' e' r' l' b' sb' => ?_;have rr:Rep _ _ _:= .lst (by rw[zZ hD];exact e') (r'.mono l')
    exact q1 _ _ _ (zO.ge J1.sB s') ((J1.grow s').setV i rr)
  ·exact q1.elim
 ·intro D' Cc H' s' I' q' hC h0 hL hcell hpin hns;obtain⟨m,hm⟩:=hns;refine wpAny_assign_Name (Wb (v:= .ref D') I' hN hi hx rfl (λs'' I'' ⟨a,hsb,ha⟩=> ?_) hf);have hne:Cc ≠ a:=by
   rcases ha with rfl | ha
   ·exact hL
   ·exact(hcell x a ha).symm
  refine⟨m,hm.sameBut hsb hne,λh' hsb' =>⟨_,H', ?_,q'⟩⟩;exact I''.turned (λb o hb e=>hsb'.extBut b o hb e) hC hL (.inr h0) hcell hpin
end
noncomputable def Itc (x:Str):It:=⟨λi _=>i < x.cps.size,λi H v H' =>H' =H/\∃c,x.cps[i]? =some c/\v= .str ⟨#[c]⟩,λi _=>x.cps.size<=i⟩
theorem wf {P:Program}{w:World}{K:a8}{tg:Expr}{x:Str}{t:Tok}{ty:String}(it:Addr)(hty:ty="str_ascii_iterator"\/ty="str_iterator"):yi P w K tg (Itc x) [it] it (λi h=>h.IsStrIter it ty x t i):=by
 have W:∀A:Around,A.handled=none->Walks P w A it [it] [it] x.cps.size (SignAt x) (λi h=>h.IsStrIter it ty x t i):=λA hA=>by
  rcases hty with rfl | rfl
  ·exact Walks.strAscii hA it x t
  ·exact Walks.strWide hA it x t
 have hn:["enumerate","zip","dict_itemiterator","dict_reverseitemiterator","odict_iterator","itertools.zip_longest","itertools.pairwise"].contains ty=false:=by rcases hty with rfl | rfl <;> decide
 refine⟨by simp,λi h st b hb=> ?_,λi h h' st k=> ?_, ?_, ?_,λA i s Q E st h=> ?_⟩
 ·have e:b=it:=by simpa using hb
  subst e;obtain⟨o,e,c,d⟩:=st;exact⟨o,e,λv z=>by rw[d]at z;cases z⟩
 ·obtain⟨o,e,r⟩:=st;exact⟨o,k it (by simp) o e,r⟩
 ·intro X hP hw hK hc i pins s σ H E I hf st hg;obtain⟨f0,f1,f2,f3,f4,f5⟩:=hf it (by simp)
  refine(W X.A (I.ok.hd hc)).item i s _ _ hg st λv h' tk hv st' kk=> ?_;obtain⟨c,u,hc',rfl⟩:=hv;have I1:L2.Inv X _ σ H { s with heap:=h',toks:=tk }:=I.turned (λb o hb e=>kk b o (by simpa using hb) e) f0 f1 f3 f4 f5
  obtain⟨o,e,cl,d⟩:=id st';exact⟨_,rfl,Ux e cl d hn ⟨.str _,H,I1,⟨u,rfl⟩,⟨rfl,c,hc',rfl⟩,st',λb hb=>(hf b hb).1⟩⟩
 ·intro X hP hw hK hc i pins s σ H E I hf st hg;obtain⟨f0,f1,f2,f3,f4,f5⟩:=hf it (by simp)
  have hx:=cu hg;rcases hty with rfl | rfl
  ·exact wpAny_pyNext_ascii_end (I.ok.hd hc) st hx λh' eb=>⟨rfl,I.turned (λb o hb e=>eb b o hb e) f0 f1 f3 f4 f5⟩
  ·exact wpAny_pyNext_wide_end (I.ok.hd hc) st hx λh' eb=>⟨rfl,I.turned (λb o hb e=>eb b o hb e) f0 f1 f3 f4 f5⟩
 ·rcases hty with rfl | rfl
  ·exact wpAny_pyIter_striter_ascii st h
  ·exact wpAny_pyIter_striter_wide st h
noncomputable def JB (x:Str):List T:=x.cps.toList.map λc=>T.str ⟨#[c]⟩
theorem QV:rI B1 H1 (Itc x) (JB x):=λB2 H2 s1 s2=>by
 have hl:(JB x).length=x.cps.size:=by unfold JB;simp
 refine⟨λi hi=>by rw[hl]at hi;exact hi,λi t v H3 e y=> ?_,λi hi=>by rw[hl]at hi;exact hi⟩
 obtain⟨rfl,c,hc,rfl⟩:=y;refine⟨zv.refl _, ?_⟩;unfold JB at e;rw[av]at e;have hc' :x.cps.toList[i]? =some c:=by simpa using hc
 rw[hc']at e;cases e;exact .str _
section
theorem Kn {l:Expr}{tl:TE}(hl:PE X l tl):PI X tg l (λσ H R=>tl σ H λx H1=>(∃a,x= .ref a/\(((∃xs,SqL X.K H1 a xs)/\R (Itl X.K a) H1)\/((∃xs,SqT X.K H1 a xs)/\R (Itt X.K a) H1)))\/(∃z,x= .str z/\R (Itc z) H1)):=by
 intro pins s σ H R I h;refine thn (hl _ s σ H _ I h) λv s1 ⟨x,H1,I1,r1,q1⟩=> ?_;have ok:∀b∈[s1.heap.objs.size],Wd X _ H1 b:=λb hb=>by
  have e:=by simpa using hb
  subst e;exact I1.fpOk (aj _) (I1.hok.fresh (aj _))
 rcases q1 with ⟨a,e,q⟩ | ⟨z,e,q⟩
 ·subst e;obtain rfl:v=Value.ref a:=r1;rcases q with ⟨⟨xs,hq⟩,q⟩ | ⟨⟨xs,hq⟩,q⟩
  ·obtain⟨its,rv,p,hz⟩:=I1.list hq;exact wpAny_pyIter_list p.isList ⟨s1.heap.objs.size,[s1.heap.objs.size],_,_,H1,rfl,I1.kept λb o e=>aa _ e,yx a _,⟨_,ah _ rfl,rfl,rfl⟩,ok,q⟩
  ·obtain⟨its,rv,p,hz⟩:=I1.tuple hq;exact wpAny_pyIter_tuple (show s1.heap.IsTuple a _ from p) ⟨s1.heap.objs.size,[s1.heap.objs.size],_,_,H1,rfl,I1.kept λb o e=>aa _ e,Uy a _,⟨_,ah _ rfl,rfl,rfl⟩,ok,q⟩
 ·subst e;obtain⟨t,rfl⟩:=r1;cases ha:z.cps.all _
  ·exact wpAny_pyIter_wide ha ⟨s1.heap.objs.size,[s1.heap.objs.size],_,_,H1,rfl,I1.kept λb o e=>aa _ e,wf _ (.inr rfl),⟨_,ah _ rfl,rfl,rfl⟩,ok,q⟩
  ·exact wpAny_pyIter_ascii ha ⟨s1.heap.objs.size,[s1.heap.objs.size],_,_,H1,rfl,I1.kept λb o e=>aa _ e,wf _ (.inl rfl),⟨_,ah _ rfl,rfl,rfl⟩,ok,q⟩
def JC:T->R (List T)
 | .lst xs=> .ok xs
 | .tup xs=> .ok xs
 | .str x=> .ok (JB x)
 | _=> .bad
def ZZ (fa:En->R T):En->R (List T):=λρ=>(fa ρ).bind JC
theorem z18 (ha:Snd X Y a fa):ud X Y tg a (ZZ fa):= .mk λρ=>PI.imp (Kn (ha ρ)) λσ H R ⟨B,I,q⟩=>step I q λt v H1 _ s1 r1 I1 q1=>by
 cases r1 with
 | @tup l xs ts h r=>
  exact .inl ⟨l,rfl,.inr ⟨⟨xs,SqT.of (I1.sB _ _ h)⟩,ZB I1 (show Po Y rI _ H1 _ R from q1) (Kc h r)⟩⟩
 | @lst l xs ts h r=>
  exact .inl ⟨l,rfl,.inl ⟨⟨xs,SqL.of (I1.sB _ _ h)⟩,ZB I1 (show Po Y rI _ H1 _ R from q1) (Ke h r)⟩⟩
 | str z=>exact .inr ⟨z,rfl,ZB I1 (show Po Y rI _ H1 _ R from q1) QV⟩
 | _=>exact q1.elim
end
theorem Inv.laidT {X:Cx}{pins:List (Addr×Obj)}{σ:Sg}{H:Hp}{s:Shared}{h' :Heap}{tk:Nat}{ch:List Addr}{a:Addr}{xs:List V}(I:L2.Inv X pins σ H s)(hf:∀b∈ch,Wd X pins H b)(k:∀b o,b ∉ ch->s.heap.get? b=some o->h'.get? b=some o)
  (th:∀b o,b∈ch->s.heap.get? b=some o->∃o',h'.get? b=some o') (ha:s.heap.objs.size<=a) (new:Za X.prog X.w (upd H a (.tup xs)) h' a (.tup xs)):L2.Inv X pins σ (upd H a (.tup xs)) { s with heap:=h',toks:=tk }:=by
 have hn:=I.hok.fresh ha;have nch:∀b u,H b=some u->b ∉ ch:=λb u e hb=>by rw[(hf b hb).1]at e;cases e
 refine I.call' rfl ⟨λb o e n _ hc=>k b o hc e,λb o e n _ hc=>⟨o.slots,k b o hc e⟩,λb o e n _=>by rw[zu (aE (aH (ar e) ha))];exact n,λb o e hc=>⟨o,k b o hc e⟩,
  λb ys e=>by rw[zu (zJ e hn)];exact e,λb o u e=>by rw[zu (zJ e hn)];exact e,λb ps q e=>by rw[zu (zJ e hn)];exact e⟩ (λb u e=> ?_) I.bare λb hb=> ?_
 ·by_cases hb:b=a
  ·subst hb;rw[zx]at e;cases e;exact new
  ·rw[zu hb]at e;refine(I.hok b u e).stay (λc v hc q=> ?_) (λc q=>by rw[zu (zJ q hn)];exact q) (λc ys q=>by rw[zu (zJ q hn)];exact q) λc o u q=>by rw[zu (zJ q hn)];exact q
   rcases hc with rfl | hc
   ·exact k c v (nch c u e) q
   ·exact k c v (nch c _ hc) q
 ·obtain⟨f0,f1,f2,f3,f4,f5⟩:=hf b hb;exact⟨f3,f1,f4,f5⟩
def Ite (K:a8)(l:Addr):It:=
 ⟨λi H=>∃xs x,SqL K H l xs/\xs[i]? =some x,λi H v H' =>∃p x,H p=none/\v= .ref p/\(∀xs,SqL K H l xs->xs[i]? =some x)/\H' =upd H p (.tup [.int i,x]),λi H=>∃xs,SqL K H l xs/\xs.length<=i⟩
theorem Ye {P:Program}{w:World}{K:a8}{elts:List Expr}{kk:Nat}{pt:Pos}(e it l:Addr)(hei:e ≠ it)(hle:l ≠ e)(hli:l ≠ it):
  yi P w K (.Tuple elts kk pt) (Ite K l) [e,it] e (λi h=>(∃old,IsEnum h e it i old)/\h.IsListIter it l i) where
 mem:=by simp
 obj:=λi h st b hb=>by
  obtain⟨⟨old,he⟩,o,e1,c,d⟩:=st;rcases am.mp hb with rfl | hb
  ·exact⟨_,he,λv z=>nomatch z⟩
  ·have z:b=it:=by simpa using hb
   subst z;exact⟨o,e1,λv z=>by rw[d]at z;cases z⟩
 keep:=λi h h' st k=>by
  obtain⟨⟨old,he⟩,hit⟩:=st;exact⟨⟨old,k e (by simp) _ he⟩,hit.at λo x=>k it (by simp) o x⟩
 item:=by
  intro X hP hw hK hc i pins s σ H E I hf st hg;subst hP hw hK;obtain⟨xs,x,hq,hx⟩:=hg;obtain⟨its,rv,p,hz⟩:=I.list hq;obtain⟨u,hu,ru⟩:=rv.get hx;obtain⟨⟨old,he⟩,hit⟩:=st;have hi:i < its.toArray.size:=by
   have:=(aw.mp hu).1;simpa using this
  refine(i9 (prog:=X.prog) (w:=X.w) (I.ok.hd hc) e it l hei hle hli its.toArray).item i s _ _ hi ⟨⟨old,he⟩,hit,p.isList⟩ λT vals h' tk hP hT hTup hM hk=> ?_;obtain⟨t,y,hy,rfl⟩:=hP;have hyu:y=u:=by
   have:its[i]? =some y:=by simpa using hy
   rw[hu]at this;exact(aB this).symm
  subst hyu;refine⟨.ref T,rfl, ?_⟩;refine(i9 (prog:=X.prog) (w:=X.w) (I.ok.hd hc) e it l hei hle hli its.toArray).go elts kk pt i T _ _ _ hM λh2 hst2 hk2=> ?_;have hTn:H T=none:=I.hok.fresh hT;have hTne:∀b∈[e,it],b ≠ T:=λb hb z=>by
   obtain⟨_,_,_,h3,h4⟩:=hM;rcases am.mp hb with rfl | hb
   ·exact h3 z.symm
   ·have:b=it:=by simpa using hb
    subst this;exact h4 z.symm
  have YY:IsTup h2 T #[.int i t,y]:=by
   obtain⟨o,eo,r⟩:=hTup;exact⟨o,hk2 T o (λhb=>hTne T hb rfl) eo,r⟩
  refine⟨.ref T,upd H T (.tup [.int i,x]),Inv.laidT (s:=s) (h' :=h2) (ch:=[e,it]) (tk:=tk) I hf (λb o hb e=>hk2 b o hb (hk b o hb e)) (λb o hb _=> ?_) hT ⟨by rw[bT];show 2<=16777216;decide,[.int i t,y],.cons ⟨t,rfl⟩ (.cons ru .nil),YY,.inl ⟨_,_,rfl⟩⟩,rfl,⟨T,x,hTn,rfl,λys hy=>by rw[I.list_inj hy hq];exact hx,rfl⟩,⟨hst2.1,hst2.2.1⟩,λb hb=> ?_⟩
  ·obtain⟨⟨old2,he2⟩,⟨o2,eo2,_⟩,_⟩:=hst2;rcases am.mp hb with rfl | hb
   ·exact⟨_,he2⟩
   ·have:b=it:=by simpa using hb
    subst this;exact⟨o2,eo2⟩
  ·rw[zu (hTne b hb)];exact(hf b hb).1
 done:=by
  intro X hP hw hK hc i pins s σ H E I hf st hg;subst hP hw hK;obtain⟨xs,hq,hx⟩:=hg;obtain⟨its,rv,p,hz⟩:=I.list hq;obtain⟨⟨old,he⟩,hit⟩:=st;have hl:=rv.length;refine wpAny_pyNext_enum_end (I.ok.hd hc) he hit p.isList (cu (by simp;omega)) λh' hk=>⟨rfl, ?_⟩
  obtain⟨f0,f1,f2,f3,f4,f5⟩:=hf it (by simp)
  exact I.turned (t' :=s.toks) (λb o hb e=>hk b o hb e) f0 f1 f3 f4 f5
 self:=λ_ _ _ _ _ st h=>let ⟨⟨_,he⟩,_⟩:=st;wpAny_pyIter_enum he h
noncomputable def jG (xs:List T):List T:=(xs.zipIdx).map λp=>T.tup [.int (p.2:Nat),p.1]
theorem Ww {xs:List T}{i:Nat}{t:T}(h:(jG xs)[i]? =some t):∃x,xs[i]? =some x/\t= .tup [.int (i:Nat),x]:=by
 unfold jG at h;rw[av,List.getElem?_zipIdx]at h;cases e:xs[i]? with
 | none=>rw[e]at h;cases h
 | some x=>rw[e]at h;cases h;exact⟨x,rfl,by simp⟩
theorem J9 (xs:List T):(jG xs).length=xs.length:=by unfold jG;simp
theorem xz {K:a8}{B1 H1:Hp}{a:Addr}{xs:List V}{ts:List T}(h:B1 a=some (.lst xs))(r:zE B1 xs ts):rI B1 H1 (Ite K a) (jG ts):=λB2 H2 s1 s2=>by
 have h2:=s2 _ _ (s1 _ _ h);rw[J9];refine⟨λi hi=> ?_,λi t x H3 e y=> ?_,λi hi=>⟨xs,SqL.of h2,by rw[r.length];exact hi⟩⟩
 ·obtain⟨v,e,_⟩:=r.get (ag hi);exact⟨xs,v,SqL.of h2,e⟩
 ·obtain⟨p,v,hp,rfl,y,rfl⟩:=y;obtain⟨t',et,rfl⟩:=Ww e;obtain⟨v',e1,r1⟩:=r.get et;have:=y xs (SqL.of h2);rw[e1]at this;cases this;refine⟨zv.new hp _,.tup (jb hp _) (.cons (.int _) (.cons ?_ .nil))⟩;exact(r1.mono s1).mono (zO.ge s2 (zv.new hp _))
section
variable {X:Cx}{Y:Fx}{a:Expr}{fa:En->R T}{pos p pt:Pos}{elts:List Expr}{kk:Nat}
theorem xA {ta:TA}(hg:Gl X "enumerate")(hm:X.mg "enumerate"=none)(ha:PA X [a] ta)(hs:St1 X a:=by exact st1 rfl):
  PI X (.Tuple elts kk pt) (.Call (.Name "enumerate" p) [a] [] pos) (λσ H R=>ta σ H λvs H1=>∃l xs,vs=[.ref l]/\H1 l=some (.lst xs)/\R (Ite X.K l) H1):=by
 intro pins s σ H R I h;refine Call_ (j7 I hg hm PyProof.Rows.Boot.«enumerate» (aU (thn (ha pos _ s σ H _ I h) λus s1 ⟨vs,H1,I1,r1,q1⟩=> ?_) hs rfl));obtain⟨l,xs,e,hl,q⟩:=q1;subst e;obtain⟨u,rfl,ru⟩:=ZR r1;obtain rfl:u=Value.ref l:=ru;obtain⟨_,its,n,rv,eo⟩:=(show Za _ X.w H1 _ l _ from I1.hok l _ hl);have hlt:=ar eo;refine call_enumerate_1 eo λh' he hit hsz hk=>wpAny_pyIter_enum he ?_;have f:∀b∈[s1.heap.objs.size+1,s1.heap.objs.size],Wd X _ H1 b:=λb hb=>by
  rcases am.mp hb with rfl | hb
  ·exact I1.fpOk (dv _) (I1.hok.fresh (dv _))
  ·have z:=by simpa using hb
   subst z;exact I1.fpOk (aj _) (I1.hok.fresh (aj _))
 exact⟨s1.heap.objs.size+1,[s1.heap.objs.size+1,s1.heap.objs.size],_,_,H1,rfl,I1.kept hk,Ye _ _ l (ia _) (aE (cI hlt)) (aE hlt),⟨⟨_,he⟩,hit⟩,f,q⟩
def xB (fa:En->R T):En->R (List T):=λρ=>(fa ρ).bind λt=>match t with
 | .lst xs=> .ok (jG xs)
 | _=> .bad
theorem Ko (hg:Gl X "enumerate")(hm:X.mg "enumerate"=none)(ha:Snd X Y a fa)(hs:St1 X a:=by exact st1 rfl):ud X Y (.Tuple elts kk pt) (.Call (.Name "enumerate" p) [a] [] pos) (xB fa):= .mk λρ=>
 PI.imp (xA hg hm (zA (ha ρ) zU hs) hs) λσ H R ⟨B,I,q⟩=>step I q λt v H1 _ s1 r1 I1 q1=>by
  cases r1 with
  | @lst l xs ts h r=>exact⟨l,xs,rfl,I1.sB _ _ h,ZB I1 (show Po Y rI _ H1 _ R from q1) (xz h r)⟩
  | _=>exact q1.elim
noncomputable def yl:List T->Option (List Str)
 | []=>some []
 | .str x :: r=>match yl r with | some ys=>some (x :: ys) | none=>none
 | _ :: _=>none
def Kp (sep:Str):T->R T
 | .lst ts=>match yl ts with
  | some ys=>if (ys.map (·.length)).sum+ys.length*sep.length<=16777216 then .ok (.str (Txt.join sep ys)) else .bad
  | none=> .bad
 | _=> .bad
theorem wM {H:Hp}:∀{xs:List V} {ts:List T} {its:List Value} {ys:List Str},zE H xs ts->zS xs its->yl ts=some ys->StrsAre its ys
 | _,_,_,ys,.nil,.nil,h=>by
  have h' :=h;cases h';exact .nil
 | _,_,_,ys,.cons r rs,.cons rv vs,h=>by
  cases r with
  | str x=>
   unfold yl at h;split at h
   ·rename_i zs e;cases h;obtain⟨tk,rfl⟩:=rv;exact .cons x tk (wM rs vs e)
   ·cases h
  | _=>cases h
theorem xC:MtR X "str.join" (λx xs H Q=>∃z l zs ts ys,x= .str z/\xs=[.ref l]/\H l=some (.lst zs)/\zE H zs ts/\yl ts=some ys/\(ys.map (·.length)).sum+ys.length*z.length<=16777216/\Q (.str (Txt.join z ys)) H):=by
 intro pins s σ H x xs v us Q I rx rv h;obtain⟨z,l,zs,ts,ys,rfl,rfl,hl,r,e,hb,q⟩:=h;obtain⟨t,rfl⟩:=rx;obtain⟨u,rfl,ru⟩:=ZR rv;obtain rfl:u=Value.ref l:=ru;obtain⟨its,rv,p,_⟩:=zT I (.inl hl) r;exact join_list p (by simpa using wM r rv e) hb λt' k=>⟨.str _,H,I.tok k,⟨t',rfl⟩,q⟩
theorem Kq (ha:j6 X Y a fa)(hb:attributeBase (.Constant (.str z) kc pz) "join" X.env (eval (.Constant (.str z) kc pz) X.env)=eval (.Constant (.str z) kc pz) X.env:=by rfl)(hs:St1 X a:=by exact st1 rfl)
  (hz:(pa.endLine == p.line)=true:=by rfl):Snd X Y (.Call (.Attribute (.Constant (.str z) kc pz) "join" pa) [a] [] p) (ap1 (Kp z) fa):= .mk λρ=>by
 have e1:(((((backTo p (starEach [a] X.env)).all λx=> !x.fst) && (backToKw p (keywordEach [] X.env)).all λx=>x.fst.isSome) && decide (([a].length+([]:List Keyword).length+if ([]:List Keyword).isEmpty=true then 0 else 1) < 30))=true):=by rw[hs];rfl
 refine PE.imp (UK PySem.F.plainAttrs_str PySem.F.slot_str_join PySem.F.type_str_join xC vW (zA (ha ρ) zU hs) hb e1 hz hs rfl) λσ H Q ⟨B,I,q⟩=> ?_;refine⟨rfl,step I q λt v H1 _ s1 r1 I1 q1=> ?_⟩;cases r1 with
 | @lst l xs ts h r=>
  have q1:Po Y rC _ H1 (match yl ts with | some ys=>if (ys.map _).sum+ys.length*z.length<=16777216 then .ok _ else .bad | none=> .bad) Q:=q1
  split at q1
  ·rename_i ys e;split at q1
   ·rename_i hl;exact⟨z,l,xs,ts,ys,rfl,rfl,h,r,e,hl,po0 I1.sB q1 rfl (.str _)⟩
   ·exact q1.elim
  ·exact q1.elim
 | _=>exact q1.elim
end
noncomputable def dd:List Str->List Str->List Str
 | acc,[]=>acc
 | acc,x :: r=>dd (if x∈acc then acc else acc++[x]) r
section
variable {prog:Program}{w:World}{A:Around}{R:Result->Shared->Prop}{I:Addr}{fp wr:List Addr}{n:Nat}{P:Nat->Value->Prop}{St:Nat->Heap->Prop}
theorem jk {h h' :Heap}{S:Addr}{f g:Str->Bool}{m k:Nat}(x:h.SetOf (strKind prog w) S f m)(e:∀o,h.get? S=some o->h'.get? S=some o)(ef:f=g)(em:m=k):h'.SetOf (strKind prog w) S g k:=by
 subst ef em;obtain⟨o,es,ep,t,ho,r⟩:=x;exact⟨o,es,ep,t,e o ho,r⟩
theorem QW (W:Walks prog w A.in1 I fp wr n P St)(S:Addr)(hSf:S ∉ fp)(val:Nat->Str)(hval:∀i v,P i v->∃t,v=Value.str (val i) t)(hb:n+1 < scanBound):
  ∀(k i:Nat) (acc:List Str) (s:Shared),n - i=k->i<=n->acc.length<=i->St i s.heap->s.heap.SetOf (strKind prog w) S (λx=>decide (x∈acc)) acc.length->
   (∀h' tk,(∀b o,b ∉ S :: wr->s.heap.get? b=some o->h'.get? b=some o)->h'.SetOf (strKind prog w) S (λx=>decide (x∈dd acc ((il i k).map val))) (dd acc ((il i k).map val)).length->
    R (.ok (.ret .none)) { s with heap:=h',toks:=tk })->codeAny (model prog w) A (.builtin "set.update.loop" ⟨[.ref S,.ref I],[]⟩) R s:=by
 intro k
 induction k with
 | zero=>
  intro i acc s hk hi hal hst hS hR;obtain rfl:i=n:=by omega
  refine bX eI ?_;refine a7 (W.done s _ _ hst λh' tk hk' =>au ?_);exact hR h' tk (λb o hb e=>hk' b o (λz=>hb (ac _ z)) e) (jk hS (λo e=>hk' S o (λz=>hSf (W.sub _ z)) e) rfl rfl)
 | succ k ih=>
  intro i acc s hk hi hal hst hS hR;refine bX eI ?_;refine a7 (W.item i s _ _ (by omega) hst λv h1 tk1 hP hst1 hk1=> ?_)
  obtain⟨t,rfl⟩:=hval i v hP;have hS1:=jk hS (λo e=>hk1 S o (λz=>hSf (W.sub _ z)) e) rfl rfl;refine a7 (m:=holding _ _) (cC ?_);unfold setAdd;have isk:(strKind prog w).is (val i) (.str (val i) t)=true:=strKind_is _ _ _ _;refine cC (a7 ((strKind _ w).pyHash isk ?_));refine wpAny_setAddHashed_of isk rfl hS1 (by omega) λh2 hsb hS2=> ?_
  have e2:(if decide (val i∈acc)=true then acc.length else acc.length+1)=(if val i∈acc then acc else acc++[val i]).length:=by
   by_cases hm:val i∈acc
   ·simp[hm]
   ·simp[hm]
  have e1:(λx=>decide (x∈acc) || decide (x=val i))=(λx=>decide (x∈(if val i∈acc then acc else acc++[val i]))):=by
   funext x
   by_cases hm:val i∈acc
   ·simp only[if_pos hm]
    by_cases hx:x=val i
    ·subst hx;simp[hm]
    ·simp[hx]
   ·simp[hm,Bool.decide_or]
  have hS3:=jk hS2 (λo e=>e) e1 e2;refine au ⟨plainId_quiet F.plain_set_update_loop _,ih _ _ _ (by omega) (by omega) ?_ (W.frame _ h1 _ hst1 λb hb o e=> ?_) hS3 λh3 tk3 hk3 hS4=> ?_⟩
  ·split
   ·omega
   ·rw[ao,aC];omega
  ·exact(hsb.2 b (λz=>hSf (z ▸ hb))).trans e
  ·refine hR h3 tk3 (λb o hb e=>hk3 b o hb ?_) hS4;exact(hsb.2 b (λz=>hb (z ▸ ak))).trans (hk1 b o (λz=>hb (ac _ z)) e)
end
section
set_option maxRecDepth 100000 in
set_option maxHeartbeats 3200000 in
theorem Yf {l:Addr}{its:List Value}{ys:List Str}{Q:Value->Shared->Prop}(hh:A.handled=none)(hl:s.heap.IsList l its.toArray)(hi:StrsAre its ys)(hb:its.length+1 < scanBound)
  (h:∀(h' :Heap) (tk:Nat),h'.SetOf (strKind prog w) s.heap.objs.size (λx=>decide (x∈dd [] ys)) (dd [] ys).length->(∀b o,b < s.heap.objs.size->s.heap.get? b=some o->h'.get? b=some o)->
   Q (.ref s.heap.objs.size) { s with heap:=h',toks:=tk }):wpAny (model prog w) A (call (.type "set") [.ref l]) Q E s:=by
 have getv:∀{its:List Value} {ys:List Str},StrsAre its ys->its.length=ys.length/\∀(i:Nat) (v:Value),its[i]? =some v->∃t,v=Value.str (ys.getD i ⟨#[]⟩) t:=λ{its ys} hi=>by
  induction hi with
  | nil=>exact⟨rfl,λi v e=>by simp at e⟩
  | cons y t _ ih=>
   refine⟨by simp[ih.1],λi v e=> ?_⟩
   cases i with
   | zero=>exact⟨t,by simpa using e.symm⟩
   | succ i=>exact ih.2 i v (by simpa using e)
 obtain⟨hlen,hget⟩:=getv hi;have hys:(il 0 its.length).map (λi=>ys.getD i ⟨#[]⟩)=ys:=by
  rw[hlen];refine dU λi=> ?_;rw[av]
  by_cases hi' :i < ys.length
  ·rw[List.getElem?_range' hi',ag hi'];simp[ag hi']
  ·rw[aZ (by simp;omega),aZ (by omega)]
   rfl
 obtain⟨c,tl,hmro⟩:=cy.mro;have hmade:=cy.made;have hsub:=cy.sub;have h1:=cy.notType;have h2:=cy.canCreate;have hct:=F.typeCall_set_1 (.ref l);refine d7 (codeAny_of_tree (show wpAny _ _ (callAny (.type "set") _) _ _ _ from ?_));refine au ⟨fN _ (by decide+kernel),bX F.entry_type_call ?_⟩
 rw[Around.under_plain (weight_type_call_type "set" [.ref l] []) rfl]
 repeat any_goals (first | assumption | wp_step)
 refine b_ (code_set_new_1 (.ref l) (E:=E) (Q₁:=λobj s₁=>∃led:Bool,obj= .ref s.heap.objs.size/\s₁={ s with heap:=s.heap.push { cls:= .type "set",dict:=none,data:= .set #[] 0 (.fresh 0 0 led) } }) λled=>⟨led,rfl,rfl⟩) λr s₁ hr=> ?_;cases r with
 | error e=>exact hr
 | ok fl=>
  cases fl with
  | ret obj=>
   obtain⟨led,rfl,rfl⟩:=hr;generalize hG:s.heap.push { cls:= .type "set",dict:=none,data:= .set #[] 0 (.fresh 0 0 led) }=G;have hS:G.get? s.heap.objs.size=some { cls:= .type "set",dict:=none,data:= .set #[] 0 (.fresh 0 0 led) }:=by rw[← hG];exact ah _ rfl
   have hGs:G.objs.size=s.heap.objs.size+1:=by rw[← hG,bM]
   have hGk:∀b o,s.heap.get? b=some o->G.get? b=some o:=λb o e=>by rw[← hG];exact aa _ e
   have hT:Shared.TypeIs { s with heap:=G } (.ref s.heap.objs.size) "set":=⟨_,hS,rfl⟩;have hli:=cy.init.lookup;have hbi:=cy.init.bind (.ref s.heap.objs.size)
   repeat any_goals (first | assumption | wp_step)
   refine b_ (codeAny_call_builtin (R:=wants (λr s₂=>r= .none/\∃h' tk,s₂={ s with heap:=h',toks:=tk }/\h'.SetOf (strKind prog w) s.heap.objs.size (λx=>decide (x∈dd [] ys)) (dd [] ys).length/\
     (∀b o,b < s.heap.objs.size->s.heap.get? b=some o->h'.get? b=some o)) E) cy.init.plain F.entry_set_init (check_set_init_1 hT ?_)) λr₂ s₂ hr₂=> ?_
   ·obtain⟨⟨ocls,odict,odata,oslots⟩,hol,hcl,nl,hdl⟩:=hl;simp only at hcl hdl;subst hcl;subst hdl;have hol' :=hGk _ _ hol;have hsls:=F.sub_list_set;have hslf:=F.sub_list_frozenset;have hne:(Value.type "list" == Value.type "dict")=false:=by decide
    have hl1:G.IsList l its.toArray:=⟨_,hol',rfl,nl,rfl⟩;have hlS:l < s.heap.objs.size:=ar hol;unfold Builtin.«set.__init__» noKeywords Builtin.Frozenset.updateFrom;generalize hPI:pyIter=PI
    wp_walk
    subst hPI;refine wpAny_pyIter_list hl1 (a7 (wpAny_runValue ?_));have hSf:s.heap.objs.size ∉ [G.objs.size,l]:=by
     rw[hGs];intro z;rcases am.mp z with z | z
     ·exact absurd z (aE (cM _))
     ·exact absurd (aN.mp z) (da hlS)
    refine QW (iD (A:=A.in1.in1.in1) (by simp[hh]) G.objs.size l (by rw[hGs];exact aE (cI hlS)) its.toArray) s.heap.objs.size hSf (λi=>ys.getD i ⟨#[]⟩) (λi v e=>hget i v (by simpa using e)) (by simpa using hb) its.length 0 [] _ (by simp) (bx _) (aj _)
     ⟨⟨_,ah _ rfl,rfl,rfl⟩,hl1.push _⟩ ?_ ?_
    ·have hget' :(G.push { cls:= .type "list_iterator",data:= .fields #[.ref l,.int 0 0] }).get? s.heap.objs.size=some { cls:= .type "set",dict:=none,data:= .set #[] 0 (.fresh 0 0 led) }:=aa _ hS;exact jk ((PyProof.Rows.setObjOf_fresh (knd:=strKind prog w) led).setOf hget' (by unfold scanBound;omega)) (λo e=>e) (by funext x;simp) rfl
    ·intro h' tk' hm hS';rw[hys]at hS';refine au (show wpAny _ _ (ret Value.none) _ _ _ from au ⟨rfl,h',tk',rfl,hS',λb o hb e=> ?_⟩);refine hm b o (λz=> ?_) (aa _ (hGk b o e));rcases am.mp z with z | z
     ·exact absurd z (aE hb)
     ·have z' :b=G.objs.size:=aN.mp z;rw[hGs]at z';exact absurd z' (aE (cI hb))
   ·cases r₂ with
    | error e=>exact hr₂
    | ok fl₂=>
     cases fl₂ with
     | ret r=>
      obtain⟨rfl,h',tk,rfl,hS',hk'⟩:=hr₂
      repeat any_goals (first | assumption | wp_step)
      exact h _ _ hS' hk'
     | _=>exact hr₂.elim
  | _=>exact hr.elim
end
section
theorem Yg (hh:X.A.handled=none):Zp X (.type "set") (λvs H Q=>∃l xs ts ys,vs=[.ref l]/\H l=some (.lst xs)/\zE H xs ts/\yl ts=some ys/\ts.length+1 < 4096/\
  ∀q,H q=none->Q (.ref q) (upd H q (.ext λh=>h.SetOf (strKind X.prog X.w) q (λx=>decide (x∈dd [] ys)) (dd [] ys).length))):=by
 intro pins s σ H vs us Q I rv h;obtain⟨l,xs,ts,ys,rfl,hl,r,ey,hb,q⟩:=h;obtain⟨u,rfl,ru⟩:=ZR rv;obtain rfl:u=Value.ref l:=ru;obtain⟨its,rv,pl,hln,_⟩:=zT I (.inl hl) r;refine Yf hh pl (wM r rv ey) (by unfold scanBound;omega) λh' tk hS hk=> ?_
 refine⟨.ref _,_,I.laid (λb u e=>hk b u (ar e) e) (aj _) ?_,rfl,q _ (I.hok.fresh (aj _))⟩;obtain⟨o,es,ep,t,ho,rr⟩:=id hS;exact⟨hS,⟨o,ho⟩,λh1 h2 ⟨o1,es1,ep1,t1,ho1,rr1⟩ e=>⟨o1,es1,ep1,t1,e _ ho1,rr1⟩⟩
theorem Yh:Zp X (.builtin "len") (λvs H Q=>∃q φ f n,vs=[.ref q]/\H q=some (.ext φ)/\(∀h:Heap,φ h->h.SetOf (strKind X.prog X.w) q f n)/\Q (.int n) H):=by
 intro pins s σ H vs us Q I rv h;obtain⟨l,φ,f,n,rfl,hl,hφ,q⟩:=h;obtain⟨u,rfl,ru⟩:=ZR rv;obtain rfl:u=Value.ref l:=ru;obtain⟨h1,_,_⟩:=(show Za _ X.w H _ l _ from I.hok l _ hl);obtain⟨o,es,ep,t,ho,hex,hd,_,_,hb,hf,hn⟩:=hφ _ h1;refine call_len_set ho hex hd hf ?_ ⟨.int _,H,I.tok _,⟨_,rfl⟩,by rw[hn];exact q⟩
 have:es.size < 4096:=hb;omega
def QX:T->R T
 | .lst ts=>match yl ts with
  | some ys=>if ts.length+1 < 4096 then .ok (.int (dd [] ys).length) else .bad
  | none=> .bad
 | _=> .bad
theorem Kr (hh:X.A.handled=none)(gl:Gl X "len")(mg:X.mg "len"=none)(gl' :Gl X "set")(mg' :X.mg "set"=none)(ha:j6 X Y a fa)(hs:St1 X a:=by exact st1 rfl)(hs' :St1 X (.Call (.Name "set" p') [a] [] pos'):=by exact st1 rfl):
  Snd X Y (.Call (.Name "len" p) [.Call (.Name "set" p') [a] [] pos'] [] pos) (ap1 QX fa):= .mk λρ=>
 PE.imp (ZW Yh gl mg PySem.boot_len (zA (ja (Yg hh) gl' mg' PyProof.Rows.Boot.«set» (zA (ha ρ) zU hs) (by decide) (by decide) hs rfl) zU hs') (by decide) (by decide) hs' rfl) λσ H Q ⟨B,I,q⟩=>
  step I q λt v H1 _ s1 r1 I1 q1=>by
   cases r1 with
   | @lst l xs ts h r=>
    have q1:Po Y rC _ H1 (match yl ts with | some ys=>if ts.length+1 < 4096 then .ok _ else .bad | none=> .bad) Q:=q1
    split at q1
    ·rename_i ys e;split at q1
     ·rename_i hl;refine⟨l,xs,ts,ys,rfl,h,r,e,hl,λz hz=>⟨z,_,_,_,rfl,zx,λh hh=>hh, ?_⟩⟩;exact q1 _ _ (zv.new hz _) (.int _)
     ·exact q1.elim
    ·exact q1.elim
   | _=>exact q1.elim
end
theorem Ks:Z5 CX0 X E:=λ_ _ _ _ _ _ _ h=>h.elim
section
theorem xD (hy:Y.cl=cl)(F:j9 X.prog X.w X.K X.mg X.base CX0 j f fd ps (spP cl n g))(hr:ZA k X.A)(hj:j<=k)(gl:Gl X x)
  (mg:X.mg x=some (.ref f)) (kp:bL X.K (.ref f)=true) (bd:L2.Binds X.K fd ps []) (ha:wE X Y (a :: es) ga) (hd:(x == ("__debug__":Str))=false:=by decide)
  (hs:starEach (a :: es) X.env=(false,eval a X.env) :: starEach es X.env:=by exact zR rfl) (hz:((backTo pos (starEach es X.env)).any λx=>x.fst)=false:=by exact Zh rfl):Snd X Y (.Call (.Name x p) (a :: es) [] pos) (za n g ga):=by
 subst hy;exact Kb F (hr.mono hj) gl mg kp bd Ks ha hd hs hz
theorem wN (gl:Gl X x)(mg:X.mg x=some u)(hu:∃t,u=Value.int i t)(hd:(x == ("__debug__":Str))=false:=by decide):Snd X Y (.Name x pos) (cE (.int i)):= .mk λρ=>
 PE.imp (yr (v:= .int i) gl mg hu hd) λσ H Q ⟨B,I,q⟩=>ZB I q (.int i)
end
noncomputable def GI (scope sc0:Scope):Bool:=(scope.kind == .function) && scope.names.all (λx=>x.2 != .cell) && scope.names.all (λx=>x.2 != .local || scope.names.lookup x.1 == some .local) &&
 scope.names.all (λx=>x.2 != .free || sc0.names.lookup x.1 == some .cell || sc0.names.lookup x.1 == some .free)
theorem Vf (sc0:Scope)(h0:X.env.scope=sc0)(h:GI scope sc0=true):CSc X scope:=by
 unfold GI at h;simp only[ae,aS]at h;obtain⟨⟨⟨h1,h2⟩,h3⟩,h4⟩:=h;refine⟨eq_of_beq h1,λx hx=>by simpa using h2 x hx,λx hx hl=> ?_,λx hx hf=> ?_⟩
 ·have:=h3 x hx;rw[hl]at this;simpa using this
 ·have:=h4 x hx;rw[hf]at this;show X.env.scope.names.lookup x.1=_\/X.env.scope.names.lookup x.1=_;rw[h0];simpa using this
noncomputable def GJ (N N' :List Str)(scope sc0:Scope)(k:Nat)(js:List Nat):Bool:=(N'.length == k+js.length) && (a_ js.length).all λi=>match js[i]? with
 | none=>true
 | some j=>match N'[k+i]?,N[j]? with
  | some x,some y=>(x == y) && (sc0.names.lookup x == some .cell || sc0.names.lookup x == some .free) && (scope.names.lookup x == some .free)
  | _,_=>false
theorem Yi {js:List Nat}(N:List Str)(sc0:Scope)(hN:X.N=N)(h0:X.env.scope=sc0)(h:GJ N N' scope sc0 k js=true):GH X scope N' k js:=by
 unfold GJ at h;simp only[ae,aS]at h;obtain⟨h1,h2⟩:=h;refine⟨eq_of_beq h1,λi j e=> ?_⟩;have hi:=(aw.mp e).1;have q:=h2 i (bo.mpr hi);rw[e]at q;dsimp only at q;split at q
 ·rename_i x y e1 e2;simp only[ae,Bool.or_eq_true,beq_iff_eq]at q;obtain⟨⟨rfl,q2⟩,q3⟩:=q;refine⟨x,e1,by rw[hN];exact e2, ?_,q3, ?_⟩
  ·rw[h0];exact .inr q2
  ·show X.env.scope.names.lookup x=_\/X.env.scope.names.lookup x=_;rw[h0];exact q2
 ·cases q
theorem Vg {js:List Nat}{g:T->En->R En}(N' :List Str)(N:List Str)(sc0:Scope)(hN:X.N=N)(h0:X.env.scope=sc0)
  (h:(GI scope sc0 && GJ N N' scope sc0 k js)=true) (cm:X.calm=true) (it:ud X Y tg iter fi) (gt:Vd X scope N' λXC=>PG XC tg tG) (gk:GOk tG g) (gn:GNo g) (tt:∀Y',Y'.cl=Y.cl->Vd X scope N' λXC=>wL XC Y' ifs ft)
  (el:∀Y',Y'.cl=Y.cl->Kj X scope N' Y'.E λXC=>Snd XC Y' elt fe) (hs:∀x,foldedSetIterable iter X.env x=pure x:=by intro _;rfl):we X Y tg iter elt ifs scope N' k js fi tG g ft fe:=by
 rw[ae]at h;exact⟨Vf sc0 h0 h.1,Yi N sc0 hN h0 h.2,cm,it,gt,gk,gn,tt,el,hs⟩
end PV
namespace PV
open PySem PySem.Spec PyProof.Rows L2 PySem.W
section
end
def Yj (c:Nat):En->RS:=λ_=> .ex c
section
variable {P:Program}{w:World}{K:a8}{mg:Str->Option Value}{base:Heap}{N:List Str}{qual:Str}{scope:Scope}{f:Addr}{cd:Value}{A:Around}{outer:List Env}{s:Shared}{H:Hp}{E:XK}{Y:Fx}
theorem xE {x m:Str}{C:Addr}{bm bmN:List Value}{Bn Bb newId nid initId inN:String}{np cpos pos ap:Pos}{j c:Nat}(O:OwnCls x C bm newId mg base)(Fn:ExcBaseFacts Bn newId inN bmN)(hBn:bm.contains (.type Bn)=true)(FB:ExcBaseFacts Bb nid initId bm)
  (hY:Y.E=E) (hc:Y.cl c= .ref C) (hg:Gl (jM (CX1 P w) P w K mg base N qual scope f cd A outer s H E) x) (hd:(x == ("__debug__":Str))=false:=by decide):
  jT (jM (CX1 P w) P w K mg base N qual scope f cd A outer s H E) Y (.Raise (some (.Call (.Name x np) [.Constant (.str m) j ap] [] cpos)) none pos) (Yj c):= .mk λρ=>by
 subst hY;refine PS.imp (yT O Fn hBn FB hg ((V4 kR kS:wE _ Y _ _) ρ) (zR rfl) hd) λD σ H1 ⟨B,I,q⟩=>⟨B,I,λvs H2 s2 r2=> ?_⟩;refine⟨?_, ?_⟩
 ·rw[r2.length];exact(by decide:1<=sizeLine)
 ·have:=q none H2 (I.sH.trans s2) (I.sB.trans s2);rw[hc]at this;exact this
theorem Fun.okX {x qual:Str}{st:Stmt}{f:Addr}{fd:FuncData}{N ps:List Str}{k:Nat}{sp:Sp}(F:Fun K x qual st f fd)(S:Zx N ps (zq st))(len:∀vs H Q E,sp vs H Q E->vs.length=ps.length)
  (hbody:∀(cdv:Value) (A:Around) (outer:List Env) (s:Shared) (H:Hp) (vs:List V) (Q:VK) (E:XK),ZA k (A.deeper (envOfC qual (zq st) s.heap.objs.size f cdv))->sp vs H Q E->
   ∃t,PSs (jM (CX1 P w) P w K mg base N qual (zq st) f cdv A outer s H E) (zH st) t/\t { nx:=λ_ H' =>Q .non H',rt:=Q } (start N vs) H):j9 P w K mg base (CX1 P w) (k+1) f fd ps sp:=by
 obtain⟨oc,od,kV,doc,pm,an,cdv,ct,osl,rfl,lk,hcd⟩:=F.ex;exact VO lk hcd S len λA outer s H vs Q E hr hsp=>hbody cdv A _ s H vs Q E hr hsp
end
end PV
namespace PySem.W
open PySem PySem.Calls PyProof.Rows PySem.Spec Builtin Builtin.ObjectAttr Builtin.Getset_descriptor
section
variable {prog:Program}{w:World}{A:Around}{E:Value->Shared->Prop}{s:Shared}{K:Frag}{x C:Addr}
theorem Wx {tp:Value}{R:Result->Shared->Prop}(X:K.In s.heap)(L0:Looks (model prog w) s.heap (typeOf (.ref x)) (.ref C))(hm:mroIn K C (.type "object")=some true)
  (h:R (.ok (.ret (.ref C))) s):codeAny (model prog w) A (.call (.builtin "getset_descriptor.__get__") ⟨[.builtin "object.__class__",.ref x,tp],[]⟩) R s:=by
 have L1:=looks_mroIn (M:=model prog w) X hm;refine codeAny_call_builtin KF.slot_gs.plain KF.entry_gs (KF.slot_gs.check _ _ _ _ _ _ _ _ KF.type_class (KF.args_gs _ _ _) ?_);refine a7 (au ?_);unfold descrGetter descrCheckInstance descrNameAndClass isInstance;simp only[KF.owner_class]
 repeat lk
 refine⟨fN _ (by decide+kernel),bX KF.entry_class ?_⟩
 repeat lk
 exact h
theorem xF {M:Model}{h:Heap}(X:K.In h)(ha:findIn K (.ref C) "__class__"=some (some (.builtin "object.__class__")))(hn:specialIn K (.builtin "object.__class__") "__get__"=some (some (.builtin "getset_descriptor.__get__")))
  (htk:takesIn K (.builtin "object.__class__")=some true):Looks M h (find (.ref x) (.ref C) "__class__") (.bind (.builtin "getset_descriptor.__get__") (.builtin "object.__class__")):=by
 have L1:=looks_findIn (M:=M) X ha;have L2:Looks M h _ _:=looks_specialIn X hn;have L3:=looks_takesIn (M:=M) X htk;refine L1.andThen (L2.andThen ?_);exact(show Looks M h (dataDescriptor? (some _) (some _)) _ from L3.andThen .now).andThen (Looks.tag .now)
theorem QY {Q:Unit->Shared->Prop}(L0:Looks M s.heap (typeOf (.ref x)) (.ref C))(L1:Looks M s.heap (isSubtype (.ref C) (.type "BaseException")) true)(hq:Q () s):wpAny M A (checkBuiltinCall "BaseException.__getattribute__" ⟨[.ref x,nameV],[]⟩) Q E s:=by
 have hk:builtinKind "BaseException.__getattribute__"=some .slot:=by decide+kernel
 have hsplit:splitId "BaseException.__getattribute__"=some ("BaseException","__getattribute__"):=by decide+kernel
 simp only[checkBuiltinCall,hk,hsplit]
 repeat (first | lk | wp_step)
 exact hq
end
end PySem.W
namespace PySem.W
open PySem PySem.Calls PyProof.Rows PySem.Spec Builtin Builtin.ObjectAttr Builtin.Getset_descriptor
section
variable {prog:Program}{w:World}{A:Around}{E:Value->Shared->Prop}{s:Shared}{K:Frag}{x C:Addr}
structure XCls (K:Frag) (C:Addr):Prop where
 ga:findIn K (.ref C) "__getattribute__"=some (some (.builtin "BaseException.__getattribute__"))
 gt:findIn K (.ref C) "__getattr__"=some none
 ca:findIn K (.ref C) "__class__"=some (some (.builtin "object.__class__"))
 sp:specialIn K (.builtin "object.__class__") "__get__"=some (some (.builtin "getset_descriptor.__get__"))
 tk:takesIn K (.builtin "object.__class__")=some true
 ob:mroIn K C (.type "object")=some true
 be:mroIn K C (.type "BaseException")=some true
 cl:(clsIn K C).isSome=true
theorem QZ {tk:Tok}{Q:Fin->Shared->Prop}(X:K.In s.heap)(c:XCls K C)(L0:Looks (model prog w) s.heap (typeOf (.ref x)) (.ref C))(hq:Q (.done (.ret (.ref C))) s):
  wpAny (model prog w) A (Builtin.«object.__getattribute__» ⟨[.ref x,.str "__class__" tk],[]⟩) Q E s:=by
 have L1:=xF (M:=model prog w) (x:=x) X c.ca c.sp c.tk;refine a7 (au (a7 (au (a7 (L0.at (a7 (L1.at ?_)))))));refine a7 (d7 (Wx X L0 c.ob ?_));exact au hq
end
end PySem.W
namespace PySem.W
open PySem PySem.Calls PyProof.Rows PySem.Spec Builtin Builtin.ObjectAttr Builtin.Getset_descriptor
section
variable {prog:Program}{w:World}{A:Around}{E:Value->Shared->Prop}{s:Shared}{K:Frag}{x C:Addr}
theorem v6 {Q:Option Value->Shared->Prop}(X:K.In s.heap)(c:XCls K C)(L0:Looks (model prog w) s.heap (typeOf (.ref x)) (.ref C))(h:Q (some (.ref C)) { s with toks:=s.toks+1 }):wpAny (model prog w) A (getAttr? (.ref x) "__class__") Q E s:=by
 have L1:=looks_findIn (M:=model prog w) X c.ga;have L2:=looks_findIn (M:=model prog w) X c.gt;have L3:=looks_mroIn (M:=model prog w) X c.be;have fb:=eJ.ga.bind (.ref x);refine a7 (wpAny_mkText (a7 (cD (cC (a7 (L0.at (a7 (L1.at ?_))))))));refine a7 ?_;refine L2.at ?_;refine a7 (cD (cC ?_));unfold callGetattribute;unfold boundAndCalled;rw[fb];refine d7 (codeAny_call_builtin eJ.ga.plain PySem.F.entry_bexc_ga (QY L0 L3 (QZ X c L0 ?_)));exact handed_on rfl (au h)
theorem xG (c:XCls K C):KitX K (.ref x) (.ref C) (λh=>∃o,h.get? x=some o/\o.cls= .ref C) where
 ty:=λM h _ ⟨o,h1,h2⟩=>h2 ▸ (Looks.ld h1).andThen .now
 it:=λ_ _ X _=>by
  obtain⟨cdD,hcD⟩:=cW.mp c.cl;unfold clsIn at hcD;split at hcD
  ·rename_i c' d' cd' sl' ho;intro A' Q' E' s' k q;unfold isType loadHead;exact a7 (wpAny_loadPart (k _ _ (X _ _ ho)) (au q))
  ·cases hcD
 ne:=λh tp dd its n sl X htp=>by
  obtain⟨cdD,hcD⟩:=cW.mp c.cl;refine Bool.eq_false_iff.mpr λq=> ?_;have e:C=tp:=Value.ref.inj (beq_iff_eq.mp q);subst e;unfold clsIn at hcD;split at hcD
  ·rename_i c' d' cd' sl' ho;have z:=(X _ _ ho).symm.trans htp;cases z
  ·cases hcD
 ca:=λ{prog w A E Q s} X ⟨o,h1,h2⟩ k=>v6 X c (h2 ▸ (Looks.ld h1).andThen .now) k
end
end PySem.W
namespace PV
open PySem PySem.Spec PyProof.Rows L2 PySem.W
section
def Jf (i:Nat)(ok tab:Nat->Bool):En->R T:=λρ=>match ρ[i]? with
 | some (.xc c)=>if ok c=true then .ok (.bl (tab c)) else .bad
 | _=> .bad
theorem Wy:Zp X (.builtin "isinstance") (λxs H Q=>∃a C v b,xs=[.ref a,v]/\H a=some (.ext (yU (.ref C) a))/\XCls X.K C/\(∀u,Zc v u->kitOne X.K (.ref C) u=some b)/\Q (.bl b) H):=by
 intro pins s σ H xs us Q I rv h;obtain⟨a,C,v,b,rfl,e,c,hk,q⟩:=h;obtain⟨u,w,rfl,ru,rw'⟩:=UC rv;obtain rfl:u=Value.ref a:=ru;obtain⟨hx,_,_⟩:=(show Za _ X.w H _ a _ from I.hok a _ e);exact kia_one (xG c) I.kIn hx (hk w rw') (λz=>nomatch z) λtk=>⟨.bl _,H,I.tok tk,rfl,q⟩
structure XK1 (K:Frag) (cl:Nat->Value) (ok:Nat->Bool):Prop where
 at_:∀c,ok c=true->∃C,cl c= .ref C/\XCls K C
theorem ju {ok tab:Nat->Bool}(hK:XK1 X.K Y.cl ok)(ht:∀c,ok c=true->kitOne X.K (Y.cl c) (.ref C)=some (tab c))(gl:Gl X "isinstance")(mg:X.mg "isinstance"=none)(hv:PE X (.Name y yp) (Jh i))(gl' :Gl X cn)(mg' :X.mg cn=some (.ref C))
  (hd:(cn == ("__debug__":Str))=false:=by decide):Snd X Y (.Call (.Name "isinstance" p) [.Name y yp,.Name cn cp] [] pos) (Jf i ok tab):= .mk λρ=>
 PE.imp (ZW Wy gl mg PyProof.Rows.Boot.«isinstance» (zA hv (zA (yr (v:= .ref C) gl' mg' rfl hd) zU (st1 rfl)) (st2 rfl rfl)) (by decide) (by decide) (by rw[st2 rfl rfl,st1 rfl]) (Zh rfl)) λσ H Q ⟨B,I,q⟩=>by
  unfold Jf at q;split at q
  ·rename_i c e;split at q
   ·rename_i hc;obtain⟨a,e1,r⟩:=I.xc i c e;obtain⟨Cc,e2,xc⟩:=hK.at_ c hc;have ht' :=ht c hc;rw[e2]at r ht';exact⟨_,e1,a,Cc,_,_,rfl,I.sB a _ r,xc,λu ru=>by obtain rfl:u=Value.ref C:=ru;exact ht',ZB I q (.bl _)⟩
   ·exact q.elim
  ·exact q.elim
theorem xH {ok tab:Nat->Bool}(hK:XK1 X.K Y.cl ok)(ht:∀c,ok c=true->kitOne X.K (Y.cl c) (.type n)=some (tab c))(gl:Gl X "isinstance")(mg:X.mg "isinstance"=none)(hv:PE X (.Name y yp) (Jh i))(gl' :Gl X (bj n))(mg' :X.mg (bj n)=none)
  (bt:bootBuiltins (bj n)=some (.type n)) (hn:bj n ≠ "__name__":=by decide) (hd:(bj n == ("__debug__":Str))=false:=by decide):Snd X Y (.Call (.Name "isinstance" p) [.Name y yp,.Name (bj n) cp] [] pos) (Jf i ok tab):= .mk λρ=>
 PE.imp (ZW Wy gl mg PyProof.Rows.Boot.«isinstance» (zA hv (zA (yt (v:= .ty n) gl' mg' bt rfl hn hd) zU (st1 rfl)) (st2 rfl rfl)) (by decide) (by decide) (by rw[st2 rfl rfl,st1 rfl]) (Zh rfl)) λσ H Q ⟨B,I,q⟩=>by
  unfold Jf at q;split at q
  ·rename_i c e;split at q
   ·rename_i hc;obtain⟨a,e1,r⟩:=I.xc i c e;obtain⟨Cc,e2,xc⟩:=hK.at_ c hc;have ht' :=ht c hc;rw[e2]at r ht';exact⟨_,e1,a,Cc,_,_,rfl,I.sB a _ r,xc,λu ru=>by obtain rfl:u=Value.type n:=ru;exact ht',ZB I q (.bl _)⟩
   ·exact q.elim
  ·exact q.elim
def spC (cl:Nat->Value)(gx:Nat->R T):Sp:=λvs H Q E=>∃B a c,vs=[V.ref a]/\zv B H/\B a=some (.ext (yU (cl c) a))/\Po ⟨B,H,E,cl,[]⟩ rC B H (gx c) Q
end
section
variable {P:Program}{w:World}{K:a8}{mg:Str->Option Value}{base:Heap}
def enC (n c:Nat):En:= .xc c :: ai (n - 1) .un
theorem SI.startC (s:zv Y.B0 Y.H0)(hN:1<=N.length)(r:Y.B0 a=some (.ext (yU (Y.cl c) a))):SI Y Y.B0 (enC N.length c) (L2.start N [V.ref a]) Y.H0 where
 s0:=s
 sH:=zv.refl _
 sB:=s
 old:=λ_ _ _=>rfl
 len:=by unfold enC L2.start;simp
 vl:=λi t h=>by
  unfold enC at h;cases i with
  | zero=>cases h
  | succ i=>rw[bq,aF]at h;split at h <;> cases h
 ow:=λi t h=>by
  unfold enC at h;cases i with
  | zero=>cases h
  | succ i=>rw[bq,aF]at h;split at h <;> cases h
 xc:=λi d h=>by
  unfold enC at h;cases i with
  | zero=>
   cases h;exact⟨a,by unfold L2.start;rfl,r⟩
  | succ i=>rw[bq,aF]at h;split at h <;> cases h
 st:=StI.no λi y hy h=>by
  unfold enC at h;cases i with
  | zero=>cases h;cases hy
  | succ i=>
   rw[bq,aF]at h;split at h
   ·cases h;cases hy
   ·cases h
end
end PV
namespace PySem.ZG
open PySem PySem.Spec PySem.Builtin.SmallTypes
structure uf (i:Addr) (fp:List Addr) (v:Nat->Option Value) (St:Nat->Heap->Prop):Prop where
 mem:i∈fp
 item:∀{prog:Program} {w:World} {A:Around} {E:Value->Shared->Prop} {s:Shared} {Q:Value->Shared->Prop} {k:Nat} {x:Value},St k s.heap->v k=some x->(∀h',St (k+1) h' ->bZ i s.heap h' ->Q x { s with heap:=h' })->wpAny (model prog w) A (nextOf (.ref i)) Q E s
 stop:∀{prog:Program} {w:World} {A:Around} {E:Value->Shared->Prop} {s:Shared} {Q:Value->Shared->Prop} {k:Nat},A.handled=none->St k s.heap->v k=none->(∀h' e,fx i s.heap h' ->(∃o,h'.get? e=some o/\o.cls= .type "StopIteration")->E (.ref e) { s with heap:=h' })->wpAny (model prog w) A (nextOf (.ref i)) Q E s
 keep:∀{k:Nat} {h h' :Heap},St k h->(∀b∈fp,∀o,h.get? b=some o->h'.get? b=some o)->St k h'
 there:∀{k:Nat} {h:Heap},St k h->∀b∈fp,∃o,h.get? b=some o
theorem uf.but {v:Nat->Option Value}{St:Nat->Heap->Prop}(N:uf i fp v St)(x:St k h)(e:fx b h h')(n:b ∉ fp):St k h' :=
 N.keep x λc hc o q=>e c o (λz=>n (z ▸ hc)) q
theorem xI (hil:l ≠ i)(xs:Array Value):uf i [i,l] (λk=>xs[k]?) (λk h=>h.IsListIter i l k/\h.IsList l xs) where
 mem:= .head _
 item:=λst hx h=>wpAny_nextOf_list_item st.1 st.2 hx λh' a b=>h h' ⟨a,st.2.extBut b.extBut hil⟩ b
 stop:=λhh st hx h=>wpAny_nextOf_list_end hh st.1 st.2 hx h
 keep:=λst k=>⟨st.1.at λo e=>k i (.head _) o e,st.2.at λo e=>k l (.tail _ (.head _)) o e⟩
 there:=λst b hb=>by
  obtain⟨⟨o,e,_⟩,o2,e2,_⟩:=st;rcases am.mp hb with z | hb
  ·exact⟨o,z ▸ e⟩
  ·exact⟨o2,(aN.mp hb) ▸ e2⟩
end PySem.ZG
namespace PySem.ZG
open PySem PySem.Spec PySem.Builtin.SmallTypes
section
theorem uR (hit:s.heap.IsTupleIter it l k)(h:wpAny (model prog w) A.in1 (Builtin.«tuple_iterator.__next__» ⟨[.ref it],[]⟩) (λfin s' =>∃v,fin= .done (.ret v)/\Q v s') E s):wpAny (model prog w) A (nextOf (.ref it)) Q E s:=by
 exact a7 (bw hit.typeIs di (bP di hit.typeIs PySem.F.entry_tuple_iterator_next
  (bK h (λfin s' ⟨v,e,q⟩=>⟨v,e,au q⟩) λ_ _ z=>z) (PySem.F.args_tuple_iterator_next_1 _)))
theorem tup_item (hit:s.heap.IsTupleIter it l k)(ht:s.heap.IsTuple l xs)(hx:xs[k]? =some x)(h:∀h',h'.IsTupleIter it l (k+1)->bZ it s.heap h' ->Q x { s with heap:=h' }):wpAny (model prog w) A (nextOf (.ref it)) Q E s:=by
 refine uR hit ?_;obtain⟨o,ho,hc,hd⟩:=id hit;obtain⟨ol,hol,_,nl,hdl⟩:=ht;refine a7 (m:=field _ 0) (bf ho hd rfl ?_);refine a7 (bf ho hd rfl (a7 (bV hol hdl ?_)));simp only[bF,hx];have g:=Heap.get?_update_self (Obj.mapFields (·.setIfInBounds 1 (rawInt (k+1)))) ho (Obj.isFreed_of_fields (fO hd _));refine a7 (wpAny_setField ho hd (by simp) (au ⟨x,rfl,h _ ⟨_,g,(Obj.cls_mapFields ..).trans hc, ?_⟩ (fF ..)⟩))
 rw[fO hd];simp[rawInt]
theorem tup_stop (hh:A.handled=none)(hit:s.heap.IsTupleIter it l k)(ht:s.heap.IsTuple l xs)(hx:xs[k]? =none)
  (h:∀h' e,fx it s.heap h' ->(∃o,h'.get? e=some o/\o.cls= .type "StopIteration")->E (.ref e) { s with heap:=h' }):wpAny (model prog w) A (nextOf (.ref it)) Q E s:=by
 refine uR hit ?_;obtain⟨o,ho,hc,hd⟩:=id hit;obtain⟨ol,hol,_,nl,hdl⟩:=ht;refine a7 (m:=field _ 0) (bf ho hd rfl ?_);refine a7 (bf ho hd rfl (a7 (bV hol hdl ?_)));simp only[bF,hx];refine a7 (wpAny_rule (a7 (wpAny_setField ho hd (by simp) (a7 ?_))))
 refine a7 (bv (a7 (ck (by first | rfl | (simp only[firstArgMember])) (bv ?_ (by size_fits)))) (by size_fits))
 refine a7 (wpAny_handled ?_);rw[hh];exact a7 (au (wpAny_throw (h _ _ (((fF ..).extBut.push _).push _) ⟨_,ah _ rfl,rfl⟩)))
end
theorem nx_tup (hil:l ≠ i)(xs:Array Value):uf i [i,l] (λk=>xs[k]?) (λk h=>h.IsTupleIter i l k/\h.IsTuple l xs) where
 mem:= .head _
 item:=λst hx h=>tup_item st.1 st.2 hx λh' a b=>h h' ⟨a,st.2.extBut b.extBut hil⟩ b
 stop:=λhh st hx h=>tup_stop hh st.1 st.2 hx h
 keep:=λst k=>by
  obtain⟨⟨o,e,r⟩,o2,e2,r2⟩:=st;exact⟨⟨o,k i (.head _) o e,r⟩,o2,k l (.tail _ (.head _)) o2 e2,r2⟩
 there:=λst b hb=>by
  obtain⟨⟨o,e,_⟩,o2,e2,_⟩:=st;rcases am.mp hb with z | hb
  ·exact⟨o,z ▸ e⟩
  ·exact⟨o2,(aN.mp hb) ▸ e2⟩
end PySem.ZG
namespace PySem.ZG
open PySem PySem.Spec PySem.Builtin.SmallTypes
structure Ap (z TI TO i1 i2:Addr) (fp1 fp2:List Addr):Prop where
 Iz:TI ≠ z
 Oz:TO ≠ z
 IO:TI ≠ TO
 I1:TI ≠ i1
 I2:TI ≠ i2
 z1:z ∉ fp1
 z2:z ∉ fp2
 O1:TO ∉ fp1
 O2:TO ∉ fp2
 a:i1 ∉ fp2
 b:i2 ∉ fp1
section
variable {v1 v2:Nat->Option Value}{S1 S2:Nat->Heap->Prop}
theorem Ap.ne1 (D:Ap z TI TO i1 i2 fp1 fp2)(N1:uf i1 fp1 v1 S1):i1 ≠ z/\i1 ≠ TO:=⟨λe=>D.z1 (e ▸ N1.mem),λe=>D.O1 (e ▸ N1.mem)⟩
theorem Ap.ne2 (D:Ap z TI TO i1 i2 fp1 fp2)(N2:uf i2 fp2 v2 S2):i2 ≠ z/\i2 ≠ TO:=⟨λe=>D.z2 (e ▸ N2.mem),λe=>D.O2 (e ▸ N2.mem)⟩
theorem xJ {Q:Value->Shared->Prop}(N1:uf i1 fp1 v1 S1)(N2:uf i2 fp2 v2 S2)(D:Ap z TI TO i1 i2 fp1 fp2)(hz:IsZip s.heap z TI TO .none)(hTI:IsPair s.heap TI (.ref i1) (.ref i2))(hTO:IsPair s.heap TO a b)(p1:S1 k s.heap)(p2:S2 k s.heap)(hx:v1 k=some x)(hy:v2 k=some y)
  (hQ:∀h',IsZip h' z TI TO (rawInt s.heap.objs.size)->IsPair h' TO x y->S1 (k+1) h' ->S2 (k+1) h' ->IsPair h' s.heap.objs.size x y->
   (∀c o,c ≠ z->c ≠ TO->c ≠ i1->c ≠ i2->s.heap.get? c=some o->h'.get? c=some o)->Q (.ref s.heap.objs.size) { s with heap:=h' }):
  wpAny (model prog w) A (Builtin.«zip.__next__» ⟨[.ref z],[]⟩) (λfin s' =>∃v,fin= .done (.ret v)/\Q v s') E s:=by
 refine a7 (m:=field (.ref z) 2) (bf hz rfl (x:= .bool false) rfl (a7 (bf hz rfl (x:= .ref TI) rfl (a7 (bV hTI rfl ?_)))));refine a7 ?_;refine a7 (bf hz rfl (x:= .none) rfl (au ?_));refine a7 (wpAny_rule (a7 (bf hz rfl (x:= .ref TO) rfl (a7 (bA hz (by simp) λg1 z1 e1=> ?_)))))
 replace z1:=z1
 refine a7 ?_;refine a7 (a7 (wpAny_onRaise (a7 (N1.item (N1.but p1 e1.extBut D.z1) hx λg2 q1 e2=>au ?_))));have t2:IsPair g2 TO a b:=e2.extBut _ _ (D.ne1 N1).2.symm (e1.extBut _ _ D.Oz hTO);refine a7 (bV t2 rfl (a7 (wpAny_updateSeq_pair t2 λg3 t3 e3=> ?_)));refine a7 (wpAny_letGo (au ?_));refine a7 (a7 (wpAny_onRaise (a7 (N2.item (N2.but (N2.but (N2.but p2 e1.extBut D.z2) e2.extBut D.a) e3.extBut D.O2) hy λg4 q2 e4=>au ?_))));have t4:IsPair g4 TO x b:=e4.extBut _ _ (D.ne2 N2).2.symm t3;refine a7 (bV t4 rfl (a7 (wpAny_updateSeq_pair t4 λg5 t5 e5=> ?_)))
 replace t5:IsPair g5 TO x y:=t5
 refine a7 (wpAny_letGo (au (au ?_)));refine a7 (bV t5 rfl (a7 (wpAny_newTuple ?_)));have sz:g5.objs.size=s.heap.objs.size:=by rw[e5.1,e4.1,e3.1,e2.1,e1.1]
 have z5:=e5.extBut _ _ D.Oz.symm (e4.extBut _ _ (D.ne2 N2).1.symm (e3.extBut _ _ D.Oz.symm (e2.extBut _ _ (D.ne1 N1).1.symm z1)));have k5:∀c o,c ≠ z->c ≠ TO->c ≠ i1->c ≠ i2->s.heap.get? c=some o->g5.get? c=some o:=λc o c1 c2 c3 c4 e=>
  e5.extBut _ _ c2 (e4.extBut _ _ c4 (e3.extBut _ _ c2 (e2.extBut _ _ c3 (e1.extBut _ _ c1 e))))
 have r1:S1 (k+1) g5:=N1.but (N1.but (N1.but q1 e3.extBut D.O1) e4.extBut D.b) e5.extBut D.O1;have r2:S2 (k+1) g5:=N2.but q2 e5.extBut D.O2;refine a7 ?_;have z6:IsZip (g5.push { cls:= .type "tuple",data:= .seq #[x,y] }) z TI TO _:=aa _ z5;refine a7 (bA z6 (by simp) λg7 z7 e7=> ?_)
 refine bA z7 (by simp) λg8 z8 e8=> ?_
 have up:∀c o,c ≠ z->g5.get? c=some o->g8.get? c=some o:=λc o c1 e=>e8.extBut _ _ c1 (e7.extBut _ _ c1 (aa _ e));have hn:g5.objs.size ≠ z:=da (ar z5);have t8:=e8.extBut _ _ hn (e7.extBut _ _ hn (ah _ rfl));rw[sz]at z8 t8;refine au ⟨_,rfl, ?_⟩;rw[sz];exact hQ g8 z8 (up _ _ D.Oz t5) (N1.keep r1 λc hc o e=>up c o (λq=>D.z1 (q ▸ hc)) e) (N2.keep r2 λc hc o e=>up c o (λq=>D.z2 (q ▸ hc)) e) t8 λc o c1 c2 c3 c4 e=>up c o c1 (k5 c o c1 c2 c3 c4 e)
theorem xK {Q:Fin->Shared->Prop}(hh:A.handled=none)(N1:uf i1 fp1 v1 S1)(N2:uf i2 fp2 v2 S2)(D:Ap z TI TO i1 i2 fp1 fp2)(hz:IsZip s.heap z TI TO .none)(hTI:IsPair s.heap TI (.ref i1) (.ref i2))(hTO:IsPair s.heap TO a b)(p1:S1 k s.heap)(p2:S2 k s.heap)(hend:v1 k=none\/v2 k=none)
  (hE:∀h' e,(∀c o,c ≠ z->c ≠ TO->c ≠ i1->c ≠ i2->s.heap.get? c=some o->h'.get? c=some o)->(∃o,h'.get? e=some o/\o.cls= .type "StopIteration")->E (.ref e) { s with heap:=h' }):
  wpAny (model prog w) A (Builtin.«zip.__next__» ⟨[.ref z],[]⟩) Q E s:=by
 refine a7 (m:=field (.ref z) 2) (bf hz rfl (x:= .bool false) rfl (a7 (bf hz rfl (x:= .ref TI) rfl (a7 (bV hTI rfl ?_)))));refine a7 ?_;refine a7 (bf hz rfl (x:= .none) rfl (au ?_));simp only[if_true];refine a7 (wpAny_rule (a7 (bf hz rfl (x:= .ref TO) rfl (a7 (bA hz (by simp) λg1 z1 e1=> ?_)))))
 replace z1:=z1
 refine a7 ?_;have off:∀{g:Heap} {e:Addr} {oe:Obj},IsZip g z TI TO .ellipsis->g.get? e=some oe->oe.cls= .type "StopIteration"->e ≠ z:=λhg he hc q=>by
  subst q;rw[hg]at he;cases he;simp at hc
 cases hx:v1 k with
 | none=>
  refine a7 (a7 (wpAny_onRaise (a7 (N1.stop hh (N1.but p1 e1.extBut D.z1) hx λg2 e e2 he=> ?_))));obtain⟨oe,ho,hc⟩:=he;have z2:=e2 _ _ (D.ne1 N1).1.symm z1;exact bA z2 (by simp) λg3 _ e3=>hE g3 e (λc o c1 _ c3 _ q=>e3.extBut _ _ c1 (e2 _ _ c3 (e1.extBut _ _ c1 q))) ⟨oe,e3.extBut _ _ (off z2 ho hc) ho,hc⟩
 | some x=>
  have hy:v2 k=none:=by
   rcases hend with q | q
   ·rw[hx]at q;cases q
   ·exact q
  refine a7 (a7 (wpAny_onRaise (a7 (N1.item (N1.but p1 e1.extBut D.z1) hx λg2 q1 e2=>au ?_))));have t2:=e2.extBut _ _ (D.ne1 N1).2.symm (e1.extBut _ _ D.Oz hTO);refine a7 (bV t2 rfl (a7 (wpAny_updateSeq_pair t2 λg3 t3 e3=>a7 (wpAny_letGo (au ?_)))));refine a7 (a7 (wpAny_onRaise (a7 (N2.stop hh (N2.but (N2.but (N2.but p2 e1.extBut D.z2) e2.extBut D.a) e3.extBut D.O2) hy λg4 e e4 he=> ?_))));obtain⟨oe,ho,hc⟩:=he;have z4:=e4 _ _ (D.ne2 N2).1.symm (e3.extBut _ _ D.Oz.symm (e2.extBut _ _ (D.ne1 N1).1.symm z1));exact bA z4 (by simp) λg5 _ e5=>hE g5 e (λc o c1 c2 c3 c4 q=>e5.extBut _ _ c1 (e4 _ _ c4 (e3.extBut _ _ c2 (e2.extBut _ _ c3 (e1.extBut _ _ c1 q))))) ⟨oe,e5.extBut _ _ (off z4 ho hc) ho,hc⟩
theorem xL {Q:Option Value->Shared->Prop}(N1:uf i1 fp1 v1 S1)(N2:uf i2 fp2 v2 S2)(D:Ap z TI TO i1 i2 fp1 fp2)(hz:IsZip s.heap z TI TO .none)(hTI:IsPair s.heap TI (.ref i1) (.ref i2))(hTO:IsPair s.heap TO a b)(p1:S1 k s.heap)(p2:S2 k s.heap)(hx:v1 k=some x)(hy:v2 k=some y)
  (hQ:∀h',IsZip h' z TI TO (rawInt s.heap.objs.size)->IsPair h' TO x y->S1 (k+1) h' ->S2 (k+1) h' ->IsPair h' s.heap.objs.size x y->
   (∀c o,c ≠ z->c ≠ TO->c ≠ i1->c ≠ i2->s.heap.get? c=some o->h'.get? c=some o)->Q (some (.ref s.heap.objs.size)) { s with heap:=h' }):wpAny (model prog w) A (pyNext (.ref z)) Q E s:=by
 have ty:s.TypeIs (.ref z) _:=⟨_,hz,rfl⟩;exact a7 (cD (bw ty cG (bP cG ty eZ
  (xJ N1 N2 D hz hTI hTO p1 p2 hx hy λh' a1 a2 a3 a4 a5 a6=>au (hQ h' a1 a2 a3 a4 a5 a6)) (eK _))))
theorem xM {Q:Option Value->Shared->Prop}(hh:A.handled=none)(N1:uf i1 fp1 v1 S1)(N2:uf i2 fp2 v2 S2)(D:Ap z TI TO i1 i2 fp1 fp2)(hz:IsZip s.heap z TI TO .none)(hTI:IsPair s.heap TI (.ref i1) (.ref i2))(hTO:IsPair s.heap TO a b)(p1:S1 k s.heap)(p2:S2 k s.heap)(hend:v1 k=none\/v2 k=none)
  (hQ:∀h',(∀c o,c ≠ z->c ≠ TO->c ≠ i1->c ≠ i2->s.heap.get? c=some o->h'.get? c=some o)->Q none { s with heap:=h' }):wpAny (model prog w) A (pyNext (.ref z)) Q E s:=by
 have ty:s.TypeIs (.ref z) _:=⟨_,hz,rfl⟩;refine a7 (cD (bw ty cG (bP cG ty eZ
  (xK hh N1 N2 D hz hTI hTO p1 p2 hend λh' e kp he=> ?_) (eK _))))
 obtain⟨o,ho,hc⟩:=he;exact a7 (wpAny_isInstance ⟨o,ho,hc⟩ isSubtype_stop (au (hQ _ kp)))
end
end PySem.ZG
namespace PySem.ZG
open PySem PySem.Spec PySem.Builtin.SmallTypes
structure xN (l:Addr) (o:Obj) (P:Heap->Prop):Prop where
 go:∀{prog:Program} {w:World} {A:Around} {E:Value->Shared->Prop} {s:Shared} {Q:Value->Shared->Prop},P s.heap->Q (.ref s.heap.objs.size) { s with heap:=s.heap.push o }->wpAny (model prog w) A (pyIter (.ref l)) Q E s
 push:∀{h:Heap} (o' :Obj),P h->P (h.push o')
 fresh:o.isFreed=false
noncomputable abbrev oL (l:Addr):Obj:={ cls:= .type "list_iterator",data:= .fields #[.ref l,.int 0 0] }
noncomputable abbrev oT (l:Addr):Obj:={ cls:= .type "tuple_iterator",data:= .fields #[.ref l,.int 0 0] }
theorem xO (l:Addr)(xs:Array Value):xN l (oL l) (λh=>h.IsList l xs):=⟨λp q=>wpAny_pyIter_list p q,λo p=>Heap.IsList.push p o,rfl⟩
theorem Kt (l:Addr)(xs:Array Value):xN l (oT l) (λh=>h.IsTuple l xs):=⟨λp q=>wpAny_pyIter_tuple p q,λo p=>Heap.IsTuple.push p o,rfl⟩
noncomputable abbrev zh2 (h:Heap)(o1 o2:Obj):Heap:=(h.push o1).push o2
abbrev zh3 (h:Heap)(o1 o2:Obj):Heap:=(zh2 h o1 o2).push { cls:= .type "tuple",data:= .seq #[.ref h.objs.size,.ref (h.push o1).objs.size] }
abbrev zh4 (h:Heap)(o1 o2:Obj):Heap:=(zh3 h o1 o2).push { cls:= .type "tuple",data:= .seq #[.none,.none] }
abbrev zh5 (h:Heap)(o1 o2:Obj):Heap:=(zh4 h o1 o2).push { cls:= .type "zip",data:= .fields #[.none,.bool false,.bool false,.ref (zh2 h o1 o2).objs.size,.ref (zh3 h o1 o2).objs.size] }
theorem Ku {P1 P2:Heap->Prop}(J1:xN l1 o1 P1)(J2:xN l2 o2 P2):
  Meets (Builtin.«zip.__new__» ⟨[.type "zip",.ref l1,.ref l2],[]⟩) (λ_ R s=>P1 s.heap/\P2 s.heap/\R (.ok (.ret (.ref (zh4 s.heap o1 o2).objs.size))) { s with heap:=zh5 s.heap o1 o2 }):=
 .of_wp λprog w A R s h=>by
  obtain⟨hp,g,d,tk,os⟩:=s;obtain⟨q1,q2,h⟩:=h;have hsub:=sub_zip;have c1:P1 (im ⟨hp,g,d,tk,os⟩):=q1;have c2:P2 (im ⟨hp.push o1,g,d,tk,os⟩):=J2.push o1 q2
  wp_walk using J1.go c1,J2.go c2
  exact⟨_,rfl,h⟩
end PySem.ZG
namespace PySem.ZG
open PySem PySem.Spec PySem.Builtin.SmallTypes
theorem xP {P1 P2:Heap->Prop}(J1:xN l1 o1 P1)(J2:xN l2 o2 P2)(q1:P1 s.heap)(q2:P2 s.heap)
  (h:∀h' n,n=s.heap.objs.size->IsZip h' (n+4) (n+2) (n+3) .none->IsPair h' (n+2) (.ref n) (.ref (n+1))->IsPair h' (n+3) .none .none->h'.get? n=some o1->h'.get? (n+1)=some o2->
   (∀c o,s.heap.get? c=some o->h'.get? c=some o)->Q (.ref (n+4)) { s with heap:=h' }):wpAny (model prog w) A (call (.type "zip") [.ref l1,.ref l2]) Q E s:=by
 refine callType_new PySem.F.called_zip (by decide) (PySem.F.typeCall_zip_2 _ _) (PySem.F.newCall_zip_2 _ _) (λobj=>PySem.F.args_object_init_3 obj _ _) PySem.F.entry_zip_new (Ku J1 J2) ⟨q1,q2, ?_⟩
 have n1:(s.heap.push o1).objs.size=s.heap.objs.size+1:=bM ..;have n2:(zh2 s.heap o1 o2).objs.size=s.heap.objs.size+2:=by rw[bM,n1]
 have n3:(zh3 s.heap o1 o2).objs.size=s.heap.objs.size+3:=by rw[bM,n2]
 have n4:(zh4 s.heap o1 o2).objs.size=s.heap.objs.size+4:=by rw[bM,n3]
 have up:∀{h:Heap} {c:Addr} {o:Obj} (o' :Obj),h.get? c=some o->(h.push o').get? c=some o:=λo' e=>aa o' e;have e5:(zh5 s.heap o1 o2).get? _=some _:=ah _ rfl;have e4:(zh5 s.heap o1 o2).get? _=some _:=up _ (ah _ rfl);have e3:(zh5 s.heap o1 o2).get? _=some _:=up _ (up _ (ah _ rfl));have e2:(zh5 s.heap o1 o2).get? _=some _:=up _ (up _ (up _ (ah _ J2.fresh)));have e1:(zh5 s.heap o1 o2).get? _=some _:=up _ (up _ (up _ (up _ (ah _ J1.fresh))));rw[n2,n3,n4]at e5;rw[n1,n2]at e3;rw[n3]at e4;rw[n1]at e2;rw[n4];exact⟨⟨_,e5,rfl⟩,h _ _ rfl e5 e3 e4 e1 e2 λc o q=>up _ (up _ (up _ (up _ (up _ q))))⟩
end PySem.ZG
namespace PV
open PySem PySem.Spec PyProof.Rows L2 PySem.ZG
inductive SK where
 | l | t
noncomputable def SK.it:SK->Heap->Addr->Addr->Nat->Prop
 | .l=>λh i l k=>h.IsListIter i l k
 | .t=>λh i l k=>h.IsTupleIter i l k
noncomputable def SK.has:SK->Heap->Addr->Array Value->Prop
 | .l=>λh l xs=>h.IsList l xs
 | .t=>λh l xs=>h.IsTuple l xs
def SK.sq (K:a8):SK->Hp->Addr->List V->Prop
 | .l=>λH a xs=>SqL K H a xs
 | .t=>λH a xs=>SqT K H a xs
noncomputable def SK.tr:SK->List V->HO
 | .l=> .lst
 | .t=> .tup
def SK.ob:SK->Addr->Obj
 | .l=>oL
 | .t=>oT
theorem SK.nx (k:SK){i l:Addr}(h:l ≠ i)(xs:Array Value):uf i [i,l] (λn=>xs[n]?) (λn hp=>k.it hp i l n/\k.has hp l xs):=by
 cases k with
 | l=>exact xI h xs
 | t=>exact nx_tup h xs
theorem SK.of (k:SK)(l:Addr)(xs:Array Value):xN l (k.ob l) (λh=>k.has h l xs):=by
 cases k with
 | l=>exact xO l xs
 | t=>exact Kt l xs
theorem SK.start (k:SK){h:Heap}{i l:Addr}(e:h.get? i=some (k.ob l)):k.it h i l 0:=by
 cases k with
 | l=>exact⟨_,e,rfl,rfl⟩
 | t=>exact⟨_,e,rfl,rfl⟩
theorem SK.obj {k:SK}{h:Heap}{i l:Addr}{n:Nat}(x:k.it h i l n):∃o,h.get? i=some o/\∀v,o.data ≠ .cell v:=by
 cases k with
 | l=>obtain⟨o,e,_,d⟩:=x;exact⟨o,e,λv z=>by rw[d]at z;cases z⟩
 | t=>obtain⟨o,e,_,d⟩:=x;exact⟨o,e,λv z=>by rw[d]at z;cases z⟩
theorem SK.at_ {k:SK}{h h' :Heap}{i l:Addr}{n:Nat}(x:k.it h i l n)(q:∀o,h.get? i=some o->h'.get? i=some o):k.it h' i l n:=by
 cases k with
 | l=>obtain⟨o,e,r⟩:=x;exact⟨o,q o e,r⟩
 | t=>obtain⟨o,e,r⟩:=x;exact⟨o,q o e,r⟩
theorem SK.sqOf {K:a8}(k:SK){H:Hp}{a:Addr}{xs:List V}(e:H a=some (k.tr xs)):k.sq K H a xs:=by
 cases k with
 | l=>exact SqL.of e
 | t=>exact SqT.of e
theorem Inv.seq (I:L2.Inv X pins σ H s)(k:SK)(h:k.sq X.K H a xs):∃its:List Value,zS xs its/\k.has s.heap a its.toArray/\∃o,s.heap.get? a=some o:=by
 cases k with
 | l=>
  obtain⟨its,r,p,_⟩:=I.list h;obtain⟨o,_,e,_⟩:=id p;exact⟨its,r,p.isList,o,e⟩
 | t=>
  obtain⟨its,r,p,_⟩:=I.tuple h;obtain⟨o,e,_⟩:=id p;exact⟨its,r,p,o,e⟩
def Itz (K:a8)(k1 k2:SK)(l1 l2:Addr):It:=
 ⟨λi H=>∃xs ys x y,k1.sq K H l1 xs/\k2.sq K H l2 ys/\xs[i]? =some x/\ys[i]? =some y,λi H v H' =>∃p x y,H p=none/\v= .ref p/\(∀xs,k1.sq K H l1 xs->xs[i]? =some x)/\(∀ys,k2.sq K H l2 ys->ys[i]? =some y)/\H' =upd H p (.tup [x,y]),
  λi H=>∃xs ys,k1.sq K H l1 xs/\k2.sq K H l2 ys/\(xs.length<=i\/ys.length<=i)⟩
theorem Inv.seq_inj (I:L2.Inv X pins σ H s)(k:SK)(h:k.sq X.K H a xs)(h' :k.sq X.K H a ys):xs=ys:=by
 cases k with
 | l=>exact I.list_inj h h'
 | t=>exact I.tuple_inj h h'
theorem nN {a b:Nat}(h:a ≠ b): @Ne Addr a b:=h
theorem nM {a b c:Nat}(h:a ≠ b)(h' :a ≠ c):¬ @Membership.mem Addr (List Addr) _ [b,c] a:=λq=>by
 rcases am.mp q with z | z
 ·exact h z
 ·exact h' (aN.mp z)
theorem v7 {P:Program}{w:World}{K:a8}{elts:List Expr}{kk:Nat}{pt:Pos}(k1 k2:SK){n l1 l2:Nat}(h1:l1 < n)(h2:l2 < n):
  yi P w K (.Tuple elts kk pt) (Itz K k1 k2 l1 l2) [n+4,n+2,n+3,n,n+1] (n+4)
   (λi h=>IsZip h (n+4) (n+2) (n+3) .none/\IsPair h (n+2) (.ref n) (.ref (n+1))/\(∃a b,IsPair h (n+3) a b)/\k1.it h n l1 i/\k2.it h (n+1) l2 i):=by
 have D:Ap (n+4) (n+2) (n+3) n (n+1) [n,l1] [n+1,l2]:=by
  refine⟨nN (by omega),nN (by omega),nN (by omega),nN (by omega),nN (by omega),nM (by omega) (by omega),nM (by omega) (by omega),nM (by omega) (by omega),nM (by omega) (by omega),nM (by omega) (by omega),nM (by omega) (by omega)⟩
 refine⟨by simp,λi h st b hb=> ?_,λi h h' st k=> ?_, ?_, ?_, ?_⟩
 ·obtain⟨hz,hI,⟨a,c,hO⟩,p1,p2⟩:=st;simp only[am,aT,or_false]at hb;rcases hb with rfl | rfl | rfl | rfl | rfl
  ·exact⟨_,hz,λv z=>nomatch z⟩
  ·exact⟨_,hI,λv z=>nomatch z⟩
  ·exact⟨_,hO,λv z=>nomatch z⟩
  ·exact SK.obj p1
  ·exact SK.obj p2
 ·obtain⟨hz,hI,⟨a,c,hO⟩,p1,p2⟩:=st;exact⟨k _ (by simp) _ hz,k _ (by simp) _ hI,⟨a,c,k _ (by simp) _ hO⟩,SK.at_ p1 λo e=>k n (by simp) o e,SK.at_ p2 λo e=>k (n+1) (by simp) o e⟩
 ·intro X hP hw hK hc i pins s σ H E I hf st hg;subst hP hw hK;obtain⟨xs,ys,x,y,s1,s2,hx,hy⟩:=hg;obtain⟨hz,hI,⟨a,c,hO⟩,p1,p2⟩:=st;obtain⟨its1,r1,b1,_⟩:=Inv.seq I k1 s1;obtain⟨its2,r2,b2,_⟩:=Inv.seq I k2 s2;obtain⟨u,hu,ru⟩:=r1.get hx;obtain⟨v,hv,rv⟩:=r2.get hy;refine xL (k1.nx (aE h1) its1.toArray) (k2.nx (i:=n+1) (nN (by omega)) its2.toArray) D hz hI hO ⟨p1,b1⟩ ⟨p2,b2⟩ (x:=u) (y:=v) (by simpa using hu) (by simpa using hv) λg a1 a2 a3 a4 a5 kp=>⟨_,rfl, ?_⟩
  refine wpAny_letOwnedTupleGo_zip a1 λg2 z2 e2=> ?_;have hlt:n+4 < s.heap.objs.size:=ar hz;have ne:∀b:Nat,b<=n+4->s.heap.objs.size ≠ b:=λb hb=>by
   omega
  have kp2:∀b o,b ∉ [n+4,n+2,n+3,n,n+1]->s.heap.get? b=some o->g2.get? b=some o:=λb o hb e=>by
   simp only[am,aT,or_false,not_or]at hb;exact e2.extBut _ _ hb.1 (kp b o hb.1 hb.2.2.1 hb.2.2.2.1 hb.2.2.2.2 e)
  have g2P:=e2.extBut _ _ (ne _ (aj _)) a5;have g2I:=e2.extBut _ _ D.Iz (kp _ _ D.Iz D.IO D.I1 D.I2 hI);have g2O:=e2.extBut _ _ D.Oz a2;have q1:=SK.at_ a3.1 λo e=>e2.extBut _ _ (nN (by omega)) e
  have q2:=SK.at_ a4.1 λo e=>e2.extBut _ _ (nN (by omega)) e
  have hfr:=I.hok.fresh (aj _);refine⟨.ref s.heap.objs.size,upd H s.heap.objs.size (.tup [x,y]),Inv.laidT (s:=s) (h' :=g2) (tk:=s.toks) I hf kp2 (λb o hb _=> ?_) (aj _)
   ⟨by rw[bT];show 2<=16777216;decide,[u,v],.cons ru (.cons rv .nil),⟨_,g2P,rfl,_,rfl⟩,.inr ⟨_,g2P,rfl⟩⟩,rfl,⟨_,x,y,hfr,rfl,λzs hq=>by rw[← Inv.seq_inj I k1 s1 hq];exact hx,λzs hq=>by rw[← Inv.seq_inj I k2 s2 hq];exact hy,rfl⟩,⟨z2,g2I,⟨u,v,g2O⟩,q1,q2⟩,λb hb=> ?_⟩
  ·simp only[am,aT,or_false]at hb;rcases hb with rfl | rfl | rfl | rfl | rfl
   ·exact⟨_,z2⟩
   ·exact⟨_,g2I⟩
   ·exact⟨_,g2O⟩
   ·obtain⟨o',e',_⟩:=SK.obj q1;exact⟨o',e'⟩
   ·obtain⟨o',e',_⟩:=SK.obj q2;exact⟨o',e'⟩
  ·have hb2:(b:Nat)<=n+4:=by
    have hb:=by simpa using hb
    rcases hb with rfl | rfl | rfl | rfl | rfl
    ·exact aj _
    ·exact dD (by decide) n
    ·exact dD (by decide) n
    ·exact aK _ _
    ·exact dD (by decide) n
   rw[zu λz=>ne b hb2 z.symm];exact(hf b hb).1
 ·intro X hP hw hK hc i pins s σ H E I hf st hg;subst hP hw hK;obtain⟨xs,ys,s1,s2,hend⟩:=hg;obtain⟨hz,hI,⟨a,c,hO⟩,p1,p2⟩:=st;obtain⟨its1,r1,b1,_⟩:=Inv.seq I k1 s1;obtain⟨its2,r2,b2,_⟩:=Inv.seq I k2 s2;have l1' :=r1.length;have l2' :=r2.length;refine xM (I.ok.hd hc) (k1.nx (aE h1) its1.toArray) (k2.nx (nN (by omega)) _) D hz hI hO ⟨p1,b1⟩ ⟨p2,b2⟩ ?_ λg kp=>⟨rfl, ?_⟩
  ·rcases hend with q | q
   ·exact .inl (cu (by rw[ay,← l1'];exact q))
   ·exact .inr (cu (by rw[ay,← l2'];exact q))
  ·have kp2:∀b o,b ∉ [n+4,n+3,n,n+1]->s.heap.get? b=some o->g.get? b=some o:=λb o hb e=>by
    simp only[am,aT,or_false,not_or]at hb;exact kp b o hb.1 hb.2.1 hb.2.2.1 hb.2.2.2 e
   have nch:∀b u,H b=some u->b ∉ [n+4,n+3,n,n+1]:=λb u e hb=>by
    have hb' :b∈[n+4,n+2,n+3,n,n+1]:=by
     simp only[am,aT,or_false]at hb ⊢;rcases hb with q | q | q | q
     ·exact .inl q
     ·exact .inr (.inr (.inl q))
     ·exact .inr (.inr (.inr (.inl q)))
     ·exact .inr (.inr (.inr (.inr q)))
    rw[(hf b hb').1]at e;cases e
   refine I.call' rfl ⟨λb o e _ _ hc=>kp2 b o hc e,λb o e _ _ hc=>⟨o.slots,kp2 b o hc e⟩,λb o e q _=>q,λb o e hc=>⟨o,kp2 b o hc e⟩,λb ys e=>e,λb o u e=>e,λ_ _ _ e=>e⟩ (λb u e=> ?_) I.bare λb hb=> ?_
   ·refine(I.hok b u e).stay (λc v hc q=>kp2 c v ?_ q) (λ_ q=>q) λ_ _ q=>q;rcases hc with rfl | hc
    ·exact nch c u e
    ·exact nch c _ hc
   ·have hb' :b∈[n+4,n+2,n+3,n,n+1]:=by
     simp only[am,aT,or_false]at hb ⊢;rcases hb with q | q | q | q
     ·exact .inl q
     ·exact .inr (.inr (.inl q))
     ·exact .inr (.inr (.inr (.inl q)))
     ·exact .inr (.inr (.inr (.inr q)))
    obtain⟨f0,f1,f2,f3,f4,f5⟩:=hf b hb';exact⟨f3,f1,f4,f5⟩
 ·intro A i s Q E st h;exact wpAny_pyIter_zip st.1 h
noncomputable def Vh (xs ys:List T):List T:=(xs.zip ys).map λp=>T.tup [p.1,p.2]
theorem v8 {xs ys:List T}{i:Nat}{t:T}(h:(Vh xs ys)[i]? =some t):∃x y,xs[i]? =some x/\ys[i]? =some y/\t= .tup [x,y]:=by
 unfold Vh at h;rw[av]at h;cases e:(xs.zip ys)[i]? with
 | none=>rw[e]at h;cases h
 | some p=>
  rw[e]at h;cases h;have:=List.getElem?_zip_eq_some.mp e;exact⟨p.1,p.2,this.1,this.2,rfl⟩
theorem ug (xs ys:List T):(Vh xs ys).length=min xs.length ys.length:=by unfold Vh;simp
theorem Kv {K:a8}{B1 H1:Hp}{k1 k2:SK}{a b:Addr}{xs ys:List V}{ts us:List T}(ha:B1 a=some (k1.tr xs))(hb:B1 b=some (k2.tr ys))(ra:zE B1 xs ts)(rb:zE B1 ys us):rI B1 H1 (Itz K k1 k2 a b) (Vh ts us):=λB2 H2 s1 s2=>by
 have a2:=k1.sqOf (K:=K) (s2 _ _ (s1 _ _ ha));have b2:=k2.sqOf (K:=K) (s2 _ _ (s1 _ _ hb));rw[ug];refine⟨λi hi=> ?_,λi t x H3 e y=> ?_,λi hi=>⟨xs,ys,a2,b2, ?_⟩⟩
 ·obtain⟨v,e1,_⟩:=ra.get (ag (show i < ts.length by omega))
  obtain⟨u,e2,_⟩:=rb.get (ag (show i < us.length by omega))
  exact⟨xs,ys,v,u,a2,b2,e1,e2⟩
 ·obtain⟨p,v,u,hp,rfl,y1,y2,rfl⟩:=y;obtain⟨t1,t2,et,eu,rfl⟩:=v8 e;obtain⟨v',e1,r1⟩:=ra.get et;obtain⟨u',e2,r2⟩:=rb.get eu;have q1:=y1 xs a2;have q2:=y2 ys b2;rw[e1]at q1;cases q1;rw[e2]at q2;cases q2;have up:=zO.ge s2 (zv.new hp (.tup [v,u]));exact⟨zv.new hp _,.tup (jb hp _) (.cons ((r1.mono s1).mono up) (.cons ((r2.mono s1).mono up) .nil))⟩
 ·rw[ra.length,rb.length];omega
section
theorem Kw {ta:TA}(hg:Gl X "zip")(hm:X.mg "zip"=none)(ha:PA X [a,b] ta)(hs:starEach [a,b] X.env=[(false,eval a X.env),(false,eval b X.env)])(hs2:starEach [b] X.env=[(false,eval b X.env)]):
  PI X (.Tuple elts kk pt) (.Call (.Name "zip" p) [a,b] [] pos) (λσ H R=>ta σ H λvs H1=>∃k1 k2 l1 l2 xs ys,vs=[.ref l1,.ref l2]/\H1 l1=some (SK.tr k1 xs)/\H1 l2=some (SK.tr k2 ys)/\R (Itz X.K k1 k2 l1 l2) H1):=by
 intro pins s σ H R I h;refine Call_ (j7 I hg hm PyProof.Rows.Boot.«zip» (aU (thn (ha pos _ s σ H _ I h) λus s1 ⟨vs,H1,I1,r1,q1⟩=> ?_) (by rw[hs,hs2]) (by rw[hs2];rfl)))
 obtain⟨k1,k2,l1,l2,xs,ys,e,h1,h2,q⟩:=q1;subst e;obtain⟨u,v,rfl,ru,rv⟩:=UC r1;obtain rfl:u=Value.ref l1:=ru;obtain rfl:v=Value.ref l2:=rv;obtain⟨its1,_,b1,o1,e1⟩:=Inv.seq I1 k1 (k1.sqOf h1);obtain⟨its2,_,b2,o2,e2⟩:=Inv.seq I1 k2 (k2.sqOf h2);refine xP (k1.of l1 _) (k2.of l2 _) b1 b2 λg n hn z1 z2 z3 z4 z5 kp=>wpAny_pyIter_zip z1 ?_;subst hn;have f:∀b∈[s1.heap.objs.size+4,s1.heap.objs.size+2,s1.heap.objs.size+3,s1.heap.objs.size,s1.heap.objs.size+1],Wd X _ H1 b:=λb hb=>by
  have hb' :s1.heap.objs.size<=b:=by
   simp only[am,aT,or_false]at hb;rcases hb with rfl | rfl | rfl | rfl | rfl
   ·exact aK _ _
   ·exact aK _ _
   ·exact aK _ _
   ·exact aj _
   ·exact aK _ _
  exact I1.fpOk hb' (I1.hok.fresh hb')
 exact⟨s1.heap.objs.size+4,_,_,_,H1,rfl,I1.kept kp,v7 k1 k2 (ar e1) (ar e2),⟨z1,z2,⟨_,_,z3⟩,SK.start k1 z4,SK.start k2 z5⟩,f,q⟩
noncomputable def wO:T->R (List T)
 | .lst xs=> .ok xs
 | .tup xs=> .ok xs
 | _=> .bad
def z19 (fa fb:En->R T):En->R (List T):=λρ=>(fa ρ).bind λt=>(fb ρ).bind λu=>(wO t).bind λxs=>(wO u).bind λys=> .ok (Vh xs ys)
theorem Yk (r:Rep B v t)(e:wO t= .ok xs):∃(k:SK) (a:Addr) (vs:List V),v= .ref a/\B a=some (k.tr vs)/\zE B vs xs:=by
 cases r with
 | lst h r=>cases e;exact⟨.l,_,_,rfl,h,r⟩
 | tup h r=>cases e;exact⟨.t,_,_,rfl,h,r⟩
 | _=>cases e
theorem uS (t:T)(c:Nat):wO t ≠ .ex c:=by cases t <;> exact λz=>nomatch z
theorem z1a (hg:Gl X "zip")(hm:X.mg "zip"=none)(ha:Snd X Y a fa)(hb:Snd X Y b fb)(hs:starEach [a,b] X.env=[(false,eval a X.env),(false,eval b X.env)]:=by exact st2 rfl rfl)(hs2:starEach [b] X.env=[(false,eval b X.env)]:=by exact st1 rfl):
  ud X Y (.Tuple elts kk pt) (.Call (.Name "zip" p) [a,b] [] pos) (z19 fa fb):= .mk λρ=>
 PI.imp (Kw hg hm (zA (ha ρ) (zA (hb ρ) zU hs2) (by rw[hs,hs2])) hs hs2) λσ H R ⟨B,I,q⟩=>step I q λt v H1 _ s1 r1 I1 q1=>step I1 q1 λu v' H2 _ s2 r2 I2 q2=>by
  cases e1:wO t with
  | bad=>rw[e1]at q2;exact q2.elim
  | ex c=>exact absurd e1 (uS _ _)
  | ok xs=>
   rw[e1]at q2;cases e2:wO u with
   | bad=>rw[e2]at q2;exact q2.elim
   | ex c=>exact absurd e2 (uS _ _)
   | ok ys=>
    rw[e2]at q2;obtain⟨k1,a1,vs1,rfl,h1,w1⟩:=Yk (r1.mono (zO.ge I1.sB s2)) e1;obtain⟨k2,a2,vs2,rfl,h2,w2⟩:=Yk r2 e2;exact⟨k1,k2,a1,a2,vs1,vs2,rfl,I2.sB _ _ h1,I2.sB _ _ h2,ZB I2 (show Po Y rI _ H2 _ R from q2) (Kv h1 h2 w1 w2)⟩
end
end PV
namespace PV
open PySem PySem.Spec PyProof.Rows L2
section
def Yl:T->R T
 | .bl b=> .ok (.int (b2 b))
 | .int i=> .ok (.int i)
 | _=> .bad
theorem z1b (v:V)(t:T)(B H:Hp)(Q:VK)(r:Rep B v t)(sB:zv B H)(q:Po Y rC B H (Yl t) Q):
  (∃i,[v]=[V.int i]/\Q (.int i) H)\/∃k,[v]=[V.bl k]/\Q (.int (if k then 1 else 0)) H:=by
 cases r with
 | int i=>exact .inl ⟨i,rfl,po0 sB q rfl (.int i)⟩
 | bl k=>exact .inr ⟨k,rfl,po0 sB q rfl (by cases k <;> exact .int _)⟩
 | _=>exact q.elim
theorem Kx (gl:Gl X "int")(mg:X.mg "int"=none)(ha:Snd X Y a fa)(hs:St1 X a:=by exact st1 rfl):Snd X Y (.Call (.Name "int" p) [a] [] pos) (ap1 Yl fa):=
 Y5 yF z1b gl mg (PyProof.Rows.Boot.«int») ha hs
theorem Ym:Zp X (.type "range") (λxs H Q=>∃i j,xs=[.int i,.int j]/\∀r,H r=none->Q (.ref r) (upd H r (.rng i j))):=by
 intro pins s σ H xs us Q I r h;obtain⟨i,j,rfl,q⟩:=h;obtain⟨u,v,rfl,ru,rv⟩:=UC r;obtain⟨t,rfl⟩:=ru;obtain⟨t',rfl⟩:=rv;exact call_range_2 ⟨.ref _,_,I.laid (λb o e=>aa _ e) (aj _) (show Za _ X.w _ _ _ (.rng i j) from ⟨_,_,_,ah _ rfl⟩),rfl,q _ (I.hok.fresh (aj _))⟩
noncomputable def Ql (lo:Int)(n:Nat):List V:=(a_ n).map λ(i:Nat)=>V.int (lo+(i:Int))
theorem wP (hh:X.A.handled=none):Zp X (.type "list") (λxs H Q=>∃r lo hi,xs=[.ref r]/\H r=some (.rng lo hi)/\(-1000000 < lo/\lo < 1000000/\ -1000000 < hi/\hi < 1000000)/\∀l,H l=none->Q (.ref l) (upd H l (.lst (Ql lo (hi - lo).toNat)))):=by
 intro pins s σ H xs us Q I rv h;obtain⟨r,lo,hi,rfl,e,⟨c1,c2,c3,c4⟩,q⟩:=h;obtain⟨u,rfl,ru⟩:=ZR rv;obtain rfl:u=Value.ref r:=ru;obtain⟨t,v,v',eo⟩:=(show Za _ X.w H _ r _ from I.hok r _ e);have hn:eC lo hi 1=((hi - lo).toNat):=by rw[rangeSize_one];split <;> omega
 refine call_list_range hh eo (small_one (by omega) (by omega) (by omega) (by omega)) hn (by omega) λh' tk acc c kp eo' hacc=> ?_
 have hv:zS (Ql lo (hi - lo).toNat) acc.toList:=by
  have key:∀(n:Nat) (lo:Int) (vs:List _),vs.length=n->(∀(j:Nat) (v:Value),vs[j]? =some v->∃t,v=Value.int (lo+(j)) t)->zS (Ql lo n) vs:=by
   intro n
   induction n with
   | zero=>
    intro lo vs hl _;rw[List.eq_nil_of_length_eq_zero hl];exact .nil
   | succ n ih=>
    intro lo vs hl hv;cases vs with
    | nil=>cases hl
    | cons v vs=>
     have e:Ql lo (n+1)=V.int (lo+0) :: Ql (lo+1) n:=by
      unfold Ql;rw[cq,aL,bI];refine congrArg _ (cV λj _=> ?_);show V.int _=V.int _;congr 1;omega
     rw[e];refine .cons (hv 0 v rfl) (ih _ vs (by simpa using hl) λj x hx=> ?_)
     obtain⟨t,z⟩:=hv (j+1) x (by simpa using hx)
     exact⟨t,by rw[z];congr 1;omega⟩
  refine key _ lo _ (by simpa using hacc.1) λj v hj=> ?_
  obtain⟨t,z⟩:=hacc.2 j v (by simpa using hj)
  exact⟨t,by rw[z];congr 1;omega⟩
 have hz:(Ql lo (hi - lo).toNat).length<=sizeLine:=by
  rw[bT];unfold Ql;rw[a9,bG];omega
 exact⟨.ref _,_,I.laid kp (aj _) (show Za _ X.w _ h' _ (.lst _) from ⟨hz,acc.toList,c,hv,by simpa using eo'⟩),rfl,q _ (I.hok.fresh (aj _))⟩
def GK (fi:En->R (List T)):En->R T:=λρ=>(fi ρ).bind λts=> .ok (.lst ts)
theorem Yn (lo:Int)(n:Nat):zE B (Ql lo n) (rng lo n):=by
 unfold Ql rng
 induction a_ n with
 | nil=>exact .nil
 | cons i is ih=>exact .cons (.int _) ih
theorem xQ (hh:X.A.handled=none)(gl:Gl X "list")(mg:X.mg "list"=none)(gl' :Gl X "range")(mg' :X.mg "range"=none)(ha:Snd X Y a fa)(hb:Snd X Y b fb)
  (hs:starEach [a,b] X.env=[(false,eval a X.env),(false,eval b X.env)]:=by exact st2 rfl rfl) (hs2:St1 X b:=by exact st1 rfl):Snd X Y (.Call (.Name "list" p) [.Call (.Name "range" p') [a,b] [] pos'] [] pos) (GK (Je fa fb)):= .mk λρ=>
 PE.imp (ja (wP hh) gl mg PyProof.Rows.Boot.«list» (zA (ja Ym gl' mg' boot_range (zA (ha ρ) (zA (hb ρ) zU hs2) (by rw[hs,hs2])) (by decide) (by decide) (by rw[hs,hs2]) (by rw[hs2];rfl)) zU (st1 rfl)) (by decide) (by decide) (st1 rfl) rfl) λσ H Q ⟨B,I,q⟩=>by
  have q:Po Y rC B H ((fa ρ).bind λt=>(fb ρ).bind λt' =>(match t,t' with | .int i,.int j=>if -1000000 < i/\i < 1000000/\ -1000000 < j/\j < 1000000 then R.ok (rng i (j - i).toNat) else .bad | _,_=> .bad).bind λts=> .ok (.lst ts)) Q:=by
   revert q;unfold GK Je;cases fa ρ with
   | ok t=>cases fb ρ <;> exact λq=>q
   | ex c=>exact λq=>q
   | bad=>exact λq=>q
  refine step I q λt v H1 _ s1 r1 I1 q1=>step I1 q1 λt' v' H2 _ s2 r2 I2 q2=> ?_;cases r1 with
  | int i=>
   cases r2 with
   | int j=>
    by_cases c: -1000000 < i/\i < 1000000/\ -1000000 < j/\j < 1000000
    ·dsimp only at q2;rw[if_pos c]at q2;refine⟨i,j,rfl,λr hr=>⟨r,i,j,rfl,zx,c,λl hl=> ?_⟩⟩;have hlr:l ≠ r:=λz=>by rw[z,zx]at hl;cases hl
     have hl2:=by rw[zu hlr]at hl;exact hl
     refine q2 _ _ (zv.new hr _ |>.trans (zv.new hl _)) (.lst ?_ (Yn _ _))
     rw[zZ hl2,zx]
    ·dsimp only at q2;rw[if_neg c]at q2;exact q2.elim
   | _=>exact q2.elim
  | _=>cases r2 <;> exact q2.elim
def mvS (i j:Nat):En->RS:=λρ=>match ρ[j]? with
 | some (.ow ts)=> .nx ((ρ.set j (.vl (.lst ts))).set i (.vl (.lst ts)))
 | _=> .bad
theorem SI.give (I:SI Y B ρ σ H)(hj:ρ[j]? =some (.ow ts)):∃(a:Addr) (B' :Hp),σ[j]? =some (some (V.ref a))/\zv B B' /\Rep B' (.ref a) (.lst ts)/\SI Y B' (ρ.set j (.vl (.lst ts))) σ H:=by
 obtain⟨a,xs,e,b0,h0,hh,rr,d⟩:=I.ow j ts hj;have s1:zv B (upd B a (.lst xs)):=zv.new b0 _;have rp:Rep _ _ _:= .lst zx (rr.mono s1);refine⟨a,_,e,s1,rp,⟨I.s0,I.sH,λb o q=> ?_,λb o q=> ?_,by rw[aI];exact I.len,λk t q=> ?_,λk us q=> ?_,λk c q=> ?_, ?_⟩⟩
 ·by_cases hb:b=a
  ·subst hb;rw[zx]at q;cases q;exact hh
  ·rw[zu hb]at q;exact I.sB b o q
 ·rw[zu λz=>by rw[z,h0]at q;cases q];exact I.old b o q
 ·rcases zr q with ⟨rfl,z⟩ | ⟨_,z⟩
  ·cases z;exact⟨_,e,rp⟩
  ·obtain⟨v,e1,r⟩:=I.vl k t z;exact⟨v,e1,r.mono s1⟩
 ·rcases zr q with ⟨rfl,z⟩ | ⟨hk,z⟩
  ·cases z
  ·obtain⟨a',xs',e',b0',h0',hh',rr',d'⟩:=I.ow k us z;have hne:a' ≠ a:=λw=>by subst w;exact d k us hk z e'
   refine⟨a',xs',e',by rw[zu hne];exact b0',h0',hh',rr'.mono s1,λm ws hm hw=> ?_⟩
   rcases zr hw with ⟨rfl,w⟩ | ⟨_,w⟩
   ·cases w
   ·exact d' m ws hm w
 ·rcases zr q with ⟨rfl,z⟩ | ⟨_,z⟩
  ·cases z
  ·obtain⟨a',e',r⟩:=I.xc k c z;exact⟨a',e',s1 _ _ r⟩
 ·obtain⟨as,O,x⟩:=I.st;refine⟨as,O,x.on (λk y hy h=> ?_) s1 rfl rfl (zv.refl _) λb o hb b0' h0' cs=> ?_⟩
  ·rcases zr h with ⟨_,z⟩ | ⟨_,z⟩
   ·subst z;cases hy
   ·exact⟨z,rfl⟩
  ·have hne:b ≠ a:=λz=>by
    subst z;rcases cs with ⟨C,dx,vs,ez⟩ | ok
    ·rw[hh]at hb;cases hb;cases ez
    ·exact ok j ts hj e
   refine⟨hb,by rw[zu hne];exact b0',h0',λok k us h=> ?_⟩
   rcases zr h with ⟨_,z⟩ | ⟨_,z⟩
   ·cases z
   ·exact ok k us z
theorem s_mv (hv:PE X (.Name y yp) (Jh j))(hN:X.N.Nodup)(hi:X.N[i]? =some x)(hx:L2.Loc X.env.scope x)(hs:swapsWith (.Name y yp) (some (.Name x p')) pos.line X.env=pure false:=by rfl)
  (hf:X.fn x=true\/X.env.scope.names.lookup x=some .local:=by first | exact .inl rfl | exact .inr rfl | assumption):jT X Y (.Assign [.Name x p'] (.Name y yp) pos) (mvS i j):= .mk λρ=>
 PS.imp (uH hN hi hx hv hs hf) λD σ H ⟨B,I,q⟩=>by
  unfold mvS at q;split at q
  ·rename_i ts e;obtain⟨a,B',e1,s1,r,J⟩:=I.give e;exact⟨_,e1,q _ _ B' s1 (J.setV i r)⟩
  ·exact q.elim
end
def eqs (y:T):List T->Option (List Bool)
 | []=>some []
 | t :: ts=>match eqF 30 t y with
  | none=>none
  | some b=>match eqs y ts with
   | none=>none
   | some bs=>some (b :: bs)
def z1c (y:T)(ts:List T):R T:=match eqs y ts with
 | some bs=> .ok (.int (bs.count true))
 | none=> .bad
def z1d (y:T)(ts:List T):R T:=match eqs y ts with
 | some bs=>if true∈bs then .ok (.int (bs.idxOf true)) else .bad
 | none=> .bad
def GL (g:T->List T->R T)(fa fb:En->R T):En->R T:=λρ=>(fa ρ).bind λt=>match t with
 | .lst ts=>(fb ρ).bind λu=>g u ts
 | _=> .bad
theorem Yo {H:Hp}{y:T}{e:Value->Bool}(he:∀(v:V) (t:T) (u:Value) (b:Bool),Zc v u->Rep H v t->eqF 30 t y=some b->e u=b):∀{xs:List V} {ts:List T} {its:List Value} {bs:List Bool},
  zS xs its->zE H xs ts->eqs y ts=some bs->its.map e=bs/\∀u∈its,∃v t k,Zc v u/\Rep H v t/\eqF 30 t y=some k
 | _,_,_,_,.nil,.nil,h=>by
  cases h;exact⟨rfl,λu hu=>by simp at hu⟩
 | _,_,_,_,.cons rv vs,.cons r rs,h=>by
  rename_i v u vals us t ts;unfold eqs at h;cases q:eqF 30 t y with
  | none=>rw[q]at h;cases h
  | some k=>
   rw[q]at h;cases q' :eqs y ts with
   | none=>rw[q']at h;cases h
   | some k' =>
    rw[q']at h;cases h;obtain⟨h1,h2⟩:=Yo he vs rs q';refine⟨by rw[aL,h1,he v t u k rv r q],λw hw=> ?_⟩
    rcases am.mp hw with z | hw
    ·exact⟨v,t,k,z ▸ rv,r,q⟩
    ·exact h2 w hw
section
theorem Yp {e:Value->Bool}:∀its:List Value,List.countP e its=(its.map e).count true
 | []=>rfl
 | u :: us=>by
  rw[List.countP_cons,aL,List.count_cons,Yp us];cases e u <;> rfl
theorem v9 (hu:X.A.units+64 < cLine):MtR X "list.count" (λx xs H Q=>∃l ys ts v t bs,x= .ref l/\xs=[v]/\H l=some (.lst ys)/\zE H ys ts/\Rep H v t/\eqs t ts=some bs/\Q (.int (bs.count true)) H):=by
 intro pins s σ H x xs v0 us Q I rx rv h;obtain⟨l,ys,ts,v,t,bs,rfl,rfl,hl,r,rt,e,q⟩:=h;obtain rfl:v0=Value.ref l:=rx;obtain⟨u,rfl,ru⟩:=ZR rv;obtain⟨hz,its,n,ri,eo⟩:=(show Za _ X.w H _ l _ from I.hok l _ hl);obtain⟨f,hf⟩:=ub λz=>eqF 30 z t;obtain⟨h2,h3⟩:=Yo hf ri r e;refine cK eL ⟨_,eo,rfl⟩ PySem.F.entry_list_count (PySem.F.args_list_count_2 _ _) (SeqAt.list_countAt l _ n _ #[] u f) ⟨eo,λw hw=> ?_, ?_⟩
 ·obtain⟨v',t',k,rv',rr,ee⟩:=h3 w (by simpa using hw)
  rw[hf v' t' w k rv' rr ee];exact(yY I 30 _ (by rw[jC];omega) t' t k v' v w u ee rr rt rv' ru).1
 ·rw[Yp,h2];exact⟨.int _,H,I.tok _,⟨_,rfl⟩,q⟩
theorem va (hu:X.A.units+64 < cLine):MtR X "list.index" (λx xs H Q=>∃l ys ts v t bs,x= .ref l/\xs=[v]/\H l=some (.lst ys)/\zE H ys ts/\Rep H v t/\eqs t ts=some bs/\true∈bs/\Q (.int (bs.idxOf true)) H):=by
 intro pins s σ H x xs v0 us Q I rx rv h;obtain⟨l,ys,ts,v,t,bs,rfl,rfl,hl,r,rt,e,hm,q⟩:=h;obtain rfl:v0=Value.ref l:=rx;obtain⟨u,rfl,ru⟩:=ZR rv;obtain⟨hz,its,n,ri,eo⟩:=(show Za _ X.w H _ l _ from I.hok l _ hl);obtain⟨f,hf⟩:=ub λz=>eqF 30 z t;obtain⟨h2,h3⟩:=Yo hf ri r e;have hj:=List.idxOf_lt_length_iff.mpr hm;have hlen:bs.length=its.length:=by rw[← h2,a9]
 have hri:=ri.length;rw[bT]at hz;have hat:∀m (hm:m < its.length),f its[m]=bs[m]'(by rw[hlen];exact hm):=λm hm=>by
  have:(its.map f)[m]'(by rw[a9];exact hm)=bs[m]'(by rw[hlen];exact hm):=by simp only[h2]
  rw[← this,List.getElem_map]
 refine cK eM ⟨_,eo,rfl⟩ PySem.F.entry_list_index (PySem.F.args_list_index_2 _ _) (SeqAt.list_indexAt l _ n _ #[] u f _ (by rw[ay,← hlen];exact hj) (by omega) ?_ ?_) ⟨eo,λw hw=> ?_, ?_⟩
 ·rw[fy,hat];exact List.getElem_idxOf hj
 ·intro m hm hlt;rw[fy,hat m (by simpa using hm)]
  have:=List.not_of_lt_findIdx hlt;simpa using this
 ·obtain⟨v',t',k,rv',rr,ee⟩:=h3 w (by simpa using hw)
  rw[hf v' t' w k rv' rr ee];exact(yY I 30 _ (by rw[jC];omega) t' t k v' v w u ee rr rt rv' ru).1
 ·exact⟨.int _,H,I.tok _,⟨_,rfl⟩,q⟩
theorem xR (hu:X.A.units+64 < cLine)(ha:j6 X Y a fa)(hb:j6 X Y b fb)(hb1:attributeBase a "count" X.env (eval a X.env)=eval a X.env:=by rfl)(hs:St1 X b:=by exact st1 rfl)(hz:(pa.endLine == p.line)=true:=by rfl):
  Snd X Y (.Call (.Attribute a "count" pa) [b] [] p) (GL z1c fa fb):= .mk λρ=>by
 have e1:(((((backTo p (starEach [b] X.env)).all λx=> !x.fst) && (backToKw p (keywordEach [] X.env)).all λx=>x.fst.isSome) && decide (([b].length+([]:List Keyword).length+if ([]:List Keyword).isEmpty=true then 0 else 1) < 30))=true):=by rw[hs];rfl
 refine PE.imp (UK bJ eL PySem.F.type_list_count (v9 hu) (ha ρ) (zA (hb ρ) zU hs) hb1 e1 hz hs rfl) λσ H Q ⟨B,I,q⟩=>step I q λt v H1 _ s1 r1 I1 q1=> ?_;cases t with
 | lst ts=>
  cases r1 with
  | @lst l xs _ h r=>
   refine⟨.inl ⟨rfl,_,SqL.of h⟩,step I1 q1 λu v' H2 _ s2 r2 I2 q2=> ?_⟩;unfold z1c at q2;split at q2
   ·rename_i bs e;exact⟨l,xs,ts,v',u,bs,rfl,rfl,s2 _ _ h,r.mono s2,r2,e,ZB I2 q2 (.int _)⟩
   ·exact q2.elim
 | _=>exact q1.elim
theorem xS (hu:X.A.units+64 < cLine)(ha:j6 X Y a fa)(hb:j6 X Y b fb)(hb1:attributeBase a "index" X.env (eval a X.env)=eval a X.env:=by rfl)(hs:St1 X b:=by exact st1 rfl)(hz:(pa.endLine == p.line)=true:=by rfl):
  Snd X Y (.Call (.Attribute a "index" pa) [b] [] p) (GL z1d fa fb):= .mk λρ=>by
 have e1:(((((backTo p (starEach [b] X.env)).all λx=> !x.fst) && (backToKw p (keywordEach [] X.env)).all λx=>x.fst.isSome) && decide (([b].length+([]:List Keyword).length+if ([]:List Keyword).isEmpty=true then 0 else 1) < 30))=true):=by rw[hs];rfl
 refine PE.imp (UK bJ eM PySem.F.type_list_index (va hu) (ha ρ) (zA (hb ρ) zU hs) hb1 e1 hz hs rfl) λσ H Q ⟨B,I,q⟩=>step I q λt v H1 _ s1 r1 I1 q1=> ?_;cases t with
 | lst ts=>
  cases r1 with
  | @lst l xs _ h r=>
   refine⟨.inl ⟨rfl,_,SqL.of h⟩,step I1 q1 λu v' H2 _ s2 r2 I2 q2=> ?_⟩;unfold z1d at q2;split at q2
   ·rename_i bs e;split at q2
    ·rename_i hm;exact⟨l,xs,ts,v',u,bs,rfl,rfl,s2 _ _ h,r.mono s2,r2,e,hm,ZB I2 q2 (.int _)⟩
    ·exact q2.elim
   ·exact q2.elim
 | _=>exact q1.elim
end
noncomputable def ZI:List T->Option (List Int)
 | []=>some []
 | .int i :: r=>match ZI r with | some l=>some (i :: l) | none=>none
 | _ :: _=>none
def xT:T->R T
 | .lst ts=>match ZI ts with | some l=> .ok (.int l.sum) | none=> .bad
 | _=> .bad
def GM (fi:En->R (List T))(g:T->En->R En)(ft:En->R Bool)(fe:En->R T)(k:Nat)(js:List Nat):En->RS:=λρ=>(fi (frz ρ)).s λts=>(zG g ft fe k js (frz ρ) ts).s λvs=> .rf vs
def uh:En->RS:=λ_=> .bad
theorem z1e {X:Cx}{Y:Fx}{st:Stmt}:jT X Y st uh:= .mk λρ=>λpins s σ H D I ⟨B,J,q⟩=>q.elim
theorem ui:∀{H:Hp} {xs:List V} {ts:List T} {its:List Value} {is:List Int},zE H xs ts->zS xs its->ZI ts=some is->∃ps:List (Int×Tok),its=ps.map (λp=>Value.int p.1 p.2)/\ps.map (·.1)=is
 | _,_,_,_,is,.nil,.nil,h=>by
  have h' :=h;cases h';exact⟨[],rfl,rfl⟩
 | H,_,_,_,is,.cons r rs,.cons rv vs,h=>by
  cases r with
  | int i=>
   unfold ZI at h;split at h
   ·rename_i l e;cases h;obtain⟨ps,h1,h2⟩:=ui rs vs e;obtain⟨tk,rfl⟩:=rv;exact⟨(i,tk) :: ps,by rw[h1];rfl,by rw[aL,h2]⟩
   ·cases h
  | _=>cases h
section
variable {X:Cx}{Y:Fx}{a b:Expr}{fa fb:En->R T}{pos p p' pos' :Pos}
theorem Yq (hh:X.A.handled=none):Zp X (.builtin "sum") (λvs H Q=>∃l xs ts is,vs=[.ref l]/\H l=some (.lst xs)/\zE H xs ts/\ZI ts=some is/\Q (.int is.sum) H):=by
 intro pins s σ H vs us Q I rv h;obtain⟨l,xs,ts,is,rfl,hl,r,hk,q⟩:=h;obtain⟨u,rfl,ru⟩:=ZR rv;obtain rfl:u=Value.ref l:=ru;obtain⟨its,rv,p,_⟩:=zT I (.inl hl) r;obtain⟨ps,h1,h2⟩:=ui r rv hk;have e:its.toArray=intItems ps.toArray:=by rw[h1];simp[intItems]
 rw[e]at p;refine sum_intListG hh p λh' tk t' kp=> ?_;have e2:preSum (numAt ps.toArray) ps.toArray.size=is.sum:=by
  rw[preSum_eq,e_ (by simp),← h2]
 rw[e2];exact⟨.int _,H,I.kept kp,⟨t',rfl⟩,q⟩
theorem z1f (hh:X.A.handled=none)(gl:Gl X "sum")(mg:X.mg "sum"=none)(ha:j6 X Y a fa)(hs:St1 X a:=by exact st1 rfl):Snd X Y (.Call (.Name "sum" p) [a] [] pos) (ap1 xT fa):=
 Wq (Yq hh) (λv t B H Q r sB q=>by
  cases r with
  | @lst l xs ts h r=>
   have q:Po Y rC B H (match ZI ts with | some k=> .ok _ | none=> .bad) Q:=q
   split at q
   ·rename_i k e;exact⟨l,xs,ts,k,rfl,h,r,e,po0 sB q rfl (.int _)⟩
   ·exact q.elim
  | _=>exact q.elim) gl mg boot_sum ha hs
end
section
variable {X:Cx}{Y:Fx}{tg iter elt:Expr}{ifs:List Expr}{scope:Scope}{pos pos' :Pos}{N' :List Str}{k:Nat}{js:List Nat}{fi:En->R (List T)}{tG:TG}{g:T->En->R En}{ft:En->R Bool}{fe:En->R T}
theorem Ky (C:we X Y tg iter elt ifs scope N' k js fi tG g ft fe):jT X Y (.Return (some (.ListComp elt [⟨tg,iter,ifs,0⟩] scope pos)) pos') (GM fi g ft fe k js):= .mk λρ=>by
 have pe:PE X (.ListComp elt [⟨tg,iter,ifs,0⟩] scope pos) (λσ H Q=>∃B,SI Y B (frz ρ) σ H/\PoS Y B ((fi (frz ρ)).s λts=>(zG g ft fe k js (frz ρ) ts).s λvs=> .rf vs) { nx:=λ_ _=>False,rt:=Q }):=by
  intro pins s σ H Q I ⟨B,J,q⟩;refine wJ (jQ rfl) (F:=λD H' =>Q (.ref D) H') (te:=λσ H Q=>∃Y' ρ',Y'.cl=Y.cl/\(Y'.E=λ_ _ _=>False)/\tS Y' rC fe ρ' σ H Q) (tt:=λσ H Q=>∃Y' ρ',Y'.cl=Y.cl/\tS Y' rE ft ρ' σ H Q) C.sc C.cp C.cm (C.it (frz ρ)) C.gt
   (λcl Cx' s3 H3 fp pins pins' s σ H Q I ⟨Y',ρ',ey,q⟩=>C.tt Y' ey cl Cx' s3 H3 fp _ ρ' _ s σ H Q I q) (λcl Cx' s3 H3 fp pins xe hp pins' s σ H Q I ⟨Y',ρ',ey,eE,q⟩=>C.el Y' ey cl Cx' s3 H3 fp _ xe (eE ▸ hp) ρ' _ s σ H Q I q) I ?_ ?_ C.hs
  ·refine jE J q λts it' H1 _ s1 r1 J1 q1=> ?_;intro D hD;unfold zG at q1;split at q1
   ·rename_i hl;cases ev:zQ g ft fe ts _ with
    | bad=>rw[ev]at q1;exact q1.elim
    | ex c=>rw[ev]at q1;exact q1.elim
    | ok vs=>
     rw[ev]at q1;refine JA C.gk C.gn J1 r1 hl ev hD λH' xs B' s' e' r' l' b' sb' => ?_;exact(show PoS Y _ _ _ from q1) D xs H' B' (J1.sH.trans s') (J1.sH.free hD) e' r' b' (l'.trans (V7 J1.sH J1.old s' J1.sB))
   ·exact q1.elim
  ·intro D Cc H' s' I' q' hC h0 hL hcell hpin hns;obtain⟨m,hm⟩:=hns;refine⟨m,hm,λh' hsb=>⟨.ref D,H', ?_,rfl,q'⟩⟩;exact I'.turned (λb o hb e=>hsb.extBut b o hb e) hC (bi hL).symm (.inr h0) hcell hpin
 refine PS.imp (Wc pe) λD σ H ⟨B,I,q⟩=>⟨_,I.frz, ?_⟩;have q:=PoS.up I.up q;unfold GM at q;revert q;cases fi _ with
 | bad=>exact λq=>q
 | ex c=>exact λq=>q
 | ok ts=>
  show PoS Y _ ((zG g ft fe k js _ ts).s λvs=> .rf vs) D->PoS Y _ ((zG g ft fe k js _ ts).s λvs=> .rf vs) _;cases zG g ft fe k js _ ts with
  | bad=>exact λq=>q
  | ex c=>exact λq=>q
  | ok vs=>exact λq=>q
end
end PV
namespace PySem.RV
open PySem PySem.Spec PyProof.Rows PySem.Builtin.SmallTypes
theorem uT:Manifest.owners.lookup (String.ofList "desrever".toList.reverse)=some Manifest.sig_reversed:=by kernel_rfl
theorem jc:Slot "reversed" "__next__" "reversed.__next__":=
 .of (owner:="reversed") (n:="__next__") (by kernel_rfl) (by decide+kernel) (by decide+kernel) (by decide+kernel)
  (by first | exact .inl (by decide+kernel) | exact .inr (by decide+kernel)) (by kernel_rfl)
theorem wg:entryFor table "reversed.__next__"=some Builtin.«reversed.__next__»:=entryFor_of_tree (by kernel_rfl)
theorem Wz (a:Value):argsOk "reversed.__next__" ⟨[a],[]⟩:=by
 unfold argsOk;rw[signature?_of (n:="__txen__".toList) (by kernel_rfl) uT];kernel_rfl
theorem WA:Slot "reversed" "__iter__" "reversed.__iter__":=
 .of (owner:="reversed") (n:="__iter__") (by kernel_rfl) (by decide+kernel) (by decide+kernel) (by decide+kernel)
  (by first | exact .inl (by decide+kernel) | exact .inr (by decide+kernel)) (by kernel_rfl)
theorem Yr (a:Value):argsOk "reversed.__iter__" ⟨[a],[]⟩:=by
 unfold argsOk;rw[signature?_of (n:="__reti__".toList) (by kernel_rfl) uT];kernel_rfl
theorem UT:entryFor table "reversed.__iter__"=some Builtin.«dict_keyiterator.__iter__»:=
 entryFor_alias (id' :="dict_keyiterator.__iter__") (by kernel_rfl) (by first | rfl | decide+kernel | (unfold String.splitOn;simp+decide [String.splitOnAux])) (by decide+kernel) (by kernel_rfl)
theorem Kz:typeLookup (.type "tuple") "__reversed__"=pure none:=by rw[typeLookup_type,builtinLookup_eq_fast];kernel_rfl
theorem KA:isSubtype (.type "tuple") (.type "dict")=pure false:=by rw[isSubtype_type];kernel_rfl
noncomputable abbrev IsRv (h:Heap)(it:Addr)(v:Value)(i:Int):Prop:=h.get? it=some { cls:= .type "reversed",data:= .fields #[v,rawInt i] }
section
variable {prog:Program}{w:World}{A:Around}{E:Value->Shared->Prop}{s:Shared}{it l:Addr}{xs:Array Value}
theorem uj {v:Value}{i:Int}(x:IsRv s.heap it v i):s.TypeIs (.ref it) "reversed":=⟨_,x,rfl⟩
theorem next_item {i:Nat}{x:Value}{Q:Option Value->Shared->Prop}(hit:IsRv s.heap it (.ref l) (i:Int))(ht:IsTup s.heap l xs)(hf:(xs.size:Int) < 2 ^ 63)(hx:xs[i]? =some x)
  (hQ:∀h' tk,IsRv h' it (.ref l) ((i:Int) - 1)->bZ it s.heap h' ->Q (some x) { s with heap:=h',toks:=tk }):wpAny (model prog w) A (pyNext (.ref it)) Q E s:=by
 refine a7 (cD (bw (uj hit) jc (bP jc (uj hit) wg ?_ (Wz _))));refine a7 (ck rfl ?_);refine a7 (bf hit rfl rfl ?_);refine a7 (bf hit rfl rfl ?_);have hi:=(Array.getElem?_eq_some_iff.mp hx).1;have hT:=ht.typeIs;refine a7 (wpAny_specialOf hT slot_tuple_getitem.lookup ?_);refine a7 (wpAny_mkInt ?_);refine a7 (cD (getItem_tuple ht (by omega) (by omega) (seqIndex_of (by omega) (by omega)) (by simpa using hx) ?_))
 refine a7 (bf hit rfl rfl ?_);refine a7 (bA hit (by simp) λg1 z1 e1=> ?_)
 exact au ⟨x,rfl,au (hQ g1 _ z1 e1)⟩
theorem next_end {Q:Option Value->Shared->Prop}(hh:A.handled=none)(hit:IsRv s.heap it (.ref l) (-1))
  (hQ:∀h',fx it s.heap h' ->Q none { s with heap:=h' }):wpAny (model prog w) A (pyNext (.ref it)) Q E s:=by
 refine a7 (cD (bw (uj hit) jc (bP jc (uj hit) wg ?_ (Wz _))));refine a7 (ck rfl ?_);refine a7 (bf hit rfl rfl ?_);refine a7 (bf hit rfl rfl ?_);refine a7 (wpAny_rule ?_);refine a7 (show wpAny _ _ _ _ _ _ from ?_);refine a7 (bA hit (by simp) λg1 z1 e1=> ?_)
 refine bA z1 (by simp) λg2 z2 e2=> ?_
 refine a7 (show wpAny _ _ (newExc _ [] >>= λe=>raiseNew e) _ _ _ from ?_);refine a7 ?_;refine a7 (bv (a7 (ck (by first | rfl | (simp only[firstArgMember])) (bv ?_ (by size_fits)))) (by size_fits))
 refine a7 (wpAny_handled ?_);rw[hh];refine a7 (au (wpAny_throw ?_));refine a7 (wpAny_isInstance ⟨_,ah _ rfl,rfl⟩ isSubtype_stop ?_);exact au (hQ _ (((e1.extBut.trans e2.extBut).push _).push _))
theorem iter_rv {v:Value}{i:Int}{Q:Value->Shared->Prop}(hit:IsRv s.heap it v i)(h:Q (.ref it) s):wpAny (model prog w) A (pyIter (.ref it)) Q E s:=by
 refine wpAny_pyIter_slot (uj hit) WA (bP WA (uj hit) UT ?_ (Yr _));exact au ⟨_,rfl,"reversed",_,uj hit,jc.lookup,h⟩
theorem Vi:mroOf (.type "reversed")=pure [.type "reversed",.type "object"]:=by rw[mroOf_type];kernel_rfl
theorem KC:typeLookup (.type "reversed") "__new__"=pure (some (.builtin "reversed.__new__")):=by kernel_rfl
theorem xU:Bind.madeBy (.type "reversed")=pure (some "reversed.__new__"):=madeBy_type Vi KC (by decide+kernel)
theorem KD:isSubtype (.type "reversed") (.type "reversed")=pure true:=by rw[isSubtype_type];kernel_rfl
theorem KG (a:Value):newClass "reversed" ⟨[.type "reversed",a],[]⟩=pure (.type "reversed",[a]):=by
 unfold newClass;simp only[isType,KD,pure_bind,dZ,aV,if_false]
theorem Ys:entryFor table "reversed.__new__"=some Builtin.«reversed.__new__»:=entryFor_of_tree (by kernel_rfl)
theorem vb {Q:Fin->Shared->Prop}(ht:IsTup s.heap l xs)(hf:(xs.size:Int) < 2 ^ 63)
  (h:∀tk,Q (.done (.ret (.ref s.heap.objs.size))) { s with heap:=s.heap.push { cls:= .type "reversed",data:= .fields #[.ref l,rawInt ((xs.size:Int) - 1)] },toks:=tk }):
  wpAny (model prog w) A (Builtin.«reversed.__new__» ⟨[.type "reversed",.ref l],[]⟩) Q E s:=by
 have hT:=ht.typeIs;refine a7 (ck (KG _) ?_);refine a7 (ck (by first | rfl | kernel_rfl) ?_)
 refine a7 (ck (by first | rfl | kernel_rfl) ?_)
 refine a7 (wpAny_specialOf hT Kz ?_);refine a7 ?_;refine a7 (wpAny_isInstance hT KA ?_);refine a7 (wpAny_specialOf hT slot_tuple_getitem.lookup ?_);refine au ?_;refine a7 (len_tuple ht hf ?_);refine a7 (ck rfl ?_);refine a7 (show wpAny _ _ (newObj _ (.fields #[.ref l,rawInt _])) _ _ _ from ?_);exact bv (au (h _)) (by size_fits)
theorem Yt:Slot "reversed" "__init__" "object.__init__":=
 .of (owner:="object") (n:="__init__") (by kernel_rfl) (by decide+kernel) (by decide+kernel) (by decide+kernel)
  (by first | exact .inl (by decide+kernel) | exact .inr (by decide+kernel)) (by kernel_rfl)
theorem Yu:TypeCalled "reversed" "reversed.__new__" "object.__init__":=
 ⟨by decide+kernel,by decide+kernel,⟨_,_,Vi⟩,xU,by decide+kernel,by kernel_rfl,Yt⟩
theorem vc (a:Value):checkTypeCall "reversed" ⟨[a],[]⟩=pure ():=by kernel_rfl
theorem vd (a:Value):checkBuiltinCall "reversed.__new__" ⟨[.type "reversed",a],[]⟩=pure ():=by kernel_rfl
theorem call_rvT (ht:IsTup s.heap l xs)(hf:(xs.size:Int) < 2 ^ 63)
  (h:∀tk,Q (.ref s.heap.objs.size) { s with heap:=s.heap.push { cls:= .type "reversed",data:= .fields #[.ref l,rawInt ((xs.size:Int) - 1)] },toks:=tk }):wpAny (model prog w) A (call (.type "reversed") [.ref l]) Q E s:=by
 refine callType_new (S:=λ_ R s=>(∃xs,IsTup s.heap l xs/\(xs.size:Int) < 2 ^ 63/\∀tk,R (.ok (.ret (.ref s.heap.objs.size))) { s with heap:=s.heap.push { cls:= .type "reversed",data:= .fields #[.ref l,rawInt ((xs.size) - 1)] },toks:=tk })) Yu (by decide) (vc _) (vd _) (λobj=>PySem.F.args_object_init_2 obj _) Ys (.of_wp λprog w A R s h=> ?_) ⟨xs,ht,hf,λtk=> ?_⟩
 ·obtain⟨xs,h1,h2,h3⟩:=h;exact vb h1 h2 λtk=>⟨_,rfl,h3 tk⟩
 ·exact⟨⟨_,ah _ rfl,rfl⟩,h tk⟩
end
end PySem.RV
namespace PySem.RV
open PySem PySem.Spec PyProof.Rows
theorem ve:typeLookup (.type "list_reverseiterator") "__len__"=pure none:=by rw[typeLookup_type,builtinLookup_eq_fast];kernel_rfl
theorem xV:typeLookup (.type "list_reverseiterator") "__length_hint__"=pure (some (.builtin "list_reverseiterator.__length_hint__")):=by rw[typeLookup_type];kernel_rfl
section
variable {G:Array GenState->Array GenState->Prop}{P:Nat->Value->Prop}{St:Nat->Shared->Prop}
theorem UU {Q:List Value->Shared->Prop}(W:WalksS prog w A.in1 I fp wr G n P St)(hT:∀i s,St i s->s.TypeIs (.ref I) "list_reverseiterator")(hst:St 0 s)(hfp:∀b∈fp,b < s.heap.objs.size)(hI:I∈fp)
  (hQ:∀s' acc,Moved wr G s s' ->ItemsOf P acc n->Q acc.toList s') (hn:n<=sizeLine):wpAny (model prog w) A (collect (.ref I)) Q E s:=by
 have nf:=λz=>bH _ (hfp _ z);have nI:s.heap.objs.size ≠ I:=λz=>nf (z ▸ hI);unfold collect;refine a7 (wpAny_runValue (bX F.entry_proto_collect ?_));refine a7 (bv (au ⟨plainId_quiet F.plain_list_iadd _,bX F.entry_list_iadd ?_⟩));have g0:=W.frame 0 s (s.heap.push { cls:= .type "list",data:= .seq ([]:List _).toArray }) _ hst (aj _) λb _ o e=>aa _ e;have g1:(s.heap.push { cls:= .type "list",data:= .seq ([]:List _).toArray }).get? _=some _:=ah _ rfl;have g2:d_ (.ref s.heap.objs.size) (.ref I)=false:=by simp[d_,nI]
 refine(show wpAny _ _ (Builtin.List.listExtendWith _ _ _) _ _ _ from ?_);refine a7 (wpAny_typeOf (hT 0 _ g0) ?_);rw[if_neg (by rw[g2];decide)]
 refine a7 (W.self 0 _ _ _ g0 (a7 (cC ?_)));refine a7 (wpAny_specialOf (hT 0 _ g0) ve ?_);refine a7 (wpAny_specialOf (hT 0 _ g0) xV ?_);generalize hid:("list_reverseiterator.__length_hint__")=id0;subst hid;refine a7 (wpAny_isInstance (b:=true) (hT 0 _ g0) (by kernel_rfl) ?_)
 refine au ?_;refine au ⟨plainId_quiet F.plain_extend_loop _,codeAny_extend_loopS W hn _ nf _ n 0 _ _ _ rfl (bx _) g0 g1 (ItemsOf.nil P) λs' acc' c' hm hS' hacc=> ?_⟩;exact a7 (wpAny_load hS' (au (hQ s' _ (Moved.drop_new hm (aj _)) hacc)))
theorem KH (W:WalksS prog w A.in1.in1 I fp wr G n P St)(hT:∀i s,St i s->s.TypeIs (.ref I) "list_reverseiterator")(hst:St 0 s)(hfp:∀b∈fp,b < s.heap.objs.size)(hI:I∈fp)
  (h:∀s' acc,Moved wr G s s' ->ItemsOf P acc n->Q₁ (.ref s'.heap.objs.size) { s' with heap:=s'.heap.push { cls:= .type "tuple",data:= .seq acc } }) (hsz:n<=sizeLine):
  codeAny (model prog w) A (.call (.builtin "tuple.__new__") ⟨[.type "tuple",.ref I],[]⟩) (wants Q₁ E) s:=by
 refine codeAny_of_tree ?_;refine(show wpAny _ A.in1 (do checkBuiltinCall "tuple.__new__" ⟨[.type "tuple",.ref I],[]⟩;again (.builtin "tuple.__new__" ⟨[.type "tuple",.ref I],[]⟩)) _ _ s from ?_)
 refine a7 (ck (F.newCall_tuple_1 _) (au ⟨plainId_quiet g_ _,bX F.entry_tuple_new ?_⟩));rw[Around.under_plainId g_ _];have hsub:=sub_tuple_self;have hinit:=init_tuple_lookup;have hmh:=madeHere_tuple;have ty:=hT 0 s hst
 wp_walk using wpAny_typeOf ty,UU (hn:=hsz) W hT hst hfp hI
 intro s' acc hm hacc;have e:acc.toList.toArray=acc:=by simp
 refine(show wpAny _ _ (eA acc.toList.toArray >>= λv=>ret v) _ _ _ from ?_);unfold eA;refine a7 (bv (au ?_) (by rw[e];show acc.size<=sizeLine;rw[hacc.1];exact hsz))
 rw[e];exact h s' acc hm hacc
theorem tuple_lr (W:WalksS prog w A.in1.in1.in1 I fp wr G n P St)(hT:∀i s,St i s->s.TypeIs (.ref I) "list_reverseiterator")(hst:St 0 s)(hfp:∀b∈fp,b < s.heap.objs.size)(hI:I∈fp)
  (hQ:∀s' acc,Moved wr G s s' ->ItemsOf P acc n->Q (.ref s'.heap.objs.size) { s' with heap:=s'.heap.push { cls:= .type "tuple",data:= .seq acc } }) (hsz:n<=sizeLine):
  wpAny (model prog w) A (call (.type "tuple") [.ref I]) Q E s:=
 callType_codes (Q₁:=λobj s₁=>s₁.TypeIs obj _/\Q obj _) fA (F.typeCall_tuple_1 _) F.entry_object_init
  (KH (hsz:=hsz) W hT hst hfp hI λs' acc hm hacc=>⟨⟨_,ah _ rfl,rfl⟩,hQ s' acc hm hacc⟩) λobj s₁ h₁=>
   ⟨h₁.1,fB obj _,object_init_meets fA.init.lookup fA.made (by decide) _ w _ _ _ ⟨h₁.1,rfl,h₁.2⟩⟩
end
end PySem.RV
namespace PV
open PySem PySem.Spec PyProof.Rows L2
def z1g (K:a8)(a:Addr)(n:Nat):It:=
 ⟨λi H=>∃xs x,SqT K H a xs/\xs.length=n/\xs.reverse[i]? =some x,λi H x H' =>H' =H/\∀xs,SqT K H a xs->xs.reverse[i]? =some x,λi H=>∃xs,SqT K H a xs/\xs.length=n/\n<=i⟩
def z1h (K:a8)(a:Addr)(n:Nat):It:=
 ⟨λi H=>∃xs x,SqL K H a xs/\xs.length=n/\xs.reverse[i]? =some x,λi H x H' =>H' =H/\∀xs,SqL K H a xs->xs.reverse[i]? =some x,λi H=>∃xs,SqL K H a xs/\xs.length=n/\n<=i⟩
theorem Vj {α:Type}{xs:List α}{x:α}(h:xs.reverse[i]? =some x):i < xs.length/\xs[xs.length - 1 - i]? =some x:=by
 have hi:=(aw.mp h).1;rw[aG]at hi;rw[fk hi]at h;exact⟨hi,h⟩
theorem vf {P:Program}{w:World}{K:a8}{tg:Expr}(a it:Addr)(n:Nat):yi P w K tg (z1g K a n) [it] it (λi h=>i<=n/\RV.IsRv h it (.ref a) ((n:Int) - 1 - (i:Int))) where
 mem:=by simp
 obj:=λi h st b hb=>by
  have e:b=it:=by simpa using hb
  subst e;exact⟨_,st.2,λv z=>nomatch z⟩
 keep:=λi h h' st k=>⟨st.1,k it (by simp) _ st.2⟩
 item:=by
  intro X hP hw hK hc i pins s σ H E I hf st hg;subst hP hw hK;obtain⟨xs,x,hq,hn,hx⟩:=hg;obtain⟨its,rv,p,hz⟩:=I.tuple hq;obtain⟨hi,hx'⟩:=Vj hx;obtain⟨u,hu,ru⟩:=rv.get hx';obtain⟨f0,f1,f2,f3,f4,f5⟩:=hf it (by simp)
  have hl:=rv.length;have e:(n:Int) - 1 - (i:Int)=((xs.length - 1 - i:Nat):Int):=by omega
  have hit:=st.2;rw[e]at hit;have hb:(its.toArray.size:Int) < 2 ^ 63:=by
   rw[bT]at hz;simp;omega
  refine RV.next_item hit p hb (x:=u) (by simpa using hu) λh' tk st' sb=> ?_
  have I1:Inv X pins σ H { s with heap:=h',toks:=tk }:=I.turned (t' :=tk) (λb o hb e=>(sb.2 b hb).trans e) f0 f1 f3 f4 f5;have e2:((xs.length - 1 - i:Nat):Int) - 1=(n:Int) - 1 - ((i+1:Nat):Int):=by omega
  rw[e2]at st';exact⟨u,rfl,Ux (s:={ s with heap:=h',toks:=tk }) st' rfl rfl (by decide) ⟨x,H,I1,ru,⟨rfl,λys hy=>by rw[I.tuple_inj hy hq];exact hx⟩,⟨by omega,st'⟩,λb hb=>(hf b hb).1⟩⟩
 done:=by
  intro X hP hw hK hc i pins s σ H E I hf st hg;subst hP hw hK;obtain⟨xs,hq,hn,hx⟩:=hg;obtain⟨f0,f1,f2,f3,f4,f5⟩:=hf it (by simp)
  have hit:=st.2;have h1:=st.1;rw[show (n:Int) - 1 - (i:Int)= -1 by omega]at hit
  exact RV.next_end (I.ok.hd hc) hit λh' eb=>⟨rfl,I.turned (t' :=s.toks) (λb o hb e=>eb b o hb e) f0 f1 f3 f4 f5⟩
 self:=λ_ _ _ _ _ st h=>RV.iter_rv st.2 h
theorem vg {P:Program}{w:World}{K:a8}{tg:Expr}(a it:Addr)(n:Nat):yi P w K tg (z1h K a n) [it] it (λi h=>i<=n/\h.IsRevIter it a ((n:Int) - 1 - (i:Int))) where
 mem:=by simp
 obj:=λi h st b hb=>by
  have e:b=it:=by simpa using hb
  subst e;obtain⟨o,e,c,d⟩:=st.2;exact⟨o,e,λv z=>by rw[d]at z;cases z⟩
 keep:=λi h h' st k=>⟨st.1,st.2.at λo e=>k it (by simp) o e⟩
 item:=by
  intro X hP hw hK hc i pins s σ H E I hf st hg;subst hP hw hK;obtain⟨xs,x,hq,hn,hx⟩:=hg;obtain⟨its,rv,p,hz⟩:=I.list hq;obtain⟨hi,hx'⟩:=Vj hx;obtain⟨u,hu,ru⟩:=rv.get hx';obtain⟨f0,f1,f2,f3,f4,f5⟩:=hf it (by simp)
  have e:(n:Int) - 1 - (i:Int)=((xs.length - 1 - i:Nat):Int):=by omega
  have hit:=st.2;rw[e]at hit;refine wpAny_pyNext_rev_item hit p.isList (x:=u) (by simpa using hu) λh' st' sb=> ?_
  have I1:Inv X pins σ H { s with heap:=h' }:=I.turned (t' :=s.toks) (λb o hb e=>(sb.2 b hb).trans e) f0 f1 f3 f4 f5;have e2:((xs.length - 1 - i:Nat):Int) - 1=(n:Int) - 1 - ((i+1:Nat):Int):=by omega
  rw[e2]at st';obtain⟨o,e,c,d⟩:=id st';exact⟨u,rfl,Ux (s:={ s with heap:=h' }) e c d (by decide) ⟨x,H,I1,ru,⟨rfl,λys hy=>by rw[I.list_inj hy hq];exact hx⟩,⟨by omega,st'⟩,λb hb=>(hf b hb).1⟩⟩
 done:=by
  intro X hP hw hK hc i pins s σ H E I hf st hg;subst hP hw hK;obtain⟨xs,hq,hn,hx⟩:=hg;obtain⟨f0,f1,f2,f3,f4,f5⟩:=hf it (by simp)
  have hit:=st.2;have h1:=st.1;rw[show (n:Int) - 1 - (i:Int)= -1 by omega]at hit
  exact wpAny_pyNext_rev_end (I.ok.hd hc) hit λh' eb=>⟨rfl,I.turned (t' :=s.toks) (λb o hb e=>eb b o hb e) f0 f1 f3 f4 f5⟩
 self:=λ_ _ _ _ _ st h=>wpAny_pyIter_revIter st.2 h
theorem zE.rev {H:Hp}:∀{vs:List V} {ts:List T},zE H vs ts->zE H vs.reverse ts.reverse
 | _,_,.nil=> .nil
 | _,_,.cons r t=>by rw[aR,aR];exact(zE.rev t).append (.cons r .nil)
theorem KI {K:a8}{B1 H1:Hp}{a:Addr}{xs:List V}{ts:List T}(h:B1 a=some (.tup xs))(r:zE B1 xs ts):rI B1 H1 (z1g K a xs.length) ts.reverse:=λB2 H2 s1 s2=>by
 have h2:=s2 _ _ (s1 _ _ h);have hr:=r.rev;refine⟨λi hi=> ?_,λi t x H3 e y=> ?_,λi hi=>⟨xs,SqT.of h2,rfl,by rw[aG]at hi;rw[r.length];exact hi⟩⟩
 ·obtain⟨v,e,_⟩:=hr.get (ag hi);exact⟨xs,v,SqT.of h2,rfl,e⟩
 ·obtain⟨rfl,y⟩:=y;obtain⟨v,e1,r1⟩:=hr.get e;have:=y xs (SqT.of h2);rw[e1]at this;cases this;refine⟨zv.refl _, ?_⟩;rw[zO.self B2 _ s2];exact r1.mono s1
theorem KJ {K:a8}{B1 H1:Hp}{a:Addr}{xs:List V}{ts:List T}(h:B1 a=some (.lst xs))(r:zE B1 xs ts):rI B1 H1 (z1h K a xs.length) ts.reverse:=λB2 H2 s1 s2=>by
 have h2:=s2 _ _ (s1 _ _ h);have hr:=r.rev;refine⟨λi hi=> ?_,λi t x H3 e y=> ?_,λi hi=>⟨xs,SqL.of h2,rfl,by rw[aG]at hi;rw[r.length];exact hi⟩⟩
 ·obtain⟨v,e,_⟩:=hr.get (ag hi);exact⟨xs,v,SqL.of h2,rfl,e⟩
 ·obtain⟨rfl,y⟩:=y;obtain⟨v,e1,r1⟩:=hr.get e;have:=y xs (SqL.of h2);rw[e1]at this;cases this;refine⟨zv.refl _, ?_⟩;rw[zO.self B2 _ s2];exact r1.mono s1
def z1i (fa:En->R T):En->R (List T):=λρ=>(fa ρ).bind λt=>(wO t).bind λxs=> .ok xs.reverse
def vh:T->R T
 | .lst xs=>if xs.length<=bnd then .ok (.tup xs.reverse) else .bad
 | _=> .bad
section
variable {X:Cx}{Y:Fx}{a b tg:Expr}{fa fb:En->R T}{pos p p' pos' :Pos}
theorem KK {ta:TA}(hg:Gl X "reversed")(hm:X.mg "reversed"=none)(ha:PA X [a] ta)(hs:St1 X a:=by exact st1 rfl):
  PI X tg (.Call (.Name "reversed" p) [a] [] pos) (λσ H R=>ta σ H λvs H1=>∃l xs,vs=[.ref l]/\((H1 l=some (.lst xs)/\R (z1h X.K l xs.length) H1)\/(H1 l=some (.tup xs)/\R (z1g X.K l xs.length) H1))):=by
 intro pins s σ H R I h;refine Call_ (j7 I hg hm boot_reversed (aU (thn (ha pos _ s σ H _ I h) λus s1 ⟨vs,H1,I1,r1,q1⟩=> ?_) hs rfl));obtain⟨l,xs,e,q⟩:=q1;subst e;obtain⟨u,rfl,ru⟩:=ZR r1;obtain rfl:u=Value.ref l:=ru;have ok:∀b∈[s1.heap.objs.size],Wd X _ H1 b:=λb hb=>by
  have e:=by simpa using hb
  subst e;exact I1.fpOk (aj _) (I1.hok.fresh (aj _))
 rcases q with ⟨hl,q⟩ | ⟨hl,q⟩
 ·obtain⟨its,rv,p,hz⟩:=I1.list (SqL.of hl);have e:((its.toArray.size):Int) - 1=(xs.length) - 1 - ((0):Int):=by have:=rv.length;simp;omega
  refine call_reversed_list p.isList ?_;rw[e];have st:(s1.heap.push (revObj l ((xs.length) - 1 - ((0):Int)))).IsRevIter _ l _:=⟨_,ah _ rfl,rfl,rfl⟩;refine wpAny_pyIter_revIter st ?_;exact⟨s1.heap.objs.size,[s1.heap.objs.size],_,_,H1,rfl,I1.kept (λb o e=>aa _ e),vg l _ _,⟨bx _,st⟩,ok,q⟩
 ·obtain⟨its,rv,p,hz⟩:=I1.tuple (SqT.of hl);have hlen:=rv.length;have e:((its.toArray.size):Int) - 1=(xs.length) - 1 - ((0):Int):=by simp;omega
  refine RV.call_rvT p (by rw[bT]at hz;omega) λtk=> ?_
  rw[e];refine RV.iter_rv (ah _ rfl) ?_;exact⟨s1.heap.objs.size,[s1.heap.objs.size],_,_,H1,rfl,I1.kept (λb o e=>aa _ e),vf l _ _,⟨bx _,ah _ rfl⟩,ok,q⟩
theorem z1j (hg:Gl X "reversed")(hm:X.mg "reversed"=none)(ha:Snd X Y a fa)(hs:St1 X a:=by exact st1 rfl):ud X Y tg (.Call (.Name "reversed" p) [a] [] pos) (z1i fa):= .mk λρ=>
 PI.imp (KK hg hm (zA (ha ρ) zU hs) hs) λσ H R ⟨B,I,q⟩=>step I q λt v H1 _ s1 r1 I1 q1=>by
  cases r1 with
  | @tup l xs ts h r=>exact⟨l,xs,rfl,.inr ⟨I1.sB _ _ h,ZB I1 (show Po Y rI _ H1 _ R from q1) (KI h r)⟩⟩
  | @lst l xs ts h r=>exact⟨l,xs,rfl,.inl ⟨I1.sB _ _ h,ZB I1 (show Po Y rI _ H1 _ R from q1) (KJ h r)⟩⟩
  | _=>exact q1.elim
theorem uU:∀{xs ys:List V} {us ws:List Value},zS xs us->zS ys ws->zS (xs++ys) (us++ws)
 | _,_,_,_,.nil,q=>q
 | _,_,_,_,.cons r t,q=> .cons r (uU t q)
theorem uV:∀{xs:List V} {us:List Value},zS xs us->zS xs.reverse us.reverse
 | _,_,.nil=> .nil
 | _,_,.cons r t=>by rw[aR,aR];exact uU (uV t) (.cons r .nil)
theorem xW {its:List Value}{acc:Array Value}(h:ItemsOf (λi v=>its.toArray[its.toArray.size - 1 - i]? =some v) acc its.toArray.size):acc.toList=its.reverse:=by
 have h1:=by
  have:=h.1;simpa using this
 have h2:=h.2;refine dU λi=> ?_
 by_cases hi:i < its.length
 ·have hlt:i < acc.toList.length:=by simp;omega
  have e:=ag hlt;have:=h2 i _ (by rw[← fj];exact e)
  rw[fk hi,e,← this];simp
 ·rw[aZ (by simp;omega),aZ (by simp;omega)]
theorem KL (hh:X.A.handled=none)(gl:Gl X "tuple")(mg:X.mg "tuple"=none)(gl' :Gl X "reversed")(mg' :X.mg "reversed"=none)(ha:Snd X Y a fa)(hs:St1 X a:=by exact st1 rfl)(hs' :St1 X (.Call (.Name "reversed" p') [a] [] pos'):=by exact st1 rfl):
  Snd X Y (.Call (.Name "tuple" p) [.Call (.Name "reversed" p') [a] [] pos'] [] pos) (ap1 vh fa):= .mk λρ=>by
 intro pins s σ H Q I ⟨B,J,q⟩;have hq:tS Y rC fa ρ σ H (λv H1=>∃l xs,v= .ref l/\H1 l=some (.lst xs)/\xs.length<=sizeLine/\∀t,H1 t=none->Q (.ref t) (upd H1 t (.tup xs.reverse))):=by
  refine step J q λt v H1 _ s1 r1 I1 q1=> ?_;cases r1 with
  | @lst l xs ts h r=>
   have q1:Po Y rC _ H1 (if ts.length<=bnd then .ok (.tup ts.reverse) else .bad) Q:=q1
   split at q1
   ·rename_i hb;exact⟨l,xs,rfl,I1.sB _ _ h,by rw[r.length];exact Zs hb,λt ht=>kT I1.sB q1 rfl r.rev ht⟩
   ·exact q1.elim
  | _=>exact q1.elim
 refine bz (j7 I gl mg PyProof.Rows.Boot.«tuple» (aU (rest:=[]) ?_ hs' rfl));rw[hs'];refine dG (bz (j7 I gl' mg' boot_reversed (aU (e:=a) (rest:=[]) ?_ hs rfl)));refine thn ((zA (ha ρ) zU hs) pos' pins s σ H (λvs H1=>∃l xs,vs=[.ref l]/\H1 l=some (.lst xs)/\xs.length<=sizeLine/\∀t,H1 t=none->Q (.ref t) (upd H1 t (.tup xs.reverse))) I ?_) λus s1 ⟨vs,H1,I1,r1,l,xs,e,hl,hz,q1⟩=> ?_
 ·obtain⟨B',J',q'⟩:=hq;refine⟨B',J', ?_⟩;revert q';cases fa ρ with
  | bad=>exact λq' =>q'
  | ex c=>exact λq' =>q'
  | ok t=>
   intro q' v H1 s1 r1;obtain⟨l,xs,rfl,h⟩:=q' v H1 s1 r1;exact⟨l,xs,rfl,h⟩
 subst e;obtain⟨u,rfl,ru⟩:=ZR r1;obtain rfl:u=Value.ref l:=ru;obtain⟨its,rv,pl,_⟩:=I1.list (SqL.of hl);have hlt:=I1.hok.lt hl;refine call_reversed_list pl.isList (fY ?_);have e0:((its.toArray.size):Int) - 1 - ((0:Nat))=((its.toArray.size):Int) - 1:=by omega
 refine RV.tuple_lr (Walks.listRev (A:=X.A.in1.in1.in1) hh _ l (aE hlt) _).toS (λi s st=>st.2.1.typeIs) ⟨bx _,⟨_,ah _ rfl,rfl,by rw[e0];rfl⟩,pl.isList.push _⟩ (λb hb=> ?_) (by simp) (λs' acc hm hacc=> ?_) (by rw[ay,← rv.length];exact hz)
 ·have hb:=by simpa using hb
  rcases hb with rfl | rfl
  ·rw[bM];exact cM _
  ·rw[bM];exact cI hlt
 obtain⟨h',g',d',tk',os'⟩:=s';have e1:g' =s1.gens:=hm.gens;have e2:d' =s1.drawn:=hm.drawn;have e3:=hm.os;subst e1 e2 e3;have kp:∀b o,s1.heap.get? b=some o->h'.get? b=some o:=λb o e=>hm.heap b o (λz=>by
  have z:b=s1.heap.objs.size:=by simpa using z
  have:=ar e;rw[z]at this;exact bH _ this) (aa _ e)
 have I2:=I1.kept (t' :=tk') kp;have ea:acc=its.reverse.toArray:=by rw[← xW hacc]
 rw[ea];refine⟨.ref h'.objs.size,upd H1 _ (.tup xs.reverse),I2.laid (λb u e=>aa _ e) (aj _) ⟨by rw[aG];exact hz,its.reverse,uV rv,⟨_,ah _ rfl,rfl,_,rfl⟩,.inr ⟨_,ah _ rfl,rfl⟩⟩,rfl,q1 _ (I2.hok.fresh (aj _))⟩
end
noncomputable def JX:List T->Option Bool
 | []=>some false
 | .bl k :: r=>match JX r with | some j=>some (k || j) | none=>none
 | _ :: _=>none
def z1k:T->R T
 | .lst ts=>match JX ts with | some k=> .ok (.bl k) | none=> .bad
 | _=> .bad
theorem Yv:∀{H:Hp} {xs:List V} {ts:List T} {its:List Value} {k:Bool},zE H xs ts->zS xs its->JX ts=some k->∃tr:Nat->Bool,(∀i v,its[i]? =some v->v=Value.bool (tr i))/\(a_ its.length).any tr=k
 | _,_,_,_,k,.nil,.nil,h=>by
  have h' :=h;cases h';exact⟨λ_=>true,λi v e=>by simp at e,rfl⟩
 | H,_,_,_,k,.cons r rs,.cons (b:=u) rv vs,h=>by
  cases r with
  | bl b=>
   unfold JX at h;split at h
   ·rename_i j e;cases h;obtain⟨tr,h1,h2⟩:=Yv rs vs e;obtain rfl:u=Value.bool b:=rv;refine⟨λi=>match i with | 0=>b | i+1=>tr i,λi v e=> ?_, ?_⟩
    ·cases i with
     | zero=>simp at e;exact e.symm
     | succ i=>exact h1 i v (by simpa using e)
    ·rw[af,cq,fJ,List.any_map,← h2];rfl
   ·cases h
  | _=>cases h
section
variable {X:Cx}{Y:Fx}{a b:Expr}{fa fb:En->R T}{pos p p' pos' pt:Pos}{elts:List Expr}{kk:Nat}
theorem Yw (hh:X.A.handled=none):Zp X (.builtin "any") (λvs H Q=>∃l xs ts k,vs=[.ref l]/\H l=some (.lst xs)/\zE H xs ts/\JX ts=some k/\Q (.bl k) H):=by
 intro pins s σ H vs us Q I rv h;obtain⟨l,xs,ts,k,rfl,hl,r,hk,q⟩:=h;obtain⟨u,rfl,ru⟩:=ZR rv;obtain rfl:u=Value.ref l:=ru;obtain⟨its,rv,p,_⟩:=zT I (.inl hl) r;obtain⟨tr,h1,h2⟩:=Yv r rv hk;refine call_any_walk (wpAny_pyIter_list p ?_);have hlt:=I.hok.lt hl;have old:∀b o,s.heap.get? b=some o->(s.heap.push { cls:= .type "list_iterator",data:= .fields #[.ref l,.int 0 0] }).get? b=some o:=λb o e=>aa _ e;refine⟨s.heap.objs.size,_,_,_,_,_,tr,rfl,iD (A:=X.A.in1) hh _ l (aE hlt) its.toArray, ?_, ?_,λh' tk hk' => ?_⟩
 ·refine⟨?_,p.at λo e=>old _ o e⟩;exact⟨_,ah _ rfl,rfl,rfl⟩
 ·intro i v s' Q' E' hi hq;rw[h1 i v (by simpa using hi)]
  exact ba hq
 ·rw[ay,h2];refine⟨.bl k,H,I.kept (λb o e=>hk' b o ?_ (old b o e)),rfl,q⟩;simp;exact aE (ar e)
theorem z1l (hh:X.A.handled=none)(gl:Gl X "any")(mg:X.mg "any"=none)(ha:j6 X Y a fa)(hs:St1 X a:=by exact st1 rfl):Snd X Y (.Call (.Name "any" p) [a] [] pos) (ap1 z1k fa):=
 Wq (Yw hh) (λv t B H Q r sB q=>by
  cases r with
  | @lst l xs ts h r=>
   have q:Po Y rC B H (match JX ts with | some k=> .ok _ | none=> .bad) Q:=q
   split at q
   ·rename_i k e;exact⟨l,xs,ts,k,rfl,h,r,e,po0 sB q rfl (.bl k)⟩
   ·exact q.elim
  | _=>exact q.elim) gl mg PyProof.Rows.Boot.«any» ha hs
end
noncomputable def uW (x:Int):List Int->List Int
 | []=>[x]
 | y :: ys=>if x<=y then x :: y :: ys else y :: uW x ys
def Yx:List Int->List Int
 | []=>[]
 | x :: xs=>uW x (Yx xs)
def vi:T->R T
 | .lst ts=>match ZI ts with | some l=>if ts.length < 64 then .ok (.lst ((Yx l).map T.int)) else .bad | none=> .bad
 | _=> .bad
theorem JD (x:Int):∀ys:List Int,(uW x ys).Perm (x :: ys)
 | []=> .refl _
 | y :: ys=>by
  unfold uW;split
  ·exact .refl _
  ·exact((JD x ys).cons y).trans (.swap x y ys)
theorem WB:∀xs:List Int,(Yx xs).Perm xs
 | []=> .refl _
 | x :: xs=>(JD x _).trans ((WB xs).cons x)
theorem JE (x:Int):∀ys:List Int,ys.Pairwise (·<=·)->(uW x ys).Pairwise (·<=·)
 | [],_=>by unfold uW;simp
 | y :: ys,h=>by
  unfold uW;rw[cz]at h;split
  ·rename_i hx;refine cz.mpr ⟨λz hz=> ?_,cz.mpr h⟩;rcases am.mp hz with rfl | hz
   ·exact hx
   ·exact Int.le_trans hx (h.1 z hz)
  ·refine cz.mpr ⟨λz hz=> ?_,JE x ys h.2⟩;rcases am.mp ((JD x ys).mem_iff.mp hz) with rfl | hz
   ·omega
   ·exact h.1 z hz
theorem JF:∀xs:List Int,(Yx xs).Pairwise (·<=·)
 | []=> .nil
 | x :: xs=>JE x _ (JF xs)
theorem WC:∀(xs ys:List Int),xs.Perm ys->xs.Pairwise (·<=·)->ys.Pairwise (·<=·)->xs=ys
 | [],ys,p,_,_=>(List.nil_perm.mp p).symm
 | x :: xs,[],p,_,_=>by cases List.perm_nil.mp p
 | x :: xs,y :: ys,p,h1,h2=>by
  rw[cz]at h1 h2;have e:x=y:=by
   have a1:x<=y:=by
    rcases am.mp (p.mem_iff.mpr (ak)) with z | z
    ·omega
    ·exact h1.1 y z
   have a2:y<=x:=by
    rcases am.mp (p.mem_iff.mp (ak)) with z | z
    ·omega
    ·exact h2.1 x z
   omega
  subst e;rw[WC xs ys (List.Perm.cons_inv p) h1.2 h2.2]
theorem jB:∀{its:List Value} {ns:List Int},IntsAre its ns->zS (ns.map V.int) its:=by
 intro its ns h
 induction h with
 | nil=>exact .nil
 | cons n t _ ih=>exact .cons ⟨_,rfl⟩ ih
theorem uX:∀(ps:List (Int×Tok)),IntsAre (ps.map λp=>Value.int p.1 p.2) (ps.map (·.1))
 | []=> .nil
 | p :: ps=> .cons _ _ (uX ps)
theorem WD:∀ns:List Int,zE H (ns.map V.int) (ns.map T.int)
 | []=> .nil
 | n :: ns=> .cons (.int n) (WD ns)
section
theorem UV:Zp X (.builtin "sorted") (λvs H Q=>∃l xs ts is,vs=[.ref l]/\H l=some (.lst xs)/\zE H xs ts/\ZI ts=some is/\ts.length < 64/\∀r,H r=none->Q (.ref r) (upd H r (.lst ((Yx is).map V.int)))):=by
 intro pins s σ H vs us Q I rv h;obtain⟨l,xs,ts,is,rfl,hl,r,hk,h64,q⟩:=h;obtain⟨u,rfl,ru⟩:=ZR rv;obtain rfl:u=Value.ref l:=ru;obtain⟨its,rv,p,hlen,_⟩:=zT I (.inl hl) r;obtain⟨ps,h1,h2⟩:=ui r rv hk;refine sorted_ints p (h1 ▸ uX ps) (by omega) λout ns' a1 a2 a3=> ?_
 have e:=WC _ _ (a2.trans (by rw[h2];exact(WB is).symm)) a3 (JF is)
 obtain⟨n,he⟩:=sortedAll_at _ its out;have hle:s.heap.objs.size<=s.heap.objs.size+1:=dv _;refine⟨.ref _,upd H _ _,I.laid (λb u e=>sortedAll_old e) hle ?_,rfl,by have:=q _ (I.hok.fresh hle);rw[← e]at this;exact this⟩
 have hl2:ns'.length=ts.length:=by
  have h3:=a2.length_eq;rw[a9]at h3;have h4:its.length=ps.length:=by rw[h1,a9]
  omega
 exact⟨by rw[a9,bT];omega,out.toList,n,jB a1,he⟩
theorem KM (gl:Gl X "sorted")(mg:X.mg "sorted"=none)(ha:j6 X Y a fa)(hs:St1 X a:=by exact st1 rfl):Snd X Y (.Call (.Name "sorted" p) [a] [] pos) (ap1 vi fa):=
 Wq UV (λv t B H Q r sB q=>by
  cases r with
  | @lst l xs ts h r=>
   have q:Po Y rC B H (match ZI ts with | some l=>if ts.length < 64 then .ok _ else .bad | none=> .bad) Q:=q
   split at q
   ·rename_i is e;split at q
    ·rename_i h64;refine⟨l,xs,ts,is,rfl,h,r,e,h64,λz hz=> ?_⟩;exact q _ _ (zv.new hz _) (.lst (jb hz _) (WD _))
    ·exact q.elim
   ·exact q.elim
  | _=>exact q.elim) gl mg PyProof.Rows.Boot.«sorted» ha hs
end
end PV
namespace PySem.RV
open PySem PySem.Spec PyProof.Rows PySem.Builtin.SmallTypes
theorem draws_tup (hh:A.handled=none)(it l:Addr)(hne:l ≠ it)(items:Array Value):Draws prog w A it [it,l] items.size (λi v=>items[i]? =some v) (λi h=>h.IsTupleIter it l i/\h.IsTuple l items) where
 live:=λi h st=>(ZG.nx_tup hne items).there st it (.head _)
 frame:=λi h h' st hk=>(ZG.nx_tup hne items).keep st hk
 item:=λi s Q E hi st hQ=>ZG.tup_item st.1 st.2 (x:=items[i]) (by simp[hi]) λh' a b=>hQ _ h' s.toks (by simp[hi]) ⟨a,st.2.extBut b.extBut hne⟩ b
 done:=λs Q E st hE=>ZG.tup_stop hh st.1 st.2 (by simp) hE
noncomputable abbrev eOb (i:Addr):Obj:={ cls:= .type "enumerate",data:= .fields #[.none,.bool false,.ref i,rawInt 0,.none,.none] }
theorem Yy (l:Addr)(items:Array Value)(n:Nat)(dct:Option Addr)(sl:Array (Option Value)):
  Meets (Builtin.«enumerate.__new__» ⟨[.type "enumerate",.ref l],[]⟩) (λ_ R s=>s.heap.get? l=some { cls:= .type "tuple",dict:=dct,data:= .seq items n,slots:=sl }/\
   R (.ok (.ret (.ref (s.heap.push (ZG.oT l)).objs.size))) { s with heap:=(s.heap.push (ZG.oT l)).push (eOb s.heap.objs.size) }):=
 .of_wp λprog w A R s h=>by
  obtain⟨hp,g,d,tk,os⟩:=s;obtain⟨hl,h⟩:=h;have hsub:=sub_enumerate;have hL:Heap.IsTuple (im ⟨hp,g,d,tk,os⟩) l items:=⟨_,hl,rfl,n,rfl⟩
  wp_walk using cf hl
  refine wpAny_stack_any λst=>au ?_;split
  ·rename_i c _ _ _ _ _;cases (c == Value.type "enumerate") <;> (wp_walk using cf hl,wpAny_pyIter_tuple hL;exact⟨_,rfl,h⟩)
  ·wp_walk using cf hl,wpAny_pyIter_tuple hL
   exact⟨_,rfl,h⟩
theorem enum_callT (hL:s.heap.IsTuple l items)
  (h:∀h',IsEnum h' (s.heap.objs.size+1) s.heap.objs.size 0 .none->h'.IsTupleIter s.heap.objs.size l 0->(∀b o,s.heap.get? b=some o->h'.get? b=some o)->Q (.ref (s.heap.objs.size+1)) { s with heap:=h' }):
  wpAny (model prog w) A (call (.type "enumerate") [.ref l]) Q E s:=by
 obtain⟨⟨c,dct,dt,sl⟩,hl,hc,n,hd⟩:=hL;obtain rfl:c= .type _:=hc;obtain rfl:dt= .seq _ n:=hd;refine callType_new F.called_enumerate (by decide) (F.typeCall_enumerate_1 _) (F.newCall_enumerate_1 _) (λobj=>fB obj _) F.entry_enumerate_new (Yy l _ n dct sl) ⟨hl, ?_⟩
 have hz:(s.heap.push (ZG.oT l)).objs.size=s.heap.objs.size+1:=bM ..;have e1:((s.heap.push (ZG.oT l)).push (eOb s.heap.objs.size)).get? _=some _:=ah _ rfl;rw[hz]at e1;rw[hz];exact⟨⟨_,e1,rfl⟩,h _ e1 ⟨_,aa _ (ah _ rfl),rfl,rfl⟩ λb o x=>aa _ (aa _ x)⟩
end PySem.RV
namespace PV
open PySem PySem.Spec PyProof.Rows L2
def z1m (K:a8)(l:Addr)(n:Nat):It:=
 ⟨λi H=>∃xs x,SqT K H l xs/\xs.length=n/\xs[i]? =some x,λi H v H' =>∃p x,H p=none/\v= .ref p/\(∀xs,SqT K H l xs->xs[i]? =some x)/\H' =upd H p (.tup [.int i,x]),λi H=>∃xs,SqT K H l xs/\xs.length=n/\n<=i⟩
theorem UW {P:Program}{w:World}{K:a8}{elts:List Expr}{kk:Nat}{pt:Pos}(e it l:Addr)(n:Nat)(hei:e ≠ it)(hle:l ≠ e)(hli:l ≠ it):
  yi P w K (.Tuple elts kk pt) (z1m K l n) [e,it] e (λi h=>i<=n/\(∃old,IsEnum h e it i old)/\h.IsTupleIter it l i) where
 mem:=by simp
 obj:=λi h st b hb=>by
  obtain⟨_,⟨old,he⟩,o,e1,c,d⟩:=st;rcases am.mp hb with rfl | hb
  ·exact⟨_,he,λv z=>nomatch z⟩
  ·have z:b=it:=by simpa using hb
   subst z;exact⟨o,e1,λv z=>by rw[d]at z;cases z⟩
 keep:=λi h h' st k=>by
  obtain⟨hn,⟨old,he⟩,o,e1,r⟩:=st;exact⟨hn,⟨old,k e (by simp) _ he⟩,o,k it (by simp) o e1,r⟩
 item:=by
  intro X hP hw hK hc i pins s σ H E I hf st hg;subst hP hw hK;obtain⟨xs,x,hq,hxn,hx⟩:=hg;obtain⟨its,rv,p,hz⟩:=I.tuple hq;obtain⟨u,hu,ru⟩:=rv.get hx;obtain⟨hin,⟨old,he⟩,hit⟩:=st;have hi:i < its.toArray.size:=by
   have:=(aw.mp hu).1;simpa using this
  have D:=RV.draws_tup (prog:=X.prog) (w:=X.w) (A:=X.A.in1) (I.ok.hd hc) it l hli its.toArray;have hef:e ∉ [it,l]:=λz=>by
   rcases am.mp z with z | z
   ·exact hei z
   ·exact hle (aN.mp z).symm
  have WE:=WalksT.enumerateD D e hei hef (.head _);refine WE.item i s _ _ hi ⟨⟨old,he⟩,hit,p⟩ λT vals h' tk hP hT hTup hM hk=> ?_;obtain⟨t,y,hy,rfl⟩:=hP;have hyu:y=u:=by
   have:its[i]? =some y:=by simpa using hy
   rw[hu]at this;exact(aB this).symm
  subst hyu;refine⟨.ref T,rfl, ?_⟩;refine WE.go elts kk pt i T _ _ _ hM λh2 hst2 hk2=> ?_;have hTn:H T=none:=I.hok.fresh hT;have hTne:∀b∈[e,it],b ≠ T:=λb hb z=>by
   obtain⟨_,_,h3,h4⟩:=hM;rcases am.mp hb with rfl | hb
   ·exact h3 z.symm
   ·have:b=it:=by simpa using hb
    subst this;exact h4 z.symm
  have YY:IsTup h2 T #[.int i t,y]:=by
   obtain⟨o,eo,r⟩:=hTup;exact⟨o,hk2 T o (λhb=>hTne T hb rfl) eo,r⟩
  refine⟨.ref T,upd H T (.tup [.int i,x]),Inv.laidT (s:=s) (h' :=h2) (ch:=[e,it]) (tk:=tk) I hf (λb o hb e=>hk2 b o hb (hk b o hb e)) (λb o hb _=> ?_) hT ⟨by rw[bT];show 2<=16777216;decide,[.int i t,y],.cons ⟨t,rfl⟩ (.cons ru .nil),YY,.inl ⟨_,_,rfl⟩⟩,rfl,⟨T,x,hTn,rfl,λys hy=>by rw[I.tuple_inj hy hq];exact hx,rfl⟩,⟨by have:=(aw.mp hx).1;omega,hst2.1,hst2.2.1⟩,λb hb=> ?_⟩
  ·obtain⟨⟨old2,he2⟩,⟨o2,eo2,_⟩,_⟩:=hst2;rcases am.mp hb with rfl | hb
   ·exact⟨_,he2⟩
   ·have:b=it:=by simpa using hb
    subst this;exact⟨o2,eo2⟩
  ·rw[zu (hTne b hb)];exact(hf b hb).1
 done:=by
  intro X hP hw hK hc i pins s σ H E I hf st hg;subst hP hw hK;obtain⟨xs,hq,hxn,hx⟩:=hg;obtain⟨its,rv,p,hz⟩:=I.tuple hq;obtain⟨hin,⟨old,he⟩,hit⟩:=st;have hl:=rv.length;have D:=RV.draws_tup (prog:=X.prog) (w:=X.w) (A:=X.A.in1) (I.ok.hd hc) it l hli its.toArray;have hn:its.toArray.size=i:=by simp;omega
  refine wpAny_pyNext_enum_endD D he (by rw[hn];exact⟨hit,p⟩) λh' hk=>⟨rfl, ?_⟩
  obtain⟨f0,f1,f2,f3,f4,f5⟩:=hf it (by simp)
  exact I.turned (t' :=s.toks) (λb o hb e=>hk b o hb e) f0 f1 f3 f4 f5
 self:=λ_ _ _ _ _ st h=>let ⟨_,⟨_,he⟩,_⟩:=st;wpAny_pyIter_enum he h
theorem vj {K:a8}{B1 H1:Hp}{a:Addr}{xs:List V}{ts:List T}(h:B1 a=some (.tup xs))(r:zE B1 xs ts):rI B1 H1 (z1m K a xs.length) (jG ts):=λB2 H2 s1 s2=>by
 have h2:=s2 _ _ (s1 _ _ h);rw[J9];refine⟨λi hi=> ?_,λi t x H3 e y=> ?_,λi hi=>⟨xs,SqT.of h2,rfl,by rw[r.length];exact hi⟩⟩
 ·obtain⟨v,e,_⟩:=r.get (ag hi);exact⟨xs,v,SqT.of h2,rfl,e⟩
 ·obtain⟨p,v,hp,rfl,y,rfl⟩:=y;obtain⟨t',et,rfl⟩:=Ww e;obtain⟨v',e1,r1⟩:=r.get et;have:=y xs (SqT.of h2);rw[e1]at this;cases this;refine⟨zv.new hp _,.tup (jb hp _) (.cons (.int _) (.cons ?_ .nil))⟩;exact(r1.mono s1).mono (zO.ge s2 (zv.new hp _))
def uY (fa:En->R T):En->R (List T):=λρ=>(fa ρ).bind λt=>match t with
 | .tup xs=> .ok (jG xs)
 | _=> .bad
section
theorem vk {ta:TA}(hg:Gl X "enumerate")(hm:X.mg "enumerate"=none)(ha:PA X [a] ta)(hs:St1 X a:=by exact st1 rfl):
  PI X (.Tuple elts kk pt) (.Call (.Name "enumerate" p) [a] [] pos) (λσ H R=>ta σ H λvs H1=>∃l xs,vs=[.ref l]/\H1 l=some (.tup xs)/\R (z1m X.K l xs.length) H1):=by
 intro pins s σ H R I h;refine Call_ (j7 I hg hm PyProof.Rows.Boot.«enumerate» (aU (thn (ha pos _ s σ H _ I h) λus s1 ⟨vs,H1,I1,r1,q1⟩=> ?_) hs rfl));obtain⟨l,xs,e,hl,q⟩:=q1;subst e;obtain⟨u,rfl,ru⟩:=ZR r1;obtain rfl:u=Value.ref l:=ru;obtain⟨its,rv,pl,hz⟩:=I1.tuple (SqT.of hl);have hlt:=I1.hok.lt hl;refine RV.enum_callT (show s1.heap.IsTuple l _ from pl) λh' he hit hk=>wpAny_pyIter_enum he ?_;have f:∀b∈[s1.heap.objs.size+1,s1.heap.objs.size],Wd X _ H1 b:=λb hb=>by
  rcases am.mp hb with rfl | hb
  ·exact I1.fpOk (dv _) (I1.hok.fresh (dv _))
  ·have z:=by simpa using hb
   subst z;exact I1.fpOk (aj _) (I1.hok.fresh (aj _))
 exact⟨s1.heap.objs.size+1,[s1.heap.objs.size+1,s1.heap.objs.size],_,_,H1,rfl,I1.kept hk,UW _ _ l _ (ia _) (aE (cI hlt)) (aE hlt),⟨bx _,⟨_,he⟩,hit⟩,f,q⟩
theorem xX (hg:Gl X "enumerate")(hm:X.mg "enumerate"=none)(ha:Snd X Y a fa)(hs:St1 X a:=by exact st1 rfl):ud X Y (.Tuple elts kk pt) (.Call (.Name "enumerate" p) [a] [] pos) (uY fa):= .mk λρ=>
 PI.imp (vk hg hm (zA (ha ρ) zU hs) hs) λσ H R ⟨B,I,q⟩=>step I q λt v H1 _ s1 r1 I1 q1=>by
  cases r1 with
  | @tup l xs ts h r=>exact⟨l,xs,rfl,I1.sB _ _ h,ZB I1 (show Po Y rI _ H1 _ R from q1) (vj h r)⟩
  | _=>exact q1.elim
end
end PV
namespace PySem.RW37
open PySem PySem.Spec PyProof.Rows L2
section
end
end PySem.RW37
namespace PV
open PySem PySem.Spec PyProof.Rows L2 PySem.RW37
section
end
end PV
namespace PV
open PySem PySem.Spec PyProof.Rows L2
noncomputable def vm (t t' :T):R T:=match t,t' with
 | .int i,.int j=> .ok (.int (if j > i then j else i))
 | _,_=> .bad
section
theorem KN (hc:X.calm=true)(gl:Gl X "max")(mg:X.mg "max"=none)(ha:Snd X Y a fa)(hb:Snd X Y b fb)
  (hs:starEach [a,b] X.env=[(false,eval a X.env),(false,eval b X.env)]:=by exact st2 rfl rfl) (hs2:starEach [b] X.env=[(false,eval b X.env)]:=by exact st1 rfl):
  Snd X Y (.Call (.Name "max" p) [a,b] [] pos) (zb vm fa fb):= .mk λρ=>
 PE.imp (ZW (yD hc) gl mg PyProof.Rows.Boot.«max» (zA (ha ρ) (zA (hb ρ) zU hs2) (by rw[hs,hs2])) (by decide) (by decide) (by rw[hs,hs2]) (by rw[hs2];rfl)) λσ H Q ⟨B,I,q⟩=>
  step I q λt v H1 _ s1 r1 I1 q1=>step I1 q1 λt' v' H2 _ s2 r2 I2 q2=>by
   cases r1 with
   | int i=>
    cases r2 with
    | int j=>exact⟨i,j,rfl,po0 I2.sB q2 rfl (.int _)⟩
    | _=>exact q2.elim
   | _=>cases r2 <;> exact q2.elim
end
section
end
section
end
section
end
section
end
section
end
section
end
section
end
section
end
section
end
section
end
section
end
end PV
namespace PySem.RV
open PySem PySem.Spec PyProof.Rows PySem.Builtin.SmallTypes
section
end
end PySem.RV
namespace PV
open PySem PySem.Spec PyProof.Rows L2
section
end
section
section
end
end
section
end
section
end
end PV
namespace PV
open PySem PySem.W PyProof.Rows
section
variable {α β:Type}
noncomputable def Gd (lt:Nat->Nat->Bool)(n:Nat):KasT α->(α->Prop)->Prop
 | .ret a,P=>P a
 | .ask i j k,P=>(i < n/\j < n/\i ≠ j)/\Gd lt n (k (lt i j)) P
theorem Gd.mono {lt:Nat->Nat->Bool}{P P' :α->Prop}(h:∀a,P a->P' a):∀(t:KasT α),Gd lt n t P->Gd lt n t P'
 | .ret a,g=>h a g
 | .ask i j k,⟨h1,g⟩=>⟨h1,Gd.mono h _ g⟩
theorem Gd.bind {lt:Nat->Nat->Bool}{P:β->Prop}{f:α->KasT β}:∀(t:KasT α),Gd lt n t (λa=>Gd lt n (f a) P)->Gd lt n (t.bind f) P
 | .ret a,g=>g
 | .ask i j k,⟨h1,g⟩=>⟨h1,Gd.bind _ g⟩
end
section
variable {O:KeyOrd}{key:Nat->O.α}
noncomputable abbrev kp (key:Nat->O.α)(p:Array Nat)(i:Nat):O.α:=key (p.getD i 0)
structure Pm (n:Nat) (p:Array Nat):Prop where
 sz:p.size=n
 pm:p.toList.Perm (a_ n)
theorem Pm.lt {p:Array Nat}(h:Pm n p)(hi:i < n):p.getD i 0 < n:=by
 have hs:i < p.size:=by rw[h.sz];exact hi
 have e:p.getD i 0=p[i]:=by simp[iE,hs]
 rw[e];exact bo.mp (h.pm.mem_iff.mp (Array.getElem_mem_toList hs))
theorem Pm.inj {p:Array Nat}(h:Pm n p)(hi:i < n)(hj:j < n)(e:p.getD i 0=p.getD j 0):i=j:=by
 have hs:i < p.size:=by rw[h.sz];exact hi
 have hs' :j < p.size:=by rw[h.sz];exact hj
 have e1:p.getD i 0=p[i]:=by simp[iE,hs]
 have e2:p.getD j 0=p[j]:=by simp[iE,hs']
 rw[e1,e2]at e;have nd:=h.pm.nodup_iff.mpr List.nodup_range;have:=(hW (h₀:=by simpa using hs) (h₁:=by simpa using hs') nd).mp (by simpa using e)
 exact this
def So (key:Nat->O.α)(p:Array Nat)(m:Nat):Prop:=∀i j,i < j->j < m->O.klt (kp key p i) (kp key p j)
theorem wQ {p q:Array Nat}(h:p[i]? =q[j]?):p.getD i 0=q.getD j 0:=by
 have e:∀(a:Array Nat) (k:Nat),a.getD k 0=(a[k]?).getD 0:=λa k=>by simp
 rw[e,e,h]
variable (hk:∀i j,i < n->j < n->key i=key j->i=j)
include hk
theorem xY {p:Array Nat}(h:Pm n p)(hi:i < n)(hj:j < n)(hij:i ≠ j)(hf:O.blt (kp key p i) (kp key p j)=false):O.klt (kp key p j) (kp key p i):=by
 cases q:O.blt _ _ with
 | true=>exact q
 | false=>exact absurd (h.inj hi hj (hk _ _ (h.lt hi) (h.lt hj) (O.total _ _ hf q))) hij
omit hk in
theorem So.snoc {p:Array Nat}(h:So key p m)(h1:1<=m)(hl:O.klt (kp key p (m - 1)) (kp key p m)):So key p (m+1):=λi j hij hj=>by
 by_cases hjm:j=m
 ·subst hjm
  by_cases him:i=j - 1
  ·rw[him];exact hl
  ·exact c9 (h i _ (by omega) (by omega)) (dj hl)
 ·exact h i j hij (by omega)
theorem Yz {p:Array Nat}(hp:Pm n p):∀(f m:Nat),1<=m->m+f=n->So key p m->Gd (λi j=>O.blt (key i) (key j)) n (kas_asc p f m) λr=>m<=r/\r<=n/\So key p r/\(r < n->O.klt (kp key p r) (kp key p (r - 1)))
 | 0,m,_,hm,h=>⟨aj _,by omega,h,λz=>by omega⟩
 | f+1,m,h1,hm,h=>by
  refine⟨⟨hp.lt (by omega),hp.lt (by omega),λz=>absurd (hp.inj (by omega) (by omega) z) (by omega)⟩, ?_⟩
  show Gd _ n (if O.blt _ _=true then .ret m else kas_asc p f _) _
  cases q:O.blt _ _ with
  | true=>exact⟨aj _,by omega,h,λ_=>q⟩
  | false=>
   exact Gd.mono (λr ⟨a,b,c⟩=>⟨by omega,b,c⟩) _ (Yz hp f _ (by omega) (by omega) (h.snoc h1 (xY hk hp (by omega) (by omega) (by omega) q)))
def De (key:Nat->O.α)(p:Array Nat)(m:Nat):Prop:=∀i j,i < j->j < m->O.klt (kp key p j) (kp key p i)
theorem YA {p:Array Nat}(hp:Pm n p):∀(f m:Nat),2<=m->m+f=n->De key p m->Gd (λi j=>O.blt (key i) (key j)) n (kas_desc f p m 0) λr=>r.1=p/\r.2.2=0/\m<=r.2.1/\r.2.1<=n/\De key p r.2.1
 | 0,m,_,hm,h=>⟨rfl,rfl,aj _,by show m<=n;omega,h⟩
 | f+1,m,h1,hm,h=>by
  refine⟨⟨hp.lt (by omega),hp.lt (by omega),λz=>absurd (hp.inj (by omega) (by omega) z) (by omega)⟩, ?_⟩
  show Gd _ n (if O.blt _ _=true then (if 0 > 0 then kas_desc f _ _ 0 else kas_desc f p _ 0) else .ask _ _ λd=>if d=true then .ret _ else kas_desc f p _ _) _
  cases q:O.blt _ _ with
  | true=>
   refine Gd.mono (λr ⟨a,b,c,d⟩=>⟨a,b,by omega,d⟩) _ (YA hp f _ (by omega) (by omega) λi j hij hj=> ?_)
   by_cases hjm:j=m
   ·subst hjm
    by_cases him:i=j - 1
    ·rw[him];exact q
    ·exact c9 (show O.klt _ _ from q) (dj (h i _ (by omega) (by omega)))
   ·exact h i j hij (by omega)
  | false=>
   refine⟨⟨hp.lt (by omega),hp.lt (by omega),λz=>absurd (hp.inj (by omega) (by omega) z) (by omega)⟩, ?_⟩
   have q2:O.blt _ _=true:=xY hk hp (by omega) (by omega) (by omega) q
   show Gd _ n (if O.blt _ _=true then .ret _ else _) _
   rw[if_pos q2];exact⟨rfl,rfl,aj _,by show m<=n;omega,h⟩
omit hk in
theorem Vk {p:Array Nat}(hp:Pm n p)(i j:Nat):Pm n (kas_rev p i j):=⟨(mirror_size _ _ _ _).trans hp.sz,(dM.mp (mirror_perm p i j _)).trans hp.pm⟩
omit hk in
theorem YB {p:Array Nat}(hp:Pm n p)(hm:m<=n)(hk' :k < m):(kas_rev p 0 m).getD k 0=p.getD (m - 1 - k) 0:=by
 refine wQ ?_;unfold kas_rev;rw[getElem?_mirror_all (by rw[hp.sz];exact hm),if_pos ⟨bx _,hk'⟩]
 congr 1
 omega
theorem jH {p:Array Nat}(hp:Pm n p)(h2:2<=n):Gd (λi j=>O.blt (key i) (key j)) n (kas_count n p) λr=>1<=r.1/\r.1<=n/\Pm n r.2/\So key r.2 r.1:=by
 refine Gd.bind _ (Gd.mono (λm ⟨a,b,c,d⟩=> ?_) _ (Yz hk hp _ 1 (aj _) (by omega) λi j hij hj=>by omega))
 by_cases hmn:m=n
 ·rw[if_pos (by simpa using hmn)]
  exact⟨a,b,hp,c⟩
 ·rw[if_neg (by simpa using hmn)]
  by_cases hm1:m > 1
  ·rw[if_pos hm1];refine⟨⟨hp.lt (by omega),hp.lt (by omega),λz=>absurd (hp.inj (by omega) (by omega) z) (by omega)⟩, ?_⟩
   have q:O.blt _ (kp key p (m - 1))=true:=c 0 _ (by omega) (by omega)
   show Gd _ n (if O.blt _ _=true then .ret _ else _) _
   rw[if_pos q];exact⟨a,b,hp,c⟩
  ·have e:m=1:=by omega
   subst e;have d1:=d (by omega)
   refine Gd.bind _ (Gd.mono (λr ⟨r1,r2,r3,r4,r5⟩=> ?_) _ (YA hk hp _ _ (by omega) (by omega) λi j hij hj=>by
    have:i=0/\j=1:=by omega
    rw[this.1,this.2];exact d1))
   rw[r2,r1];refine Gd.bind _ (Gd.mono (λm' ⟨x1,x2,x3,_⟩=>⟨by omega,x2,Vk hp 0 _,x3⟩) _ (Yz hk (Vk hp 0 _) _ _ (by omega) (by omega) λi j hij hj=> ?_))
   unfold kp;rw[YB hp r4 (by omega),YB hp r4 hj]
   exact r5 _ _ (by omega) (by omega)
theorem wR {p:Array Nat}(hp:Pm n p)(hkn:k < n)(hs:So key p k):∀(f l r:Nat),r<=k->l<=r->r - l<=f->(∀i,i < l->O.klt (kp key p i) (kp key p k))->(∀i,r<=i->i < k->O.klt (kp key p k) (kp key p i))->
  Gd (λi j=>O.blt (key i) (key j)) n (kas_place p k f l r) λm=>m<=k/\(∀i,i < m->O.klt (kp key p i) (kp key p k))/\∀i,m<=i->i < k->O.klt (kp key p k) (kp key p i)
 | 0,l,r,h1,h2,h3,h4,h5=>⟨by omega,h4,λi hi hik=>h5 i (by omega) hik⟩
 | f+1,l,r,h1,h2,h3,h4,h5=>by
  unfold kas_place
  by_cases hlr:l ≥ r
  ·rw[if_pos hlr];exact⟨by omega,h4,λi hi hik=>h5 i (by omega) hik⟩
  ·rw[if_neg hlr];refine⟨⟨hp.lt hkn,hp.lt (by omega),λz=>absurd (hp.inj hkn (by omega) z) (by omega)⟩, ?_⟩
   show Gd _ n (if O.blt _ _=true then kas_place p k f l _ else kas_place p k f _ r) _
   cases q:O.blt _ _ with
   | true=>
    refine wR hp hkn hs f l _ (by omega) (by omega) (by omega) h4 λi hi hik=> ?_
    by_cases e:i=(l+r) / 2
    ·rw[e];exact q
    ·exact c9 (q) (dj (hs _ _ (by omega) hik))
   | false=>
    refine wR hp hkn hs f _ r h1 (by omega) (by omega) (λi hi=> ?_) h5
    have ql:=xY hk hp hkn (by omega) (by omega) q
    by_cases e:i=(l+r) / 2
    ·rw[e];exact ql
    ·exact c9 (hs _ _ (by omega) (by omega)) (dj ql)
omit hk in
theorem YC {p:Array Nat}(hp:Pm n p)(hkn:k < n)(hl:l<=k):(bubble p k (k - l)).getD i 0=if i=l then p.getD k 0 else if l < i/\i<=k then p.getD (i - 1) 0 else p.getD i 0:=by
 have h:=getElem?_bubble (by rw[hp.sz];exact hkn) (k - l) (by omega) i
 rw[show k - (k - l)=l by omega]at h
 repeat' split at h
 all_goals first | (rw[if_pos (by assumption)];exact wQ h) | (rw[if_neg (by assumption),if_pos (by assumption)];exact wQ h) | (rw[if_neg (by assumption),if_neg (by assumption)];exact wQ h)
theorem Vl:∀(f:Nat) (p:Array Nat) (k:Nat),Pm n p->k+f=n->So key p k->Gd (λi j=>O.blt (key i) (key j)) n (kas_bin f p k) λq=>Pm n q/\So key q n
 | 0,p,k,hp,hkf,h=>⟨hp,by rw[← hkf];exact h⟩
 | f+1,p,k,hp,hkf,h=>by
  unfold kas_bin;refine Gd.bind _ (Gd.mono (λl ⟨a,b,c⟩=> ?_) _ (wR hk hp (by omega) h k 0 k (aj _) (bx _) (by omega) (λi hi=>by omega) λi hi hik=>by omega))
  refine Vl f _ _ ⟨(bubble_size _ _ _).trans hp.sz,(dM.mp (bubble_perm p k _)).trans hp.pm⟩ (by omega) λi j hij hj=> ?_
  unfold kp;rw[YC hp (by omega) a,YC hp (by omega) a]
  by_cases hi:i=l
  ·rw[if_pos hi,if_neg (by omega),if_pos ⟨by omega,by omega⟩]
   exact c _ (by omega) (by omega)
  ·rw[if_neg hi]
   by_cases hj' :j=l
   ·rw[if_pos hj',if_neg (by omega)]
    exact b i (by omega)
   ·rw[if_neg hj']
    by_cases x:l < i/\i<=k
    ·rw[if_pos x,if_pos ⟨by omega,by omega⟩]
     exact h _ _ (by omega) (by omega)
    ·rw[if_neg x]
     by_cases y:l < j/\j<=k
     ·rw[if_pos y];exact h _ _ (by omega) (by omega)
     ·rw[if_neg y];exact h _ _ hij (by omega)
theorem YD (h2:2<=n):Gd (λi j=>O.blt (key i) (key j)) n (kas_sort n) λq=>Pm n q/\So key q n:=by
 refine Gd.bind _ (Gd.mono (λr ⟨a,b,c,d⟩=> ?_) _ (jH hk ⟨by simp,by simp⟩ h2))
 by_cases h:r.1 < n
 ·rw[if_pos h,show max r.1 1=r.1 by omega]
  exact Vl hk _ _ _ c (by omega) d
 ·rw[if_neg h];exact⟨c,by rw[show n=r.1 by omega];exact d⟩
end
end PV
namespace PV
open PySem PySem.Spec PyProof.Rows L2
section
end
section
end
section
open PySem.W PySem.Calls
variable {O:KeyOrd}{key:Nat->O.α}
end
section
open PySem.W PySem.Calls
end
end PV
namespace PV
open PySem PySem.Spec PyProof.Rows L2
section
end
section
open HT in
open HT in
end
section
end
end PV
namespace PV
open PySem PySem.Spec PyProof.Rows L2
end PV
namespace L2
open PySem PySem.Spec PyProof.Rows PySem.W
structure Lm (X:Cx) (c P:Addr) (q:Str):Prop where
 code:X.env.code= .ref c
 hd:codeHdIn X.K c P=true
 bt:X.base.BuiltinsAt X.mg P
 ql:X.env.qual++"<lambda>"=q
def JY (H:Hp)(q:Str)(c:Addr):Prop:=∃oc vs t,H c=some (.frz oc (.own c))/\oc.data= .fields vs/\vs[1]? =some (.str q t)
theorem JY.mono (s:zv H H')(h:JY H q c):JY H' q c:=let ⟨oc,vs,t,e,r⟩:=h;⟨oc,vs,t,s _ _ e,r⟩
theorem JY.rec (x:JY H q c)(ok:HOk P w H h):h.CodeRec (.ref c) q:=by
 obtain⟨oc,vs,t,e,d,v⟩:=x;exact⟨c,oc,vs,t,rfl,(ok c _ e).1,d,v⟩
theorem wj {p p' :Pos}{c cv:Value}:∀(l:List Value),TriplesOk l->codeAmong p (l++[rawInt p'.line,rawInt p'.col,c])=some cv->codeAmong p l=some cv\/cv=c
 | [],_,h=>by
  right
  simp only[bO,rawInt,codeAmong]at h;split at h
  ·exact(aB h).symm
  ·cases h
 | .int a t :: .int b u :: x :: r,ok,h=>by
  simp only[dr,codeAmong]at h ⊢;split at h
  ·rename_i z;rw[if_pos z];exact .inl h
  ·rename_i z;rw[if_neg z];exact wj r (by simpa only[TriplesOk] using ok) h
noncomputable abbrev Vm (q:Str)(params:Arguments)(body:Expr)(scope:Scope)(clos:List (Str×Addr))(pm ctv:Value)(c:Addr):Obj:=kla_obj "<lambda>" q params body scope clos pm c ctv
theorem KO (L:Lm X c P q)(hdef:defaultsOf params X.env=([],[]))(hcl:closureFor scope X.env=pure clos):
  PE X (.Lambda params body scope pos) (λσ H Q=>H P=some (.tbl #[] q)/\∀f c' pm ctv H',zv H H' ->H' f=some (.frz (Vm q params body scope clos pm ctv c') (.own f))->JY H' q c' ->Q (.ref f) H'):=by
 intro pins s σ H Q I ⟨hP,h⟩;obtain⟨more,eP,tr,al⟩:=I.hok P _ hP;have C:=codeHd_of_K I.kIn L.hd;have hg:=I.ok.mod.glob.keeps I.bk;have hB:s.heap.BuiltinsAt X.mg P:=by
  obtain⟨bm,o,b1,b2,b3,b4,b5,b6⟩:=L.bt;exact⟨bm,o,b1,b2,b3,b4,I.bk _ _ b5,b6⟩
 have hgP:mainGlobals ≠ P:=λz=>by
  obtain⟨o,es,ep,e,hd,_⟩:=hg;rw[z,eP]at e;cases e;cases hd
 have fobj:∀{H2:Hp} {f:Addr} {o:Obj} {h2:Heap},h2.get? f=some o->Za X.prog X.w H2 h2 f (.frz o (.own f)):=λe=>⟨e,_,e⟩;refine kla_eval hdef ?_;rw[L.ql];cases hf:codeAmong pos _ with
 | some cv=>
  obtain⟨c',oc,vs,t,rfl,e2,e3,e4⟩:=al pos cv hf;refine kla_makeFunctionHit hcl I.ok.glob hg L.code C eP tr hf hB λctv h' tk hk hsz=> ?_;have hfr:=I.hok.fresh hsz;have e5:(h'.push (Vm q params body scope clos ((X.mg "__name__").getD .none) ctv c')).get? _=some _:=ah _ rfl;refine⟨.ref _,_,I.laid (λb u e=>aa _ (hk b u e)) hsz (fobj e5),rfl, ?_⟩;exact h _ c' _ ctv _ (PV.zv.new hfr _) zx (JY.mono (PV.zv.new hfr _) ⟨oc,vs,t,e2,e3,e4⟩)
 | none=>
  refine kla_makeFunction hcl I.ok.glob hg L.code C eP tr hf hgP hB λc' ctv h' tk hx hge hlt hrec htb=> ?_;obtain⟨c₂,oc,vs,t,e2,hoc,hd,hv⟩:=hrec;cases e2;have hc0:=I.hok.fresh hge;have neP:∀b,H b=none->b ≠ P:=λb n z=>by rw[z,hP]at n;cases n
  have neC:∀b o,s.heap.get? b=some o->b ≠ c' :=λb o e=>aE (aH (ar e) hge);have sm:zv H (upd H c' (.frz oc (.own c'))):=PV.zv.new hc0 _;have hl:(#[]++more++ #[rawInt pos.line,rawInt pos.col,Value.ref c']).toList=(#[]++more).toList++[rawInt pos.line,rawInt pos.col,Value.ref c']:=by simp
  have hok:HOk _ X.w (upd H c' _) h' :=λb u e=>by
   by_cases hb:b=c'
   ·subst hb;rw[zx]at e;cases e;exact fobj hoc
   ·rw[zu hb]at e
    by_cases hbP:b=P
    ·subst hbP;rw[hP]at e;cases e;refine⟨more++ #[rawInt _,rawInt _,Value.ref c'],by rw[← dN];exact htb,by rw[← dN,hl];exact TriplesOk_snoc _ _ _ _ tr,λp cv z=> ?_⟩
     rw[← dN,hl]at z;rcases wj _ tr z with z | rfl
     ·obtain⟨c2,oc2,vs2,t2,a1,a2,a3⟩:=al p cv z;exact⟨c2,oc2,vs2,t2,a1,sm _ _ a2,a3⟩
     ·exact⟨c',oc,vs,t,rfl,zx,hd,hv⟩
    ·refine(I.hok b u e).stay (λa v ha q' =>hx a v (λz=> ?_) q') (λ_ q' =>sm _ _ q') (λ_ _ q' =>sm _ _ q') λ_ _ _ q' =>sm _ _ q';subst z;rcases ha with z | z
     ·exact hbP z.symm
     ·rw[hP]at z;cases z
  have I1:Inv X pins σ (upd H c' (.frz oc (.own c'))) { s with heap:=h',toks:=s.toks }:=by
   refine I.step (ch:=[]) (λ_ z=>nomatch z) (λb o _ _ _ e n=>hx b o (neP b n) e) (λb o _ _ _ e n=>⟨o.slots,hx b o (neP b n) e⟩) (λb o _ e n=>by rw[zu (neC b o e)];exact n) (λb o _ e=> ?_) (λ_ _ e=>sm _ _ e) (λ_ _ _ e=>sm _ _ e) (λ_ _ _ e=>sm _ _ e) (λm hm=>hm.extBut hx (neP _ I.free)) hok I.bare
   by_cases hb:b=P
   ·exact⟨_,hb ▸ htb⟩
   ·exact⟨o,hx b o hb e⟩
  have hfr:upd H c' (.frz oc (.own c')) h'.objs.size=none:=by rw[zu (da hlt)];exact I1.hok.fresh (aj _) |> λz=>by rw[zu (da hlt)]at z;exact z
  have e5:(h'.push (Vm q params body scope clos ((X.mg "__name__").getD .none) ctv c')).get? _=some _:=ah _ rfl;refine⟨.ref _,_,I1.laid (λb u e=>aa _ e) (aj _) (fobj e5),rfl, ?_⟩;have s2:zv _ (upd _ _ (.frz (Vm q params body scope clos ((X.mg "__name__").getD .none) ctv c') (.own h'.objs.size))):=PV.zv.new hfr _;exact h _ c' _ ctv _ (sm.trans s2) zx (JY.mono s2 ⟨oc,vs,t,zx,hd,hv⟩)
end L2
namespace L2
open PySem PySem.Spec PyProof.Rows PySem.W
def vn (s:Shared)(H:Hp)(fr:List Addr):Heap:=hideAll s.heap (trk s.heap H++fr)
theorem uZ (e:s.heap.get? b=some o)(n:H b=none)(hb:b ∉ fr):(vn s H fr).get? b=some o:=
 hideAll_get _ e λhm=>by
  rcases d4.mp hm with z | z
  ·have q:=(d3.mp z).2;rw[n]at q;cases q
  ·exact hb z
theorem xZ (e:(vn s H fr).get? b=some o):s.heap.get? b=some o/\H b=none:=by
 have e' :=of_hideAll _ e;refine⟨e', ?_⟩;cases q:H b with
 | none=>rfl
 | some x=>
  have hm:b∈trk _ H++fr:=bY _ (d3.mpr ⟨bo.mpr (ar e'),by simp[q]⟩)
  have z:(vn s H fr).get? b=none:=hideAll_none _ hm;rw[z]at e;cases e
theorem Mod.keeps {K:Frag}{mg:Str->Option Value}{b b' :Heap}(m:Mod K mg b)(k:∀a o,b.get? a=some o->b'.get? a=some o):Mod K mg b' :=
 ⟨m.kin.keeps k,m.glob.keeps k,let ⟨mb,h1,h2⟩:=m.blt;⟨mb,h1.keeps k,h2⟩,m.nolimit.keeps k⟩
section
theorem Inv.big_of (I:Inv X pins σ H s):∀b o,X.base.get? b=some o->(vn s H (frs X.stack)).get? b=some o:=λb o e=>by
 refine uZ (I.bs b o e).1 (I.bs b o e).2 λhb=> ?_;have:=(I.stack.mem hb).1;rw[e]at this;cases this
theorem Inv.big (I:Inv X pins σ H s):uK X.prog X.w X.K X.mg (vn s H (frs X.stack)) X.A X.stack s H:=
 ⟨I.ok.frames,I.ok.mod.keeps I.big_of,λb o e=>xZ e,fT (hideAll_size _ _),funFrames_hide I.stack λenv he a ha=>aY _ (d6.mpr ⟨env,he,ha⟩),I.stkFree,I.hok,I.bare⟩
theorem X0 (I:Inv X pins σ H s)(F:j9 X.prog X.w X.K X.mg (vn s H (frs X.stack)) CX k f fd ps sp)(hr:ZA k X.A)(hb:Binds X.K fd ps [])(hx:Z5 CX X E)
  (r:zS vs us) (h:sp vs H Q E):wpAny (model X.prog X.w) X.A (call (.ref f) us) (EP X pins σ Q) X.xe s:=by
 have hl:us.length=ps.length:=by rw[← r.length];exact F.len _ _ _ _ h
 have hb' :=hb s us I.kIn (by rw[aW];exact hl)
 rw[aW]at hb';refine d7 (b_ (F.run X.A _ s H _ us vs Q E hr I.big hb' r h) λr s' hq=> ?_);cases r with
 | error e=>exact hx _ σ H s e s' I hq
 | ok fl=>
  cases fl with
  | ret u=>exact I.after hq
  | next=>exact bp hq
  | brk=>exact bp hq
  | cont=>exact bp hq
end
def cxL (P:Program)(w:World)(K:Frag)(mg:Str->Option Value)(base:Heap)(N:List Str)(q:Str)(scope:Scope)(f:Addr)(cd:Value)(clos:List (Str×Addr))(A:Around)(outer:List Env)(s:Shared)(H:Hp)(E:XK):Cx where
 prog:=P
 w:=w
 K:=K
 mg:=mg
 base:=base
 A:=A.deeper (envX q scope s.heap.objs.size f cd clos)
 N:=N
 s₀:=s
 H₀:=H
 env:=envX q scope s.heap.objs.size f cd clos
 outer:=outer
 stack:=envX q scope s.heap.objs.size f cd clos :: outer
 ex:=[]
 calm:=true
 fn:=λ_=>false
 pn:=[]
 xe:=λe s' =>wpAny (model P w) (A.deeper (envX q scope s.heap.objs.size f cd clos)) (leaving (envX q scope s.heap.objs.size f cd clos) e) (λ_ s'' =>CX1 P w outer H s E e s'') (λe' s'' =>CX1 P w outer H s E e' s'') s'
section
variable {P:Program}{w:World}{K:Frag}{mg:Str->Option Value}{base:Heap}{N:List Str}{q:Str}{scope:Scope}{f:Addr}{cd:Value}{clos:List (Str×Addr)}{A:Around}{outer:List Env}{s:Shared}{H:Hp}{E:XK}
theorem KP:Z5 (CX1 P w) (cxL P w K mg base N q scope f cd clos A outer s H E) E:=by
 intro pins σ H1 s1 e s' I ⟨ea,cls,a0,B,H',he,L,hE⟩;subst he;exact wpAny_leaves_onW I.ok.frames rfl L.fly λh' fl sl=>⟨ea,cls,a0,B,H',rfl,L.out I rfl rfl rfl fl sl,hE⟩
structure LSc (scope:Scope):Prop where
 kind:scope.kind= .function
 co:scope.isCoroutine=false
 gen:scope.isGenerator=false
 nocell:∀x∈scope.names,x.2 ≠ .cell
structure YE (base:Heap) (H:Hp) (scope:Scope) (clos:List (Str×Addr)) (N:List Str) (σ:St):Prop where
 inj:∀x y c,clos.lookup x=some c->clos.lookup y=some c->x=y
 has:∀x∈scope.names,x.2= .free->∃c,clos.lookup x.1=some c
 cell:∀x c,clos.lookup x=some c->(∃v,base.IsCell c v)/\H c=none
 loc:∀(i:Nat) (x:Str) (v:V),N[i]? =some x->σ[i]? =some (some v)->∃u c,Zc v u/\clos.lookup x=some c/\base.IsCell c (some u)/\scope.names.lookup x=some .free
 len:σ.length=N.length
theorem wk {h h' :Heap}{c:Addr}{v:Option Value}(k:∀a o,h.get? a=some o->h'.get? a=some o)(x:h.IsCell c v):h'.IsCell c v:=let ⟨o,e,d⟩:=x;⟨o,k _ _ e,d⟩
theorem X1 {σ:St}{h1:Heap}{tk:Nat}(S:LSc scope)(hd:A.handled=none)(e0:uK P w K mg base A outer s H)(C:YE base H scope clos N σ)(ns:h1.Ns s.heap.objs.size (λ_=>none))(hk:∀b o,s.heap.get? b=some o->h1.get? b=some o):
  Inv (cxL P w K mg base N q scope f cd clos A outer s H E) [] σ H { s with heap:=h1,toks:=tk }:=by
 have bk:=λb o e=>hk b o (e0.bs b o e).1;have noA:∀b,b ∉ (cxL P w K mg base N q scope f cd clos A outer s H E).ex:=λb z=>absurd (show b∈([]:List _) from z) (by simp)
 refine⟨⟨e0.mod,S.kind,rfl,rfl,aj _,C.inj,λy hy=> ?_,λy c h _=>(aA h).elim,λ_=>hd,dy e0.frames,.inr ⟨rfl,rfl⟩,λb z=>absurd z (noA b),e0.bs,e0.bsz,λb _ _=>noA b,λb z=>absurd z (noA b),e0.funs,e0.frf⟩,
  rfl,e0.bare,Un.kept hk,⟨_,ns,λi y v h1 h2 h3=> ?_⟩,λy c h=> ?_,e0.hok.fresh (aj _),λy c h=>(C.cell y c h).2,λp hp=>absurd (show p∈([]:List _) from hp) (by simp),e0.hok.kept hk,C.len⟩
 ·rcases hy with hy | hy
  ·exact absurd rfl (S.nocell _ (bu hy))
  ·exact C.has _ (bu hy) rfl
 ·obtain⟨u,c,r,e,ic,k⟩:=C.loc i y v h1 h2;exact⟨u,r,.inr ⟨.inr k,c,e,wk bk ic⟩⟩
 ·obtain⟨v,ic⟩:=(C.cell y c h).1;exact⟨v,wk bk ic⟩
theorem YF {k:Nat}{params:Arguments}{body:Expr}{pm ctv:Value}{c' :Addr}{σ:St}{Q:VK}{te:TE}(S:LSc scope)(hr:ZA (k+1) A)(e0:uK P w K mg base A outer s H)(C:YE base H scope clos N σ)
  (hf:H f=some (.frz (Vm q params body scope clos pm ctv c') (.own f))) (hc:JY H q c') (hp:bindArgs (kla_fn "<lambda>" q params body scope clos pm (.ref c') ctv) ⟨[],[]⟩=pure [])
  (hb:PE (cxL P w K mg base N q scope f (.ref c') clos A outer s H E) body te) (ht:te σ H Q):
  codeAny (model P w) A (.call (.ref f) ⟨[],[]⟩) (CR (CX1 P w) outer P w H s Q E) s:=by
 have lim:=e0.mod.nolimit.keeps λb o e=>(e0.bs b o e).1;refine kla_callFunE hr.depth (e0.hok f _ hf).1 rfl S.co S.gen rfl (hc.rec e0.hok) ?_;rw[hp];refine au (wpAny_newFunctionEnv S.nocell (λy hy=>by simp at hy) (λh1 hns hsb=> ?_) S.kind)
 have hk:=λb o e=>hsb.extBut b o (aE (ar e)) (aa _ e);refine⟨lim.keeps hk, ?_⟩;have I:=X1 (q:=q) (f:=f) (cd:= .ref c') (E:=E) (tk:=s.toks+([]:List (Str×Value)).length) S hr.hd e0 C hns hk;exact kla_codeExpr (bK (hb [] _ σ H Q I ht) (λv s' ⟨x,H',J,r,q⟩=>⟨x,H',J.os,J.bare,J.base,J.hok,r,q⟩) λ_ _ z=>z)
end
end L2
namespace L2
open PySem PySem.Spec PyProof.Rows PySem.W
structure j0 (k:Nat) (A:Around):Prop where
 dp:A.depth+3*k+5 < recursionLimit
 un:A.units+16*k+200 < cLine
 gd:A.guards=some []
theorem ZA.m (r:ZA k A):j0 k A:=⟨r.dp,r.un,r.gd⟩
theorem j0.mono (r:j0 k A)(h:j<=k):j0 j A:=⟨by have:=r.dp;omega,by have:=r.un;omega,r.gd⟩
theorem j0.deeper (r:j0 (k+1) A)(env:Env):j0 k (A.deeper env):=
 ⟨by have:=r.dp;show A.depth+1+3*k+5 < _;omega,by have:=r.un;show A.units+3+16*k+200 < _;omega,r.gd⟩
theorem j0.mark (r:j0 k A)(e:Value):j0 k (A.mark (some e)):=⟨r.dp,r.un,r.gd⟩
theorem j0.depth (r:j0 k A):A.depth < recursionLimit:=by have:=r.dp;omega
theorem j0.units (r:j0 k A):A.units+64 < cLine:=by have:=r.un;omega
structure FnM (P:Program) (w:World) (K:Frag) (mg:Str->Option Value) (base:Heap) (k:Nat) (f:Addr) (fd:FuncData) (ps:List Str) (sp:Sp):Prop where
 len:∀vs H Q E,sp vs H Q E->vs.length=ps.length
 run:∀(A:Around) (outer:List Env) (s:Shared) (H:Hp) (args:Args) (us:List Value) (vs:List V) (Q:VK),j0 k A->uK P w K mg base A outer s H->BindsTo s fd args (ps.zip us)->zS vs us->sp vs H Q (λ_ _ _=>False)->
  codeAny (model P w) A (.call (.ref f) args) (λr s' =>∃u,r= .ok (.ret u)/\CE outer P w H s Q u s') s
abbrev cxM (P:Program)(w:World)(K:Frag)(mg:Str->Option Value)(base:Heap)(N:List Str)(qual:Str)(scope:Scope)(f:Addr)(cd:Value)(A:Around)(outer:List Env)(s:Shared)(H:Hp):Cx:=
 { (jM CX0 P w K mg base N qual scope f cd A outer s H (λ_ _ _=>False)).nox with calm:=false }
section
variable {P:Program}{w:World}{K:Frag}{mg:Str->Option Value}{base:Heap}
theorem KQ {k:Nat}{x qual:Str}{st:Stmt}{f:Addr}{fd:FuncData}{N ps:List Str}{sp:Sp}(F:Fun K x qual st f fd)(S:Zx N ps (zq st))(len:∀vs H Q E,sp vs H Q E->vs.length=ps.length)
  (hbody:∀(cdv:Value) (A:Around) (outer:List Env) (s:Shared) (H:Hp) (vs:List V) (Q:VK),j0 k (A.deeper (envOfC qual (zq st) s.heap.objs.size f cdv))->sp vs H Q (λ_ _ _=>False)->
   ∃t,PSs (cxM P w K mg base N qual (zq st) f cdv A outer s H) (zH st) t/\t { nx:=λ_ H' =>Q .non H',rt:=Q } (start N vs) H):FnM P w K mg base (k+1) f fd ps sp:=by
 obtain⟨oc,od,kV,doc,pm,an,cdv,ct,osl,rfl,lk,hcd⟩:=F.ex;refine⟨len,λA outer s H args us vs Q hr e0 hb r hsp=> ?_⟩;have hl:=len _ _ _ _ hsp;have KX:=e0.mod.kin.keeps λb o e=>(e0.bs b o e).1;have lim:=e0.mod.nolimit.keeps λb o e=>(e0.bs b o e).1;have hkind:∀y∈ps.zip us,(zq st).names.lookup y.1=some _\/((zq st).names.lookup y.1=some _/\((cellsFrom (s.heap.objs.size+1) _ []).lookup y.1).isSome=true):=λ⟨n,v⟩ hy=>by
  rcases S.par n (dz hy).1 with q | q
  ·exact .inl q
  ·exact .inr ⟨q,cellsFrom_some _ _ _ (.inl q)⟩
 refine codeAny_call_function hr.depth (KX _ _ lk) rfl S.co S.gen rfl (codeRec_of KX hcd) (hb _ _ _ _ ?_);refine wpAny_newFunctionEnv_cells S.kind hkind λenv he s1 x=> ?_;subst he;refine⟨lim.keeps x.toInCall.keep,codeAny_func ?_⟩;obtain⟨t,ht,hq⟩:=hbody cdv A _ s H vs Q (hr.deeper _) hsp;have e1:uK P w K mg _ { A with handled:=none } _ s H:=⟨e0.frames,e0.mod,e0.bs,e0.bsz,e0.funs,e0.frf,e0.hok,e0.bare⟩;have J:Inv (jM CX0 P w K mg _ N _ _ f cdv _ _ s H (λ_ _ _=>False)) [] _ H s1:=Wj S rfl e1 hl r x;have I:Inv (cxM P w K mg _ N _ _ f cdv A _ s H) [] _ H s1:=
  ⟨⟨J.ok.mod,J.ok.kind,J.ok.glob,J.ok.blt,J.ok.above,J.ok.inj,J.ok.has,J.ok.cab,λz=>(by cases z),dy e0.frames,J.ok.stk,J.ok.exf,J.ok.bs,J.ok.bsz,J.ok.noex,J.ok.exfs,J.ok.funs,J.ok.frf⟩,J.os,J.bare,J.base,J.loc,J.cell,J.free,J.freeC,J.pin,J.hok,J.len⟩
 refine bK (ht [] s1 _ H _ I hq) (λfl s' hs=> ?_) λe s' hs=>hs.elim;have fin:∀{σ' :St} {H' :Hp} {v:V} {u:Value},Inv (cxM P w K mg base N qual (zq st) f cdv A outer s H) [] σ' H' s' ->Zc v u->Q v H' ->∃u',(Except.ok (Flow.ret u):Result)= .ok _/\CE _ P w H s Q u' s' :=
  λ{σ' H' v u} J rv q=>⟨u,rfl,v,H',J.os,J.bare,J.base,J.hok,rv,q⟩
 cases fl with
 | ret u=>
  obtain⟨v,σ',H',J,rv,q⟩:=hs;exact fin J rv q
 | next=>
  obtain⟨σ',H',J,q⟩:=hs;exact fin (v:=V.non) J rfl q
 | brk=>obtain⟨_,_,_,q⟩:=hs;exact bp q
 | cont=>obtain⟨_,_,_,q⟩:=hs;exact bp q
theorem vo (F:FnM X.prog X.w X.K X.mg X.base k f fd ps sp)(hr:j0 k X.A)(hg:Gl X x)(hm:X.mg x=some (.ref f))(hk:keepIn X.K (.ref f)=true)(hb:Binds X.K fd ps [])
  (ha:PA X [e] t) (hdb:(x == ("__debug__":Str))=false:=by decide) (he:starEach [e] X.env=[(false,eval e X.env)]:=by rfl):
  PE X (.Call (.Name x p) [e] [] pos) (λσ H Q=>t σ H λvs H1=>sp vs H1 Q λ_ _ _=>False):=by
 intro pins s σ H Q I h;refine bz (jq I hg hm ?_ hdb);refine callWith_K I.ok.mod.kin hk (thn (ha pos _ s σ H _ I h) λus s1 ⟨vs,H1,I1,r,q⟩=>⟨I1.kIn, ?_⟩) he rfl;have hl:us.length=ps.length:=by rw[← r.length];exact F.len _ _ _ _ q
 have hb' :=hb s1 us I1.kIn (by rw[aW];exact hl)
 rw[aW]at hb';refine d7 (b_ (F.run X.A _ s1 H1 _ us vs Q hr I1.env0 hb' r q) λr s' ⟨u,e1,hq⟩=> ?_);subst e1;exact I1.after hq
end
def KR (X:Cx)(E:XK)(i:Nat)(f:Addr)(o:Obj):TE:=λσ H Q=>σ[i]? =some (some (.ref f))/\H f=some (.frz o (.own f))/\
 ∀s,uK X.prog X.w X.K X.mg X.base X.A X.stack s H->codeAny (model X.prog X.w) X.A (.call (.ref f) ⟨[],[]⟩) (CR (CX1 X.prog X.w) X.stack X.prog X.w H s Q E) s
theorem X2 (hv:PE X (.Name x p) (Jh i))(hx:Z5 (CX1 X.prog X.w) X E):
  PE X (.Call (.Name x p) [] [] pos) (KR X E i f (Vm q params body scope clos pm ctv c')):=by
 intro pins s σ H Q I ⟨hσ,hf,run⟩;refine bz (thn (hv _ s σ H (λv H' =>v= .ref f/\H' =H) I ⟨_,hσ,rfl,rfl⟩) λu s1 ⟨v,H1,I1,r,e1,e2⟩=> ?_);subst e1 e2;obtain rfl:u=Value.ref f:=r;refine callWith_F0 ⟨_,_,_,_,(I1.hok f _ hf).1⟩ ?_;refine d7 (b_ (run s1 I1.env0) λr s' hq=> ?_);cases r with
 | error e=>exact hx _ σ H1 s1 e s' I1 hq
 | ok fl=>
  cases fl with
  | ret u=>exact I1.after hq
  | next=>exact bp hq
  | brk=>exact bp hq
  | cont=>exact bp hq
theorem X3 {tb:XK->TS}
  (hX:X.stack=X.env :: X.outer) (hf:X.env.frame=some X.env.locals) (hN:X.N.Nodup) (hi:X.N[i]? =some n) (hl:X.env.scope.names.lookup n=some .local) (hg:Gl X c) (hm:X.mg c=some (.ref C))
  (hb:∀(E' :XK) (pn:List (Addr×Obj)) (xe:Value->Shared->Prop),Z5 (CX1 X.prog X.w) (X.try' pn xe) E' ->PSs (X.try' pn xe) body (tb E'))
  (he:∀ea,PE (X.mark' (.ref ea)) e2 th) (hdc:(c == ("__debug__":Str))=false:=by decide):
  PS X (.Try body [.ExceptHandler (some (.Name c cp)) (some n) [.Return (some e2) rp] hp] [] [] pos)
   (λD σ H=>∃E' :XK,(∀(cls:Value) (d:Option Addr) (H' :Hp) (ea:Addr) (σ' :St),E' cls d H' ->exmOne X.K cls (.ref C)=some true/\(H' ea=none->σ'.length=σ.length->σ.length=X.N.length->th (σ'.set i (some (.ref ea))) (upd H' ea (.ext (yU cls ea))) D.rt))/\tb E' D σ H):=by
 intro pins s σ H D I ⟨E',hE,hw⟩;have pass:Z5 (CX1 X.prog X.w) (X.try' (X.pn++pins) λe s1=>wpAny (model X.prog X.w) X.A (noteFrame e X.env) (λ_ s2=>wpAny (model X.prog X.w) X.A (setFlight e none) (λ_ s3=>wpAny (model X.prog X.w) X.A (handleBy e X.env [.ExceptHandler (some (.Name c cp)) (some n) [.Return (some e2) rp] hp]) (SP X pins D) X.xe s3) X.xe s2) X.xe s1) E' :=by
  intro pins' σ' H1 s1 e s' I1 ⟨ea,cls,a0,B,H',he',L,hw'⟩;subst he';have I0:=I1.untry;have fr:X.A.frames=some (X.env :: X.outer):=by rw[← hX];exact I0.ok.frames
  refine wpAny_looks_onW fr hf (hX ▸ L.fly) λh1 held sl1=> ?_;refine wpAny_landsW held λh2 fl2 sl2=> ?_;rw[← hX]at fl2;have sl12:=sl1.trans sl2;have I2:=I0.caught L fl2 sl12;obtain⟨hm1,hD⟩:=hE cls _ H' ea σ' hw';refine UN hm1 ?_;refine jq (I2.mark' _) hg hm ⟨rfl,I2.kIn,fl2.there, ?_⟩ hdc;refine lands_againW fl2 λh3 fl3 sl3=> ?_;have I3:=I0.caughtX L fl3 (sl12.trans sl3);have hlen:=I0.len;refine wx (X:=X.mark' (.ref ea)) (I3.mark' _) hN hi (.inl hl) (v:= .ref ea) rfl (λs4 I4=> ?_) (.inr hl);have hs1:=Jr (Wc (pos:=rp) (he ea));have hr:=hs1 _ s4 _ _ { nx:=λ_ _=>False,rt:=D.rt } I4 (hD L.fresh (hlen.trans I.len.symm) I.len);refine bK hr (λf s5 h5=> ?_) λ_ _ z=>z;cases f with
  | next=>obtain⟨_,_,_,z⟩:=h5;exact z.elim
  | brk=>obtain⟨_,_,_,z⟩:=h5;exact z.elim
  | cont=>obtain⟨_,_,_,z⟩:=h5;exact z.elim
  | ret u=>
   obtain⟨v,σ5,H5,I5,r5,q5⟩:=h5;refine VZ (I5.unmark I.ok.hd) hN hi hl λs6 I6=> ?_;exact⟨v,_,_,I6,r5,q5⟩
 have hr:=hb E' _ _ pass [] s σ H D (I.try' _) hw;refine wpAny_Try_except (bK hr (λf s1 h1=> ?_) λ_ _ z=>z);have h1:=h1.untry;cases f with
 | next=>exact wpAny_execs_nil h1
 | brk=>exact h1
 | cont=>exact h1
 | ret u=>exact h1
end L2
namespace PV
open PySem PySem.Spec PyProof.Rows L2 PySem.W
noncomputable def nx1 (r:R T):R T:=match r with
 | .ok t=> .ok t
 | _=> .bad
section
theorem Vn {js:List Nat}(I:L2.Inv X pins σ H s)(hfn:∀x,X.fn x=true)(hcl:∀x c,clos.lookup x=some c->X.env.cells.lookup x=some c)
  (hcf:∀x∈scope.names,x.2=NameKind.free->∃c,clos.lookup x.1=some c) (CP:GH X scope N' 0 js):YE (vn s H (frs X.stack)) H scope clos N' (Wu 0 js σ):=by
 have up:∀x c,X.env.cells.lookup x=some c->∀v,s.heap.IsCell c v->(vn s H _).IsCell c v:=λx c e v ⟨o,ho,hd⟩=>⟨o,uZ ho (I.freeC x c e) λhb=>by
  rcases am.mp (I.stkSub c hb) with z | z
  ·exact I.cne x c e z
  ·obtain⟨_,o2,e2,_⟩:=I.ok.funs.mem z;exact absurd (ar e2) (Nat.not_lt.mpr (I.ok.cab x c (hfn x) e)),hd⟩
 refine⟨λx y c h1 h2=>I.ok.inj x y c (hcl _ _ h1) (hcl _ _ h2),hcf,λx c e=>⟨?_,I.freeC x c (hcl x c e)⟩,λi x v h1 h2=> ?_,by unfold Wu;simp[CP.len]⟩
 ·obtain⟨v,ic⟩:=I.cell x c (hcl x c e);exact⟨v,up x c (hcl x c e) v ic⟩
 ·unfold Wu at h2;rw[List.replicate_zero,bO,av]at h2;cases ej:js[i]? with
  | none=>rw[ej]at h2;cases h2
  | some j=>
   rw[ej]at h2;have h2' :(σ[j]?).getD _=some v:=aB h2;have hσ:σ[j]? =some (some v):=by
    cases ez:σ[j]? with
    | none=>rw[ez]at h2';cases h2'
    | some z=>rw[ez]at h2';exact congrArg _ h2'
   obtain⟨y,e1,e2,e3,e4,e5⟩:=CP.cap i j ej;rw[f6,h1]at e1;cases e1;obtain⟨m,hn,hlo⟩:=I.loc;obtain⟨u,ru,lk⟩:=hlo j x v e2 hσ e3;obtain⟨c,ec⟩:=hcf _ (bu e4) rfl;rcases lk with ⟨k,_⟩ | ⟨_,c2,e6,ic⟩
   ·rcases e5 with z | z <;> (rw[k]at z;cases z)
   ·have:=hcl x c ec;rw[e6]at this;cases this;exact⟨u,c,ru,ec,up x c e6 _ ic,e4⟩
end
section
variable {P:Program}{w:World}{K:a8}{mg:Str->Option Value}{base:Heap}
theorem X4 {cl:Nat->Value}{x qual q:Str}{st:Stmt}{f:Addr}{fd:FuncData}{N:List Str}{k:Nat}{fb:En->RS}{gx:Nat->R T}(F:Fun K x qual st f fd)(S:Zx N [q] (zq st))(hN:1<=N.length)
  (hb:∀(cdv:Value) (A:Around) (outer:List Env) (s:Shared) (H:Hp) (Y:Fx),Y.cl=cl->j0 k (A.deeper (envOfC qual (zq st) s.heap.objs.size f cdv))->
   JW (cxM P w K mg base N qual (zq st) f cdv A outer s H) Y (zH st) fb)
  (hg:∀c,gx c=zz (fb (enC N.length c))):FnM P w K mg base (k+1) f fd [q] (spC cl gx):=by
 refine KQ F S (λvs H Q E ⟨_,_,_,e,_⟩=>by rw[e];rfl) λcdv A outer s H vs Q hr ⟨B,a,c,e,sB,r,q⟩=> ?_
 subst e;refine⟨_,hb cdv A _ s H ⟨B,H,λ_ _ _=>False,cl,[]⟩ rfl hr _,B,SI.startC sB hN r, ?_⟩;rw[hg c]at q;revert q;cases fb _ with
 | rt t=>exact λq v H' s r=>q v H' s r
 | rf t=>exact λq a xs H' B' s0 n e r _ l=>q _ H' s0 (.lst (by rw[zZ n];exact e) (r.mono l))
 | nx ρ=>exact λq σ' H' B' _ I=>q _ H' I.sH .non
 | ex c=>exact λq=>q
 | bk ρ=>exact λq=>q.elim
 | ct ρ=>exact λq=>q.elim
 | bad=>exact λq=>q
def Vo (cl:Nat->Value)(n:Nat)(g:List T->R T)(Pt:Addr)(q:Str):Sp:=λvs H Q E=>H Pt=some (.tbl #[] q)/\spP cl n g vs H Q E
end
end PV
namespace L2
open PySem PySem.Spec PyProof.Rows PySem.W
theorem YG {P:Program}{w:World}{K:Frag}{mg mb:Str->Option Value}{CX:CXT}{k:Nat}{fa a c Pt:Addr}{fd:FuncData}{x q:Str}{sp:Sp}{s₁:Shared}{vs:List Value}{ns:List Int}
  (KX:K.In s₁.heap) (hns:s₁.heap.Ns mainGlobals mg) (hb:s₁.heap.Ns builtinsNs mb) (hbb:∀x:Str,x ≠ "__name__"->mb x=bootBuiltins x) (hlim:s₁.heap.NoLimit) (hg:s₁.gens= #[])
  (ha:s₁.heap.get? a=some { cls:= .type "list",data:= .seq vs.toArray }) (hi:IntsAre vs ns) (hl:ns.length<=sizeLine) (hr:ZA k callerA)
  (hbt:s₁.heap.BuiltinsAt mg Pt) (hPt:s₁.heap.get? Pt=some (tabObj #[])) (hKP:K.lookup Pt=none) (hC:codeHdIn K c Pt=true) (hKa:K.lookup a=none)
  (F:∀base:Heap,K.In base->base.BuiltinsAt mg Pt->j9 P w K mg base CX k fa fd [x] sp) (hbind:∀(s:Shared) (u:Value),BindsTo s fd ⟨[u],[]⟩ [(x,u)])
  (hsp:∀(H:Hp) (o:Obj),H a=some (.frz o (.lst (ns.map V.int)))->H Pt=some (.tbl #[] q)->sp [.ref a] H (λv _=>v= .bl true) λ_ _ _=>False)
  (hCX:∀H e s',CX [] H s₁ (λ_ _ _=>False) e s' ->False):
  codeAny (model P w) callerA (.call (.ref fa) ⟨[.ref a],[]⟩) (λr s' =>r= .ok (.ret (.bool true))/\OldK s₁.heap s'.heap/\s'.os=s₁.os/\AllBare s'.gens) s₁:=by
 have rv:=jB hi;have hne:Pt ≠ a:=λz=>by rw[z,ha]at hPt;cases hPt
 obtain⟨H,hH⟩:∃H:Hp,H=upd (upd (λ_=>none) Pt (.tbl #[] q)) a (.frz { cls:= .type "list",data:= .seq vs.toArray } (.lst (ns.map V.int))):=⟨_,rfl⟩;have h1:H a=some (.frz { cls:= .type "list",data:= .seq vs.toArray } (.lst (ns.map V.int))):=by rw[hH,zx]
 have h2:H Pt=some (.tbl #[] q):=by rw[hH,zu hne,zx]
 have h3:∀b,b ≠ a->b ≠ Pt->H b=none:=λb n1 n2=>by rw[hH,zu n1,zu n2]
 have hok:HOk P w H _:=λb o e=>by
  by_cases b1:b=a
  ·subst b1;rw[h1]at e;cases e;exact⟨ha,by rw[a9];exact hl,vs,_,rv,ha⟩
  ·by_cases b2:b=Pt
   ·subst b2;rw[h2]at e;cases e;exact⟨#[],hPt,trivial,λp cv z=>by cases z⟩
   ·rw[h3 b b1 b2]at e;cases e
 have noD:∀{b:Addr} {o:Obj} {es:Array _} {ep:Nat},s₁.heap.get? b=some o->o.data= .dict es ep->H b=none:=λ{b o es ep} e d=>h3 b (λz=>by rw[z,ha]at e;cases e;cases d) λz=>by rw[z,hPt]at e;cases e;cases d
 have nsK:∀{b:Addr} {m:Str->Option _},s₁.heap.Ns b m->(XR _ H).Ns b m:=λ{b m} ⟨o,es,ep,e,d,r⟩=>⟨o,es,ep,wv e (noD e d),d,r⟩;have hKb:=λb o e=>wv (KX b o e) (h3 b (λz=>by rw[z,hKa]at e;cases e) λz=>by rw[z,hKP]at e;cases e)
 have hM:Mod K mg _:=⟨hKb,nsK hns,⟨mb,nsK hb,hbb⟩,let ⟨mc,h1,h2⟩:=hlim;⟨mc,nsK h1,h2⟩⟩;have hBT:(XR s₁.heap H).BuiltinsAt mg Pt:=by
  obtain⟨bm,o,b1,b2,b3,b4,b5,b6,b7,b8⟩:=hbt;exact⟨bm,o,b1,b2,b3,b4,wv b5 (h3 bm (λz=>by rw[z,ha]at b5;cases b5;cases b8) b4),b6,b7,b8⟩
 have e0:uK P w K mg _ callerA [] _ H:=⟨rfl,hM,λb o e=>VD e,fT (yo _ _),trivial,λb hb=>absurd (show b∈([]:List _) from hb) (by simp),hok,.of_eq hg⟩
 refine b_ ((F _ hKb hBT).run _ [] _ H _ _ [.ref a] _ _ hr e0 (hbind _ _) (.cons rfl .nil) (hsp H _ h1 h2)) λr s' h=> ?_;cases r with
 | error e=>exact(hCX H e s' h).elim
 | ok fl=>
  cases fl with
  | next=>exact bp h
  | brk=>exact bp h
  | cont=>exact bp h
  | ret u=>
   obtain⟨v,H',os,bare,un,hok',r',qv⟩:=h;have q' :=qv;subst q';obtain rfl:u=Value.bool _:=r';refine⟨rfl,⟨λb o e=> ?_,λb o e=>un.there b o e (by simp)⟩,os,bare⟩
   by_cases b1:b=a
   ·subst b1;have z2:=un.frzs b _ _ h1;obtain⟨e2,_⟩:=hok' b _ z2;rw[ha]at e;cases e;exact .inl e2
   ·by_cases b2:b=Pt
    ·subst b2;obtain⟨more,e2,_⟩:=hok' b _ (un.tbls b _ _ h2);rw[hPt]at e;cases e;exact .inr (.inl ⟨((codeHd_of_K KX hC).tab hPt).isCodeTable,rfl, #[],more,rfl,e2⟩)
    ·exact .inl (un.keep b o e (h3 b b1 b2) (by intro z;exact absurd (show b∈([]:List _) from z) (by simp)) (by simp))
theorem walk_ofT {l:OpenLaw}{n k:Nat}{q:Program}{loose:List Str}{XP:(Str->Option Value)->Heap->Prop}{YP:World->Heap->Prop}{d:DefRec}{K:Params->Frag}{ts:List Addr}{CX:World->CXT}{sp:World->Addr->Sp}{x nm:Str}
  (hn:l.most=some n) (hn2:n<=sizeLine) (hdf:d.params.defaults=[]) (hr:ZA k callerA)
  (hY:∀(w:World) (h:Heap),YP w h->(K w.params).In h/\∀P∈ts,h.get? P=some (tabObj #[])) (hKa:∀(w:World) (a:Addr) (o:Obj),(K w.params).lookup a=some o->o.cls ≠ .type "list")
  (F:∀(w:World) (mg:Str->Option Value) (fa:Addr) (h:Heap),(K w.params).In h->h.Ns mainGlobals mg->mg d.name=some (.ref fa)->(∀P∈ts,h.get? P=some (tabObj #[]))->
   ∃(fd:FuncData) (c Pt:Addr),(∀(s:Shared) (u:Value),BindsTo s fd ⟨[u],[]⟩ [(x,u)])/\h.get? Pt=some (tabObj #[])/\(K w.params).lookup Pt=none/\codeHdIn (K w.params) c Pt=true/\
    ∀base:Heap,(K w.params).In base->base.BuiltinsAt mg Pt->j9 l.prog w (K w.params) mg base (CX w) k fa fd [x] (sp w Pt))
  (hsp:∀(w:World) (H:Hp) (a Pt:Addr) (o:Obj) (ns:List Int),ns.length<=n->H a=some (.frz o (.lst (ns.map V.int)))->H Pt=some (.tbl #[] nm)->sp w Pt [.ref a] H (λv _=>v= .bl true) λ_ _ _=>False)
  (hCX:∀(w:World) (H:Hp) (s:Shared) (e:Value) (s' :Shared),CX w [] H s (λ_ _ _=>False) e s' ->False):
  WalkO q loose XP YP l.row.toRowW d [] (λf vs=>iC f vs):=by
 refine Att.attach_call hn hdf λw s₀ s₁ mg mb fa o pm cd doc a vs ns G Y ho hd hcd hmg hobj hints hlen hg=> ?_;obtain⟨KX,hT⟩:=hY w _ Y;obtain⟨fd,c,Pt,hb,hPt,hKP,hC,hF⟩:=F w mg fa _ KX G.T.g hmg hT;obtain⟨bm,ob,b1,b2,b3,b4,b5,b6⟩:=G.T.bmain;have hbP:bm ≠ Pt:=λz=>by rw[z,hPt]at b3;cases b3;cases b4
 have hbG:bm ≠ mainGlobals:=λz=>by
  obtain⟨o,es,ep,e,hd,_⟩:=G.T.g;rw[z,e]at b3;cases b3;rw[hd]at b6;cases b6
 refine YG KX G.T.g G.T.b G.T.builtins G.T.nolimit hg hobj hints (aD hlen hn2) hr ⟨bm,ob,b1,b2,hbG,hbP,b3,b4,b5,b6⟩ hPt hKP hC ?_ hF hb (λH o h1 h2=>hsp w H a Pt o ns hlen h1 h2) λH e s' =>hCX w H _ e s';cases hk:(K _).lookup a with
 | none=>rfl
 | some o2=>
  have e:=KX a o2 hk;rw[hobj]at e;cases e;exact(hKa w a _ hk rfl).elim
end L2
namespace PV
open PySem PySem.Spec PyProof.Rows L2
end PV
namespace PV
open PySem PySem.Spec PyProof.Rows L2 PySem.W
section
theorem SI.forget (I:SI Y B ρ σ H)(i:Nat)(v:Option V):SI Y B (ρ.set i .un) (σ.set i v) H where
 s0:=I.s0
 sH:=I.sH
 sB:=I.sB
 old:=I.old
 len:=by rw[aI,aI];exact I.len
 vl:=λj t h=>by
  rcases zr h with ⟨_,z⟩ | ⟨n,z⟩
  ·cases z
  ·obtain⟨v',e,r⟩:=I.vl j t z;exact⟨v',by rw[ax (bi n)];exact e,r⟩
 ow:=λj ts h=>by
  rcases zr h with ⟨_,z⟩ | ⟨n,z⟩
  ·cases z
  ·obtain⟨a,xs,e,b0,h0,hh,r,d⟩:=I.ow j ts z;refine⟨a,xs,by rw[ax (bi n)];exact e,b0,h0,hh,r,λj' us n' h' => ?_⟩
   rcases zr h' with ⟨_,z'⟩ | ⟨n2,z'⟩
   ·cases z'
   ·rw[ax (bi n2)];exact d j' us n' z'
 xc:=λj c h=>by
  rcases zr h with ⟨_,z⟩ | ⟨n,z⟩
  ·cases z
  ·obtain⟨a,e,r⟩:=I.xc j c z;exact⟨a,by rw[ax (bi n)];exact e,r⟩
 st:=let ⟨as,O,x⟩:=I.st;⟨as,O,x.set i _ _ rfl (λ_=>Sl.noConfusion)⟩
end
end PV
namespace PV
open PySem PySem.Spec PyProof.Rows L2
section
end
end PV
namespace PV
open PySem PySem.Spec PyProof.Rows L2 PySem.W
section
end
section
end
section
end
def FsIn (B H0 H:Hp)(O:Addr->Option Nat)(us:List (Str×V))(fs:List (Str×Fd)):Prop:=(us.length=fs.length/\InC us)/\∀(m:Nat) (f:Str) (d:Fd),fs[m]? =some (f,d)->∃v,us[m]? =some (f,v)/\
 match d with
 | .tv t=>Rep B v t
 | .tl ts=>∃l xs,v= .ref l/\B l=none/\H0 l=none/\H l=some (.lst xs)/\zE B xs ts/\O l=some (m+1)
def X5 (cl:Nat->Value)(k:Nat)(B H0 H:Hp)(x:Addr)(fs:List (Str×Fd)):Prop:=∃C dx us O,cl k= .ref C/\H x=some (.ins C dx us)/\B x=none/\H0 x=none/\O x=some 0/\FsIn B H0 H O us fs
theorem SI.obAt {Y:Fx}{B:Hp}{ρ:En}{σ:Sg}{H:Hp}(I:SI Y B ρ σ H){j k:Nat}{x:Addr}{fs:List (Str×Fd)}{os:List Ob}(hx:Y.as=[x])(h:ρ[j]? =some (.st ((k,fs) :: os))):X5 Y.cl k B Y.H0 H x fs:=by
 obtain⟨as,O,s⟩:=I.st;obtain⟨a,C,dx,vs,e1,e2,e3,e4,e5,e6,e7,e8⟩:=s.st j _ h 0 k fs rfl;have ha:a=x:=by
  obtain⟨t,et⟩:=s.pre;rw[hx]at et;rw[← et]at e1;exact(aB e1).symm
 subst ha;refine⟨C,dx,vs,λb=>(O b).bind λp=>if p.1=0 then some p.2 else none,e2,e3,e4,e5,by dsimp only;rw[e6];rfl,e7,λm f d z=> ?_⟩
 obtain⟨v,z1,z2⟩:=e8 m f d z;refine⟨v,z1, ?_⟩;cases d with
 | tv t=>exact z2
 | tl ts=>
  obtain⟨l,xs,p1,p2,p3,p4,p5,_,p7⟩:=z2;exact⟨l,xs,p1,p2,p3,p4,p5,by dsimp only;rw[p7];rfl⟩
def enM (k j:Nat)(fs:List (Str×Fd))(ts:List T):En:= .ob k 0 :: (ts.map Sl.vl++(ai (j - 1 - ts.length) .un++[.st [(k,fs)]]))
theorem ZK (h:(enM k j fs ts)[i]? =some s):(i=0/\s= .ob k 0)\/(∃i' t,i=i' +1/\ts[i']? =some t/\s= .vl t)\/s= .un\/(s= .st [(k,fs)]/\i=1+ts.length+(j - 1 - ts.length)):=by
 unfold enM at h;cases i with
 | zero=>exact .inl ⟨rfl,(aB h).symm⟩
 | succ i=>
  rw[bq]at h
  by_cases hi:i < ts.length
  ·rw[az (by simpa using hi),av,ag hi]at h
   exact .inr (.inl ⟨i,_,rfl,ag hi,(aB h).symm⟩)
  ·rw[aq (by simpa using hi)]at h
   by_cases h2:i - (ts.map Sl.vl).length < j - 1 - ts.length
   ·rw[az (by simpa using h2),aF,if_pos h2]at h
    exact .inr (.inr (.inl (aB h).symm))
   ·rw[aq (by simpa using h2)]at h
    generalize hq:i - (ts.map _).length - (ai _ _).length=q at h;cases q with
    | zero=>
     refine .inr (.inr (.inr ⟨(aB h).symm, ?_⟩));rw[a9,aQ]at hq;rw[a9]at h2;omega
    | succ q=>cases h
theorem zE.at {B:Hp}:∀{vs:List V} {ts:List T},zE B vs ts->∀{i:Nat} {t:T},ts[i]? =some t->∃v,vs[i]? =some v/\Rep B v t
 | _,_,.nil,i,t,h=>by simp at h
 | _,_, @zE.cons _ v _ _ _ r rr,0,t,h=>by cases h;exact⟨v,rfl,r⟩
 | _,_,.cons r rr,i+1,t,h=>zE.at rr h
theorem SI.startM {cl:Nat->Value}{k j:Nat}{B H0 H:Hp}{x:Addr}{fs:List (Str×Fd)}{E:XK}{vs:List V}{ts:List T}{N:List Str}(hN:N.length=j+1)(hj:ts.length+1<=j)(sB:zv B H0)(sH:zv H0 H)(ob:X5 cl k B H0 H x fs)(r:zE B vs ts):
  SI ⟨B,H0,E,cl,[x]⟩ B (enM k j fs ts) (L2.start N (.ref x :: vs)) H where
 s0:=sB
 sH:=sH
 sB:=sB.trans sH
 old:=λ_ _ _=>rfl
 len:=by
  unfold enM L2.start;have:=r.length;simp only[af,ao,a9,aQ,bC];omega
 vl:=λi t h=>by
  rcases ZK h with ⟨_,e⟩ | ⟨i',t',e1,e2,e3⟩ | e | ⟨e,_⟩
  ·cases e
  ·cases e3;subst e1;obtain⟨v,ev,rv⟩:=r.at e2;refine⟨v, ?_,rv⟩;unfold L2.start;have hi:i' < vs.length:=(aw.mp ev).1;rw[az (by simpa using hi),aL,bq,av,ev];rfl
  ·cases e
  ·cases e
 ow:=λi t h=>by
  rcases ZK h with ⟨_,e⟩ | ⟨i',t',e1,e2,e3⟩ | e | ⟨e,_⟩
  ·cases e
  ·cases e3
  ·cases e
  ·cases e
 xc:=λi t h=>by
  rcases ZK h with ⟨_,e⟩ | ⟨i',t',e1,e2,e3⟩ | e | ⟨e,_⟩
  ·cases e
  ·cases e3
  ·cases e
  ·cases e
 st:=by
  obtain⟨C,dx,us,O,c1,c2,c3,c4,c5,c6,c7⟩:=ob;refine⟨[x],λb=>(O b).map λm=>(0,m),ce _,λi os h=> ?_,λi i' os os' h h' => ?_,λi k' n h=> ?_,λi k' fs0 h=> ?_,λi os h n k' fs' e=> ?_⟩
  ·rcases ZK h with ⟨_,e⟩ | ⟨_,_,_,_,e⟩ | e | ⟨e,_⟩ <;> cases e
   rfl
  ·rcases ZK h with ⟨_,e⟩ | ⟨_,_,_,_,e⟩ | e | ⟨_,e⟩
   ·cases e
   ·cases e
   ·cases e
   ·rcases ZK h' with ⟨_,e'⟩ | ⟨_,_,_,_,e'⟩ | e' | ⟨_,e'⟩
    ·cases e'
    ·cases e'
    ·cases e'
    ·rw[e,e']
  ·rcases ZK h with ⟨e0,e⟩ | ⟨i',t',e1,e2,e3⟩ | e | ⟨e,_⟩
   ·cases e;subst e0;exact⟨x,C,dx,us,rfl,rfl,c1,c2,c3,c4,c6.2⟩
   ·cases e3
   ·cases e
   ·cases e
  ·rcases ZK h with ⟨e0,e⟩ | ⟨i',t',e1,e2,e3⟩ | e | ⟨e,_⟩
   ·cases e
   ·cases e3
   ·cases e
   ·cases e
  ·rcases ZK h with ⟨e0,e'⟩ | ⟨i',t',e1,e2,e3⟩ | e' | ⟨e',_⟩
   ·cases e'
   ·cases e3
   ·cases e'
   ·cases e';cases n with
    | succ n=>cases e
    | zero=>
     cases e;refine⟨x,C,dx,us,rfl,c1,c2,c3,c4,by rw[c5];rfl,c6,λm f d z=> ?_⟩
     obtain⟨v,z1,z2⟩:=c7 m f d z;refine⟨v,z1, ?_⟩;cases d with
     | tv t=>exact z2
     | tl us' =>
      obtain⟨l,xs,p1,p2,p3,p4,p5,p6⟩:=z2;refine⟨l,xs,p1,p2,p3,p4,p5,λj' us2 hj' => ?_,by show iF _ (O l)=_;rw[p6];rfl⟩
      rcases ZK hj' with ⟨_,e⟩ | ⟨_,_,_,_,e⟩ | e | ⟨e,_⟩ <;> cases e
def PoO (cl:Nat->Value)(k:Nat)(B H0:Hp)(x:Addr)(r:R (T×List (Str×Fd)))(Q:VK)(E:XK):Prop:=match r with
 | .ok (t,fs')=>∀v H' B',zv H0 H' ->zv B B' ->zv B' H' ->(∀b o,H0 b=some o->B' b=B b)->X5 cl k B' H0 H' x fs' ->Rep B' v t->Q v H'
 | .ex c=>∀d H',zv H0 H' ->zv B H' ->E (cl c) d H'
 | .bad=>False
def spM (cl:Nat->Value)(k n:Nat)(g:List (Str×Fd)->List T->R (T×List (Str×Fd))):Sp:=λvs H Q E=>∃(x:Addr) (vs' :List V) (ts:List T) (B H0:Hp) (fs:List (Str×Fd)),vs= .ref x :: vs' /\ts.length=n/\zv B H0/\zv H0 H/\X5 cl k B H0 H x fs/\zE B vs' ts/\PoO cl k B H0 x (g fs ts) Q E
def PoR (Y:Fx)(B:Hp)(r:R (T×En))(D:yq):Prop:=match r with
 | .ok (t,ρ')=>(∀v σ' H' B',zv B B' ->SI Y B' ρ' σ' H' ->Rep B' v t->D.rt v H')/\(t= .non->∀σ' H' B',zv B B' ->SI Y B' ρ' σ' H' ->D.nx σ' H')
 | .ex c=>XP Y B c
 | .bad=>False
theorem XP.up (s:zv B B')(h:XP Y B c):XP Y B' c:=λd H' a b=>h d H' a (s.trans b)
theorem PoR.up {r:R (T×En)}{D:yq}(s:zv B B')(h:PoR Y B r D):PoR Y B' r D:=by
 unfold PoR at h ⊢;split
 ·exact⟨λv σ' H' B2 a=>h.1 v σ' H' B2 (s.trans a),λe σ' H' B2 a=>h.2 e σ' H' B2 (s.trans a)⟩
 ·exact XP.up s h
 ·exact h
structure vp (X:Cx) (Y:Fx) (body:List Stmt) (f:En->R (T×En)):Prop where
 mk ::
 go:∀ρ,PSs X body λD σ H=>∃B,SI Y B ρ σ H/\PoR Y B (f ρ) D
def PoM (Y:Fx)(B:Hp)(r:R (T×En))(σ:Sg)(Q:VK):Prop:=match r with
 | .ok (t,ρ')=>∀v H' B',zv B B' ->SI Y B' ρ' σ H' ->Rep B' v t->Q v H'
 | .ex c=>XP Y B c
 | .bad=>False
structure uk (X:Cx) (Y:Fx) (e:Expr) (f:En->R (T×En)):Prop where
 mk ::
 go:∀ρ,PE X e λσ H Q=>∃B,SI Y B ρ σ H/\PoM Y B (f ρ) σ Q
section
variable {X:Cx}{Y:Fx}{e:Expr}{st:Stmt}{rest:List Stmt}{pos:Pos}
def XU (f:En->R T):En->R (T×En):=λρ=>(f ρ).bind λt=> .ok (t,ρ)
theorem KS (h:Snd X Y e f):uk X Y e (XU f):= .mk λρ=>PE.imp (h ρ) λσ H Q ⟨B,I,q⟩=>⟨B,I,by
 unfold XU at q;revert q;cases f ρ with
 | ok t=>exact λq v H' s r=>q v H' _ (zO.ge I.sB s) (I.grow s) r
 | ex c=>exact λq=>q
 | bad=>exact λq=>q⟩
theorem z1n (h:uk X Y e f):vp X Y [.Return (some e) pos] f:= .mk λρ=>PSs.imp (Jr (Wc (h.go ρ))) λD σ H ⟨B,I,q⟩=>⟨B,I,by
 unfold PoR at q;unfold PoM;split at q
 ·exact λv H' B' a b c=>q.1 v σ H' B' a b c
 ·exact q
 ·exact q⟩
def z1o:En->R (T×En):=λρ=> .ok (.non,ρ)
theorem z1p:vp X Y [] z1o:= .mk λρ=>PSs.imp yu λD σ H ⟨B,I,q⟩=>q.2 rfl σ H B (zv.refl _) I
def ZH (f:En->RS)(g:En->R (T×En)):En->R (T×En):=λρ=>match f ρ with
 | .nx ρ' =>g ρ'
 | .ex c=> .ex c
 | _=> .bad
theorem KT {f:En->RS}{g:En->R (T×En)}(h1:jT X Y st f)(h2:vp X Y rest g):vp X Y (st :: rest) (ZH f g):= .mk λρ=>by
 refine PSs.imp (uG (u:=λD σ H=>∃ρ' B,SI Y B ρ' σ H/\PoR Y B (g ρ') D) (h1 ρ) ?_) ?_
 ·intro pins s σ H D I ⟨ρ',q⟩;exact h2.go ρ' _ s σ H D I q
 ·intro D σ H ⟨B,I,q⟩;refine⟨B,I, ?_⟩;unfold ZH at q;revert q;cases f ρ with
  | nx ρ' =>exact λq σ' H' B' s I' =>⟨ρ',B',I',q.up s⟩
  | ex c=>exact λq=>q
  | rt t=>exact λq=>q.elim
  | rf t=>exact λq=>q.elim
  | bk ρ=>exact λq=>q.elim
  | ct ρ=>exact λq=>q.elim
  | bad=>exact λq=>q.elim
end
def JU (k j:Nat)(r:R (T×En)):R (T×List (Str×Fd)):=r.bind λp=>match p.2[j]? with
 | some (.st ((k',fs) :: _))=>if k' =k then .ok (p.1,fs) else .bad
 | _=> .bad
section
variable {P:Program}{w:World}{K:a8}{mg:Str->Option Value}{base:Heap}
theorem YH {cl:Nat->Value}{x qual:Str}{st:Stmt}{f:Addr}{fd:FuncData}{N ps:List Str}{k n j kr:Nat}{fb:En->R (T×En)}(F:Fun K x qual st f fd)(S:Zx N ps (zq st))(hn:ps.length=n+1)(hN:N.length=j+1)(hj:n+1<=j)
  (hb:∀(cdv:Value) (A:Around) (outer:List Env) (s:Shared) (H:Hp) (E:XK) (Y:Fx),Y.cl=cl->Y.E=E->ZA kr (A.deeper (envOfC qual (zq st) s.heap.objs.size f cdv))->
   vp (jM (CX1 P w) P w K mg base N qual (zq st) f cdv A outer s H E) Y (zH st) fb):j9 P w K mg base (CX1 P w) (kr+1) f fd ps (spM cl k n λfs ts=>JU k j (fb (enM k j fs ts))):=by
 refine Fun.okX F S (λvs H Q E z=> ?_) λcdv A outer s H vs Q E hr z=> ?_
 ·obtain⟨x,vs',ts,B,H0,fs,e,hl,_,_,_,r,_⟩:=z;rw[e,af,r.length,hl,hn]
 obtain⟨x,vs',ts,B,H0,fs,e,hl,sB,sH,ob,r,q⟩:=z;subst e;refine⟨_,(hb cdv A _ s H E _ rfl rfl hr).go _,B,SI.startM hN (by omega) sB sH ob r, ?_⟩
 have q:PoO cl k B H0 x (JU k j _) Q E:=q;revert q;cases fb _ with
 | bad=>exact λq=>q
 | ex c=>exact λq=>q
 | ok p=>
  obtain⟨t,ρ'⟩:=p;show PoO cl k B H0 x (match ρ'[j]? with | some (.st ((k',fs) :: _))=>(if k' =k then R.ok _ else R.bad) | _=>R.bad) Q E->_
  split
  ·rename_i k' fs' os ej;split
   ·rename_i hk;subst hk;intro q;have key:∀v σ' H' B',zv B B' ->SI ⟨B,H0,E,cl,[x]⟩ B' ρ' σ' H' ->Rep B' v t->Q v H' :=λv σ' H' B' s1 I' rv=>q v H' B' I'.sH s1 I'.sB (λb o h=>I'.old b o h) (I'.obAt rfl ej) rv;exact⟨key,λet σ' H' B' s1 I' =>key _ σ' H' B' s1 I' (by rw[et];exact .non)⟩
   ·exact λq=>q.elim
  ·exact λq=>q.elim
end
def obD (k i j:Nat)(ρ:En):Option (Nat×List (Str×Fd)×List Ob):=match ρ[i]?,ρ[j]? with
 | some (.ob k' n),some (.st os)=>match os[n]? with
  | some (k2,fs)=>if k' =k/\k2=k then some (n,fs,os) else none
  | none=>none
 | _,_=>none
theorem JG {k i j:Nat}{ρ:En}{n:Nat}{fs:List (Str×Fd)}{os:List Ob}(h:obD k i j ρ=some (n,fs,os)):ρ[i]? =some (.ob k n)/\ρ[j]? =some (.st os)/\os[n]? =some (k,fs):=by
 unfold obD at h;split at h
 ·rename_i k' n' os' e1 e2;split at h
  ·rename_i k2 fs' e3;split at h
   ·rename_i hk;obtain⟨rfl,rfl⟩:=hk;cases h;exact⟨e1,e2,e3⟩
   ·cases h
  ·cases h
 ·cases h
theorem ul {f:Str}{d:Fd}:∀{fs:List (Str×Fd)} {vs:List (Str×V)},(∀(m:Nat) (g:Str) (e:Fd),fs[m]? =some (g,e)->∃v,vs[m]? =some (g,v))->fs.lookup f=some d->∃(m:Nat) (v:V),fs[m]? =some (f,d)/\vs[m]? =some (f,v)/\vs.lookup f=some v
 | [],_,_,h=>by simp at h
 | (g,e) :: fs,vs,al,h=>by
  obtain⟨v,hv⟩:=al 0 g e rfl;cases vs with
  | nil=>cases hv
  | cons w vs=>
   cases hv;rw[aJ]at h
   by_cases hx:f=g
   ·subst hx;rw[beq_self_eq_true]at h;cases h;exact⟨0,v,rfl,rfl,by rw[aJ,beq_self_eq_true]⟩
   ·rw[beq_eq_false_iff_ne.mpr hx]at h;obtain⟨m,v',a,b,c⟩:=ul (λm=>al (m+1)) h;exact⟨m+1,v',a,b,by rw[aJ,beq_eq_false_iff_ne.mpr hx];exact c⟩
theorem um {f:Str}:∀{fs:List (Str×Fd)} {vs:List (Str×V)},vs.length=fs.length->(∀(m:Nat) (g:Str) (e:Fd),fs[m]? =some (g,e)->∃v,vs[m]? =some (g,v))->fs.lookup f=none->vs.lookup f=none
 | [],vs,l,_,h=>by
  cases vs with
  | nil=>rfl
  | cons _ _=>cases l
 | (g,e) :: fs,vs,l,al,h=>by
  obtain⟨v,hv⟩:=al 0 g e rfl;cases vs with
  | nil=>cases hv
  | cons w vs=>
   cases hv;rw[aJ]at h ⊢
   by_cases hx:f=g
   ·subst hx;rw[beq_self_eq_true]at h;cases h
   ·rw[beq_eq_false_iff_ne.mpr hx]at h ⊢;exact um (by simpa using l) (λm=>al (m+1)) h
section
theorem SI.look (I:SI Y B ρ σ H){k i j n:Nat}{fs:List (Str×Fd)}{os:List Ob}{f:Str}{d:Fd}(h:obD k i j ρ=some (n,fs,os))(hl:fs.lookup f=some d):∃a C dx vs v,∃m:Nat,∃as O,StI Y B ρ σ H as O/\σ[i]? =some (some (V.ref a))/\Y.cl k= .ref C/\H a=some (.ins C dx vs)/\vs.lookup f=some v/\fs[m]? =some (f,d)/\vs[m]? =some (f,v)/\FdR Y B ρ σ H (λl=>O l=some (n,m+1)) v d:=by
 obtain⟨h1,h2,h3⟩:=JG h;obtain⟨as,O,s⟩:=I.st;obtain⟨a,C,dx,vs,e1,e2,e3,e4,e5,e6,e7,e8⟩:=s.st j os h2 n k fs h3;obtain⟨a',C',dx',vs',g1,g2,_⟩:=s.ob i k n h1;rw[e1]at g1;cases g1;obtain⟨m,v,z1,z2,z3⟩:=ul (λm g e he=>let ⟨v,z,_⟩:=e8 m g e he;⟨v,z⟩) hl;obtain⟨v',y1,y2⟩:=e8 m f d z1;rw[z2]at y1;cases y1;exact⟨a,C,dx,vs,v,m,as,O,s,g2,e2,e3,z3,z1,z2,y2⟩
def fldE (k i j:Nat)(f:Str):En->R T:=λρ=>match obD k i j ρ with
 | some (_,fs,_)=>match fs.lookup f with
  | some (.tv t)=> .ok t
  | _=> .bad
 | none=> .bad
def XV (k i j:Nat)(f:Str):En->R T:=λρ=>match obD k i j ρ with
 | some (_,fs,_)=>match fs.lookup f with
  | some (.tl ts)=> .ok (.lst ts)
  | _=> .bad
 | none=> .bad
theorem KU {k i j:Nat}{x f:Str}{px pos:Pos}{C:Addr}(hv:PE X (.Name x px) (Jh i))(hc:Y.cl k= .ref C)(c:L2.Cls X.K C)(n:L2.NoAttr X.K C f)(hb:attributeBase (.Name x px) f X.env (eval (.Name x px) X.env)=eval (.Name x px) X.env:=by rfl):j6 X Y (.Attribute (.Name x px) f pos) (XV k i j f):= .mk λρ=>PE.imp (Jv hv hb) λσ H Q ⟨B,I,q⟩=>by
 unfold XV at q;split at q
 ·rename_i n' fs os e;split at q
  ·rename_i ts el;obtain⟨a,C',dx,vs,v,m,as,O,s,e1,e2,e3,e4,e5,e6,l,xs,p1,p2,p3,p4,p5,_⟩:=I.look e el;rw[hc]at e2;cases e2;subst p1;exact⟨.ref a,e1,a,C,dx,vs,_,rfl,e3,c,n,e4,q _ H (zv.refl _) (.lst p4 (p5.mono I.sB))⟩
  ·exact q.elim
 ·exact q.elim
theorem SI.chgF (I:SI Y B ρ σ H){k i j n m:Nat}{fs:List (Str×Fd)}{os:List Ob}{f:Str}{ts us:List T}{ys:List V}{a C dx l:Addr}{vs:List (Str×V)}(h:obD k i j ρ=some (n,fs,os))(hm:fs[m]? =some (f,.tl ts))(ha:σ[i]? =some (some (V.ref a)))(hH:H a=some (.ins C dx vs))(hl:vs[m]? =some (f,.ref l))(r:zE B ys us):
  SI Y B (ρ.set j (.st (os.set n (k,fs.set m (f,.tl us))))) σ (upd H l (.lst ys)):=by
 obtain⟨h1,h2,h3⟩:=JG h;obtain⟨as,O,s⟩:=I.st;obtain⟨a1,C1,dx1,vs1,e1,e2,e3,e4,e5,e6,e7,e8⟩:=s.st j os h2 n k fs h3;obtain⟨a',C',dx',vs',g1,g2,_⟩:=s.ob i k n h1;rw[e1]at g1;cases g1;rw[ha]at g2;cases g2;rw[hH]at e3;cases e3;obtain⟨v,z1,z2⟩:=e8 m f _ hm;rw[hl]at z1;cases z1;obtain⟨l',xs,p1,b0,h0,hh,p5,ok,ol⟩:=z2;cases p1;have nb:∀b o,B b=some o->b ≠ l:=λb o h z=>by subst z;rw[b0]at h;cases h
 have n0:∀b o,Y.H0 b=some o->b ≠ l:=λb o h z=>by subst z;rw[h0]at h;cases h
 have own:∀(j' :Nat) (ws:List T),(ρ.set j (.st (os.set n (k,fs.set m (f,.tl us)))))[j']? =some (Sl.ow ws)->ρ[j']? =some _:=λj' ws hw=>by
  rcases zr hw with ⟨_,z⟩ | ⟨_,z⟩
  ·cases z
  ·exact z
 have ok' :∀b,u9 ρ σ b->u9 _ σ b:=λb hb j' ws hw=>hb j' ws (own j' ws hw);refine⟨I.s0,λb o h=>by rw[zu (n0 b o h)];exact I.sH b o h,λb o h=>by rw[zu (nb b o h)];exact I.sB b o h,I.old,by rw[aI];exact I.len,λj' u h=> ?_,λj' ws h=> ?_,λj' c h=> ?_,as,O,s.pre,λi' os' h=> ?_,λi1 i2 os1 os2 q1 q2=> ?_,λi' k' n' h=> ?_,λi' k' fs0 h=> ?_,λi' os' h n' k' fs' e=> ?_⟩
 ·rcases zr h with ⟨_,z⟩ | ⟨_,z⟩
  ·cases z
  ·exact I.vl j' u z
 ·have z:=own j' ws h;obtain⟨b,xs',y1,y2,y3,y4,y5,y6⟩:=I.ow j' ws z;have hne:b ≠ l:=λw=>by subst w;exact ok j' ws z y1
  exact⟨b,xs',y1,y2,y3,by rw[zu hne];exact y4,y5,λj2 vs2 hj hw=>y6 j2 vs2 hj (own j2 vs2 hw)⟩
 ·rcases zr h with ⟨_,z⟩ | ⟨_,z⟩
  ·cases z
  ·exact I.xc j' c z
 ·rcases zr h with ⟨_,z⟩ | ⟨_,z⟩
  ·cases z;rw[aI];exact s.len j os h2
  ·exact s.len _ _ z
 ·have one:∀i1 os1,(ρ.set j (.st (os.set n (k,fs.set m (f,.tl us)))))[i1]? =some _->i1=j:=λi1 os1 q1=>by
   rcases zr q1 with ⟨e,_⟩ | ⟨_,z⟩
   ·exact e
   ·exact s.one i1 j os1 os z h2
  rw[one i1 os1 q1,one i2 os2 q2]
 ·rcases zr h with ⟨_,z⟩ | ⟨_,z⟩
  ·cases z
  ·obtain⟨b,C2,dx2,vs2,y1,y2,y3,y4,y5,y6⟩:=s.ob i' k' n' z;have hne:b ≠ l:=λw=>by subst w;rw[hh]at y4;cases y4
   exact⟨b,C2,dx2,vs2,y1,y2,y3,by rw[zu hne];exact y4,y5,y6⟩
 ·rcases zr h with ⟨_,z⟩ | ⟨_,z⟩
  ·cases z
  ·exact s.oc i' k' _ z
 ·rcases zr h with ⟨rfl,z⟩ | ⟨hne,z⟩
  ·cases z;rcases zr e with ⟨rfl,z⟩ | ⟨hn,z⟩
   ·cases z;have hne:a ≠ l:=λw=>by subst w;rw[hh]at hH;cases hH
    refine⟨a,C,dx,vs,e1,e2,by rw[zu hne];exact hH,e4,e5,e6,⟨by rw[aI];exact e7.1,e7.2⟩,λm' f' d' z=> ?_⟩
    rcases zr z with ⟨rfl,z'⟩ | ⟨hm',z'⟩
    ·cases z';exact⟨.ref l,hl,l,ys,rfl,b0,h0,zx,r,ok' l ok,ol⟩
    ·obtain⟨v',y1,y2⟩:=e8 m' f' d' z';refine⟨v',y1, ?_⟩;cases d' with
     | tv t=>exact y2
     | tl ws=>
      obtain⟨l2,xs2,w1,w2,w3,w4,w5,w6,w7⟩:=y2;have hne:l2 ≠ l:=λw=>by
       subst w;rw[ol]at w7;injection w7 with w7;injection w7 with _ w7;exact hm' (by omega)
      exact⟨l2,xs2,w1,w2,w3,by rw[zu hne];exact w4,w5,ok' l2 w6,w7⟩
   ·obtain⟨b,C2,dx2,vs2,y1,y2,y3,y4,y5,y6,y7,y8⟩:=s.st i' os h2 n' k' fs' z;have hne:b ≠ l:=λw=>by subst w;rw[hh]at y3;cases y3
    refine⟨b,C2,dx2,vs2,y1,y2,by rw[zu hne];exact y3,y4,y5,y6,y7,λm' f' d' z=> ?_⟩
    obtain⟨v',x1,x2⟩:=y8 m' f' d' z;refine⟨v',x1, ?_⟩;cases d' with
    | tv t=>exact x2
    | tl ws=>
     obtain⟨l2,xs2,w1,w2,w3,w4,w5,w6,w7⟩:=x2;have hne:l2 ≠ l:=λw=>by
      subst w;rw[ol]at w7;injection w7 with w7;injection w7 with w7 _;exact hn w7.symm
     exact⟨l2,xs2,w1,w2,w3,by rw[zu hne];exact w4,w5,ok' l2 w6,w7⟩
  ·exact absurd (s.one i' j os' os z h2) hne
end
noncomputable def u3 (f:Str)(d:Fd):List (Str×Fd)->List (Str×Fd)
 | []=>[(f,d)]
 | (g,x) :: r=>if g=f then (g,d) :: r else (g,x) :: u3 f d r
noncomputable def Qm (f:Str):List (Str×Fd)->Nat
 | []=>0
 | (g,_) :: r=>if g=f then 0 else Qm f r+1
theorem U0 {f:Str}{d:Fd}{v:V}:∀{fs:List (Str×Fd)} {vs:List (Str×V)},vs.length=fs.length->(∀(m:Nat) (g:Str) (e:Fd),fs[m]? =some (g,e)->∃v,vs[m]? =some (g,v))->(L2.putF f v vs).length=(u3 f d fs).length
 | [],vs,l,_=>by
  cases vs with
  | nil=>rfl
  | cons _ _=>cases l
 | (g,e) :: fs,vs,l,al=>by
  obtain⟨w,hw⟩:=al 0 g e rfl;cases vs with
  | nil=>cases hw
  | cons w vs=>
   cases hw;unfold L2.putF u3;split
   ·simpa using l
   ·rw[af,af,U0 (by simpa using l) (λm=>al (m+1))]
theorem U1 {f:Str}{d:Fd}{v:V}:∀{fs:List (Str×Fd)} {vs:List (Str×V)},vs.length=fs.length->(∀(m:Nat) (g:Str) (e:Fd),fs[m]? =some (g,e)->∃v,vs[m]? =some (g,v))->∀{m:Nat} {g:Str} {e:Fd},(u3 f d fs)[m]? =some (g,e)->
  (m=Qm f fs/\g=f/\e=d/\(L2.putF f v vs)[m]? =some (f,v))\/(m ≠ Qm f fs/\fs[m]? =some (g,e)/\∀v',vs[m]? =some (g,v')->(L2.putF f v vs)[m]? =some (g,v'))
 | [],vs,l,_,m,g,e,h=>by
  cases vs with
  | cons _ _=>cases l
  | nil=>
   cases m with
   | zero=>cases h;exact .inl ⟨rfl,rfl,rfl,rfl⟩
   | succ m=>cases h
 | (g0,e0) :: fs,vs,l,al,m,g,e,h=>by
  obtain⟨w,hw⟩:=al 0 g0 e0 rfl;cases vs with
  | nil=>cases hw
  | cons w vs=>
   cases hw;unfold u3 at h;unfold Qm L2.putF
   by_cases hg:g0=f
   ·rw[if_pos hg]at h ⊢;rw[if_pos hg];cases m with
    | zero=>cases h;exact .inl ⟨rfl,hg,rfl,by rw[hg];rfl⟩
    | succ m=>exact .inr ⟨ib _,h,λv' hv=>hv⟩
   ·rw[if_neg hg]at h ⊢;rw[if_neg hg];cases m with
    | zero=>cases h;exact .inr ⟨(ib _).symm,rfl,λv' hv=>hv⟩
    | succ m=>
     rcases U1 (by simpa using l) (λm=>al (m+1)) h with ⟨a,b,c,d⟩ | ⟨a,b,c⟩
     ·exact .inl ⟨by rw[a],b,c,d⟩
     ·exact .inr ⟨λz=>a (Nat.succ.inj z),b,c⟩
theorem YI (hf:f∈V3)(h:InC vs):InC (L2.putF f v vs):=λg hg=>by
 rw[L2.lookup_putF,if_neg λz=>hg (by rw[z];exact hf)];exact h g hg
section
def FdN (B H H1:Hp)(v:V):Fd->Prop
 | .tv t=>H1=H/\Rep B v t
 | .tl ts=>∃p xs,v= .ref p/\H p=none/\H1=upd H p (.lst xs)/\zE B xs ts
theorem SI.putF (I:SI Y B ρ σ H){k i j n:Nat}{fs:List (Str×Fd)}{os:List Ob}{f:Str}{d:Fd}{v:V}{a C dx:Addr}{vs:List (Str×V)}{H1:Hp}(hf:f∈V3)(h:obD k i j ρ=some (n,fs,os))(ha:σ[i]? =some (some (V.ref a)))(hH:H a=some (.ins C dx vs))(hd:FdN B H H1 v d):
  SI Y B (ρ.set j (.st (os.set n (k,u3 f d fs)))) σ (upd H1 a (.ins C dx (L2.putF f v vs))):=by
 obtain⟨h1,h2,h3⟩:=JG h;obtain⟨as,O,s⟩:=I.st;obtain⟨a1,C1,dx1,vs1,e1,e2,e3,e4,e5,e6,e7,e8⟩:=s.st j os h2 n k fs h3;obtain⟨a',C',dx',vs',g1,g2,_⟩:=s.ob i k n h1;rw[e1]at g1;cases g1;rw[ha]at g2;cases g2;rw[hH]at e3;cases e3;have al:∀(m:Nat) (g:Str) (e:Fd),fs[m]? =some _->∃v,vs[m]? =some _:=λm g e he=>let ⟨v,z,_⟩:=e8 m g e he;⟨v,z⟩;have sH1:zv H H1:=by
  cases d with
  | tv t=>rw[hd.1];exact zv.refl _
  | tl ts=>obtain⟨p,xs,_,hp,e,_⟩:=hd;rw[e];exact zv.new hp _
 have keep:∀b o,H b=some o->b ≠ a->(upd H1 a (.ins C dx (L2.putF f v vs))) b=some o:=λb o hb hne=>by rw[zu hne];exact sH1 b o hb
 have nb:∀b o,B b=some o->b ≠ a:=λb o h z=>by subst z;rw[e4]at h;cases h
 have n0:∀b o,Y.H0 b=some o->b ≠ a:=λb o h z=>by subst z;rw[e5]at h;cases h
 have own:∀(j' :Nat) (ws:List T),(ρ.set j (.st (os.set n (k,u3 f d fs))))[j']? =some (Sl.ow ws)->ρ[j']? =some _:=λj' ws hw=>by
  rcases zr hw with ⟨_,z⟩ | ⟨_,z⟩
  ·cases z
  ·exact z
 have ok' :∀b,u9 ρ σ b->u9 _ σ b:=λb hb j' ws hw=>hb j' ws (own j' ws hw);have lst_ne:∀{b:Addr} {xs:List V},H b=some (.lst xs)->b ≠ a:=λhb z=>by subst z;rw[hH]at hb;cases hb
 obtain⟨O',hO1,hO2⟩:∃O' :Addr->Option _,(∀b o,H b=some o->O' b=O b)/\∀b,v= .ref b->H b=none->O' b=some _:=by
  classical
  refine⟨λb=>if v= .ref b/\H b=none then some (n,Qm f fs+1) else O b, ?_, ?_⟩
  ·intro b o hb;exact if_neg λz=>by rw[hb]at z;cases z.2
  ·intro b z1 z2;exact if_pos ⟨z1,z2⟩
 refine⟨I.s0,λb o h=>keep b o (I.sH b o h) (n0 b o h),λb o h=>keep b o (I.sB b o h) (nb b o h),I.old,by rw[aI];exact I.len,λj' u h=> ?_,λj' ws h=> ?_,λj' c h=> ?_,as,O',s.pre,λi' os' h=> ?_,λi1 i2 os1 os2 q1 q2=> ?_,λi' k' n' h=> ?_,λi' k' fs0 h=> ?_,λi' os' h n' k' fs' e=> ?_⟩
 ·rcases zr h with ⟨_,z⟩ | ⟨_,z⟩
  ·cases z
  ·exact I.vl j' u z
 ·have z:=own j' ws h;obtain⟨b,xs',y1,y2,y3,y4,y5,y6⟩:=I.ow j' ws z;exact⟨b,xs',y1,y2,y3,keep b _ y4 (lst_ne y4),y5,λj2 vs2 hj hw=>y6 j2 vs2 hj (own j2 vs2 hw)⟩
 ·rcases zr h with ⟨_,z⟩ | ⟨_,z⟩
  ·cases z
  ·exact I.xc j' c z
 ·rcases zr h with ⟨_,z⟩ | ⟨_,z⟩
  ·cases z;rw[aI];exact s.len j os h2
  ·exact s.len _ _ z
 ·have one:∀i1 os1,(ρ.set j (.st (os.set n (k,u3 f d fs))))[i1]? =some _->i1=j:=λi1 os1 q1=>by
   rcases zr q1 with ⟨e,_⟩ | ⟨_,z⟩
   ·exact e
   ·exact s.one i1 j os1 os z h2
  rw[one i1 os1 q1,one i2 os2 q2]
 ·rcases zr h with ⟨_,z⟩ | ⟨_,z⟩
  ·cases z
  ·obtain⟨b,C2,dx2,vs2,y1,y2,y3,y4,y5,y6⟩:=s.ob i' k' n' z
   by_cases hb:b=a
   ·subst hb;rw[hH]at y4;cases y4;exact⟨b,C,dx,_,y1,y2,y3,zx,y5,y6.1,YI hf y6.2⟩
   ·exact⟨b,C2,dx2,vs2,y1,y2,y3,keep b _ y4 hb,y5,y6⟩
 ·rcases zr h with ⟨_,z⟩ | ⟨_,z⟩
  ·cases z
  ·exact s.oc i' k' _ z
 ·rcases zr h with ⟨rfl,z⟩ | ⟨hne,z⟩
  ·cases z;have old:∀{n' m' :Nat} {v' :V} {d' :Fd},FdR Y B ρ σ H (λl=>O l=some (n',m' +1)) v' d' ->FdR Y B _ σ _ (λl=>O' l=some _) v' d' :=λ{n' m' v' d'} y2=>by
    cases d' with
    | tv t=>exact y2
    | tl ws=>
     obtain⟨l2,xs2,w1,w2,w3,w4,w5,w6,w7⟩:=y2;exact⟨l2,xs2,w1,w2,w3,keep l2 _ w4 (lst_ne w4),w5,ok' l2 w6,by show O' l2=_;rw[hO1 l2 _ w4];exact w7⟩
   rcases zr e with ⟨rfl,z⟩ | ⟨hn,z⟩
   ·cases z;refine⟨a,C,dx,_,e1,e2,zx,e4,e5,by rw[hO1 a _ hH];exact e6,⟨U0 e7.1 al,YI hf e7.2⟩,λm' f' d' z=> ?_⟩
    rcases U1 e7.1 al z with ⟨q1,q2,q3,q4⟩ | ⟨q1,q2,q3⟩
    ·subst q2 q3;refine⟨v,q4, ?_⟩;cases d' with
     | tv t=>exact hd.2
     | tl ts=>
      obtain⟨p,xs,w1,w2,w3,w4⟩:=hd;have hpa:p ≠ a:=λz=>by rw[z,hH]at w2;cases w2
      refine⟨p,xs,w1,I.sB.free w2,I.sH.free w2,by rw[zu hpa,w3];exact zx,w4,λj' ws hw=> ?_,by show O' p=_;rw[hO2 p w1 w2,q1]⟩
      obtain⟨b,xs',y1,y2,y3,y4,_⟩:=I.ow j' ws (own j' ws hw);rw[y1];intro z;injection z with z;injection z with z;injection z with z;rw[z,w2]at y4;cases y4
    ·obtain⟨v',y1,y2⟩:=e8 m' f' d' q2;exact⟨v',q3 v' y1,old y2⟩
   ·obtain⟨b,C2,dx2,vs2,y1,y2,y3,y4,y5,y6,y7,y8⟩:=s.st i' os h2 n' k' fs' z;have hne:b ≠ a:=λw=>by
     subst w;rw[e6]at y6;injection y6 with y6;injection y6 with y6 _;exact hn y6.symm
    refine⟨b,C2,dx2,vs2,y1,y2,keep b _ y3 hne,y4,y5,by rw[hO1 b _ y3];exact y6,y7,λm' f' d' z=> ?_⟩
    obtain⟨v',x1,x2⟩:=y8 m' f' d' z;exact⟨v',x1,old x2⟩
  ·exact absurd (s.one i' j os' os z h2) hne
end
theorem wS {f:Str}{d:Fd}:∀{fs:List (Str×Fd)},fs.lookup f=some d->fs[Qm f fs]? =some (f,d)/\∀d',u3 f d' fs=fs.set (Qm f fs) (f,d')
 | [],h=>by simp at h
 | (g,e) :: fs,h=>by
  rw[aJ]at h;unfold Qm u3
  by_cases hx:g=f
  ·subst hx;rw[beq_self_eq_true]at h;cases h;rw[if_pos rfl];exact⟨rfl,λd' =>by rw[if_pos rfl];rfl⟩
  ·rw[beq_eq_false_iff_ne.mpr (bi hx)]at h;obtain⟨a,b⟩:=wS h;rw[if_neg hx];exact⟨a,λd' =>by rw[if_neg hx,b];rfl⟩
theorem YJ {f:Str}{v:V}:∀{fs:List (Str×Fd)} {vs:List (Str×V)},(∀(m:Nat) (g:Str) (e:Fd),fs[m]? =some (g,e)->∃v,vs[m]? =some (g,v))->(∃d,fs.lookup f=some d)->vs.lookup f=some v->vs[Qm f fs]? =some (f,v)
 | [],_,_,h,_=>by simp at h
 | (g,e) :: fs,vs,al,h,hv=>by
  obtain⟨w,hw⟩:=al 0 g e rfl;cases vs with
  | nil=>cases hw
  | cons w vs=>
   cases hw;rw[aJ]at hv;obtain⟨d,h⟩:=h;rw[aJ]at h;unfold Qm
   by_cases hx:g=f
   ·subst hx;rw[beq_self_eq_true]at hv;cases hv;rw[if_pos rfl];rfl
   ·rw[beq_eq_false_iff_ne.mpr (bi hx)]at hv h;rw[if_neg hx];exact YJ (λm=>al (m+1)) ⟨d,h⟩ hv
section
theorem SI.obA (I:SI Y B ρ σ H){k i j n:Nat}{fs:List (Str×Fd)}{os:List Ob}(h:obD k i j ρ=some (n,fs,os)):∃a C dx vs,σ[i]? =some (some (V.ref a))/\Y.cl k= .ref C/\H a=some (.ins C dx vs)/\vs.length=fs.length/\∀(m:Nat) (g:Str) (e:Fd),fs[m]? =some (g,e)->∃v,vs[m]? =some (g,v):=by
 obtain⟨h1,h2,h3⟩:=JG h;obtain⟨as,O,s⟩:=I.st;obtain⟨a,C,dx,vs,e1,e2,e3,e4,e5,e6,e7,e8⟩:=s.st j os h2 n k fs h3;obtain⟨a',C',dx',vs',g1,g2,_⟩:=s.ob i k n h1;rw[e1]at g1;cases g1;exact⟨a,C,dx,vs,g2,e2,e3,e7.1,λm g e he=>let ⟨v,z,_⟩:=e8 m g e he;⟨v,z⟩⟩
def stF (k i j:Nat)(f:Str)(fa:En->R T):En->RS:=λρ=>(fa ρ).s λt=>match obD k i j ρ with
 | some (n,fs,os)=>if fs.length < 1000 then .nx (ρ.set j (.st (os.set n (k,u3 f (.tv t) fs)))) else .bad
 | none=> .bad
theorem z1q {k i j:Nat}{x f:Str}{px:Pos}{C:Addr}(hv:PE X (.Name x px) (Jh i))(hc:Y.cl k= .ref C)(c:L2.Cls X.K C)(n:L2.NoAttr X.K C f)(ha:Snd X Y a fa)(hs:swapsWith a (some (.Attribute (.Name x px) f p')) pos.line X.env=pure false:=by rfl)(hf:f∈V3:=by decide):jT X Y (.Assign [.Attribute (.Name x px) f p'] a pos) (stF k i j f fa):= .mk λρ=>
 PS.imp (vZ hv (ha ρ) hs) λD σ H ⟨B,I,q⟩=>jE I q λt v H1 _ s1 r1 I1 q1=>by
  split at q1
  ·rename_i n' fs os e;split at q1
   ·rename_i hl;obtain⟨a,C',dx,vs,e1,e2,e3,e4,e5⟩:=I1.obA e;rw[hc]at e2;cases e2;exact⟨.ref a,e1,a,C,dx,vs,rfl,e3,c,n,by rw[e4];exact hl,q1 _ _ _ (zv.refl _) (I1.putF hf e e1 e3 ⟨rfl,r1⟩)⟩
   ·exact q1.elim
  ·exact q1.elim
def Qn (k i j:Nat)(f:Str)(ga:En->R (List T)):En->RS:=λρ=>(ga ρ).s λts=>match obD k i j ρ with
 | some (n,fs,os)=>if fs.length < 1000/\ts.length<=bnd then .nx (ρ.set j (.st (os.set n (k,u3 f (.tl ts) fs)))) else .bad
 | none=> .bad
theorem KW {k i j:Nat}{x f:Str}{px:Pos}{C:Addr}{es:List Expr}{ga:En->R (List T)}(hv:PE X (.Name x px) (Jh i))(hc:Y.cl k= .ref C)(c:L2.Cls X.K C)(n:L2.NoAttr X.K C f)(ha:wE X Y es ga)(hs:swapsWith (.List es p) (some (.Attribute (.Name x px) f p')) pos.line X.env=pure false:=by rfl)(hf:f∈V3:=by decide):jT X Y (.Assign [.Attribute (.Name x px) f p'] (.List es p) pos) (Qn k i j f ga):= .mk λρ=>
 PS.imp (vZ hv (yJ (ha ρ)) hs) λD σ H ⟨B,I,q⟩=>jE I q λts vs H1 _ s1 r1 I1 q1=>by
  split at q1
  ·rename_i n' fs os e;split at q1
   ·rename_i hl;obtain⟨a,C',dx,vs',e1,e2,e3,e4,e5⟩:=I1.obA e;rw[hc]at e2;cases e2;refine⟨by rw[r1.length];exact Zs hl.2,λq hq=> ?_⟩
    have hne:a ≠ q:=λz=>by rw[z,hq]at e3;cases e3
    exact⟨.ref a,e1,a,C,dx,vs',rfl,by rw[zu hne];exact e3,c,n,by rw[e4];exact hl.1,q1 _ _ _ (zv.refl _) (I1.putF hf e e1 e3 ⟨q,vs,rfl,hq,rfl,r1⟩)⟩
   ·exact q1.elim
  ·exact q1.elim
def Vp (k i j:Nat)(f:Str)(fa:En->R T):En->RS:=λρ=>match obD k i j ρ with
 | some (n,fs,os)=>match fs.lookup f with
  | some (.tl ts)=>(fa ρ).s λt=>if ts.length < bnd then .nx (ρ.set j (.st (os.set n (k,u3 f (.tl (ts++[t])) fs)))) else .bad
  | _=> .bad
 | none=> .bad
theorem KY {k i j:Nat}{x f:Str}{px pf pa:Pos}{C:Addr}(hv:PE X (.Name x px) (Jh i))(hc:Y.cl k= .ref C)(c:L2.Cls X.K C)(n:L2.NoAttr X.K C f)(ha:Snd X Y a fa)(hbf:attributeBase (.Name x px) f X.env (eval (.Name x px) X.env)=eval (.Name x px) X.env:=by rfl)
  (hb:attributeBase (.Attribute (.Name x px) f pf) "append" X.env (eval (.Attribute (.Name x px) f pf) X.env)=eval (.Attribute (.Name x px) f pf) X.env:=by rfl) (hs:St1 X a:=by exact st1 rfl)
  (hz:(pa.endLine == p.line)=true:=by rfl) (hw:swapsWith (.Call (.Attribute (.Attribute (.Name x px) f pf) "append" pa) [a] [] p) none pos.line X.env=pure false:=by rfl):jT X Y (.Expr (.Call (.Attribute (.Attribute (.Name x px) f pf) "append" pa) [a] [] p) pos) (Vp k i j f fa):= .mk λρ=>by
 have e1:(((((backTo p (starEach [a] X.env)).all λx=> !x.fst) && (backToKw p (keywordEach [] X.env)).all λx=>x.fst.isSome) && decide (([a].length+([]:List Keyword).length+if ([]:List Keyword).isEmpty=true then 0 else 1) < 30))=true):=by rw[hs];rfl
 refine PS.imp (Js (UK bJ dX dY Jx (Jv hv hbf) (zA (ha ρ) zU hs) hb e1 hz hs rfl) hw) λD σ H ⟨B,I,q⟩=> ?_;unfold Vp at q;split at q
 ·rename_i n' fs os e;split at q
  ·rename_i ts el;obtain⟨a',C',dx,vs,v,m,as,O,s,g1,g2,g3,g4,g5,g6,l,xs,p1,b0,h0,hh,rr,_⟩:=I.look e el;rw[hc]at g2;cases g2;subst p1;obtain⟨_,_,_,vs2,y1,_,y3,_,al⟩:=I.obA e;rw[g1]at y1;cases y1;rw[g3]at y3;cases y3;have hi:=YJ al ⟨_,el⟩ g4;obtain⟨j1,j2⟩:=wS el;refine⟨.ref a',g1,a',C,dx,vs,_,rfl,g3,c,n,g4,.inl ⟨rfl,_,SqL.of hh⟩, ?_⟩;refine jE I q λt w H1 _ s1 r1 I1 q1=> ?_;split at q1
   ·rename_i hb;refine⟨l,xs,w,rfl,rfl,s1 _ _ hh,by rw[rr.length];exact V8 hb, ?_⟩
    have:=I1.chgF e j1 g1 (s1 _ _ g3) hi ((rr.mono (zO.ge I.sB s1)).append (.cons r1 .nil));rw[← j2]at this;exact q1 _ _ _ (zv.refl _) this
   ·exact q1.elim
  ·exact q.elim
 ·exact q.elim
end
theorem PoM.up {r:R (T×En)}(s:zv B B')(h:PoM Y B r σ Q):PoM Y B' r σ Q:=by
 unfold PoM at h ⊢;split
 ·exact λv H' B2 a=>h v H' B2 (s.trans a)
 ·exact XP.up s h
 ·exact h
theorem X6 {α β:Type}{rel:Hp->Hp->β->α->Prop}{f:En->R α}{k:α->R (T×En)}{K:β->Hp->Prop}(I:SI Y B ρ σ H)(h:PoM Y B ((f ρ).bind k) σ Q)
  (n:∀a b H1,f ρ= .ok a->zv H H1->rel (zO B H H1) H1 b a->SI Y (zO B H H1) ρ σ H1->PoM Y (zO B H H1) (k a) σ Q->K b H1):tS Y rel f ρ σ H K:=by
 refine⟨B,I, ?_⟩;cases e:f ρ with
 | bad=>rw[e]at h;exact h
 | ex c=>rw[e]at h;exact h
 | ok a=>
  rw[e]at h;exact λb H1 s r=>n a b H1 e s r (I.grow s) (PoM.up (zO.ge I.sB s) h)
section
theorem SI.back (I:SI Y B ρ σ H){k i j n:Nat}{fs:List (Str×Fd)}{os:List Ob}(h:obD k i j ρ=some (n,fs,os)){a:Addr}(ha:σ[i]? =some (some (V.ref a))):
  ∃H0,zv B H0/\zv H0 H/\X5 Y.cl k B H0 H a fs/\zv Y.H0 H0/\∀(H' B' :Hp) (fs' :List (Str×Fd)),zv H0 H' ->zv B B' ->zv B' H' ->(∀b o,H0 b=some o->B' b=B b)->X5 Y.cl k B' H0 H' a fs' ->SI Y B' (ρ.set j (.st (os.set n (k,fs')))) σ H' :=by
 classical
 obtain⟨h1,h2,h3⟩:=JG h;obtain⟨as,O,s⟩:=I.st;obtain⟨a1,C,dx,vs,e1,e2,e3,e4,e5,e6,e7,e8⟩:=s.st j os h2 n k fs h3;obtain⟨a',C',dx',vs',g1,g2,_⟩:=s.ob i k n h1;rw[e1]at g1;cases g1;rw[ha]at g2;cases g2
 let P:Addr->Prop:=λb=>b=a\/∃(m:Nat) (f:Str) (ts:List T),fs[m]? =some (f,.tl ts)/\vs[m]? =some (f,V.ref b)
 have lP:∀b,P b->b ≠ a->∃m xs,H b=some (.lst xs)/\B b=none/\Y.H0 b=none/\u9 ρ σ b/\O b=some (n,m+1):=λb hb hne=>by
  rcases hb with z | ⟨m,f,ts,z1,z2⟩
  ·exact absurd z hne
  ·obtain⟨v,y1,l,xs,p1,p2,p3,p4,p5,p6,p7⟩:=e8 m f _ z1;rw[z2]at y1;cases y1;cases p1;exact⟨m,xs,p4,p2,p3,p6,p7⟩
 have nB:∀b o,B b=some o->¬ P b:=λb o hb hp=>by
  by_cases z:b=a
  ·rw[z,e4]at hb;cases hb
  ·obtain⟨_,_,_,q,_⟩:=lP b hp z;rw[q]at hb;cases hb
 have n0:∀b o,Y.H0 b=some o->¬ P b:=λb o hb hp=>by
  by_cases z:b=a
  ·rw[z,e5]at hb;cases hb
  ·obtain⟨_,_,_,_,q,_⟩:=lP b hp z;rw[q]at hb;cases hb
 let H0:Hp:=λb=>if P b then none else H b
 have H0n:∀{b o},H b=some o->¬ P b->H0 b=some o:=λ{b o} hb hp=>by show (if P b then none else H b)=_;rw[if_neg hp];exact hb
 have H0p:∀{b},P b->H0 b=none:=λ{b} hp=>if_pos hp;refine⟨H0,λb o hb=>H0n (I.sB b o hb) (nB b o hb),λb o hb=> ?_,⟨C,dx,vs,λb=>(O b).map Prod.snd,e2,e3,e4,H0p (.inl rfl),by show iF _ (O a)=_;rw[e6];rfl,e7,λm f d z=> ?_⟩,λb o hb=>H0n (I.sH b o hb) (n0 b o hb),λH' B' fs' s1 s2 s3 old ob' => ?_⟩
 ·have hb:(if P b then none else H b)=some o:=hb
  split at hb
  ·cases hb
  ·exact hb
 ·obtain⟨v,y1,y2⟩:=e8 m f d z;refine⟨v,y1, ?_⟩;cases d with
  | tv t=>exact y2
  | tl ts=>
   obtain⟨l,xs,p1,p2,p3,p4,p5,p6,p7⟩:=y2;subst p1;exact⟨l,xs,rfl,p2,H0p (.inr ⟨m,f,ts,z,y1⟩),p4,p5,by show iF _ (O l)=_;rw[p7];rfl⟩
 ·obtain⟨C',dx',us,O',c1,c2,c3,c4,c5,c6,c7⟩:=ob';rw[e2]at c1;cases c1;have keep:∀{b o},H b=some o->¬ P b->H' b=some o/\B' b=B b/\H0 b ≠ none:=λ{b o} hb hp=>⟨s1 _ _ (H0n hb hp),old b o (H0n hb hp),by rw[H0n hb hp];exact fG _⟩
  have own:∀(j' :Nat) (ws:List T),(ρ.set j (.st (os.set n (k,fs'))))[j']? =some (Sl.ow ws)->ρ[j']? =some (Sl.ow ws):=λj' ws hw=>by
   rcases zr hw with ⟨_,z⟩ | ⟨_,z⟩
   ·cases z
   ·exact z
  have ok' :∀b,u9 ρ σ b->u9 (ρ.set j _) σ b:=λb hb j' ws hw=>hb j' ws (own j' ws hw);have owP:∀{j' ws b xs},ρ[j']? =some (Sl.ow ws)->σ[j']? =some (some (V.ref b))->H b=some (.lst xs)->¬ P b:=λ{j' ws b xs} w1 w2 w3 hp=>by
   by_cases z:b=a
   ·rw[z,e3]at w3;cases w3
   ·obtain⟨_,_,_,_,_,q,_⟩:=lP b hp z;exact q j' ws w1 w2
  obtain⟨O2,hO1,hO2⟩:∃O2:Addr->Option (Nat×Nat),(∀b,H0 b ≠ none->O2 b=O b)/\∀b m,H0 b=none->O' b=some m->O2 b=some (n,m):=by
   refine⟨λb=>if H0 b=none then (O' b).map λm=>(n,m) else O b, ?_, ?_⟩
   ·intro b hb;exact if_neg hb
   ·intro b m z1 z2;show (if H0 b=none then (O' b).map λm=>(n,m) else O b)=_
    rw[if_pos z1,z2];rfl
  refine⟨I.s0,λb o hb=>(keep (I.sH b o hb) (n0 b o hb)).1,s3,λb o hb=> ?_,by rw[aI];exact I.len,λj' u h=> ?_,λj' ws h=> ?_,λj' c h=> ?_,as,O2,s.pre,λi' os' h=> ?_,λi1 i2 os1 os2 q1 q2=> ?_,λi' k' n' h=> ?_,λi' k' fs0 h=> ?_,λi' os' h n' k' fs2 e=> ?_⟩
  ·rw[(keep (I.sH b o hb) (n0 b o hb)).2.1];exact I.old b o hb
  ·rcases zr h with ⟨_,z⟩ | ⟨_,z⟩
   ·cases z
   ·obtain⟨v,y1,y2⟩:=I.vl j' u z;exact⟨v,y1,y2.mono s2⟩
  ·have z:=own j' ws h;obtain⟨b,xs',y1,y2,y3,y4,y5,y6⟩:=I.ow j' ws z;obtain⟨w1,w2,_⟩:=keep y4 (owP z y1 y4);exact⟨b,xs',y1,by rw[w2];exact y2,y3,w1,y5.mono s2,λj2 vs2 hj hw=>y6 j2 vs2 hj (own j2 vs2 hw)⟩
  ·rcases zr h with ⟨_,z⟩ | ⟨_,z⟩
   ·cases z
   ·obtain⟨b,y1,y2⟩:=I.xc j' c z;exact⟨b,y1,s2 _ _ y2⟩
  ·rcases zr h with ⟨_,z⟩ | ⟨_,z⟩
   ·cases z;rw[aI];exact s.len j os h2
   ·exact s.len _ _ z
  ·have one:∀i1 os1,(ρ.set j (.st (os.set n (k,fs'))))[i1]? =some _->i1=j:=λi1 os1 q1=>by
    rcases zr q1 with ⟨e,_⟩ | ⟨_,z⟩
    ·exact e
    ·exact s.one i1 j os1 os z h2
   rw[one i1 os1 q1,one i2 os2 q2]
  ·rcases zr h with ⟨_,z⟩ | ⟨_,z⟩
   ·cases z
   ·obtain⟨b,C2,dx2,vs2,y1,y2,y3,y4,y5,y6⟩:=s.ob i' k' n' z
    by_cases hb:b=a
    ·subst hb;rw[e3]at y4;cases y4;exact⟨b,_,dx',us,y1,y2,y3,c2,c3,y6.1,c6.2⟩
    ·have hp:¬ P b:=λhp=>by obtain⟨_,_,q,_⟩:=lP b hp hb;rw[q]at y4;cases y4
     obtain⟨w1,w2,_⟩:=keep y4 hp;exact⟨b,C2,dx2,vs2,y1,y2,y3,w1,by rw[w2];exact y5,y6⟩
  ·rcases zr h with ⟨_,z⟩ | ⟨_,z⟩
   ·cases z
   ·obtain⟨b,C2,dx2,vs2,y1,y2,y3,y4,y5⟩:=s.oc i' k' _ z;exact⟨b,C2,dx2,vs2,y1,y2,y3,y4,y5.mono s2 (zv.refl _)⟩
  ·rcases zr h with ⟨rfl,z⟩ | ⟨hne,z⟩
   ·cases z;rcases zr e with ⟨rfl,z⟩ | ⟨hn,z⟩
    ·cases z;refine⟨a,_,dx',us,e1,e2,c2,c3,e5,hO2 a 0 c4 c5,c6,λm f d z=> ?_⟩;obtain⟨v,y1,y2⟩:=c7 m f d z;refine⟨v,y1, ?_⟩;cases d with
     | tv t=>exact y2
     | tl ts=>
      obtain⟨l,xs,p1,p2,p3,p4,p5,p6⟩:=y2;refine⟨l,xs,p1,p2, ?_,p4,p5,λj' ws hw=> ?_,hO2 l _ p3 p6⟩
      ·cases q:Y.H0 l with
       | none=>rfl
       | some o=>rw[H0n (I.sH l o q) (n0 l o q)]at p3;cases p3
      ·have w:=own j' ws hw;obtain⟨b,xs',q1,q2,q3,q4,_⟩:=I.ow j' ws w;rw[q1];intro z;injection z with z;injection z with z;injection z with z;exact(keep q4 (owP w q1 q4)).2.2 (by rw[z];exact p3)
    ·obtain⟨b,C2,dx2,vs2,y1,y2,y3,y4,y5,y6,y7,y8⟩:=s.st i' os h2 n' k' fs2 z;have hb:b ≠ a:=λw=>by
      rw[w,e6]at y6;injection y6 with y6;injection y6 with y6 _;exact hn y6.symm
     have hp:¬ P b:=λhp=>by obtain⟨_,_,q,_⟩:=lP b hp hb;rw[q]at y3;cases y3
     obtain⟨w1,w2,w3⟩:=keep y3 hp;refine⟨b,C2,dx2,vs2,y1,y2,w1,by rw[w2];exact y4,y5,by rw[hO1 b w3];exact y6,y7,λm' f' d' z=> ?_⟩
     obtain⟨v',x1,x2⟩:=y8 m' f' d' z;refine⟨v',x1, ?_⟩;cases d' with
     | tv t=>exact Rep.mono s2 x2
     | tl ws=>
      obtain⟨l2,xs2,q1,q2,q3,q4,q5,q6,q7⟩:=x2;have hp:¬ P l2:=λhp=>by
       by_cases z:l2=a
       ·rw[z,e3]at q4;cases q4
       ·obtain⟨m2,_,_,_,_,_,q⟩:=lP l2 hp z;rw[q]at q7;injection q7 with q7;injection q7 with q7 _;exact hn q7.symm
      obtain⟨w1,w2,w3⟩:=keep q4 hp;exact⟨l2,xs2,q1,by rw[w2];exact q2,q3,w1,q5.mono s2,ok' l2 q6,by show O2 l2=_;rw[hO1 l2 w3];exact q7⟩
   ·exact absurd (s.one i' j os' os z h2) hne
end
def u6 (k i j:Nat)(m:Str)(nn:Nat)(g:List (Str×Fd)->List T->R (T×List (Str×Fd)))(ga:En->R (List T)):En->R (T×En):=λρ=>match obD k i j ρ with
 | some (n,fs,os)=>if (fs.lookup m).isNone=true then (ga ρ).bind λts=>if ts.length=nn then (g fs ts).bind λp=> .ok (p.1,ρ.set j (.st (os.set n (k,p.2)))) else .bad else .bad
 | none=> .bad
section
theorem KZ {g:List (Str×Fd)->List T->R (T×List (Str×Fd))}(hv:PE X (.Name x px) (Jh i))(hy:Y.cl=cl)(hc:cl k= .ref C)(c:L2.Cls X.K C)(hm:L2.Meth X.K C m f)(F:j9 X.prog X.w X.K X.mg X.base (CX1 X.prog X.w) kj f fd ps (spM cl k nn g))(hr:ZA kk X.A)(hj:kj<=kk)(bd:L2.Binds X.K fd ps [])(hp:Z5 (CX1 X.prog X.w) X Y.E)(ha:wE X Y (a :: es) ga)
  (hst:starEach (a :: es) X.env=(false,eval a X.env) :: starEach es X.env:=by exact zR rfl) (hpl:((backTo pos (starEach es X.env)).any λx=>x.fst)=false:=by exact Zh rfl)
  (ht:eval (.Call (.Attribute (.Name x px) m ap) (a :: es) [] pos) X.env=(do
   let ov ← eval (.Name x px) X.env
   standAt ap.atName
   let (f,first) ← holding [ov] (getMethod ov m pl)
   callWith pos f first (backTo pos (starEach (a :: es) X.env)) (backToKw pos (keywordEach [] X.env))):=by rfl):
  uk X Y (.Call (.Attribute (.Name x px) m ap) (a :: es) [] pos) (u6 k i j m nn g ga):= .mk λρ=>PE.imp (yM hv c hm F (hr.mono hj) bd .nil hp (ha ρ) hst hpl ht) λσ H Q ⟨B,I,q⟩=>by
 unfold u6 at q;split at q
 ·rename_i n fs os e;split at q
  ·rename_i hl;obtain⟨a',C',dx,vs,e1,e2,e3,e4,al⟩:=I.obA e;subst hy;rw[hc]at e2;cases e2;have hno:=um e4 al (by simpa using hl)
   refine⟨.ref a',e1,a',dx,vs,rfl,e3,hno, ?_⟩;refine X6 I q λts us H1 _ s1 r1 I1 q1=> ?_;split at q1
   ·rename_i hn;rw[aW];obtain⟨H0,b1,b2,b3,b4,b5⟩:=I1.back e e1;refine⟨a',us,ts,_,H0,fs,rfl,hn,b1,b2,b3,r1, ?_⟩;revert q1;cases g fs ts with
    | bad=>exact λq1=>q1
    | ex c2=>exact λq1 d H' z1 z2=>q1 d H' (b4.trans z1) z2
    | ok p=>
     obtain⟨t,fs2⟩:=p;exact λq1 v H' B' z1 z2 z3 z4 z5 z6=>q1 v H' B' z2 (b5 H' B' fs2 z1 z2 z3 z4 z5) z6
   ·exact q1.elim
  ·exact q.elim
 ·exact q.elim
def drM (f:En->R (T×En)):En->RS:=λρ=>(f ρ).s λp=> .nx p.2
theorem z1r (h:uk X Y e f)(hs:swapsWith e none pos.line X.env=pure false:=by rfl):jT X Y (.Expr e pos) (drM f):= .mk λρ=>PS.imp (Js (h.go ρ) hs) λD σ H ⟨B,I,q⟩=>⟨B,I,by
 unfold drM at q;revert q;cases f ρ with
 | bad=>exact λq=>q
 | ex c=>exact λq=>q
 | ok p=>exact λq v H' B' s I' _=>q σ H' B' s I'⟩
def seM (i:Nat)(f:En->R (T×En)):En->RS:=λρ=>(f ρ).s λp=> .nx (p.2.set i (.vl p.1))
theorem z1s (hN:X.N.Nodup)(hi:X.N[i]? =some x)(hx:L2.Loc X.env.scope x)(h:uk X Y e f)(hs:swapsWith e (some (.Name x p')) pos.line X.env=pure false:=by rfl)
  (hf:X.fn x=true\/X.env.scope.names.lookup x=some .local:=by first | exact .inl rfl | exact .inr rfl | assumption):jT X Y (.Assign [.Name x p'] e pos) (seM i f):= .mk λρ=>PS.imp (uH hN hi hx (h.go ρ) hs hf) λD σ H ⟨B,I,q⟩=>⟨B,I,by
 unfold seM at q;revert q;cases f ρ with
 | bad=>exact λq=>q
 | ex c=>exact λq=>q
 | ok p=>exact λq v H' B' s I' r=>q _ H' B' s (I'.setV i r)⟩
end
section
def ixF (k i j:Nat)(f:Str)(fb:En->R T):En->R T:=λρ=>match obD k i j ρ with
 | some (_,fs,_)=>match fs.lookup f with
  | some (.tl ts)=>(fb ρ).bind λt=>match t with
   | .int q=>atT ts q
   | _=> .bad
  | _=> .bad
 | none=> .bad
theorem z1t (hv:PE X (.Name x px) (Jh i))(hc:Y.cl k= .ref C)(c:L2.Cls X.K C)(n:L2.NoAttr X.K C f)(hb:Snd X Y b fb)(hbf:attributeBase (.Name x px) f X.env (eval (.Name x px) X.env)=eval (.Name x px) X.env:=by rfl)(hs:wB b:=by exact λ_ _=>rfl):Snd X Y (.Subscript (.Attribute (.Name x px) f p) b pos) (ixF k i j f fb):= .mk λρ=>
 PE.imp (VU yO (Jv hv hbf) (hb ρ) hs) λσ H Q ⟨B,I,q⟩=>by
  unfold ixF at q;split at q
  ·rename_i n' fs os e;split at q
   ·rename_i ts el;obtain⟨a,C',dx,vs,v,m,as,O,s,e1,e2,e3,e4,e5,e6,l,xs,p1,p2,p3,hh,rr,_⟩:=I.look e el;rw[hc]at e2;cases e2;subst p1;refine⟨.ref a,e1,a,C,dx,vs,_,rfl,e3,c,n,e4,step I q λt' v' H2 _ s2 r2 I2 q2=> ?_⟩;cases r2 with
    | int j=>
     have q2:Po Y rC _ H2 (atT ts j) Q:=q2;unfold atT at q2;split at q2
     ·rename_i t e8;obtain⟨w,e9,e10⟩:=Wr (rr.mono (zO.ge I.sB s2)) e8;exact .inl ⟨_,xs,j,w,rfl,rfl,SqL.of (s2 _ _ hh),e9,po0 I2.sB q2 rfl e10⟩
     ·exact q2.elim
    | _=>exact q2.elim
   ·exact q.elim
  ·exact q.elim
def Qo (k i j:Nat)(f:Str):En->R (T×En):=λρ=>match obD k i j ρ with
 | some (n,fs,os)=>match fs.lookup f with
  | some (.tl ts)=>match ts[ts.length - 1]? with
   | some t=> .ok (t,ρ.set j (.st (os.set n (k,u3 f (.tl ts.dropLast) fs))))
   | none=> .bad
  | _=> .bad
 | none=> .bad
theorem zE.dropLast {B:Hp}:∀{vs:List V} {ts:List T},zE B vs ts->zE B vs.dropLast ts.dropLast
 | _,_,.nil=> .nil
 | _,_,.cons r .nil=> .nil
 | _,_,.cons r (.cons r2 rr)=> .cons r (zE.dropLast (.cons r2 rr))
theorem g9 {k i j:Nat}{x f:Str}{px pf pa:Pos}{C:Addr}(hv:PE X (.Name x px) (Jh i))(hc:Y.cl k= .ref C)(c:L2.Cls X.K C)(n:L2.NoAttr X.K C f)(hbf:attributeBase (.Name x px) f X.env (eval (.Name x px) X.env)=eval (.Name x px) X.env:=by rfl)
  (hb:attributeBase (.Attribute (.Name x px) f pf) "pop" X.env (eval (.Attribute (.Name x px) f pf) X.env)=eval (.Attribute (.Name x px) f pf) X.env:=by rfl) (hz:(pa.endLine == p.line)=true:=by rfl):uk X Y (.Call (.Attribute (.Attribute (.Name x px) f pf) "pop" pa) [] [] p) (Qo k i j f):= .mk λρ=>
 PE.imp (kJ bJ PySem.F.slot_list_pop PySem.F.type_list_pop kK (Jv hv hbf) hb hz) λσ H Q ⟨B,I,q⟩=>by
  unfold Qo at q;split at q
  ·rename_i n' fs os e;split at q
   ·rename_i ts el;split at q
    ·rename_i t et;obtain⟨a',C',dx,vs,v,m,as,O,s,g1,g2,g3,g4,g5,g6,l,xs,p1,b0,h0,hh,rr,_⟩:=I.look e el;rw[hc]at g2;cases g2;subst p1;obtain⟨_,_,_,vs2,y1,_,y3,_,al⟩:=I.obA e;rw[g1]at y1;cases y1;rw[g3]at y3;cases y3;have hi:=YJ al ⟨_,el⟩ g4;obtain⟨j1,j2⟩:=wS el;obtain⟨w,hw,rw'⟩:=rr.at et;have:=I.chgF e j1 g1 g3 hi (zE.dropLast rr);rw[← j2]at this;exact⟨.ref a',g1,a',C,dx,vs,_,rfl,g3,c,n,g4,.inl ⟨rfl,_,SqL.of hh⟩,l,xs,w,rfl,rfl,hh,by rw[rr.length];exact hw,q w _ B (zv.refl _) this rw'⟩
    ·exact q.elim
   ·exact q.elim
  ·exact q.elim
end
section
theorem SI.made (I:SI Y B ρ σ H){i j k:Nat}{x:Addr}{os:List Ob}{fs:List (Str×Fd)}{B' H' H0:Hp}(h2:ρ[j]? =some (.st os))(hij:i ≠ j)(hi:i < ρ.length)(sH:zv H H0)(s1:zv H0 H')(s2:zv B B')(s3:zv B' H')(old:∀b o,H0 b=some o->B' b=B b)(ob:X5 Y.cl k B' H0 H' x fs):
  SI Y B' ((ρ.set j (.st (os++[(k,fs)]))).set i (.ob k os.length)) (σ.set i (some (V.ref x))) H' :=by
 classical
 obtain⟨as,O,s⟩:=I.st;obtain⟨C,dx,us,O',c1,c2,c3,c4,c5,c6,c7⟩:=ob;have hlen:=s.len j os h2;have keep:∀{b o},H b=some o->H' b=some o/\B' b=B b/\H0 b ≠ none:=λ{b o} hb=>⟨s1 _ _ (sH _ _ hb),old b o (sH _ _ hb),by rw[sH _ _ hb];exact fG _⟩
 have get:∀{i' :Nat} {y:Sl},((ρ.set j _).set i (.ob k os.length))[i']? =some y->(i' =i/\y= .ob k os.length)\/(i' ≠ i/\i' =j/\y= .st (os++[(k,fs)]))\/(i' ≠ i/\i' ≠ j/\ρ[i']? =some y):=λ{i' y} h=>by
  rcases zr h with ⟨a,b⟩ | ⟨a,b⟩
  ·exact .inl ⟨a,b⟩
  ·rcases zr b with ⟨c,d⟩ | ⟨c,d⟩
   ·exact .inr (.inl ⟨a,c,d⟩)
   ·exact .inr (.inr ⟨a,c,d⟩)
 have sg:∀{i' :Nat},i' ≠ i->(σ.set i (some (V.ref x)))[i']? =σ[i']? :=λ{i'} h=>ax (bi h);have own:∀{j' :Nat} {ws:List T},((ρ.set j _).set i (.ob k os.length))[j']? =some (Sl.ow ws)->j' ≠ i/\ρ[j']? =some (Sl.ow ws):=λ{j' ws} hw=>by
  rcases get hw with ⟨_,z⟩ | ⟨_,_,z⟩ | ⟨a,_,z⟩
  ·cases z
  ·cases z
  ·exact⟨a,z⟩
 have ok' :∀b,u9 ρ σ b->u9 _ _ b:=λb hb j' ws hw=>by
  obtain⟨h1,h2⟩:=own hw;rw[sg h1];exact hb j' ws h2
 obtain⟨O2,hO1,hO2⟩:∃O2:Addr->Option (Nat×Nat),(∀b,H0 b ≠ none->O2 b=O b)/\∀b m,H0 b=none->O' b=some m->O2 b=some (os.length,m):=by
  refine⟨λb=>if H0 b=none then (O' b).map λm=>(os.length,m) else O b, ?_, ?_⟩
  ·intro b hb;exact if_neg hb
  ·intro b m z1 z2;show (if H0 b=none then (O' b).map λm=>(os.length,m) else O b)=_
   rw[if_pos z1,z2];rfl
 have H0n:zv Y.H0 H0:=I.sH.trans sH;have asn:(as++[x])[os.length]? =some x:=by rw[aq (by omega),hlen,cA];rfl
 have aso:∀{n' :Nat} {b:Addr},as[n']? =some b->(as++[x])[n']? =some b:=λ{n' b} h=>by
  rw[az (aw.mp h).1];exact h
 refine⟨I.s0,λb o hb=>(keep (I.sH b o hb)).1,s3,λb o hb=> ?_,by rw[aI,aI,aI];exact I.len,λj' u h=> ?_,λj' ws h=> ?_,λj' c h=> ?_,as++[x],O2,s.pre.trans (List.prefix_append _ _),λi' os' h=> ?_,λi1 i2 os1 os2 q1 q2=> ?_,λi' k' n' h=> ?_,λi' k' fs0 h=> ?_,λi' os' h n' k' fs2 e=> ?_⟩
 ·rw[(keep (I.sH b o hb)).2.1];exact I.old b o hb
 ·rcases get h with ⟨_,z⟩ | ⟨_,_,z⟩ | ⟨a,_,z⟩
  ·cases z
  ·cases z
  ·obtain⟨v,y1,y2⟩:=I.vl j' u z;exact⟨v,by rw[sg a];exact y1,y2.mono s2⟩
 ·obtain⟨a,z⟩:=own h;obtain⟨b,xs',y1,y2,y3,y4,y5,y6⟩:=I.ow j' ws z;obtain⟨w1,w2,_⟩:=keep y4;refine⟨b,xs',by rw[sg a];exact y1,by rw[w2];exact y2,y3,w1,y5.mono s2,λj2 vs2 hj hw=> ?_⟩
  obtain⟨q1,q2⟩:=own hw;rw[sg q1];exact y6 j2 vs2 hj q2
 ·rcases get h with ⟨_,z⟩ | ⟨_,_,z⟩ | ⟨a,_,z⟩
  ·cases z
  ·cases z
  ·obtain⟨b,y1,y2⟩:=I.xc j' c z;exact⟨b,by rw[sg a];exact y1,s2 _ _ y2⟩
 ·rcases get h with ⟨_,z⟩ | ⟨_,_,z⟩ | ⟨_,nj,z⟩
  ·cases z
  ·cases z;rw[ao,ao,hlen];rfl
  ·exact absurd (s.one i' j os' os z h2) nj
 ·have one:∀i1 os1,((ρ.set j _).set i _)[i1]? =some (Sl.st os1)->i1=j:=λi1 os1 q1=>by
   rcases get q1 with ⟨_,z⟩ | ⟨_,e,_⟩ | ⟨_,nj,z⟩
   ·cases z
   ·exact e
   ·exact s.one i1 j os1 os z h2
  rw[one i1 os1 q1,one i2 os2 q2]
 ·rcases get h with ⟨e,z⟩ | ⟨_,_,z⟩ | ⟨a,_,z⟩
  ·cases z;subst e;refine⟨x,C,dx,us,asn,aP (by rw[← I.len];exact hi),c1,c2,c3, ?_,c6.2⟩
   cases q:Y.H0 x with
   | none=>rfl
   | some o=>rw[H0n _ _ q]at c4;cases c4
  ·cases z
  ·obtain⟨b,C2,dx2,vs2,y1,y2,y3,y4,y5,y6⟩:=s.ob i' k' n' z;obtain⟨w1,w2,_⟩:=keep y4;exact⟨b,C2,dx2,vs2,aso y1,by rw[sg a];exact y2,y3,w1,by rw[w2];exact y5,y6⟩
 ·rcases get h with ⟨_,z⟩ | ⟨_,_,z⟩ | ⟨a,_,z⟩
  ·cases z
  ·cases z
  ·obtain⟨b,C2,dx2,vs2,y1,y2,y3,y4,y5⟩:=s.oc i' k' _ z;exact⟨b,C2,dx2,vs2,by rw[sg a];exact y1,y2,y3,y4,y5.mono s2 (zv.refl _)⟩
 ·rcases get h with ⟨_,z⟩ | ⟨_,ej,z⟩ | ⟨_,nj,z⟩
  ·cases z
  ·cases z
   by_cases hn:n' < os.length
   ·rw[az hn]at e;obtain⟨b,C2,dx2,vs2,y1,y2,y3,y4,y5,y6,y7,y8⟩:=s.st j os h2 n' k' fs2 e;obtain⟨w1,w2,w3⟩:=keep y3;refine⟨b,C2,dx2,vs2,aso y1,y2,w1,by rw[w2];exact y4,y5,by rw[hO1 b w3];exact y6,y7,λm' f' d' z=> ?_⟩
    obtain⟨v',x1,x2⟩:=y8 m' f' d' z;refine⟨v',x1, ?_⟩;cases d' with
    | tv t=>exact Rep.mono s2 x2
    | tl ws=>
     obtain⟨l2,xs2,q1,q2,q3,q4,q5,q6,q7⟩:=x2;obtain⟨w1,w2,w3⟩:=keep q4;exact⟨l2,xs2,q1,by rw[w2];exact q2,q3,w1,q5.mono s2,ok' l2 q6,by show O2 l2=_;rw[hO1 l2 w3];exact q7⟩
   ·rw[aq (Nat.not_lt.mp hn)]at e;have hn' :n' =os.length:=by
     cases q:n' - os.length with
     | zero=>omega
     | succ r=>rw[q]at e;cases e
    subst hn';rw[cA]at e;cases e;have h0x:Y.H0 x=none:=by
     cases q:Y.H0 x with
     | none=>rfl
     | some o=>rw[H0n _ _ q]at c4;cases c4
    refine⟨x,C,dx,us,asn,c1,c2,c3,h0x,hO2 x 0 c4 c5,c6,λm f d z=> ?_⟩;obtain⟨v,y1,y2⟩:=c7 m f d z;refine⟨v,y1, ?_⟩;cases d with
    | tv t=>exact y2
    | tl ts=>
     obtain⟨l,xs,p1,p2,p3,p4,p5,p6⟩:=y2;refine⟨l,xs,p1,p2, ?_,p4,p5,λj' ws hw=> ?_,hO2 l _ p3 p6⟩
     ·cases q:Y.H0 l with
      | none=>rfl
      | some o=>rw[H0n _ _ q]at p3;cases p3
     ·obtain⟨hj',w⟩:=own hw;obtain⟨b,xs',q1,q2,q3,q4,_⟩:=I.ow j' ws w;rw[sg hj',q1];intro z;injection z with z;injection z with z;injection z with z;exact(keep q4).2.2 (by rw[z];exact p3)
  ·exact absurd (s.one i' j os' os z h2) nj
end
section
end
section
end
def spO (cl:Nat->Value)(k p n:Nat)(g:List (Str×Fd)->List T->R T):Sp:=λvs H Q E=>∃(x C dx:Addr) (us:List (Str×V)) (vs1 vs2:List V) (ts1 ts2:List T) (B:Hp) (fs:List (Str×Fd)),vs=vs1++ .ref x :: vs2/\ts1.length=p/\(ts1++ts2).length=n/\cl k= .ref C/\H x=some (.ins C dx us)/\InC us/\FsO B H us fs/\zv B H/\zE B vs1 ts1/\zE B vs2 ts2/\Po ⟨B,H,E,cl,[]⟩ rC B H (g fs (ts1++ts2)) Q
def enO (k m:Nat)(fs:List (Str×Fd))(ts1 ts2:List T):En:=ts1.map Sl.vl++(.oc k fs :: (ts2.map Sl.vl++ai m .un))
theorem YK (h:(enO k m fs ts1 ts2)[i]? =some s):(i=ts1.length/\s= .oc k fs)\/(∃t,ts1[i]? =some t/\s= .vl t)\/(∃i' t,i=ts1.length+1+i' /\ts2[i']? =some t/\s= .vl t)\/s= .un:=by
 unfold enO at h
 by_cases h1:i < ts1.length
 ·rw[az (by simpa using h1),av,ag h1]at h
  exact .inr (.inl ⟨_,ag h1,(aB h).symm⟩)
 ·obtain⟨q,hq⟩:∃q,i=ts1.length+q:=⟨i - ts1.length,by omega⟩
  rw[aq (by simpa using h1),a9,hq,eO]at h
  cases q with
  | zero=>exact .inl ⟨hq,(aB h).symm⟩
  | succ q=>
   rw[bq]at h
   by_cases h2:q < ts2.length
   ·rw[az (by simpa using h2),av,ag h2]at h
    exact .inr (.inr (.inl ⟨q,_,by omega,ag h2,(aB h).symm⟩))
   ·rw[aq (by simpa using h2),aF]at h
    split at h
    ·exact .inr (.inr (.inr (aB h).symm))
    ·cases h
theorem SI.startO (hN:N.length=(ts1++ts2).length+1+m)(sB:zv B H)(hc:cl k= .ref C)(hx:H x=some (.ins C dx us))(hi:InC us)(hf:FsO B H us fs)(r1:zE B vs1 ts1)(r2:zE B vs2 ts2):
  SI ⟨B,H,E,cl,[]⟩ B (enO k m fs ts1 ts2) (L2.start N (vs1++ .ref x :: vs2)) H:=by
 have l1:=r1.length;have l2:=r2.length;have at0:(L2.start N (vs1++ .ref x :: vs2))[ts1.length]? =some (some (V.ref x)):=by
  unfold L2.start;rw[bn,aX,aq (by simp[l1]),a9,l1,cA];rfl
 refine⟨sB,zv.refl _,sB,λ_ _ _=>rfl, ?_,λi t h=> ?_,λi t h=> ?_,λi t h=> ?_,[],λ_=>none,ce _,λi os h=> ?_,λi _ os _ h=> ?_,λi k' n h=> ?_,λi k' fs0 h=> ?_,λi os h=> ?_⟩
 ·unfold enO L2.start;simp only[ao,af,a9,aQ]at hN ⊢;omega
 ·rcases YK h with ⟨_,e⟩ | ⟨t',e2,e3⟩ | ⟨i',t',e1,e2,e3⟩ | e
  ·cases e
  ·cases e3;obtain⟨v,ev,rv⟩:=r1.at e2;refine⟨v, ?_,rv⟩;have hi:=(aw.mp ev).1;unfold L2.start;rw[bn,aX,az (by simpa using hi),av,ev];rfl
  ·cases e3;obtain⟨v,ev,rv⟩:=r2.at e2;refine⟨v, ?_,rv⟩;have hi:=(aw.mp ev).1;unfold L2.start;rw[e1,bn,aX,aq (by simp[l1];omega),a9,l1,show ts1.length+1+i' - ts1.length=i' +1 by omega,aL,dr,bq,az (by simpa using hi),av,ev];rfl
  ·cases e
 all_goals (rcases YK h with ⟨e0,e⟩ | ⟨_,_,e⟩ | ⟨_,_,_,_,e⟩ | e <;> try (cases e;done))
 cases e;subst e0;exact⟨x,C,dx,us,at0,hc,hx,hi,hf⟩
def vq (Y:Fx)(B:Hp)(r:R (Bool×En))(σ:Sg)(Q:Bool->Hp->Prop):Prop:=match r with
 | .ok (b,ρ')=>∀H' B',zv B B' ->SI Y B' ρ' σ H' ->Q b H'
 | .ex c=>XP Y B c
 | .bad=>False
theorem vq.up {r:R (Bool×En)}{Q:Bool->Hp->Prop}(s:zv B B')(h:vq Y B r σ Q):vq Y B' r σ Q:=by
 unfold vq at h ⊢;split
 ·exact λH' B2 a=>h H' B2 (s.trans a)
 ·exact XP.up s h
 ·exact h
structure X7 (X:Cx) (Y:Fx) (e:Expr) (f:En->R (Bool×En)):Prop where
 mk ::
 go:∀ρ,PT X e λσ H Q=>∃B,SI Y B ρ σ H/\vq Y B (f ρ) σ Q
theorem gc {α β:Type}{rel:Hp->Hp->β->α->Prop}{f:En->R α}{k:α->R (Bool×En)}{Q:Bool->Hp->Prop}{K:β->Hp->Prop}(I:SI Y B ρ σ H)(h:vq Y B ((f ρ).bind k) σ Q)
  (n:∀a b H1,f ρ= .ok a->zv H H1->rel (zO B H H1) H1 b a->SI Y (zO B H H1) ρ σ H1->vq Y (zO B H H1) (k a) σ Q->K b H1):tS Y rel f ρ σ H K:=by
 refine⟨B,I, ?_⟩;cases e:f ρ with
 | bad=>rw[e]at h;exact h
 | ex c=>rw[e]at h;exact h
 | ok a=>
  rw[e]at h;exact λb H1 s r=>n a b H1 e s r (I.grow s) (vq.up (zO.ge I.sB s) h)
section
def uo (g:T->T->R Bool)(fm:En->R (T×En))(fb:En->R T):En->R (Bool×En):=λρ=>(fm ρ).bind λp=>(fb p.2).bind λt' =>(g p.1 t').bind λb=> .ok (b,p.2)
theorem gf (nx:Nx g)(ho:OpR X (compareOp op) (wH g))(ha:uk X Y a fm)(hb:j6 X Y b fb)(hm:behindInMarks op b=false):X7 X Y (.Compare a [op] [b] pos) (uo g fm fb):= .mk λρ=>
 PT.imp (yC (tb:=λσ H Q=>∃ρ',tS Y rB fb ρ' σ H Q) ho (ha.go ρ) (λpins s σ H Q I ⟨ρ',q⟩=>hb ρ' _ s σ H Q I q) hm) λσ H Q ⟨B,I,q⟩=>by
  refine⟨B,I, ?_⟩;unfold uo at q;revert q;cases fm ρ with
  | bad=>exact λq=>q
  | ex c=>exact λq=>q
  | ok p=>
   obtain⟨t,ρ'⟩:=p;intro q v H1 B1 s1 I1 r1;have q:=vq.up s1 q;refine⟨ρ',gc I1 q λt' v' H2 _ s2 r2 I2 q2=> ?_⟩;cases e:g t t' with
   | bad=>rw[e]at q2;exact q2.elim
   | ex c=>exact absurd e (nx _ _ _)
   | ok b=>
    rw[e]at q2;exact⟨t,t',b,(r1.mono I1.sB).mono s2,r2,e,b,rfl,q2 H2 _ (zv.refl _) I2⟩
def ifM (ga:En->R (Bool×En))(f g:En->RS):En->RS:=λρ=>(ga ρ).s λp=>if p.1=true then f p.2 else g p.2
theorem z1u {ga:En->R (Bool×En)}(hc:X7 X Y c ga)(h1:JW X Y sts f)(h2:JW X Y sts' g):jT X Y (.If c sts sts' pos) (ifM ga f g):= .mk λρ=>
 PS.imp (kn (t:=λD σ H=>∃ρ',tSS Y f ρ' D σ H) (u:=λD σ H=>∃ρ',tSS Y g ρ' D σ H) (hc.go ρ) (λpins s σ H D I ⟨ρ',q⟩=>h1 ρ' _ s σ H D I q) (λpins s σ H D I ⟨ρ',q⟩=>h2 ρ' _ s σ H D I q)) λD σ H ⟨B,I,q⟩=>by
  refine⟨B,I, ?_⟩;unfold ifM at q;revert q;cases ga ρ with
  | bad=>exact λq=>q
  | ex c=>exact λq=>q
  | ok p=>
   obtain⟨b,ρ'⟩:=p;intro q H' B' s I';cases b with
   | true=>exact⟨ρ',B',I',PoS.up s q⟩
   | false=>exact⟨ρ',B',I',PoS.up s q⟩
end
section
noncomputable def GN:T->R T
 | .lst xs=> .ok (.lst xs)
 | .tup xs=> .ok (.lst xs)
 | _=> .bad
theorem z1v (gl:Gl X "list")(mg:X.mg "list"=none)(ha:Snd X Y a fa)(hs:St1 X a:=by exact st1 rfl):Snd X Y (.Call (.Name "list" p) [a] [] pos) (ap1 GN fa):=
 Y5 J8 (λv t B H Q r sB q=>by
  cases r with
  | @lst l xs ts h r=>exact⟨l,xs,rfl,.inl (SqL.of (sB _ _ h)),λl' hl' =>kU sB q rfl r hl'⟩
  | @tup l xs ts h r=>exact⟨l,xs,rfl,.inr (SqT.of (sB _ _ h)),λl' hl' =>kU sB q rfl r hl'⟩
  | _=>exact q.elim) gl mg (PyProof.Rows.Boot.«list») ha hs
end
theorem SI.st0 (I:SI Y B ρ σ H)(hY:Y.as=[])(hno:∀(i:Nat) (s:Sl),s.isO=true->ρ[i]? ≠ some s)(j:Nat):SI Y B (ρ.set j (.st [])) σ H where
 s0:=I.s0
 sH:=I.sH
 sB:=I.sB
 old:=I.old
 len:=by rw[aI];exact I.len
 vl:=λi t h=>by
  rcases zr h with ⟨_,z⟩ | ⟨_,z⟩
  ·cases z
  ·exact I.vl i t z
 ow:=λi ts h=>by
  rcases zr h with ⟨_,z⟩ | ⟨_,z⟩
  ·cases z
  ·obtain⟨a,xs,e1,e2,e3,e4,e5,e6⟩:=I.ow i ts z;refine⟨a,xs,e1,e2,e3,e4,e5,λj' us hj hw=> ?_⟩;rcases zr hw with ⟨_,z⟩ | ⟨_,z⟩
   ·cases z
   ·exact e6 j' us hj z
 xc:=λi t h=>by
  rcases zr h with ⟨_,z⟩ | ⟨_,z⟩
  ·cases z
  ·exact I.xc i t z
 st:=by
  have one:∀i os,(ρ.set j (.st []))[i]? =some (Sl.st os)->i=j/\os=[]:=λi os h=>by
   rcases zr h with ⟨e,z⟩ | ⟨_,z⟩
   ·cases z;exact⟨e,rfl⟩
   ·exact(hno i _ rfl z).elim
  refine⟨[],λ_=>none,by rw[hY];exact ce _,λi os h=>by rw[(one i os h).2];rfl,λi i' os os' h h' =>by rw[(one i os h).1,(one i' os' h').1],λi k n h=> ?_,λi k fs0 h=> ?_,λi os h n k fs e=> ?_⟩
  ·rcases zr h with ⟨_,z⟩ | ⟨_,z⟩
   ·cases z
   ·exact(hno i _ rfl z).elim
  ·rcases zr h with ⟨_,z⟩ | ⟨_,z⟩
   ·cases z
   ·exact(hno i _ rfl z).elim
  ·rw[(one i os h).2]at e;simp at e
def enS (n:Nat)(ts:List T):En:=(en0 n ts).set (n - 1) (.st [])
theorem SI.startS (s:zv Y.B0 Y.H0)(r:zE Y.B0 vs ts)(hY:Y.as=[]):SI Y Y.B0 (enS N.length ts) (L2.start N vs) Y.H0:=
 (SI.start s r).st0 hY (λi s hs h=>uc (λt z=>by rw[z]at hs;cases hs) (λz=>by rw[z]at hs;cases hs) h) _
section
variable {P:Program}{w:World}{K:a8}{mg:Str->Option Value}{base:Heap}
theorem X8 {cl:Nat->Value}{x qual q:Str}{st:Stmt}{f c Pt:Addr}{fd:FuncData}{N ps:List Str}{k n:Nat}{fb:En->RS}{g:List T->R T}(F:Fun K x qual st f fd)(hc:fd.code= .ref c)(S:Zx N ps (zq st))(hn:n=ps.length)
  (hb:∀(A:Around) (outer:List Env) (s:Shared) (H:Hp) (E:XK) (Y:Fx),Y.cl=cl->Y.E=E->Y.H0 Pt=some (.tbl #[] q)->ZA k (A.deeper (envOfC qual (zq st) s.heap.objs.size f (.ref c)))->
   JW (jM (CX1 P w) P w K mg base N qual (zq st) f (.ref c) A outer s H E) Y (zH st) fb)
  (hg:∀ts,ts.length=n->g ts=zz (fb (enS N.length ts))):j9 P w K mg base (CX1 P w) (k+1) f fd ps (Vo cl n g Pt q):=by
 subst hn;obtain⟨oc,od,kV,doc,pm,an,cdv,ct,osl,rfl,lk,hcd⟩:=F.ex;obtain rfl:cdv= .ref c:=hc;refine VO lk hcd S (λvs H Q E z=>spP.len vs H Q E z.2) λA outer s H vs Q E hr ⟨hT,B,ts,hl,sB,r,q⟩=> ?_;refine⟨_,hb A _ s H E ⟨B,H,E,cl,[]⟩ rfl rfl hT hr _,B,SI.startS sB r rfl, ?_⟩;rw[hg ts hl]at q;revert q;cases fb _ with
 | rt t=>exact λq v H' s r=>q v H' s r
 | rf t=>exact λq a xs H' B' s0 n e r _ l=>q _ H' s0 (.lst (by rw[zZ n];exact e) (r.mono l))
 | nx ρ=>exact λq σ' H' B' _ I=>q _ H' I.sH .non
 | ex c=>exact λq=>q
 | bk ρ=>exact λq=>q.elim
 | ct ρ=>exact λq=>q.elim
 | bad=>exact λq=>q
theorem gh {cl:Nat->Value}{x qual:Str}{st:Stmt}{f:Addr}{fd:FuncData}{N ps:List Str}{k p n m kr:Nat}{fb:En->RS}(F:Fun K x qual st f fd)(S:Zx N ps (zq st))(hn:ps.length=n+1)(hN:N.length=n+1+m)
  (hb:∀(cdv:Value) (A:Around) (outer:List Env) (s:Shared) (H:Hp) (E:XK) (Y:Fx),Y.cl=cl->Y.E=E->ZA kr (A.deeper (envOfC qual (zq st) s.heap.objs.size f cdv))->
   JW (jM (CX1 P w) P w K mg base N qual (zq st) f cdv A outer s H E) Y (zH st) fb):j9 P w K mg base (CX1 P w) (kr+1) f fd ps (spO cl k p n λfs ts=>zz (fb (enO k m fs (ts.take p) (ts.drop p)))):=by
 refine Fun.okX F S (λvs H Q E z=> ?_) λcdv A outer s H vs Q E hr z=> ?_
 ·obtain⟨x,C,dx,us,vs1,vs2,ts1,ts2,B,fs,e,hl,hl2,_,_,_,_,_,r1,r2,_⟩:=z;rw[e,ao,af,r1.length,r2.length,hn,← hl2,ao];rfl
 obtain⟨x,C,dx,us,vs1,vs2,ts1,ts2,B,fs,e,hl,hl2,hc,hx,hi,hf,sB,r1,r2,q⟩:=z;subst e;have e1:(ts1++ts2).take p=ts1:=by rw[← hl];simp
 have e2:(ts1++ts2).drop p=ts2:=by rw[← hl];simp
 refine⟨_,hb cdv A _ s H E _ rfl rfl hr _,B,SI.startO (by rw[hN,hl2]) sB hc hx hi hf r1 r2, ?_⟩
 have q:Po _ rC B H (zz _) Q:=q;rw[e1,e2]at q;revert q;cases fb _ with
 | rt t=>exact λq v H' s r=>q v H' s r
 | rf t=>exact λq a xs H' B' s0 n e r _ l=>q _ H' s0 (.lst (by rw[zZ n];exact e) (r.mono l))
 | nx ρ=>exact λq σ' H' B' s' I' =>q _ H' I'.sH .non
 | bk ρ=>exact λq=>q.elim
 | ct ρ=>exact λq=>q.elim
 | ex c=>exact λq=>q
 | bad=>exact λq=>q
end
section
variable {X:Cx}{Y:Fx}{a b:Expr}{cl:Nat->Value}{k i j kk kj nn:Nat}{x m:Str}{px ap p pos p' :Pos}{C f:Addr}{fd:FuncData}{ps:List Str}{es:List Expr}{ga:En->R (List T)}{pl:Sem Bool}
def obL (k i j:Nat)(ρ:En):Option (List (Str×Fd)):=match ρ[i]? with
 | some (.oc k' fs)=>if k' =k then some fs else none
 | _=>(obD k i j ρ).map λx=>x.2.1
theorem SI.obL (I:SI Y B ρ σ H)(h:obL k i j ρ=some fs):∃a C dx vs,σ[i]? =some (some (V.ref a))/\Y.cl k= .ref C/\H a=some (.ins C dx vs)/\InC vs/\FsO B H vs fs:=by
 unfold PV.obL at h;obtain⟨as,O,s⟩:=I.st;split at h
 ·rename_i k' fs' e;split at h
  ·rename_i hk;subst hk;cases h;obtain⟨a,C,dx,vs,e1,e2,e3,e4,e5⟩:=s.oc i _ _ e;exact⟨a,C,dx,vs,e1,e2,I.sH _ _ e3,e4,e5.mono (zv.refl _) I.sH⟩
  ·cases h
 ·cases e:obD k i j ρ with
  | none=>rw[e]at h;cases h
  | some x=>
   obtain⟨n,fs',os⟩:=x;rw[e]at h;cases h;obtain⟨h1,h2,h3⟩:=JG e;obtain⟨a,C,dx,vs,e1,e2,e3,e4,e5,e6,e7,e8⟩:=s.st j os h2 n k _ h3;obtain⟨a',C',dx',vs',g1,g2,_⟩:=s.ob i k n h1;rw[e1]at g1;cases g1;refine⟨a,C,dx,vs,g2,e2,e3,e7.2,λm f d z=> ?_⟩;obtain⟨v,z1,z2⟩:=e8 m f d z;refine⟨v,z1, ?_⟩;cases d with
   | tv t=>exact z2
   | tl ts=>obtain⟨l,xs,p1,_,_,p4,p5,_⟩:=z2;exact⟨l,xs,p1,p4,p5⟩
def fldL (k i j:Nat)(f:Str):En->R T:=λρ=>match obL k i j ρ with
 | some fs=>(match fs.lookup f with
  | some (.tv t)=> .ok t
  | _=> .bad)
 | none=> .bad
theorem poO {B H:Hp}{I0:Hp}{r:R T}{Q:VK}(s:zv Y.H0 H)(q:Po Y rC B H r Q):Po ⟨B,H,Y.E,Y.cl,[]⟩ rC B H r Q:=by
 cases r with
 | bad=>exact q
 | ex c=>exact λd H' z1 z2=>q d H' (s.trans z1) z2
 | ok t=>exact q
def uq (k i j nn:Nat)(g:List (Str×Fd)->List T->R T)(ga:En->R (List T)):En->R T:=λρ=>match obL k i j ρ with
 | some fs=>(ga ρ).bind λts=>if ts.length=nn then g fs ts else .bad
 | none=> .bad
theorem z1w {g:List (Str×Fd)->List T->R T}(hv:PE X (.Name x px) (Jh i))(hy:Y.cl=cl)(hc:cl k= .ref C)(c:L2.Cls X.K C)(hm:L2.Meth X.K C m f)(F:j9 X.prog X.w X.K X.mg X.base (CX1 X.prog X.w) kj f fd ps (spO cl k 0 nn g))(hr:ZA kk X.A)(hj:kj<=kk)(bd:L2.Binds X.K fd ps [])(hp:Z5 (CX1 X.prog X.w) X Y.E)(ha:wE X Y (a :: es) ga)(hna:m ∉ V3:=by decide)
  (hst:starEach (a :: es) X.env=(false,eval a X.env) :: starEach es X.env:=by exact zR rfl) (hpl:((backTo pos (starEach es X.env)).any λx=>x.fst)=false:=by exact Zh rfl)
  (ht:eval (.Call (.Attribute (.Name x px) m ap) (a :: es) [] pos) X.env=(do
   let ov ← eval (.Name x px) X.env
   standAt ap.atName
   let (f,first) ← holding [ov] (getMethod ov m pl)
   callWith pos f first (backTo pos (starEach (a :: es) X.env)) (backToKw pos (keywordEach [] X.env))):=by rfl):
  Snd X Y (.Call (.Attribute (.Name x px) m ap) (a :: es) [] pos) (uq k i j nn g ga):= .mk λρ=>PE.imp (yM hv c hm F (hr.mono hj) bd .nil hp (ha ρ) hst hpl ht) λσ H Q ⟨B,I,q⟩=>by
 unfold uq at q;split at q
 ·rename_i fs e;obtain⟨a',C',dx,vs,e1,e2,e3,e4,e5⟩:=I.obL e;subst hy;rw[hc]at e2;cases e2;refine⟨.ref a',e1,a',dx,vs,rfl,e3,e4 m hna, ?_⟩;refine step I q λts us H1 _ s1 r1 I1 q1=> ?_;split at q1
  ·rename_i hn;rw[aW];exact⟨a',C,dx,vs,[],us,[],ts,_,fs,rfl,rfl,hn,hc,s1 _ _ e3,e4,e5.mono (zO.ge I.sB s1) s1,I1.sB,.nil,r1,poO (I0:=H) I1.sH q1⟩
  ·exact q1.elim
 ·exact q.elim
theorem vt {g:List (Str×Fd)->List T->R T}(hv:PE X (.Name x px) (Jh i))(hy:Y.cl=cl)(hc:cl k= .ref C)(c:L2.Cls X.K C)(hm:L2.Meth X.K C m f)(F:j9 X.prog X.w X.K X.mg X.base (CX1 X.prog X.w) kj f fd ps (spO cl k 0 0 g))(hr:ZA kk X.A)(hj:kj<=kk)(bd:L2.Binds X.K fd ps [])(hp:Z5 (CX1 X.prog X.w) X Y.E)(hna:m ∉ V3:=by decide)
  (ht:eval (.Call (.Attribute (.Name x px) m ap) [] [] pos) X.env=(do
   let ov ← eval (.Name x px) X.env
   standAt ap.atName
   let (f,first) ← holding [ov] (getMethod ov m pl)
   callWith pos f first (backTo pos (starEach [] X.env)) (backToKw pos (keywordEach [] X.env))):=by rfl):
  Snd X Y (.Call (.Attribute (.Name x px) m ap) [] [] pos) (uq k i j 0 g zj):= .mk λρ=>PE.imp (wA hv c hm F (hr.mono hj) bd .nil hp ht) λσ H Q ⟨B,I,q⟩=>by
 unfold uq at q;split at q
 ·rename_i fs e;obtain⟨a',C',dx,vs,e1,e2,e3,e4,e5⟩:=I.obL e;subst hy;rw[hc]at e2;cases e2;exact⟨.ref a',e1,a',dx,vs,rfl,e3,e4 m hna,a',C,dx,vs,[],[],[],[],_,fs,rfl,rfl,rfl,hc,e3,e4,e5,I.sB,.nil,.nil,poO (I0:=H) I.sH q⟩
 ·exact q.elim
def X9 (k i j nn:Nat)(g:List (Str×Fd)->List T->R (T×List (Str×Fd)))(ga:En->R (List T)):En->R (T×En):=λρ=>match obD k i j ρ with
 | some (n,fs,os)=>(ga ρ).bind λts=>if ts.length=nn then (g fs ts).bind λp=> .ok (p.1,ρ.set j (.st (os.set n (k,p.2)))) else .bad
 | none=> .bad
theorem gi {g:List (Str×Fd)->List T->R (T×List (Str×Fd))}(hv:PE X (.Name x px) (Jh i))(hy:Y.cl=cl)(F:j9 X.prog X.w X.K X.mg X.base (CX1 X.prog X.w) kj f fd ps (spM cl k nn g))(hr:ZA kk X.A)(hj:kj<=kk)(gl:Gl X m)(mg:X.mg m=some (.ref f))(kp:bL X.K (.ref f)=true)(bd:L2.Binds X.K fd ps [])(hp:Z5 (CX1 X.prog X.w) X Y.E)(ha:wE X Y es ga)
  (hd:(m == ("__debug__":Str))=false:=by decide) (hst:starEach (.Name x px :: es) X.env=(false,eval (.Name x px) X.env) :: starEach es X.env:=by exact zR rfl) (hpl:((backTo pos (starEach es X.env)).any λx=>x.fst)=false:=by exact Zh rfl):
  uk X Y (.Call (.Name m p) (.Name x px :: es) [] pos) (X9 k i j nn g ga):= .mk λρ=>PE.imp (yL F (hr.mono hj) gl mg kp bd .nil hp (zA hv (ha ρ) hst) hd hst hpl) λσ H Q ⟨B,I,q⟩=>by
 unfold X9 at q;split at q
 ·rename_i n fs os e;obtain⟨a',C',dx,vs,e1,e2,e3,e4,al⟩:=I.obA e;subst hy;refine⟨.ref a',e1, ?_⟩;refine X6 I q λts us H1 _ s1 r1 I1 q1=> ?_;split at q1
  ·rename_i hn;rw[aW];obtain⟨H0,b1,b2,b3,b4,b5⟩:=I1.back e e1;refine⟨a',us,ts,_,H0,fs,rfl,hn,b1,b2,b3,r1, ?_⟩;revert q1;cases g fs ts with
   | bad=>exact λq1=>q1
   | ex c2=>exact λq1 d H' z1 z2=>q1 d H' (b4.trans z1) z2
   | ok p=>
    obtain⟨t,fs2⟩:=p;exact λq1 v H' B' z1 z2 z3 z4 z5 z6=>q1 v H' B' z2 (b5 H' B' fs2 z1 z2 z3 z4 z5) z6
  ·exact q1.elim
 ·exact q.elim
end
section
end
end PV
namespace PV
open PySem PySem.Spec PyProof.Rows L2
structure Fn (K:a8) (mg:Str->Option Value) (x:Str) (st:Stmt) (ps:List Str) (f:Addr) (fd:FuncData):Prop where
 F:Fun K x x st f fd
 b:L2.Binds K fd ps []
 m:mg x=some (.ref f)
structure FnO (K:a8) (x qual:Str) (st:Stmt) (ps:List Str) (f:Addr) (fd:FuncData) (C:Addr):Prop where
 F:Fun K x qual st f fd
 b:L2.Binds K fd ps []
 m:L2.Meth K C x f
noncomputable abbrev FE (K:a8)(mg:Str->Option Value)(x:Str)(st:Stmt)(ps:List Str):Prop:=∃f fd,Fn K mg x st ps f fd
noncomputable abbrev FM (K:a8)(cl:Nat->Value)(c:Nat)(x:Str)(st:Stmt)(ps:List Str):Prop:=∃C qual f fd,cl c= .ref C/\FnO K x qual st ps f fd C
noncomputable abbrev FI (K:a8)(mg:Str->Option Value)(cl:Nat->Value)(c:Nat)(y:Str)(st:Stmt)(ps:List Str):Prop:=∃C qual f fd,cl c= .ref C/\mg y=some (.ref C)/\L2.Mk K C f/\FnO K "__init__" qual st ps f fd C
structure Zz where
 P:Program
 w:World
 K:a8
 mg:Str->Option Value
 base:Heap
 cl:Nat->Value
structure QQ (x:Str) (CX:CXT) (k:Nat) (sp:Sp) (Z:Zz):Prop where
 ex:∃st ps f fd,Fn Z.K Z.mg x st ps f fd/\j9 Z.P Z.w Z.K Z.mg Z.base CX k f fd ps sp
structure CA (c:Nat) (as:List Str) (K:a8) (cl:Nat->Value):Prop where
 ex:∃C,cl c= .ref C/\L2.Cls K C/\∀f,as.contains f=true->L2.NoAttr K C f
structure QM (x:Str) (c k:Nat) (sp:Sp) (Z:Zz):Prop where
 ex:∃C qual st ps f fd,Z.cl c= .ref C/\L2.Cls Z.K C/\FnO Z.K x qual st ps f fd C/\j9 Z.P Z.w Z.K Z.mg Z.base (CX1 Z.P Z.w) k f fd ps sp
structure QI (y:Str) (c k:Nat) (sp:Sp) (Z:Zz):Prop where
 ex:∃C qual st ps f fd,Z.cl c= .ref C/\Z.mg y=some (.ref C)/\L2.Mk Z.K C f/\FnO Z.K "__init__" qual st ps f fd C/\j9 Z.P Z.w Z.K Z.mg Z.base (CX1 Z.P Z.w) k f fd ps sp
abbrev qP (Z:Zz)(x:Str)(n k:Nat)(c:List T->R T):Prop:=QQ x CX0 k (spP Z.cl n c) Z
abbrev qM (Z:Zz)(c:Nat)(x:Str)(n k:Nat)(g:List (Str×Fd)->List T->R (T×List (Str×Fd))):Prop:=QM x c k (spM Z.cl c n g) Z
abbrev qO (Z:Zz)(c:Nat)(x:Str)(n k:Nat)(g:List (Str×Fd)->List T->R T):Prop:=QM x c k (spO Z.cl c 0 n g) Z
abbrev qI (Z:Zz)(c:Nat)(x:Str)(n k:Nat)(g:List (Str×Fd)->List T->R (T×List (Str×Fd))):Prop:=QI x c k (spM Z.cl c n g) Z
abbrev qFM (Z:Zz)(c:Nat)(x:Str)(n k:Nat)(g:List (Str×Fd)->List T->R (T×List (Str×Fd))):Prop:=QQ x (CX1 Z.P Z.w) k (spM Z.cl c n g) Z
def oP (m:Nat)(b:En->RS):List T->R T:=λts=>zz (b (en0 m ts))
def oS (m:Nat)(b:En->RS):List T->R T:=λts=>zz (b (enS m ts))
def oC (m:Nat)(b:En->RS):Nat->R T:=λc=>zz (b (enC m c))
def oM (k j:Nat)(b:En->R (T×En)):List (Str×Fd)->List T->R (T×List (Str×Fd)):=λfs ts=>JU k j (b (enM k j fs ts))
def oO (k m p:Nat)(b:En->RS):List (Str×Fd)->List T->R T:=λfs ts=>zz (b (enO k m fs (ts.take p) (ts.drop p)))
section
variable {P:Program}{w:World}{K:a8}{mg:Str->Option Value}{base:Heap}{cl:Nat->Value}{x:Str}{CX:CXT}{k c:Nat}{sp:Sp}{G:Prop}{as:List Str}
theorem QQ.go (O:QQ x CX k sp ⟨P,w,K,mg,base,cl⟩)(h:∀st ps f fd,Fn K mg x st ps f fd->j9 P w K mg base CX k f fd ps sp->G):G:=by
 obtain⟨⟨st,ps,f,fd,C,F⟩⟩:=O;exact h st ps f fd C F
theorem QM.go (O:QM x c k sp ⟨P,w,K,mg,base,cl⟩)(h:∀C q st ps f fd,cl c= .ref C->L2.Cls K C->FnO K x q st ps f fd C->j9 P w K mg base (CX1 P w) k f fd ps sp->G):G:=by
 obtain⟨⟨C,q,st,ps,f,fd,e,c,M,F⟩⟩:=O;exact h C q st ps f fd e c M F
theorem QI.go (O:QI x c k sp ⟨P,w,K,mg,base,cl⟩)(h:∀C q st ps f fd,cl c= .ref C->mg x=some (.ref C)->L2.Mk K C f->FnO K "__init__" q st ps f fd C->j9 P w K mg base (CX1 P w) k f fd ps sp->G):G:=by
 obtain⟨⟨C,q,st,ps,f,fd,e,g,M,O,F⟩⟩:=O;exact h C q st ps f fd e g M O F
theorem CA.go (A:CA c as K cl)(h:∀C,cl c= .ref C->L2.Cls K C->(∀f,as.contains f=true->L2.NoAttr K C f)->G):G:=by
 obtain⟨⟨C,e,c,n⟩⟩:=A;exact h C e c n
end
section
variable {Z:Zz}{x y:Str}{st:Stmt}{ps:List Str}{c k n m j:Nat}{fb:En->RS}{fm:En->R (T×En)}
abbrev Sc (N ps:List Str)(st:Stmt):Prop:=Zx N ps (zq st)
theorem okP (C:FE Z.K Z.mg x st ps)(N:List Str) (hb:∀(f:Addr) (cdv:Value) (A:Around) (outer:List Env) (s:Shared) (H:Hp) (E:XK) (Y:Fx),Y.cl=Z.cl->True->ZA k (A.deeper (envOfC x (zq st) s.heap.objs.size f cdv))->N.Nodup->True->
   JW (jM CX0 Z.P Z.w Z.K Z.mg Z.base N x (zq st) f cdv A outer s H E).nox Y (zH st) fb)
  (S:Sc N ps st:=by refine⟨rfl,rfl,rfl, ?_,rfl, ?_, ?_⟩ <;> decide+kernel) (hn:n=ps.length:=by rfl) (hm:m=N.length:=by rfl):qP Z x n (k+1) (oP m fb):=by
 obtain⟨f,fd,C⟩:=C;subst hm;exact⟨_,_,f,fd,C,z15 C.F S hn (λcdv A outer s H E Y hy hr=>hb f cdv A outer s H E Y hy trivial hr S.nd trivial) λ_ _=>rfl⟩
abbrev BM (Z:Zz)(k:Nat)(qual:Str)(st:Stmt)(N:List Str)(G:Cx->Fx->Prop):Prop:=∀(f:Addr) (cdv:Value) (A:Around) (outer:List Env) (s:Shared) (H:Hp) (E:XK) (Y:Fx),Y.cl=Z.cl->Y.E=E->ZA k (A.deeper (envOfC qual (zq st) s.heap.objs.size f cdv))->N.Nodup->Z5 (CX1 Z.P Z.w) (jM (CX1 Z.P Z.w) Z.P Z.w Z.K Z.mg Z.base N qual (zq st) f cdv A outer s H E) Y.E->
   G (jM (CX1 Z.P Z.w) Z.P Z.w Z.K Z.mg Z.base N qual (zq st) f cdv A outer s H E) Y
theorem okM (ca:CA c as Z.K Z.cl)(C:FM Z.K Z.cl c x st ps)(N:List Str)(hb:∀q,BM Z k q st N λX Y=>vp X Y (zH st) fm)
  (S:Sc N ps st:=by refine⟨rfl,rfl,rfl, ?_,rfl, ?_, ?_⟩ <;> decide+kernel) (hn:ps.length=n+1:=by rfl) (hm:N.length=j+1:=by rfl) (hj:n+1<=j:=by decide):qM Z c x n (k+1) (oM c j fm):=by
 obtain⟨C,q,f,fd,e,M⟩:=C;obtain⟨C',e',cl,_⟩:=ca;rw[e]at e';cases e';exact⟨C,q,_,_,f,fd,e,cl,M,YH M.F S hn hm hj λcdv A outer s H E Y hy hE hr=>hb q f cdv A outer s H E Y hy hE hr S.nd (hE ▸ yS)⟩
theorem okO (ca:CA c as Z.K Z.cl)(C:FM Z.K Z.cl c x st ps)(N:List Str)(hb:∀q,BM Z k q st N λX Y=>JW X Y (zH st) fb)
  (S:Sc N ps st:=by refine⟨rfl,rfl,rfl, ?_,rfl, ?_, ?_⟩ <;> decide+kernel) (hn:ps.length=n+1:=by rfl) (hm:N.length=n+1+m:=by rfl):qO Z c x n (k+1) (oO c m 0 fb):=by
 obtain⟨C,q,f,fd,e,M⟩:=C;obtain⟨C',e',cl,_⟩:=ca;rw[e]at e';cases e';exact⟨C,q,_,_,f,fd,e,cl,M,gh M.F S hn hm λcdv A outer s H E Y hy hE hr=>hb q f cdv A outer s H E Y hy hE hr S.nd (hE ▸ yS)⟩
theorem okI (C:FI Z.K Z.mg Z.cl c y st ps)(N:List Str)(hb:∀q,BM Z k q st N λX Y=>vp X Y (zH st) fm)
  (S:Sc N ps st:=by refine⟨rfl,rfl,rfl, ?_,rfl, ?_, ?_⟩ <;> decide+kernel) (hn:ps.length=n+1:=by rfl) (hm:N.length=j+1:=by rfl) (hj:n+1<=j:=by decide):qI Z c y n (k+1) (oM c j fm):=by
 obtain⟨C,q,f,fd,e,g,M,O⟩:=C;exact⟨C,q,_,_,f,fd,e,g,M,O,YH O.F S hn hm hj λcdv A outer s H E Y hy hE hr=>hb q f cdv A outer s H E Y hy hE hr S.nd (hE ▸ yS)⟩
theorem okFM (C:FE Z.K Z.mg x st ps)(N:List Str)(hb:BM Z k x st N λX Y=>vp X Y (zH st) fm)
  (S:Sc N ps st:=by refine⟨rfl,rfl,rfl, ?_,rfl, ?_, ?_⟩ <;> decide+kernel) (hn:ps.length=n+1:=by rfl) (hm:N.length=j+1:=by rfl) (hj:n+1<=j:=by decide):qFM Z c x n (k+1) (oM c j fm):=by
 obtain⟨f,fd,C⟩:=C;exact⟨_,_,f,fd,C,YH C.F S hn hm hj λcdv A outer s H E Y hy hE hr=>hb f cdv A outer s H E Y hy hE hr S.nd (hE ▸ yS)⟩
theorem okB (C:FE Z.K Z.mg x st ps)(hn:n=ps.length:=by rfl):qP Z x n k (λ_=> .bad):=by
 obtain⟨f,fd,C⟩:=C;exact⟨_,_,f,fd,C,λvs H Q E h=>by rw[← hn];exact spP.len vs H Q E h,λA outer s H args us vs Q E _ _ _ _ ⟨B,ts,_,_,_,q⟩=>q.elim⟩
end
section
theorem cZ (hy:Y.cl=cl)(O:QQ x CX0 j (spP cl n g) ⟨X.prog,X.w,X.K,X.mg,X.base,cl⟩)(hr:ZA k X.A)(ha:wE X Y (a :: es) ga)(hj:j<=k:=by omega)(gl:Gl X x:=by rfl)(hd:(x == ("__debug__":Str))=false:=by decide)
  (hs:starEach (a :: es) X.env=(false,eval a X.env) :: starEach es X.env:=by exact zR rfl) (hz:((backTo pos (starEach es X.env)).any λx=>x.fst)=false:=by exact Zh rfl):Snd X Y (.Call (.Name x p) (a :: es) [] pos) (za n g ga):=
 O.go λ_ _ _ _ C F=>xD hy F hr hj gl C.m C.F.kp C.b ha hd hs hz
end
noncomputable def nms (N:List Str)(js:List Nat):List Str:=js.map λj=>N.getD j ""
noncomputable def ndB:List Str->Bool
 | []=>true
 | x :: r=> !(r.contains x) && ndB r
theorem U2:∀{l:List Str},ndB l=true->l.Nodup
 | [],_=> .nil
 | x :: r,h=>by
  rw[ndB,ae]at h;exact d5.mpr ⟨by simpa using h.1,U2 h.2⟩
def XW (N N' :List Str)(sc0 scope:Scope)(k:Nat)(js:List Nat):Bool:=(GI scope sc0 && GJ N N' scope sc0 k js) && ndB N'
section
variable {cl:Nat->Value}{X:Cx}{Y:Fx}{x y:Str}{p p' p2:Pos}{kk:Nat}{iter elt:Expr}{ifs:List Expr}{scope:Scope}{js:List Nat}{fi:En->R (List T)}{ft:En->R Bool}{fe:En->R T}
theorem cr1 (hy:Y.cl=cl)(h:XW X.N (x :: nms X.N js) X.env.scope scope 1 js=true)(hx:((relabel scope X.env).names.lookup x == some .local)=true)(cm:X.calm=true)(it:ud X Y (.Name x p) iter fi)(tt:∀Y',Y'.cl=cl->Vd X scope (x :: nms X.N js) λXC=>wL XC Y' ifs ft)
  (el:∀Y',Y'.cl=cl->Kj X scope (x :: nms X.N js) Y'.E λXC=>Snd XC Y' elt fe) (hs:∀x,foldedSetIterable iter X.env x=pure x:=by intro _;rfl):we X Y (.Name x p) iter elt ifs scope (x :: nms X.N js) 1 js fi (wy 0) (zK 0) ft fe:=by
 subst hy;rw[XW,ae]at h;have hx:(relabel scope X.env).names.lookup x=some .local:=eq_of_beq hx;exact Vg _ _ _ rfl rfl h.1 cm it (λ_ _ _ _ _ _=>j8 (U2 h.2) rfl (.inl hx) (.inr hx)) (QP 0) (QT 0) tt el hs
theorem cr2 (hy:Y.cl=cl)(h:XW X.N (x :: y :: nms X.N js) X.env.scope scope 2 js=true)(hx:((relabel scope X.env).names.lookup x == some .local && (relabel scope X.env).names.lookup y == some .local)=true)(cm:X.calm=true)(it:ud X Y (.Tuple [.Name x p,.Name y p'] kk p2) iter fi)(tt:∀Y',Y'.cl=cl->Vd X scope (x :: y :: nms X.N js) λXC=>wL XC Y' ifs ft)
  (el:∀Y',Y'.cl=cl->Kj X scope (x :: y :: nms X.N js) Y'.E λXC=>Snd XC Y' elt fe) (hs:∀x,foldedSetIterable iter X.env x=pure x:=by intro _;rfl):we X Y (.Tuple [.Name x p,.Name y p'] kk p2) iter elt ifs scope (x :: y :: nms X.N js) 2 js fi (z0m X.K 2 (yv (wy 0) (yv (wy 1) z0l))) (ZF 0 1) ft fe:=by
 subst hy;rw[XW,ae]at h;rw[ae]at hx;have h1:(relabel scope X.env).names.lookup x=some .local:=eq_of_beq hx.1;have h2:(relabel scope X.env).names.lookup y=some .local:=eq_of_beq hx.2;exact Vg _ _ _ rfl rfl h.1 cm it (λ_ _ _ _ _ _=>vX cm (ji (j8 (U2 h.2) rfl (.inl h1) (.inr h1)) (ji (j8 (U2 h.2) rfl (.inl h2) (.inr h2)) yw))) (QR _ 0 1) (QU 0 1) tt el hs
end
end PV
namespace L2
open PySem PySem.Spec PyProof.Rows
section
theorem Inv.virt (I:Inv X pins σ H s)(hq:X.N[q]? =some x)(hv:X.env.scope.names.lookup x=none)(v:Option V):Inv X pins (σ.set q v) H s:=
 { I with
  loc:=let ⟨m,hn,hl⟩:=I.loc;⟨m,hn,λi y u e1 e2 e3=>by
   by_cases h:i=q
   ·subst h;rw[hq]at e1;cases e1;unfold Vis at e3;rw[hv]at e3;rcases e3 with z | z | z <;> cases z
   ·rw[ax (bi h)]at e2;exact hl i y u e1 e2 e3⟩
  len:=by rw[aI];exact I.len }
theorem U3 {α:Type}{l:List α}{x a:α}(h:l[q]? =some a):(l.set q x).set q a=l:=by
 rw[List.set_set];obtain⟨hq,rfl⟩:=aw.mp h;exact List.set_getElem_self hq
theorem Xa (ha:PE X e te)(hr:PA X es t)(hq:X.N[q]? =some x)(hv:X.env.scope.names.lookup x=none)(hs:starEach (e :: es) X.env=(false,eval e X.env) :: starEach es X.env):
  PA X (e :: es) (λσ H Q=>te σ H λv H1=>t (σ.set q (some v)) H1 λvs H2=>Q (v :: vs) H2):=by
 intro pos pins s σ H Q I h;rw[hs];show wpAny _ _ (spliced ((false,eval e X.env) :: backTo pos (starEach es X.env))) _ _ s;refine dG (thn (ha pins s σ H _ I h) λu s1 ⟨x,H1,I1,r1,q1⟩=> ?_);refine thn (hr pos pins s1 _ H1 _ (I1.virt hq hv (some x)) q1) λus s2 ⟨xs,H2,I2,r2,q2⟩=>⟨x :: xs,H2, ?_,.cons r1 r2,q2⟩;have hl:q < σ.length:=by rw[I.len];exact(aw.mp hq).1
 have:=I2.virt hq hv σ[q];rw[U3 (ag hl)]at this;exact this
end
end L2
namespace PV
open PySem PySem.Spec PyProof.Rows L2 PySem.W
section
theorem SI.cpO (I:SI Y B ρ σ H){q k n:Nat}{a:Addr}(h:ρ[q]? =some (.ob k n))(ha:σ[q]? =some (some (V.ref a)))(i:Nat):SI Y B (ρ.set i (.ob k n)) (σ.set i (some (V.ref a))) H:=by
 have get:∀{j:Nat} {y:Sl},(ρ.set i (.ob k n))[j]? =some y->(∀a b,y ≠ .ob a b)->ρ[j]? =some y/\(σ.set i (some (V.ref a)))[j]? =σ[j]? :=λ{j y} h hy=>by
  rcases zr h with ⟨_,z⟩ | ⟨e,z⟩
  ·exact absurd z (hy _ _)
  ·exact⟨z,ax (bi e)⟩
 have no:∀b,u9 ρ σ b->u9 (ρ.set i (.ob k n)) (σ.set i (some (V.ref a))) b:=λb hb j us hw=>by
  obtain⟨e1,e2⟩:=get hw (λ_ _=>Sl.noConfusion);rw[e2];exact hb j us e1
 obtain⟨as,O,x⟩:=I.st;refine⟨I.s0,I.sH,I.sB,I.old,by rw[aI,aI];exact I.len,λj t e=> ?_,λj ts e=> ?_,λj c e=> ?_,as,O,x.pre,λj os e=>x.len j os (get e (λ_ _=>Sl.noConfusion)).1,λj j' os os' e e' =>x.one j j' os os' (get e (λ_ _=>Sl.noConfusion)).1 (get e' (λ_ _=>Sl.noConfusion)).1,λj k' n' e=> ?_,λj k' fs e=> ?_,λj os e m k' fs e' => ?_⟩
 ·obtain⟨e1,e2⟩:=get e (λ_ _=>Sl.noConfusion);rw[e2];exact I.vl j t e1
 ·obtain⟨e1,e2⟩:=get e (λ_ _=>Sl.noConfusion);obtain⟨b,xs,y1,y2,y3,y4,y5,y6⟩:=I.ow j ts e1;refine⟨b,xs,by rw[e2];exact y1,y2,y3,y4,y5,λj' us hj hw=> ?_⟩
  obtain⟨e3,e4⟩:=get hw (λ_ _=>Sl.noConfusion);rw[e4];exact y6 j' us hj e3
 ·obtain⟨e1,e2⟩:=get e (λ_ _=>Sl.noConfusion);rw[e2];exact I.xc j c e1
 ·rcases zr e with ⟨rfl,z⟩ | ⟨hj,z⟩
  ·cases z;obtain⟨a',C,dx,vs,y1,y2,y3⟩:=x.ob q k n h;rw[ha]at y2;cases y2;exact⟨a,C,dx,vs,y1,aP (by rw[← I.len];exact Wt e),y3⟩
  ·rw[ax (bi hj)];exact x.ob j k' n' z
 ·obtain⟨e1,e2⟩:=get e (λ_ _=>Sl.noConfusion);rw[e2];exact x.oc j k' fs e1
 ·obtain⟨b,C,dx,vs,y1,y2,y3,y4,y5,y6,y7,y8⟩:=x.st j os (get e (λ_ _=>Sl.noConfusion)).1 m k' fs e';refine⟨b,C,dx,vs,y1,y2,y3,y4,y5,y6,y7,λm' f d z=> ?_⟩;obtain⟨v,x1,x2⟩:=y8 m' f d z;refine⟨v,x1, ?_⟩;cases d with
  | tv t=>exact x2
  | tl ts=>
   obtain⟨l,xs,p1,p2,p3,p4,p5,p6,p7⟩:=x2;exact⟨l,xs,p1,p2,p3,p4,p5,no l p6,p7⟩
end
def mkA (q j k nn:Nat)(g:List (Str×Fd)->List T->R (T×List (Str×Fd)))(ga:En->R (List T)):En->R En:=λρ=>(ga ρ).bind λts=>if ts.length=nn/\q ≠ j/\q < ρ.length then (match ρ[j]? with
 | some (.st os)=>(match g [] ts with
  | .ok (.non,fs)=> .ok ((ρ.set j (.st (os++[(k,fs)]))).set q (.ob k os.length))
  | .ex c=> .ex c
  | _=> .bad)
 | _=> .bad) else .bad
end PV
namespace PV
open PySem PySem.Spec PyProof.Rows L2
def z1x (ft:En->R Bool)(fa fb:En->R (T×En)):En->R (T×En):=λρ=>(ft ρ).bind λc=>if c=true then fa ρ else fb ρ
theorem m_if (hc:W7 X Y c ft)(ha:uk X Y a fa)(hb:uk X Y b fb):uk X Y (.IfExp c a b pos) (z1x ft fa fb):= .mk λρ=>
 PE.imp (uF (hc ρ) (ha.go ρ) (hb.go ρ)) λσ H Q ⟨B,I,q⟩=>X6 I q λt v H1 _ s1 r1 I1 q1=>by
  have r1:v=t:=r1;subst r1;cases v with
  | true=>exact⟨_,I1,q1⟩
  | false=>exact⟨_,I1,q1⟩
end PV
namespace PV
open PySem PySem.Spec PyProof.Rows L2 PySem.W
noncomputable abbrev qlT (x:Str):Str:=x++".<locals>."++"<lambda>"
section
end
def PoW (Y:Fx)(B:Hp)(q:Nat)(r:R En)(σ:Sg)(Q:VK):Prop:=match r with
 | .ok ρ' =>∀a H' B' k n,zv B B' ->SI Y B' ρ' (σ.set q (some (V.ref a))) H' ->ρ'[q]? =some (.ob k n)->Q (.ref a) H'
 | .ex c=>XP Y B c
 | .bad=>False
theorem PoW.up {r:R En}(s:zv B B')(h:PoW Y B q r σ Q):PoW Y B' q r σ Q:=by
 cases r with
 | ok ρ=>exact λa H' B2 k n s2=>h a H' B2 k n (s.trans s2)
 | ex c=>exact λd H' z1 z2=>h d H' z1 (s.trans z2)
 | bad=>exact h
def tW (Y:Fx)(q:Nat)(m:En->R En)(ρ:En):TE:=λσ H Q=>∃B,SI Y B ρ σ H/\PoW Y B q (m ρ) σ Q
structure Xb (X:Cx) (Y:Fx) (e:Expr) (q:Nat) (m:En->R En):Prop where
 go:∀ρ,PE X e (tW Y q m ρ)
section
theorem q_mk {g:List (Str×Fd)->List T->R (T×List (Str×Fd))}(hy:Y.cl=cl)(hc:cl k= .ref C)(M:L2.Mk X.K C f)(F:j9 X.prog X.w X.K X.mg X.base (CX1 X.prog X.w) kj f fd ps (spM cl k nn g))(hr:ZA kk X.A)(hj:kj+1<=kk)(gl:Gl X c)(mg:X.mg c=some (.ref C))(bd:L2.Binds X.K fd ps [])(hp:Z5 (CX1 X.prog X.w) X Y.E)(ha:wE X Y (a :: es) ga)
  (hd:(c == ("__debug__":Str))=false:=by decide) (hst:starEach (a :: es) X.env=(false,eval a X.env) :: starEach es X.env:=by exact zR rfl) (hpl:((backTo pos' (starEach es X.env)).any λx=>x.fst)=false:=by exact Zh rfl):
  Xb X Y (.Call (.Name c pc) (a :: es) [] pos') q (mkA q j k nn g ga):= .mk λρ=>by
 refine PE.imp (VN M F (hr.mono hj) gl mg bd .nil hp (ha ρ) hd hst hpl) λσ H Q ⟨B,I,po⟩=> ?_;generalize em:mkA q j k nn g ga ρ=mr at po;have em' :=em;unfold mkA at em';refine⟨B,I, ?_⟩;cases eg:ga ρ with
 | bad=>rw[eg]at em';subst em';exact po
 | ex c=>rw[eg]at em';subst em';exact po
 | ok ts=>
  rw[eg]at em';intro vs H1 s1 r1;have I1:=I.grow s1;have po1:=po.up (zO.ge I.sB s1);have em' :(if ts.length=nn/\q ≠ j/\q < ρ.length then (match ρ[j]? with
   | some (.st os)=>(match g [] ts with
    | .ok (.non,fs)=> .ok ((ρ.set j (.st (os++[(k,fs)]))).set q (.ob k os.length))
    | .ex c=> .ex c
    | _=> .bad)
   | _=> .bad) else .bad:R En)=mr:=em'
  subst hy;split at em'
  ·rename_i hn;intro y0 dx h1 h2 h3;rw[aW];split at em'
   ·rename_i os ej;have sd:zv H1 (upd H1 dx (.own y0)):=zv.new h2 _;have hy0:upd H1 dx (.own y0) y0=none:=by rw[zu (bi h3)];exact h1
    refine⟨y0,vs,ts,_,upd H1 dx (.own y0),[],rfl,hn.1,I1.sB.trans sd,zv.new hy0 _,⟨C,dx,[],λ_=>some 0,hc,zx,I1.sB.free h1,hy0,rfl,⟨rfl,λ_ _=>rfl⟩,λm f d z=>by cases z⟩,r1, ?_⟩
    revert em';cases g [] ts with
    | bad=>exact λe=>by subst e;exact po1
    | ex c2=>exact λe=>by subst e;exact λd H' z1 z2=>po1 d H' ((I1.sH.trans sd).trans z1) z2
    | ok p=>
     obtain⟨t,fs2⟩:=p;cases t with
     | non=>
      intro e v H' B' z1 z2 z3 z4 z5 z6;cases z6;refine⟨rfl, ?_⟩;have em2:mr= .ok ((ρ.set j (.st (os++[(k,fs2)]))).set q (.ob k os.length)):=e.symm;subst em2;have S1:=I1.made (i:=q) ej hn.2.1 hn.2.2 sd z1 z2 z3 z4 z5;exact(po1.up z2) y0 H' B' k os.length (zv.refl _) S1 (aP (by rw[aI];exact hn.2.2))
     | _=>exact λe=>by subst e;exact po1.elim
   ·subst em';exact po1.elim
  ·subst em';exact po1.elim
end
section
end
section
theorem vv (I:SI Y B ρ σ H)(h:obL k i j ρ=some fs)(hl:fs.lookup f=some (.tl ts)):∃a C dx vs l xs,σ[i]? =some (some (V.ref a))/\Y.cl k= .ref C/\H a=some (.ins C dx vs)/\vs.lookup f=some (.ref l)/\H l=some (.lst xs)/\zE B xs ts:=by
 obtain⟨a,C,dx,vs,e1,e2,e3,e4,e5⟩:=I.obL h;obtain⟨m',v,z1,z2,z3⟩:=ul (λm g e he=>let ⟨v,z,_⟩:=e5 m g e he;⟨v,z⟩) hl;obtain⟨v',y1,l,xs,rfl,y3,y4⟩:=e5 m' _ _ z1;rw[z2]at y1;cases y1;exact⟨a,C,dx,vs,l,xs,e1,e2,e3,z3,y3,y4⟩
def lsV (k i j:Nat)(f:Str):En->Option (List T):=λρ=>match obL k i j ρ with
 | some fs=>(match fs.lookup f with
  | some (.tl ts)=>some ts
  | _=>none)
 | none=>none
theorem YL (I:SI Y B ρ σ H)(h:lsV k i j f ρ=some ts):∃a C dx vs l xs,σ[i]? =some (some (V.ref a))/\Y.cl k= .ref C/\H a=some (.ins C dx vs)/\vs.lookup f=some (.ref l)/\H l=some (.lst xs)/\zE B xs ts:=by
 unfold lsV at h;split at h
 ·rename_i fs e;split at h
  ·rename_i us el;cases h;exact vv I e el
  ·cases h
 ·cases h
def vw (k i j:Nat)(f:Str):En->R T:=λρ=>match lsV k i j f ρ with
 | some ts=> .ok (.lst ts)
 | none=> .bad
def ixV (k i j:Nat)(f:Str)(fb:En->R T):En->R T:=λρ=>match lsV k i j f ρ with
 | some ts=>(fb ρ).bind λt=>match t with
  | .int q=>atT ts q
  | _=> .bad
 | none=> .bad
abbrev lcpV:=vw
theorem gj (hv:PE X (.Name x px) (Jh i))(hc:Y.cl k= .ref C)(c:L2.Cls X.K C)(n:L2.NoAttr X.K C f)(hb:attributeBase (.Name x px) f X.env (eval (.Name x px) X.env)=eval (.Name x px) X.env:=by rfl):j6 X Y (.Attribute (.Name x px) f pos) (vw k i j f):= .mk λρ=>PE.imp (Jv hv hb) λσ H Q ⟨B,I,q⟩=>by
 unfold vw at q;split at q
 ·rename_i ts e;obtain⟨a,C',dx,vs,l,xs,e1,e2,e3,e4,p4,p5⟩:=YL I e;rw[hc]at e2;cases e2;exact⟨.ref a,e1,a,C,dx,vs,_,rfl,e3,c,n,e4,q _ H (zv.refl _) (.lst p4 (p5.mono I.sB))⟩
 ·exact q.elim
theorem z1y (hv:PE X (.Name x px) (Jh i))(hc:Y.cl k= .ref C)(c:L2.Cls X.K C)(n:L2.NoAttr X.K C f)(hb:Snd X Y b fb)(hbf:attributeBase (.Name x px) f X.env (eval (.Name x px) X.env)=eval (.Name x px) X.env:=by rfl)(hs:wB b:=by exact λ_ _=>rfl):Snd X Y (.Subscript (.Attribute (.Name x px) f p) b pos) (ixV k i j f fb):= .mk λρ=>
 PE.imp (VU yO (Jv hv hbf) (hb ρ) hs) λσ H Q ⟨B,I,q⟩=>by
  unfold ixV at q;split at q
  ·rename_i ts e;obtain⟨a,C',dx,vs,l,xs,e1,e2,e3,e4,hh,rr⟩:=YL I e;rw[hc]at e2;cases e2;refine⟨.ref a,e1,a,C,dx,vs,_,rfl,e3,c,n,e4,step I q λt' v' H2 _ s2 r2 I2 q2=> ?_⟩;cases r2 with
   | int j=>
    have q2:Po Y rC _ H2 (atT ts j) Q:=q2;unfold atT at q2;split at q2
    ·rename_i t e8;obtain⟨w,e9,e10⟩:=Wr (rr.mono (zO.ge I.sB s2)) e8;exact .inl ⟨_,xs,j,w,rfl,rfl,SqL.of (s2 _ _ hh),e9,po0 I2.sB q2 rfl e10⟩
    ·exact q2.elim
   | _=>exact q2.elim
  ·exact q.elim
theorem gm (hv:PE X (.Name x px) (Jh i))(hc:Y.cl k= .ref C)(c:L2.Cls X.K C)(n:L2.NoAttr X.K C f)(gl:Gl X "list")(mg:X.mg "list"=none)(hbf:attributeBase (.Name x px) f X.env (eval (.Name x px) X.env)=eval (.Name x px) X.env:=by rfl):Snd X Y (.Call (.Name "list" p) [.Attribute (.Name x px) f pf] [] pos) (lcpV k i j f):= .mk λρ=>
 PE.imp (ja J8 gl mg (PyProof.Rows.Boot.«list») (zA (Jv hv hbf) zU (st1 rfl)) (by decide) (by decide) (st1 rfl) rfl) λσ H Q ⟨B,I,q⟩=>by
  have q:Po Y rC B H (vw k i j f ρ) Q:=q;unfold vw at q;split at q
  ·rename_i ts e;obtain⟨a,C',dx,vs,l,xs,e1,e2,e3,e4,hh,rr⟩:=YL I e;rw[hc]at e2;cases e2;exact⟨.ref a,e1,a,C,dx,vs,_,rfl,e3,c,n,e4,l,xs,rfl,.inl (SqL.of hh),λl' hl' =>q _ _ (zv.new hl' _) (.lst (by rw[zZ hl'];exact zx) (rr.mono (zO.ge I.sB (zv.new hl' _))))⟩
  ·exact q.elim
end
section
end
end PV
namespace PV
open PySem PySem.Spec PyProof.Rows L2
section
end
section
end
end PV
namespace PV
open PySem PySem.Spec PyProof.Rows L2 PySem.W
section
end
def E1 (cl:Nat->Value)(ok:Nat->Bool)(gx:Nat->R T)(B H:Hp)(Q:VK)(E:XK):XK:=λcls _ H' =>∃c,cls=cl c/\ok c=true/\zv H H' /\zv B H' /\Po ⟨B,H,E,cl,[]⟩ rC B H (nx1 (gx c)) Q
def spT2 (P:Program)(w:World)(K:Frag)(mg:Str->Option Value)(base:Heap)(cl:Nat->Value)(ok:Nat->Bool)(gx:Nat->R T)(k:Nat)(f:Addr)(o:Obj):Sp:=λvs H Q E=>vs=[V.ref f]/\H f=some (.frz o (.own f))/\∃B,zv B H/\
 ∀(A:Around) (outer:List Env) (s:Shared),ZA (k+1) A->uK P w K mg base A outer s H->codeAny (model P w) A (.call (.ref f) ⟨[],[]⟩) (CR (CX1 P w) outer P w H s Q (E1 cl ok gx B H Q E)) s
structure QCM (x:Str) (k:Nat) (gx:Nat->R T) (Z:Zz):Prop where
 ex:∃st y f fd,Fn Z.K Z.mg x st [y] f fd/\FnM Z.P Z.w Z.K Z.mg Z.base k f fd [y] (spC Z.cl gx)
structure QD (x:Str) (k:Nat) (ok:Nat->Bool) (gx:Nat->R T) (Z:Zz):Prop where
 ex:∃st d f fd,Fn Z.K Z.mg x st [d] f fd/\∀(base:Heap) (fl c' :Addr) (q:Str) (params:Arguments) (body:Expr) (scope:Scope) (clos:List (Str×Addr)) (pm ctv:Value),Z.K.In base->j9 Z.P Z.w Z.K Z.mg base CX0 (k+2) f fd [d] (spT2 Z.P Z.w Z.K Z.mg base Z.cl ok gx k fl (Vm q params body scope clos pm ctv c'))
section
variable {Z:Zz}{x:Str}{st:Stmt}
theorem okCM {q:Str}{k m:Nat}{fb:En->RS}(C:FE Z.K Z.mg x st [q])(N:List Str) (hb:∀(f:Addr) (cdv:Value) (A:Around) (outer:List Env) (s:Shared) (H:Hp) (_:True) (Y:Fx),Y.cl=Z.cl->True->j0 k (A.deeper (envOfC x (zq st) s.heap.objs.size f cdv))->N.Nodup->True->
   JW (cxM Z.P Z.w Z.K Z.mg Z.base N x (zq st) f cdv A outer s H) Y (zH st) fb)
  (S:Sc N [q] st:=by refine⟨rfl,rfl,rfl, ?_,rfl, ?_, ?_⟩ <;> decide+kernel) (h1:1<=N.length:=by decide) (hm:m=N.length:=by rfl):QCM x (k+1) (oC m fb) Z:=by
 obtain⟨f,fd,C⟩:=C;subst hm;exact⟨_,_,f,fd,C,X4 C.F S h1 (λcdv A outer s H Y hy hr=>hb f cdv A outer s H trivial Y hy trivial hr S.nd trivial) λ_=>rfl⟩
theorem okTd {ok:Nat->Bool}{gx:Nat->R T}{k j i:Nat}{d n cn lc:Str}{C:Addr}{N:List Str}{dp cp rp np hp lp ep lcp rp2 tp:Pos}(F:FE Z.K Z.mg x st [d])(hmc:Z.mg cn=some (.ref C))(hok:∀c,ok c=true->exmOne Z.K (Z.cl c) (.ref C)=some true)(FL:∀b,Z.K.In b->QCM lc j gx { Z with base:=b })
  (S:Sc N [d] st) (hst:zH st=[.Try [.Return (some (.Call (.Name d dp) [] [] cp)) rp] [.ExceptHandler (some (.Name cn np)) (some n) [.Return (some (.Call (.Name lc lp) [.Name n ep] [] lcp)) rp2] hp] [] [] tp])
  (h0:N[0]? =some d) (hd:(zq st).names.lookup d=some .local) (hi:N[i]? =some n) (hl:(zq st).names.lookup n=some .local) (hgc:(zq st).names.lookup cn=some .globalImplicit)
  (hgl:(zq st).names.lookup lc=some .globalImplicit) (hj:j<=k+1:=by omega)
  (h1:(d == ("__debug__":Str))=false:=by decide) (h2:(d == ("__classdict__":Str))=false:=by decide) (h3:(n == ("__debug__":Str))=false:=by decide) (h4:(n == ("__classdict__":Str))=false:=by decide) (h5:(lc == ("__debug__":Str))=false:=by decide) (h6:(cn == ("__debug__":Str))=false:=by decide):
  QD x k ok gx Z:=by
 obtain⟨ft,fdt,F⟩:=F;refine⟨_,_,ft,fdt,F,λbase f c' q params body scope clos pm ctv KB=> ?_⟩;obtain⟨⟨stl,y,fl,fdl,CL,FM⟩⟩:=FL base KB;refine F.F.ok S (λvs H Q E ⟨e,_⟩=>by rw[e];rfl) λcdv A outer s H vs Q E hr ⟨e,hf,B,sB,run⟩=> ?_
 subst e;rw[hst];have he:∀ea,PE ((jM CX0 Z.P Z.w Z.K Z.mg base N x (zq st) ft cdv A outer s H E).nox.mark' (.ref ea)) (.Call (.Name lc lp) [.Name n ep] [] lcp) (λσ H Q=>∃v,σ[i]? =some (some v)/\spC Z.cl gx [v] H Q λ_ _ _=>False):=λea=>
  PE.imp (vo FM ((hr.m.mono hj).mark _) hgl CL.m CL.F.kp CL.b (zA (uE hi (.inl hl) h3 h4) zU (st1 rfl)) h5 (st1 rfl)) λσ H Q ⟨v,e,z⟩=>⟨v,e,z⟩
 refine⟨_,Jr (X3 (tb:=λE' =>tRet (KR _ E' 0 f _)) (i:=i) (C:=C) rfl rfl S.nd hi hl hgc hmc (λE' pn xe hp=>Jr (Wc (X2 (f:=f) (c' :=c') (q:=q) (params:=params) (body:=body) (scope:=scope) (clos:=clos) (pm:=pm) (ctv:=ctv) (uE h0 (.inl hd) h1 h2) hp))) he h6), ?_⟩;refine⟨E1 Z.cl ok gx B H Q E,λcls d H' ea σ' ⟨c,e1,e2,s1,s2,q1⟩=> ?_,by unfold L2.start;rfl,hf,λs2 e0=>run _ _ s2 hr e0⟩
 subst e1;refine⟨hok c e2,λhea hl' hX' =>⟨.ref ea,aP (by rw[hl',hX'];exact(aw.mp hi).1),upd B ea _,ea,c,rfl, ?_,zx, ?_⟩⟩
 ·intro b o hb
  by_cases z:b=ea
  ·subst z;rw[zx]at hb ⊢;exact hb
  ·rw[zu z]at hb ⊢;exact s2 b o hb
 ·have s3:zv H (upd H' ea (.ext (yU (Z.cl c) ea))):=s1.trans (zv.new hea _);have hHe:=s1.free hea;revert q1;cases gx c with
  | bad=>exact λz=>z
  | ex c2=>exact λz=>z.elim
  | ok t=>
   intro z b H3 s4 rb;refine z b H3 (s3.trans s4) (rb.mono λa o ha=> ?_);cases hH:upd H' ea _ a with
   | none=>
    rw[zZ hH]at ha;cases hHa:H a with
    | none=>rw[zZ hHa];exact ha
    | some u=>have:=s3 a u hHa;rw[hH]at this;cases this
   | some u=>
    rw[Z9 hH]at ha
    by_cases ze:a=ea
    ·subst ze;rw[zZ hHe];rw[zx]at ha hH;rw[← ha,s4 _ _ zx]
    ·rw[zu ze]at ha;rw[Z9 (sB a o ha)];exact ha
end
def jI (k i j:Nat)(m:Str)(ok:Nat->Bool)(gx:Nat->R T)(gO:List (Str×Fd)->List T->R T)(gM:List (Str×Fd)->List T->R (T×List (Str×Fd))):En->R (T×En):=λρ=>match obD k i j ρ with
 | some (_,fs,_)=>match gO fs [] with
  | .ex c=>if ok c=true then (nx1 (gx c)).bind λt=> .ok (t,ρ) else .bad
  | _=>(match gM fs [] with
   | .ok _=>u6 k i j m 0 gM zj ρ
   | _=> .bad)
 | none=> .bad
section
theorem gp {k i j:Nat}{ρ:En}{n:Nat}{fs:List (Str×Fd)}{os:List Ob}(h:obD k i j ρ=some (n,fs,os)):obL k i j ρ=some fs:=by
 obtain⟨h1,_,_⟩:=JG h;unfold PV.obL;rw[h1,h];rfl
theorem YM {cl:Nat->Value}{ok:Nat->Bool}{gx:Nat->R T}{kE k ko kM kO i j:Nat}{x q v m:Str}{c P:Addr}{params:Arguments}{scope:Scope}{lp p pos px ap pos' :Pos}{gO:List (Str×Fd)->List T->R T}{gM:List (Str×Fd)->List T->R (T×List (Str×Fd))}{pl:Nat->Addr->Value->List (Str×Addr)->Sem Bool}(L:Lm X c P q)(hT:Y.H0 P=some (.tbl #[] q))(hy:Y.cl=cl)
  (O:QD x kE ok gx ⟨X.prog,X.w,X.K,X.mg,X.base,cl⟩) (UM:∀b,X.K.In b->QM m ko kM (spM cl ko 0 gM) ⟨X.prog,X.w,X.K,X.mg,b,cl⟩) (UO:∀b,X.K.In b->QM m ko kO (spO cl ko 0 0 gO) ⟨X.prog,X.w,X.K,X.mg,b,cl⟩) (hr:ZA k X.A)
  (hck:XW X.N (nms X.N [i]) X.env.scope scope 0 [i]=true) (hvx:(X.N[i]? == some v && !scope.isCoroutine && !scope.isGenerator)=true)
  (hj:kE+2<=k:=by omega) (hM:kM<=kE:=by omega) (hO:kO<=kE:=by omega) (gl:Gl X x:=by rfl) (hfn:∀x,X.fn x=true:=by exact λ_=>rfl)
  (hp:∀(body:Expr) (clos:List (Str×Addr)) (pm cd ctv:Value),bindArgs (kla_fn "<lambda>" q params body scope clos pm cd ctv) ⟨[],[]⟩=pure []:=by intros;rfl) (hdef:defaultsOf params X.env=([],[]):=by rfl) (hd:(x == ("__debug__":Str))=false:=by decide) (hd2:(v == ("__debug__":Str))=false:=by decide) (hd3:(v == ("__classdict__":Str))=false:=by decide) (hna:m ∉ V3:=by decide)
  (ht:∀n f cd clos,eval (.Call (.Attribute (.Name v px) m ap) [] [] pos') (envX q scope n f cd clos)=(do
   let ov ← eval (.Name v px) (envX q scope n f cd clos)
   standAt ap.atName
   let (f',first) ← holding [ov] (getMethod ov m (pl n f cd clos))
   callWith pos' f' first (backTo pos' (starEach [] (envX q scope n f cd clos))) (backToKw pos' (keywordEach [] (envX q scope n f cd clos)))):=by intros;rfl):
  uk X Y (.Call (.Name x p) [.Lambda params (.Call (.Attribute (.Name v px) m ap) [] [] pos') scope lp] [] pos) (jI ko i j m ok gx gO gM):= .mk λρ=>by
 intro pins s σ H Q I ⟨B,J,po⟩;subst hy;rw[XW,ae]at hck;have hck:=hck.1;rw[ae]at hck;rw[ae,ae]at hvx;have hNi:X.N[i]? =some v:=eq_of_beq hvx.1.1;have CS:=Vf _ rfl hck.1;have CP:=Yi _ _ rfl rfl hck.2;have hN' :nms X.N [i]=[v]:=by simp[nms,hNi]
 have S:LSc scope:=⟨CS.kind,by simpa using hvx.1.2,by simpa using hvx.2,CS.nocell⟩
 obtain⟨clos,ecl,hcl,hcf⟩:=Ya λx hx hf=>I.ok.has x.1 (CS.fre x hx hf);obtain⟨⟨_,dn,ft,fdt,CT,O⟩⟩:=O;unfold jI at po;split at po
 case h_2=>exact po.elim
 rename_i nn fs os eD;refine bz (jq I gl CT.m ?_ hd);have hP:=J.sH _ _ hT;have hpa:=zA (KO (body:= .Call (.Attribute (.Name v px) m ap) [] [] pos') (pos:=lp) L hdef ecl) zU (st1 rfl) pos _ s σ H (λvs H1=>∃f c' pm ctv,vs=[V.ref f]/\zv H H1/\H1 f=some (.frz (Vm q _ _ _ _ pm ctv c') (.own f))/\JY H1 q c') I ⟨hP,λf c' pm ctv H' s1 hf hc=>⟨f,c',pm,ctv,rfl,s1,hf,hc⟩⟩;refine callWith_K I.ok.mod.kin CT.F.kp (thn hpa λus s1 ⟨vs,H1,I1,r,f,c',pm,ctv,e,sm,hf,hc⟩=>⟨I1.kIn, ?_⟩) (st1 rfl) rfl;subst e;have J1:=J.grow sm;obtain⟨a',C',dx,ws,e1,e2,e3,e4,al⟩:=J1.obA eD;have hσ:(Wu 0 [i] σ)[0]? =some (some (V.ref a')):=by simp[Wu,e1]
 have fr:scope.names.lookup v=some .free:=by
  obtain⟨y,y1,y2,y3,y4,y5⟩:=CP.cap 0 i rfl;rw[hNi]at y2;cases y2;exact y4
 refine X0 (E:=Y.E) I1 (O _ f c' q _ _ _ _ pm ctv I1.big.mod.kin) (hr.mono hj) CT.b Ks r ⟨rfl,hf,_,J1.sB,λA outer s2 hrm e0=> ?_⟩;have hv:∀E',PE (cxL X.prog X.w X.K X.mg (vn s1 H1 (frs X.stack)) (nms X.N [i]) q scope f (.ref c') clos A outer s2 H1 E') (.Name v px) (Jh 0):=λE' =>uE (by show (nms X.N [i])[0]? =_;rw[hN'];rfl) (.inr (.inr fr)) hd2 hd3
 split at po
 ·rename_i cx hx;obtain⟨⟨C2,_,_,ps,fm,fdm,c1,c2,c3,FO⟩⟩:=UO _ e0.mod.kin;obtain⟨b1,C3,dx',vs',z1,z2,z3,z4,z5⟩:=J1.obL (gp eD);rw[e1]at z1;cases z1;have z2:=(show Y.cl ko= .ref C2 from c1).symm.trans z2;cases z2;refine YF S hrm e0 (Vn I1 hfn hcl hcf CP) hf hc (hp _ _ pm _ ctv) (wA (hv _) c2 c3.m FO ((hrm.deeper _).mono hO) c3.b .nil KP (ht _ _ _ _)) ⟨.ref a',hσ,a',dx',vs',rfl,z3,z4 m hna,a',C2,dx',vs',[],[],[],[],_,fs,rfl,rfl,rfl,c1,z3,z4,z5,J1.sB,.nil,.nil, ?_⟩;show Po _ rC _ H1 (gO fs []) Q;rw[hx];split at po
  ·rename_i hok;intro d2 H' s3 s4;refine⟨cx,rfl,hok,s3,s4, ?_⟩;revert po;cases nx1 (gx cx) with
   | bad=>exact λz=>z
   | ex c2=>exact λz d H2 a b=>z d H2 ((J.sH.trans sm).trans a) ((zO.ge J.sB sm).trans b)
   | ok t=>exact λz b H2 s2 rb=>z b H2 _ ((zO.ge J.sB sm).trans (zO.ge J1.sB s2)) (J1.grow s2) rb
  ·exact po.elim
 ·split at po
  ·rename_i pr hx;obtain⟨⟨C2,_,_,ps,fm,fdm,c1,c2,c3,FM⟩⟩:=UM _ e0.mod.kin;have e2:=(show Y.cl ko= .ref C2 from c1).symm.trans e2;cases e2;unfold u6 at po;rw[eD]at po;dsimp only at po;split at po
   ·rename_i hl;have hno:=um e4 al (by simpa using hl)
    obtain⟨H0,b1,b2,b3,b4,b5⟩:=J1.back eD e1;refine YF S hrm e0 (Vn I1 hfn hcl hcf CP) hf hc (hp _ _ pm _ ctv) (wA (hv _) c2 c3.m FM ((hrm.deeper _).mono hM) c3.b .nil KP (ht _ _ _ _)) ⟨.ref a',hσ,a',dx,ws,rfl,e3,hno,a',[],[],_,H0,fs,rfl,rfl,b1,b2,b3,.nil, ?_⟩;have q1:PoM Y B ((gM fs []).bind λp=> .ok _) σ Q:=po;rw[hx]at q1;show PoO Y.cl ko _ H0 a' (gM fs []) Q _;rw[hx];obtain⟨t,fs2⟩:=pr;exact λv' H' B' z1 z2 z3 z4 z5 z6=>q1 v' H' B' ((zO.ge J.sB sm).trans z2) (b5 H' B' fs2 z1 z2 z3 z4 z5) z6
   ·exact po.elim
  ·exact po.elim
end
section
variable {Z:Zz}{x:Str}{st:Stmt}{ps:List Str}{k n m:Nat}{fb:En->RS}{f c:Addr}{fd:FuncData}{Pt:Addr}
theorem z1z (C:Fn Z.K Z.mg x st ps f fd)(ec:fd.code= .ref c)(hd:codeHdIn Z.K c Pt=true)(hBT:Z.base.BuiltinsAt Z.mg Pt)(N:List Str) (hb:∀(A:Around) (outer:List Env) (s:Shared) (H:Hp) (E:XK) (Y:Fx),Lm (jM (CX1 Z.P Z.w) Z.P Z.w Z.K Z.mg Z.base N x (zq st) f (.ref c) A outer s H E) c Pt (qlT x)->Y.H0 Pt=some (.tbl #[] (qlT x))->Y.cl=Z.cl->Y.E=E->ZA k (A.deeper (envOfC x (zq st) s.heap.objs.size f (.ref c)))->N.Nodup->Z5 (CX1 Z.P Z.w) (jM (CX1 Z.P Z.w) Z.P Z.w Z.K Z.mg Z.base N x (zq st) f (.ref c) A outer s H E) Y.E->
   JW (jM (CX1 Z.P Z.w) Z.P Z.w Z.K Z.mg Z.base N x (zq st) f (.ref c) A outer s H E) Y (zH st) fb)
  (S:Sc N ps st:=by refine⟨rfl,rfl,rfl, ?_,rfl, ?_, ?_⟩ <;> decide+kernel) (hn:n=ps.length:=by rfl) (hm:m=N.length:=by rfl):j9 Z.P Z.w Z.K Z.mg Z.base (CX1 Z.P Z.w) (k+1) f fd ps (Vo Z.cl n (oS m fb) Pt (qlT x)):=by
 subst hm;exact X8 C.F ec S hn (λA outer s H E Y hy hE hT hr=>hb A outer s H E Y ⟨rfl,hd,hBT,rfl⟩ hT hy hE hr S.nd (hE ▸ yS)) λ_ _=>rfl
end
def UX (i i2 i3 i4 q:Nat)(m:En->R En)(gb:En->R (List T)):En->RS:=λρ=>(m ρ).s λρ1=>(gb ρ1).s λts=>match ts,ρ1[q]? with
 | [y,z,u],some (.ob k n)=> .nx (((((ρ1.set i (.ob k n)).set i2 (.vl y)).set i3 (.vl z)).set i4 (.vl u)).set q .un)
 | _,_=> .bad
section
theorem Xc {m:En->R En}(hc' :X.calm=true)(hN:X.N.Nodup)(hi:X.N[i]? =some x)(hi2:X.N[i2]? =some y)(hi3:X.N[i3]? =some z)(hi4:X.N[i4]? =some u)(hx:L2.Loc X.env.scope x)(hy:L2.Loc X.env.scope y)(hz:L2.Loc X.env.scope z)(hu:L2.Loc X.env.scope u)(hq:X.N[q]? =some w)(hw' :X.env.scope.names.lookup w=none)
  (ha:Xb X Y a q m) (hb:wE X Y [b,d,e] gb)
  (hf:X.fn x=true\/X.env.scope.names.lookup x=some .local:=by first | exact .inl rfl | exact .inr rfl) (hf2:X.fn y=true\/X.env.scope.names.lookup y=some .local:=by first | exact .inl rfl | exact .inr rfl) (hf3:X.fn z=true\/X.env.scope.names.lookup z=some .local:=by first | exact .inl rfl | exact .inr rfl) (hf4:X.fn u=true\/X.env.scope.names.lookup u=some .local:=by first | exact .inl rfl | exact .inr rfl)
  (hs3:starEach [a,b,d,e] X.env=(false,eval a X.env) :: starEach [b,d,e] X.env:=by exact zR rfl) (hs:swapsWithSole [.Tuple [.Name x px,.Name y py,.Name z pz,.Name u pu] kt pt] (.Tuple [a,b,d,e] k2 pt2) pos.line X.env=pure false:=by rfl) (hw:swappedStores [.Tuple [.Name x px,.Name y py,.Name z pz,.Name u pu] kt pt] (.Tuple [a,b,d,e] k2 pt2) X.env=pure none:=by rfl)
  (h1:(assignEach [.Tuple [.Name x px,.Name y py,.Name z pz,.Name u pu] kt pt] X.env).map (·.2)=[assign (.Tuple [.Name x px,.Name y py,.Name z pz,.Name u pu] kt pt) X.env]:=by rfl):
  jT X Y (.Assign [.Tuple [.Name x px,.Name y py,.Name z pz,.Name u pu] kt pt] (.Tuple [a,b,d,e] k2 pt2) pos) (UX i i2 i3 i4 q m gb):= .mk λρ=>by
 have hrest:PA X [b,d,e] (match m ρ with | .ok ρ1=>tS Y rCs gb ρ1 | _=>λ_ _ _=>False):=by
  cases m ρ with
  | ok ρ1=>exact hb ρ1
  | ex c=>exact λ_ _ _ _ _ _ _ h=>h.elim
  | bad=>exact λ_ _ _ _ _ _ _ h=>h.elim
 refine PS.imp (kq (V0 (Xa (ha.go ρ) hrest hq hw' hs3)) (vX hc' (ji (j8 hN hi hx hf) (ji (j8 hN hi2 hy hf2) (ji (j8 hN hi3 hz hf3) (ji (j8 hN hi4 hu hf4) yw))))) hs hw h1) λD σ H ⟨B,I,po⟩=>⟨B,I, ?_⟩;have nq:∀{i' :Nat} {x' :Str},X.N[i']? =some x' ->L2.Loc X.env.scope x' ->q ≠ i' :=λh1 h2 e=>by
  subst e;rw[hq]at h1;cases h1;rcases h2 with h2 | h2 <;> (rw[hw']at h2;cases h2)
 unfold UX at po;revert po;cases e1:m ρ with
 | bad=>exact λpo=>po
 | ex c=>exact λpo=>po
 | ok ρ1=>
  intro po a1 H1 B1 k1 n1 sB1 I1 g1;show tS Y rCs gb ρ1 _ _ _;refine jE I1 (PoS.up sB1 po) λus ws H3 _ s3 r3 I3 q3=> ?_;rw[g1]at q3;cases r3 with
  | nil=>exact q3.elim
  | cons r rr=>
   cases rr with
   | nil=>exact q3.elim
   | cons r' rr=>
    cases rr with
    | nil=>exact q3.elim
    | cons r2 rr=>
     cases rr with
     | cons _ _=>exact q3.elim
     | nil=>
      refine⟨Zs (by show 4<=bnd;decide),λp hp=>⟨p,_,rfl,SqT.of zx,rfl,_,_,rfl,_,_,rfl,_,_,rfl,_,_,rfl,rfl, ?_⟩⟩
      have hql:q < σ.length:=by have:=I1.len;rw[aI]at this;rw[← this];exact(aw.mp g1).1
      refine(show ∀o:HO,D.nx _ (upd H3 p o) from λo=> ?_) _;have sp:=zv.new hp o;have up:=zO.ge I3.sB sp;have J:=(((((I3.grow sp).cpO g1 (aP hql) i).setV i2 (r.mono up)).setV i3 (r'.mono up)).setV i4 (r2.mono up)).forget q σ[q];have es:∀A B C:Option V,(((((σ.set q (some (V.ref a1))).set i (some (V.ref a1))).set i2 A).set i3 B).set i4 C).set q σ[q]=(((σ.set i (some (V.ref a1))).set i2 A).set i3 B).set i4 C:=λA B C=>by
       rw[eB _ _ (nq hi4 hu).symm,eB _ _ (nq hi3 hz).symm,eB _ _ (nq hi2 hy).symm,eB _ _ (nq hi hx).symm,U3 (ag hql)]
      rw[es]at J;exact q3 _ _ _ up J
end
end PV
namespace G
open PySem PySem.Spec PyProof.Rows L2 PV
noncomputable def okX (c:Nat):Bool:=[0,1,2,3,4,5,6].contains c
noncomputable def jU (c:Nat):Bool:=c == 0
noncomputable def jv (c:Nat):Bool:=c == 1
noncomputable def jV (c:Nat):Bool:=c == 2
noncomputable def jw (c:Nat):Bool:=c == 3
noncomputable def JH (c:Nat):Bool:=c == 4
noncomputable def jW (c:Nat):Bool:=c == 5
noncomputable def jX (c:Nat):Bool:=c == 6
noncomputable def ZL (_:Nat):Bool:=true
def b_1h:En->RS:=
  zB (ifS (zD ltC (vB 1) (ap1 Ze (vB 0))) (zF (zb ixT (vE 0) (vE 1))) (nxS))
  (zB (ifS (zD eqC (vB 0) (ZD (zj))) (zF (cE (.int 0))) (nxS))
  (zF (zb zC (zb Z6 (zb ixT (vE 0) (zb jR (vE 1) (ap1 Ze (vB 0)))) (cE (.int 31))) (vE 1))))
def gq:List T->R T:=λts=>zz (b_1h  (en0 2 ts))
def b_1 (c_1h:List T->R T):En->RS:=
  zB (zL 3 (zb jR (zb Z6 (zb zC (za 2 c_1h (z9 (vE 0) (z9 (vE 1) (zj)))) (zb Z6 (cE (.int 6151)) (zb zC (vE 1) (cE (.int 1))))) (cE (.int 40692))) (cE (.int 2147483399))))
  (zF (zb jR (zb jR (zb zC (zb Z6 (vE 3) (vE 3)) (zb wG (vE 3) (cE (.int 31)))) (cE (.int 2147483629))) (vE 2)))
def f_1:List T->R T:=λts=>zz (b_1 (gq) (en0 4 ts))
def b_z (c_1:List T->R T):En->RS:=
  zB (zL 2 (cE (.str "abcdefghijklmnopqrstuvwxyz")))
  (zB (ifS (zD gtC (za 3 c_1 (z9 (vE 0) (z9 (vE 1) (z9 (cE (.int 6)) (zj))))) (cE (.int 0))) (zF (zb ixT (ZD (z9 (cE (.str "a")) (z9 (cE (.str "b")) (z9 (cE (.str "ab")) (z9 (cE (.str "cab")) (zj)))))) (za 3 c_1 (z9 (vE 0) (z9 (zb zC (vE 1) (cE (.int 1))) (z9 (cE (.int 4)) (zj))))))) (nxS))
  (zF (ap1 (Kp "") (Z0 (Zu (zb zC (cE (.int 1)) (za 3 c_1 (z9 (vE 0) (z9 (zb zC (vE 1) (cE (.int 1))) (z9 (cE (.int 3)) (zj))))))) (zK 0) (Zl) (zb ixT (vE 3) (za 3 c_1 (z9 (vE 1) (z9 (zb zC (zb zC (vE 2) (cE (.int 2))) (vE 0)) (z9 (cE (.int 26)) (zj)))))) 1 [0,1,2]))))
def f_z:List T->R T:=λts=>zz (b_z (f_1) (en0 3 ts))
def GO (c_1:List T->R T)(c_z:List T->R T):En->RS:=
  zB (ifS (zD gtC (za 3 c_1 (z9 (vE 0) (z9 (vE 1) (z9 (cE (.int 3)) (zj))))) (cE (.int 0))) (zB (zL 2 (zb ZY (za 3 c_1 (z9 (vE 0) (z9 (zb zC (vE 1) (cE (.int 1))) (z9 (cE (.int 7)) (zj))))) (cE (.int 3))))
  (zB (ifS (zD eqC (za 3 c_1 (z9 (vE 0) (z9 (zb zC (vE 1) (cE (.int 3))) (z9 (cE (.int 8)) (zj))))) (cE (.int 0))) (zL 2 (zb ixT (ZD (z9 (Wp (cE (.int 20))) (z9 (cE (.int 17)) (z9 (cE (.int 20)) (zj))))) (za 3 c_1 (z9 (vE 0) (z9 (zb zC (vE 1) (cE (.int 4))) (z9 (cE (.int 3)) (zj))))))) (nxS))
  (zF (Zy (z9 (cE (.str "whole")) (z9 (vE 2) (z9 (zb Ws (cE (.int 20)) (zb zC (vE 2) (za 3 c_1 (z9 (vE 0) (z9 (zb zC (vE 1) (cE (.int 2))) (z9 (cE (.int 4)) (zj))))))) (zj)))))))) (nxS))
  (zB (yk 3 (zj))
  (zB (jt (Zu (zb zC (cE (.int 1)) (za 3 c_1 (z9 (vE 0) (z9 (zb zC (vE 1) (cE (.int 1))) (z9 (cE (.int 4)) (zj))))))) (zK 4) (zB (zL 5 (za 2 c_z (z9 (vE 0) (z9 (zb zC (zb zC (vE 1) (cE (.int 5))) (zb Z6 (cE (.int 5)) (vE 4))) (zj)))))
  (ifS (zD QF (vB 5) (vB 3)) (QN 3 (vE 5)) (nxS))))
  (zF (Zy (z9 (cE (.str "pick")) (z9 (ap1 GG (Z0 (xB (vE 3)) (ZF 0 1) (Zl) (Zy (z9 (vE 1) (z9 (zb zC (cE (.int 1)) (za 3 c_1 (z9 (vE 2) (z9 (zb zC (zb zC (vE 3) (cE (.int 30))) (vE 0)) (z9 (cE (.int 20)) (zj)))))) (zj)))) 2 [0,1])) (zj)))))))
def gr:List T->R T:=λts=>zz (GO (f_1) (f_z) (en0 6 ts))
def b_e (c_1:List T->R T)(c_15:List T->R T)(c_e:List T->R T):En->RS:=
  zB (zL 3 (za 3 c_1 (z9 (vE 0) (z9 (vE 1) (z9 (cE (.int 5)) (zj))))))
  (zB (ifS (orT (zD eqC (vB 2) (cE (.int 1))) (zD ltC (vB 3) (cE (.int 2)))) (zF (za 2 c_15 (z9 (vE 0) (z9 (zb zC (vE 1) (cE (.int 1))) (zj))))) (nxS))
  (zB (ifS (zD ltC (vB 3) (cE (.int 4))) (zB (zL 4 (Z0 (Zu (zb zC (cE (.int 1)) (za 3 c_1 (z9 (vE 0) (z9 (zb zC (vE 1) (cE (.int 1))) (z9 (cE (.int 3)) (zj))))))) (zK 0) (Zl) (za 3 c_e (z9 (vE 1) (z9 (zb zC (zb zC (zb Z6 (cE (.int 3)) (vE 2)) (cE (.int 40))) (zb Z6 (cE (.int 50)) (vE 0))) (z9 (zb ZY (vE 3) (cE (.int 1))) (zj))))) 1 [0,1,2]))
  (zF (Zy (z9 (cE (.str "row")) (z9 (ap1 GG (vE 4)) (zj)))))) (nxS))
  (zB (zL 5 (za 3 c_1 (z9 (vE 0) (z9 (zb zC (vE 1) (cE (.int 1))) (z9 (cE (.int 3)) (zj))))))
  (zF (Zy (z9 (cE (.str "many")) (z9 (za 3 c_e (z9 (vE 0) (z9 (zb zC (zb Z6 (cE (.int 3)) (vE 1)) (cE (.int 40))) (z9 (zb ZY (vE 2) (cE (.int 1))) (zj))))) (z9 (vE 5) (z9 (zb Ws (cE (.int 3)) (zb zC (vE 5) (za 3 c_1 (z9 (vE 0) (z9 (zb zC (vE 1) (cE (.int 2))) (z9 (cE (.int 3)) (zj))))))) (zj))))))))))
def S_e:Nat->Nat->List T->R T
 | 0,_=>λ_=> .bad
 | n+1,_=>λts=>zz (b_e (f_1) (gr) (S_e n 0) (en0 6 ts))
abbrev f_e (n:Nat):List T->R T:=S_e n 0
def b_f:En->RS:=
  zB (zL 1 (ZD (z9 (Zy (zj)) (zj))))
  (zB (jt (ZZ (vE 0)) (zK 2) (zB (yk 3 (zj))
  (zB (jt (ZZ (vE 1)) (zK 4) (Qk 3 (Z0 (ZZ (vE 2)) (zK 0) (Zl) (zb zC (vE 1) (Zy (z9 (vE 0) (zj)))) 1 [4])))
  (mvS 1 3))))
  (zF (vE 1)))
def f_f:List T->R T:=λts=>zz (b_f  (en0 5 ts))
def b_6 (c_6:List T->R T)(c_f:List T->R T):En->RS:=
  zB (ifS (zD eqC (zb ixT (vE 0) (cE (.int 0))) (cE (.str "whole"))) (zF (GK (Je (zb ixT (vE 0) (cE (.int 1))) (zb zC (zb ixT (vE 0) (cE (.int 2))) (cE (.int 1)))))) (nxS))
  (zB (ifS (zD eqC (zb ixT (vE 0) (cE (.int 0))) (cE (.str "pick"))) (zF (Z0 (ZZ (zb ixT (vE 0) (cE (.int 1)))) (ZF 0 1) (Zl) (vE 0) 2 [])) (nxS))
  (zB (ifS (zD eqC (zb ixT (vE 0) (cE (.int 0))) (cE (.str "row"))) (zF (za 1 c_f (z9 (Z0 (ZZ (zb ixT (vE 0) (cE (.int 1)))) (zK 0) (Zl) (za 1 c_6 (z9 (vE 0) (zj))) 1 []) (zj)))) (nxS))
  (zB (yk 1 (zj))
  (zB (jt (Je (zb ixT (vE 0) (cE (.int 2))) (zb zC (zb ixT (vE 0) (cE (.int 3))) (cE (.int 1)))) (zK 2) (Qk 1 (za 1 c_f (z9 (zb Z6 (ZD (z9 (za 1 c_6 (z9 (zb ixT (vE 0) (cE (.int 1))) (zj))) (zj))) (vE 2)) (zj)))))
  (zF (vE 1))))))
def S_6:Nat->Nat->List T->R T
 | 0,_=>λ_=> .bad
 | n+1,_=>λts=>zz (b_6 (S_6 n 0) (f_f) (en0 3 ts))
abbrev f_6 (n:Nat):List T->R T:=S_6 n 0
def b_c (c_6:List T->R T)(c_c:List T->R T):En->RS:=
  zB (ifS (zD inC (zb ixT (vE 0) (cE (.int 0))) (Zy (z9 (cE (.str "whole")) (z9 (cE (.str "pick")) (zj))))) (zF (ap1 Ze (za 1 c_6 (z9 (vE 0) (zj))))) (nxS))
  (zB (zL 1 (ifE (zD eqC (zb ixT (vE 0) (cE (.int 0))) (cE (.str "row"))) (Z0 (ZZ (zb ixT (vE 0) (cE (.int 1)))) (zK 0) (Zl) (za 1 c_c (z9 (vE 0) (zj))) 1 []) (ZD (zj))))
  (zB (zL 2 (cE (.int 1)))
  (zB (jt (ZZ (vE 1)) (zK 3) (zL 2 (zb Z6 (vE 2) (vE 3))))
  (zB (ifS (zD eqC (zb ixT (vE 0) (cE (.int 0))) (cE (.str "many"))) (zB (zL 4 (za 1 c_c (z9 (zb ixT (vE 0) (cE (.int 1))) (zj))))
  (zB (zL 2 (zb zC (ap1 Yl (ZV eqC (zb ixT (vE 0) (cE (.int 2))) (cE (.int 0)))) (zb Z6 (vE 4) (ap1 Yl (chE leC leC (zb ixT (vE 0) (cE (.int 2))) (cE (.int 1)) (zb ixT (vE 0) (cE (.int 3))))))))
  (zB (zL 2 (zb zC (vE 2) (zb Z6 (zb Z6 (vE 4) (vE 4)) (ap1 Yl (chE leC leC (zb ixT (vE 0) (cE (.int 2))) (cE (.int 2)) (zb ixT (vE 0) (cE (.int 3))))))))
  (zL 2 (zb zC (vE 2) (zb Z6 (zb Z6 (zb Z6 (vE 4) (vE 4)) (vE 4)) (ap1 Yl (ZV eqC (zb ixT (vE 0) (cE (.int 3))) (cE (.int 3)))))))))) (nxS))
  (zF (vE 2))))))
def S_c:Nat->Nat->List T->R T
 | 0,_=>λ_=> .bad
 | n+1,_=>λts=>zz (b_c (f_6 8) (S_c n 0) (en0 5 ts))
abbrev f_c (n:Nat):List T->R T:=S_c n 0
def GP (c_e:List T->R T)(c_c:List T->R T):En->RS:=
  zB (zL 3 (za 3 c_e (z9 (vE 0) (z9 (vE 1) (z9 (cE (.int 3)) (zj))))))
  (zB (jt (Zu (cE (.int 3))) (zK 4) (zB (ifS (zD leC (za 1 c_c (z9 (vE 3) (zj))) (vB 2)) (zF (vE 3)) (nxS))
  (zL 3 (za 3 c_e (z9 (vE 0) (z9 (zb zC (zb zC (vE 1) (cE (.int 500))) (zb Z6 (cE (.int 700)) (vE 4))) (z9 (cE (.int 2)) (zj))))))))
  (zF (ifE (zD leC (za 1 c_c (z9 (vE 3) (zj))) (vB 2)) (vE 3) (Zy (z9 (cE (.str "whole")) (z9 (Wp (cE (.int 1))) (z9 (cE (.int 2)) (zj))))))))
def gs:List T->R T:=λts=>zz (GP (f_e 8) (f_c 8) (en0 5 ts))
def b_g:En->RS:=
  zF (jr (ap1 (W9 "int") (vB 0)) (Qj (ap1 (W9 "bool") (vB 0))))
def f_g:List T->R T:=λts=>zz (b_g  (en0 1 ts))
def b_1i (c_g:List T->R T):En->RS:=
  zF (jr (za 1 c_g (z9 (vE 0) (zj))) (jr (za 1 c_g (z9 (vE 1) (zj))) (ch3E leC leC leC (vB 2) (vB 0) (vB 1) (vB 3))))
def GQ:List T->R T:=λts=>zz (b_1i (f_g) (en0 4 ts))
def b_m:En->RS:=
  zF (jr (ap1 (W9 "tuple") (vB 0)) (chE leC leC (vB 1) (ap1 Ze (vB 0)) (vB 2)))
def f_m:List T->R T:=λts=>zz (b_m  (en0 3 ts))
def b_r:En->RS:=
  zB (ifS (orT (u1 (Ji (ap1 (W9 "str") (vB 0)))) (u1 (chT leC leC (cE (.int 1)) (ap1 Ze (vB 0)) (cE (.int 3))))) (zF (cE (.bl false))) (nxS))
  (zF (ap1 xv (Z0 (ZZ (vE 0)) (zK 0) (Zl) (chE leC leC (cE (.str "a")) (vB 0) (cE (.str "z"))) 1 [])))
def f_r:List T->R T:=λts=>zz (b_r  (en0 1 ts))
def GR (c_g:List T->R T)(c_m:List T->R T)(c_r:List T->R T):En->RS:=
  zF (jr (za 3 c_m (z9 (vE 0) (z9 (cE (.int 2)) (z9 (cE (.int 2)) (zj))))) (jr (za 1 c_r (z9 (zb ixT (vE 0) (cE (.int 0))) (zj))) (jr (za 1 c_g (z9 (zb ixT (vE 0) (cE (.int 1))) (zj))) (chE leC leC (cE (.int 1)) (zb ixT (vE 0) (cE (.int 1))) (cE (.int 20))))))
def gu:List T->R T:=λts=>zz (GR (f_g) (f_m) (f_r) (en0 1 ts))
def GS (c_m:List T->R T)(c_19:List T->R T):En->RS:=
  zB (ifS (orT (u1 (Ji (za 3 c_m (z9 (vE 0) (z9 (cE (.int 1)) (z9 (cE (.int 4)) (zj))))))) (u1 (Ji (ap1 xv (Z0 (ZZ (vE 0)) (zK 0) (Zl) (za 1 c_19 (z9 (vE 0) (zj))) 1 []))))) (zF (cE (.bl false))) (nxS))
  (zB (zL 1 (Z0 (ZZ (vE 0)) (zK 0) (Zl) (zb ixT (vE 0) (cE (.int 0))) 1 []))
  (zF (ZV eqC (ap1 QX (vB 1)) (ap1 Ze (vB 1)))))
def gv:List T->R T:=λts=>zz (GS (f_m) (gu) (en0 2 ts))
def b_9 (c_1i:List T->R T)(c_9:List T->R T)(c_17:List T->R T)(c_1n:List T->R T):En->RS:=
  zB (ifS (orT (zD eqC (vB 1) (cE (.int 0))) (orT (u1 (Ji (ap1 (W9 "tuple") (vB 0)))) (zD eqC (ap1 Ze (vB 0)) (cE (.int 0))))) (zF (cE (.bl false))) (nxS))
  (zB (ifS (zD eqC (zb ixT (vE 0) (cE (.int 0))) (cE (.str "whole"))) (zF (jr (ZV eqC (ap1 Ze (vB 0)) (cE (.int 3))) (za 4 c_1i (z9 (zb ixT (vE 0) (cE (.int 1))) (z9 (zb ixT (vE 0) (cE (.int 2))) (z9 (Wp (cE (.int 20))) (z9 (cE (.int 20)) (zj)))))))) (nxS))
  (zB (ifS (zD eqC (zb ixT (vE 0) (cE (.int 0))) (cE (.str "pick"))) (zF (jr (ZV eqC (ap1 Ze (vB 0)) (cE (.int 2))) (za 1 c_17 (z9 (zb ixT (vE 0) (cE (.int 1))) (zj))))) (nxS))
  (zB (ifS (zD eqC (zb ixT (vE 0) (cE (.int 0))) (cE (.str "row"))) (zF (jr (ZV eqC (ap1 Ze (vB 0)) (cE (.int 2))) (za 2 c_1n (z9 (zb ixT (vE 0) (cE (.int 1))) (z9 (zb ZY (vE 1) (cE (.int 1))) (zj)))))) (nxS))
  (zB (ifS (zD eqC (zb ixT (vE 0) (cE (.int 0))) (cE (.str "many"))) (zF (jr (ZV eqC (ap1 Ze (vB 0)) (cE (.int 4))) (jr (za 4 c_1i (z9 (zb ixT (vE 0) (cE (.int 2))) (z9 (zb ixT (vE 0) (cE (.int 3))) (z9 (cE (.int 0)) (z9 (cE (.int 3)) (zj)))))) (za 2 c_9 (z9 (zb ixT (vE 0) (cE (.int 1))) (z9 (zb ZY (vE 1) (cE (.int 1))) (zj))))))) (nxS))
  (zF (cE (.bl false)))))))
def GT (c_m:List T->R T)(c_9:List T->R T):En->RS:=
  zF (jr (za 3 c_m (z9 (vE 0) (z9 (cE (.int 1)) (z9 (cE (.int 3)) (zj))))) (ap1 xv (Z0 (ZZ (vE 0)) (zK 0) (Zl) (za 2 c_9 (z9 (vE 0) (z9 (vE 1) (zj)))) 1 [1])))
def S_9:Nat->Nat->List T->R T
 | 0,_=>λ_=> .bad
 | n+1,0=>λts=>zz (b_9 (GQ) (S_9 n 0) (gv) (S_9 n 1) (en0 2 ts))
 | n+1,_=>λts=>zz (GT (f_m) (S_9 n 0) (en0 2 ts))
abbrev f_9 (n:Nat):List T->R T:=S_9 n 0
abbrev f_1n (n:Nat):List T->R T:=S_9 n 1
def b_3 (c_9:List T->R T):En->RS:=
  zF (za 2 c_9 (z9 (vE 0) (z9 (cE (.int 3)) (zj))))
def f_3:List T->R T:=λts=>zz (b_3 (f_9 20) (en0 1 ts))
def GU (c_3:List T->R T):En->RS:=
  ifS (u1 (Ji (za 1 c_3 (z9 (vE 0) (zj))))) (uh) (nxS)
def GV:List T->R T:=λts=>zz (GU (f_3) (en0 1 ts))
def b_2 (c_y:List T->R T)(c_p:List T->R T):En->RS:=
  zB (ifS (zD eqC (zb ixT (vE 0) (cE (.int 0))) (cE (.str "whole"))) (zF (zb zC (zb ZY (zb ixT (vE 0) (cE (.int 2))) (zb ixT (vE 0) (cE (.int 1)))) (cE (.int 1)))) (nxS))
  (zB (ifS (zD eqC (zb ixT (vE 0) (cE (.int 0))) (cE (.str "pick"))) (zF (ap1 Ze (zb ixT (vE 0) (cE (.int 1))))) (nxS))
  (zB (ifS (zD eqC (zb ixT (vE 0) (cE (.int 0))) (cE (.str "row"))) (zF (za 1 c_y (z9 (zb ixT (vE 0) (cE (.int 1))) (zj)))) (nxS))
  (zF (za 2 c_p (z9 (vE 0) (z9 (zb zC (zb ixT (vE 0) (cE (.int 3))) (cE (.int 1))) (zj)))))))
def b_y (c_2:List T->R T):En->RS:=
  zB (zL 1 (cE (.int 1)))
  (zB (jt (ZZ (vE 0)) (zK 2) (zL 1 (zb Z6 (vE 1) (za 1 c_2 (z9 (vE 2) (zj))))))
  (zF (vE 1)))
def b_p (c_y:List T->R T):En->RS:=
  zF (ap1 xT (Z0 (Je (zb ixT (vE 0) (cE (.int 2))) (vE 1)) (zK 0) (Zl) (za 1 c_y (z9 (zb Z6 (ZD (z9 (zb ixT (vE 1) (cE (.int 1))) (zj))) (vE 0)) (zj))) 1 [0]))
def S_2:Nat->Nat->List T->R T
 | 0,_=>λ_=> .bad
 | n+1,0=>λts=>zz (b_2 (S_2 n 1) (S_2 n 2) (en0 1 ts))
 | n+1,1=>λts=>zz (b_y (S_2 n 0) (en0 3 ts))
 | n+1,_=>λts=>zz (b_p (S_2 n 1) (en0 2 ts))
abbrev f_2 (n:Nat):List T->R T:=S_2 n 0
abbrev f_y (n:Nat):List T->R T:=S_2 n 1
abbrev f_p (n:Nat):List T->R T:=S_2 n 2
def GW:En->RS:=
  zF (Z0 (ZZ (zb ixT (vE 0) (cE (.int 1)))) (zK 0) (Zl) (zb ixT (vE 0) (cE (.int 0))) 1 [])
def gw:List T->R T:=λts=>zz (GW  (en0 1 ts))
def b_d (c_16:List T->R T)(c_1m:List T->R T)(c_14:List T->R T):En->RS:=
  zB (ifS (zD eqC (zb ixT (vE 0) (cE (.int 0))) (cE (.str "whole"))) (zF (zb zC (zb ixT (vE 0) (cE (.int 1))) (vE 1))) (nxS))
  (zB (ifS (zD eqC (zb ixT (vE 0) (cE (.int 0))) (cE (.str "pick"))) (zF (zb ixT (za 1 c_16 (z9 (vE 0) (zj))) (vE 1))) (nxS))
  (zB (ifS (zD eqC (zb ixT (vE 0) (cE (.int 0))) (cE (.str "row"))) (zF (za 2 c_14 (z9 (zb ixT (vE 0) (cE (.int 1))) (z9 (vE 1) (zj))))) (nxS))
  (zF (za 2 c_1m (z9 (vE 0) (z9 (vE 1) (zj)))))))
def gy (c_p:List T->R T)(c_14:List T->R T):En->RS:=
  zB (zL 2 (zb ixT (vE 0) (cE (.int 2))))
  (zB (jo (zD leC (za 2 c_p (z9 (vE 0) (z9 (zb zC (vE 2) (cE (.int 1))) (zj)))) (vB 1)) (zL 2 (zb zC (vE 2) (cE (.int 1)))) (8))
  (zF (za 2 c_14 (z9 (zb Z6 (ZD (z9 (zb ixT (vE 0) (cE (.int 1))) (zj))) (vE 2)) (z9 (zb ZY (vE 1) (za 2 c_p (z9 (vE 0) (z9 (vE 2) (zj))))) (zj))))))
def gz (c_2:List T->R T)(c_d:List T->R T):En->RS:=
  zB (yk 2 (zj))
  (zB (zL 3 (vE 1))
  (zB (jt (z1i (vE 0)) (zK 4) (zB (zL 5 (za 1 c_2 (z9 (vE 4) (zj))))
  (zB (QN 2 (za 2 c_d (z9 (vE 4) (z9 (zb jR (vE 3) (vE 5)) (zj)))))
  (zL 3 (zb wG (vE 3) (vE 5))))))
  (zF (ap1 vh (vE 2)))))
def S_d:Nat->Nat->List T->R T
 | 0,_=>λ_=> .bad
 | n+1,0=>λts=>zz (b_d (gw) (S_d n 1) (S_d n 2) (en0 2 ts))
 | n+1,1=>λts=>zz (gy (f_p 20) (S_d n 2) (en0 3 ts))
 | n+1,_=>λts=>zz (gz (f_2 20) (S_d n 0) (en0 6 ts))
abbrev f_d (n:Nat):List T->R T:=S_d n 0
abbrev f_1m (n:Nat):List T->R T:=S_d n 1
abbrev f_14 (n:Nat):List T->R T:=S_d n 2
def b_u (c_1d:List T->R T)(c_2:List T->R T)(c_d:List T->R T):En->RS:=
  zB (UR (za 1 c_1d (z9 (vE 0) (zj))))
  (zB (zL 1 (za 1 c_2 (z9 (vE 0) (zj))))
  (zB (ifS (zD gtC (vB 1) (cE (.int 500))) (uh) (nxS))
  (GM (Zu (vE 1)) (zK 0) (Zl) (za 2 c_d (z9 (vE 1) (z9 (vE 0) (zj)))) 1 [0])))
def f_u:List T->R T:=λts=>zz (b_u (GV) (f_2 20) (f_d 20) (en0 2 ts))
def b_w (c_u:List T->R T):En->R (T×En):=
  ZH (stF 101 0 2 "kind" (vE 1))
  (ZH (Qn 101 0 2 "remaining" (z9 (za 1 c_u (z9 (vE 1) (zj))) (zj)))
  (ZH (Qn 101 0 2 "done" (zj))
  (ZH (Qn 101 0 2 "undone" (zj))
  (z1o))))
def f_w:List (Str×Fd)->List T->R (T×List (Str×Fd)):=λfs ts=>JU 101 2 (b_w (f_u) (enM 101 2 fs ts))
def b_h (c_1:List T->R T)(c_h:List T->R T):En->RS:=
  zB (zL 3 (za 3 c_1 (z9 (vE 0) (z9 (vE 1) (z9 (cE (.int 9)) (zj))))))
  (zB (ifS (K2 (zD gtC (vB 2) (cE (.int 1))) (zD gtC (vB 3) (cE (.int 5)))) (zB (zL 4 (za 3 c_h (z9 (vE 0) (z9 (zb zC (zb Z6 (cE (.int 2)) (vE 1)) (cE (.int 11))) (z9 (zb ZY (vE 2) (cE (.int 1))) (zj))))))
  (zB (ifS (zD eqC (vB 3) (cE (.int 6))) (zF (Zy (z9 (cE (.str "no")) (z9 (vE 4) (zj))))) (nxS))
  (zF (Zy (z9 (zb ixT (ZD (z9 (cE (.str "all")) (z9 (cE (.str "some")) (zj)))) (zb ZY (vE 3) (cE (.int 7)))) (z9 (vE 4) (z9 (za 3 c_h (z9 (vE 0) (z9 (zb zC (zb Z6 (cE (.int 2)) (vE 1)) (cE (.int 24))) (z9 (zb ZY (vE 2) (cE (.int 1))) (zj))))) (zj)))))))) (nxS))
  (zB (zL 5 (zb ZY (za 3 c_1 (z9 (vE 0) (z9 (zb zC (vE 1) (cE (.int 1))) (z9 (cE (.int 9)) (zj))))) (cE (.int 4))))
  (zB (ifS (zD ltC (zb jR (vE 3) (cE (.int 6))) (cE (.int 2))) (zF (Zy (z9 (cE (.str "sum")) (z9 (vE 5) (z9 (zb ZY (zb zC (vE 5) (za 3 c_1 (z9 (vE 0) (z9 (zb zC (vE 1) (cE (.int 2))) (z9 (cE (.int 5)) (zj)))))) (cE (.int 1))) (zj)))))) (nxS))
  (zB (ifS (zD eqC (zb jR (vE 3) (cE (.int 6))) (cE (.int 2))) (zF (Zy (z9 (cE (.str "size")) (z9 (za 3 c_1 (z9 (vE 0) (z9 (zb zC (vE 1) (cE (.int 1))) (z9 (cE (.int 3)) (zj))))) (z9 (za 3 c_1 (z9 (vE 0) (z9 (zb zC (vE 1) (cE (.int 2))) (z9 (cE (.int 4)) (zj))))) (zj)))))) (nxS))
  (zB (ifS (zD eqC (zb jR (vE 3) (cE (.int 6))) (cE (.int 3))) (zF (Zy (z9 (cE (.str "word")) (z9 (zb ixT (ZD (z9 (cE (.str "a")) (z9 (cE (.str "b")) (z9 (cE (.str "ab")) (z9 (cE (.str "zz")) (zj)))))) (za 3 c_1 (z9 (vE 0) (z9 (zb zC (vE 1) (cE (.int 1))) (z9 (cE (.int 4)) (zj)))))) (zj))))) (nxS))
  (zF (ifE (zD eqC (zb jR (vE 3) (cE (.int 6))) (cE (.int 4))) (Zy (z9 (cE (.str "rising")) (zj))) (Zy (z9 (cE (.str "unlike")) (zj))))))))))
def S_h:Nat->Nat->List T->R T
 | 0,_=>λ_=> .bad
 | n+1,_=>λts=>zz (b_h (f_1) (S_h n 0) (en0 6 ts))
abbrev f_h (n:Nat):List T->R T:=S_h n 0
def GX (c_1:List T->R T)(c_h:List T->R T):En->RS:=
  zF (Zy (z9 (zb ixT (ZD (z9 (cE (.str "keep")) (z9 (cE (.str "bar")) (zj)))) (za 3 c_1 (z9 (vE 0) (z9 (vE 1) (z9 (cE (.int 2)) (zj)))))) (z9 (za 3 c_h (z9 (vE 0) (z9 (zb zC (zb Z6 (cE (.int 4)) (vE 1)) (cE (.int 30))) (z9 (cE (.int 2)) (zj))))) (zj))))
def XX:List T->R T:=λts=>zz (GX (f_1) (f_h 8) (en0 2 ts))
def b_i (c_i:List T->R T):En->RS:=
  zB (ifS (u1 (Ji (ap1 (W9 "tuple") (vB 0)))) (zF (ZD (z9 (vE 0) (zj)))) (nxS))
  (zB (zL 1 (ZD (zj)))
  (zB (jt (ZZ (vE 0)) (zK 2) (zL 1 (zb zC (vE 1) (za 1 c_i (z9 (vE 2) (zj))))))
  (zF (vE 1))))
def S_i:Nat->Nat->List T->R T
 | 0,_=>λ_=> .bad
 | n+1,_=>λts=>zz (b_i (S_i n 0) (en0 3 ts))
abbrev f_i (n:Nat):List T->R T:=S_i n 0
def b_a (c_i:List T->R T)(c_a:List T->R T):En->RS:=
  zB (zL 2 (Z0 (ZZ (za 1 c_i (z9 (vE 1) (zj)))) (zK 0) (Ji (ap1 (W9 "int") (vB 0))) (vE 0) 1 []))
  (zB (zL 3 (ifE (Ji (ap1 (W9 "tuple") (vB 1))) (vE 1) (Zy (z9 (vE 1) (zj)))))
  (zB (ifS (zD eqC (zb ixT (vE 0) (cE (.int 0))) (cE (.str "sum"))) (zB (zL 4 (cE (.int 0)))
  (zB (jt (ZZ (vE 2)) (zK 5) (zL 4 (zb zC (vE 4) (vE 5))))
  (zF (jr (ZV leC (zb ixT (vE 0) (cE (.int 1))) (vB 4)) (ZV leC (vB 4) (zb ixT (vE 0) (cE (.int 2)))))))) (nxS))
  (zB (ifS (zD eqC (zb ixT (vE 0) (cE (.int 0))) (cE (.str "size"))) (zF (jr (ZV geC (ap1 Ze (vB 3)) (zb ixT (vE 0) (cE (.int 1)))) (ZV leC (ap1 Ze (vB 3)) (zb ixT (vE 0) (cE (.int 2)))))) (nxS))
  (zB (ifS (zD eqC (zb ixT (vE 0) (cE (.int 0))) (cE (.str "word"))) (zF (ZV neC (Z0 (ZZ (za 1 c_i (z9 (vE 1) (zj)))) (zK 0) (zD eqC (vB 0) (zb ixT (vE 1) (cE (.int 1)))) (vE 0) 1 [0]) (ZD (zj)))) (nxS))
  (zB (ifS (zD eqC (zb ixT (vE 0) (cE (.int 0))) (cE (.str "rising"))) (zF (ZV eqC (vB 2) (ap1 vi (vB 2)))) (nxS))
  (zB (ifS (zD eqC (zb ixT (vE 0) (cE (.int 0))) (cE (.str "unlike"))) (zF (ZV eqC (Z0 (Zu (ap1 Ze (vB 3))) (zK 0) (zD inC (zb ixT (vE 1) (vE 0)) (slE (vE 1) (noO) (ZE (vE 0)))) (vE 0) 1 [3]) (ZD (zj)))) (nxS))
  (zB (ifS (zD eqC (zb ixT (vE 0) (cE (.int 0))) (cE (.str "no"))) (zF (Qj (za 2 c_a (z9 (zb ixT (vE 0) (cE (.int 1))) (z9 (vE 1) (zj)))))) (nxS))
  (zB (zL 6 (Z0 (ZZ (slE (vE 0) (ZE (cE (.int 1))) (noO))) (zK 0) (Zl) (za 2 c_a (z9 (vE 0) (z9 (vE 1) (zj)))) 1 [1]))
  (zF (ifE (zD eqC (zb ixT (vE 0) (cE (.int 0))) (cE (.str "all"))) (jr (zb ixT (vE 6) (cE (.int 0))) (zb ixT (vE 6) (cE (.int 1)))) (orE (zb ixT (vE 6) (cE (.int 0))) (zb ixT (vE 6) (cE (.int 1))))))))))))))
def S_a:Nat->Nat->List T->R T
 | 0,_=>λ_=> .bad
 | n+1,_=>λts=>zz (b_a (f_i 8) (S_a n 0) (en0 7 ts))
abbrev f_a (n:Nat):List T->R T:=S_a n 0
def GY (c_a:List T->R T):En->RS:=
  zF (Z0 (ZZ (vE 0)) (zK 0) (zD eqC (za 2 c_a (z9 (zb ixT (vE 1) (cE (.int 1))) (z9 (vE 0) (zj)))) (ZV eqC (zb ixT (vE 1) (cE (.int 0))) (cE (.str "keep")))) (vE 0) 1 [1])
def XY:List T->R T:=λts=>zz (GY (f_a 8) (en0 2 ts))
def z1A (c_g:List T->R T):En->RS:=
  zF (jr (za 1 c_g (z9 (vE 0) (zj))) (chE leC leC (Wp (cE (.int 50))) (vB 0) (cE (.int 50))))
def GZ:List T->R T:=λts=>zz (z1A (f_g) (en0 1 ts))
def b_j (c_r:List T->R T)(c_j:List T->R T)(c_1e:List T->R T):En->RS:=
  zB (ifS (orT (zD eqC (vB 1) (cE (.int 0))) (orT (u1 (Ji (ap1 (W9 "tuple") (vB 0)))) (zD eqC (ap1 Ze (vB 0)) (cE (.int 0))))) (zF (cE (.bl false))) (nxS))
  (zB (ifS (orT (zD eqC (zb ixT (vE 0) (cE (.int 0))) (cE (.str "sum"))) (zD eqC (zb ixT (vE 0) (cE (.int 0))) (cE (.str "size")))) (zF (jr (ZV eqC (ap1 Ze (vB 0)) (cE (.int 3))) (jr (za 1 c_1e (z9 (zb ixT (vE 0) (cE (.int 1))) (zj))) (za 1 c_1e (z9 (zb ixT (vE 0) (cE (.int 2))) (zj)))))) (nxS))
  (zB (ifS (zD eqC (zb ixT (vE 0) (cE (.int 0))) (cE (.str "word"))) (zF (jr (ZV eqC (ap1 Ze (vB 0)) (cE (.int 2))) (za 1 c_r (z9 (zb ixT (vE 0) (cE (.int 1))) (zj))))) (nxS))
  (zB (ifS (orT (zD eqC (zb ixT (vE 0) (cE (.int 0))) (cE (.str "rising"))) (zD eqC (zb ixT (vE 0) (cE (.int 0))) (cE (.str "unlike")))) (zF (ZV eqC (ap1 Ze (vB 0)) (cE (.int 1)))) (nxS))
  (zB (ifS (zD eqC (zb ixT (vE 0) (cE (.int 0))) (cE (.str "no"))) (zF (jr (ZV eqC (ap1 Ze (vB 0)) (cE (.int 2))) (za 2 c_j (z9 (zb ixT (vE 0) (cE (.int 1))) (z9 (zb ZY (vE 1) (cE (.int 1))) (zj)))))) (nxS))
  (zB (ifS (orT (zD eqC (zb ixT (vE 0) (cE (.int 0))) (cE (.str "all"))) (zD eqC (zb ixT (vE 0) (cE (.int 0))) (cE (.str "some")))) (zF (jr (ZV eqC (ap1 Ze (vB 0)) (cE (.int 3))) (jr (za 2 c_j (z9 (zb ixT (vE 0) (cE (.int 1))) (z9 (zb ZY (vE 1) (cE (.int 1))) (zj)))) (za 2 c_j (z9 (zb ixT (vE 0) (cE (.int 2))) (z9 (zb ZY (vE 1) (cE (.int 1))) (zj))))))) (nxS))
  (zF (cE (.bl false))))))))
def S_j:Nat->Nat->List T->R T
 | 0,_=>λ_=> .bad
 | n+1,_=>λts=>zz (b_j (f_r) (S_j n 0) (GZ) (en0 2 ts))
abbrev f_j (n:Nat):List T->R T:=S_j n 0
def b_7 (c_j:List T->R T):En->RS:=
  zF (za 2 c_j (z9 (vE 0) (z9 (cE (.int 3)) (zj))))
def f_7:List T->R T:=λts=>zz (b_7 (f_j 8) (en0 1 ts))
def z00 (c_7:List T->R T):En->RS:=
  ifS (u1 (Ji (za 1 c_7 (z9 (vE 0) (zj))))) (uh) (nxS)
def gA:List T->R T:=λts=>zz (z00 (f_7) (en0 1 ts))
def b_1b:En->RS:=
  zF (ap1 Ze (ixV 101 0 1 "remaining" (Wp (cE (.int 1)))))
def gB:List (Str×Fd)->List T->R T:=λfs ts=>zz (b_1b  (enO 101 1 fs (ts.take 0) (ts.drop 0)))
def b_b (c_b:List T->R T):En->RS:=
  zB (ifS (u1 (Ji (ap1 (W9 "tuple") (vB 0)))) (zF (ZD (z9 (vE 0) (zj)))) (nxS))
  (zB (yk 1 (zj))
  (zB (jt (ZZ (vE 0)) (zK 2) (Qk 1 (za 1 c_b (z9 (vE 2) (zj)))))
  (zF (vE 1))))
def S_b:Nat->Nat->List T->R T
 | 0,_=>λ_=> .bad
 | n+1,_=>λts=>zz (b_b (S_b n 0) (en0 3 ts))
abbrev f_b (n:Nat):List T->R T:=S_b n 0
def b_v (c_g:List T->R T)(c_b:List T->R T):En->RS:=
  zF (Z0 (ZZ (za 1 c_b (z9 (vE 0) (zj)))) (zK 0) (Ji (za 1 c_g (z9 (vE 0) (zj)))) (vE 0) 1 [])
def f_v:List T->R T:=λts=>zz (b_v (f_g) (f_b 8) (en0 1 ts))
def b_x:En->RS:=
  zF (ifE (Ji (ap1 (W9 "tuple") (vB 0))) (vE 0) (Zy (z9 (vE 0) (zj))))
def f_x:List T->R T:=λts=>zz (b_x  (en0 1 ts))
def z1B:En->RS:=
  zF (ap1 xv (Z0 (z19 (vE 0) (slE (vE 0) (ZE (cE (.int 1))) (noO))) (ZF 0 1) (Zl) (ZV leC (vB 0) (vB 1)) 2 []))
def z01:List T->R T:=λts=>zz (z1B  (en0 1 ts))
def z1C:En->RS:=
  zF (Qj (ap1 z1k (Z0 (uY (vE 0)) (ZF 0 1) (Zl) (ZV inC (vB 1) (slE (vE 2) (noO) (ZE (vE 0)))) 2 [0])))
def z02:List T->R T:=λts=>zz (z1C  (en0 1 ts))
def b_s (c_x:List T->R T)(c_b:List T->R T)(c_v:List T->R T)(c_11:List T->R T)(c_12:List T->R T):En->RS:=
  zB (ifS (zD eqC (zb ixT (vE 0) (cE (.int 0))) (cE (.str "sum"))) (zF (chE leC leC (zb ixT (vE 0) (cE (.int 1))) (ap1 xT (za 1 c_v (z9 (vE 1) (zj)))) (zb ixT (vE 0) (cE (.int 2))))) (nxS))
  (zB (ifS (zD eqC (zb ixT (vE 0) (cE (.int 0))) (cE (.str "size"))) (zF (chE leC leC (zb ixT (vE 0) (cE (.int 1))) (ap1 Ze (za 1 c_x (z9 (vE 1) (zj)))) (zb ixT (vE 0) (cE (.int 2))))) (nxS))
  (zB (ifS (zD eqC (zb ixT (vE 0) (cE (.int 0))) (cE (.str "word"))) (zF (ZV inC (zb ixT (vE 0) (cE (.int 1))) (za 1 c_b (z9 (vE 1) (zj))))) (nxS))
  (zB (ifS (zD eqC (zb ixT (vE 0) (cE (.int 0))) (cE (.str "rising"))) (zF (za 1 c_11 (z9 (za 1 c_v (z9 (vE 1) (zj))) (zj)))) (nxS))
  (zF (za 1 c_12 (z9 (za 1 c_x (z9 (vE 1) (zj))) (zj)))))))
def f_s:List T->R T:=λts=>zz (b_s (f_x) (f_b 8) (f_v) (z01) (z02) (en0 2 ts))
def b_8 (c_8:List T->R T)(c_s:List T->R T):En->RS:=
  zB (ifS (zD eqC (zb ixT (vE 0) (cE (.int 0))) (cE (.str "no"))) (zF (Qj (za 2 c_8 (z9 (zb ixT (vE 0) (cE (.int 1))) (z9 (vE 1) (zj)))))) (nxS))
  (zB (ifS (zD eqC (zb ixT (vE 0) (cE (.int 0))) (cE (.str "all"))) (zF (jr (za 2 c_8 (z9 (zb ixT (vE 0) (cE (.int 1))) (z9 (vE 1) (zj)))) (za 2 c_8 (z9 (zb ixT (vE 0) (cE (.int 2))) (z9 (vE 1) (zj)))))) (nxS))
  (zB (ifS (zD eqC (zb ixT (vE 0) (cE (.int 0))) (cE (.str "some"))) (zF (orE (za 2 c_8 (z9 (zb ixT (vE 0) (cE (.int 1))) (z9 (vE 1) (zj)))) (za 2 c_8 (z9 (zb ixT (vE 0) (cE (.int 2))) (z9 (vE 1) (zj)))))) (nxS))
  (zF (za 2 c_s (z9 (vE 0) (z9 (vE 1) (zj)))))))
def S_8:Nat->Nat->List T->R T
 | 0,_=>λ_=> .bad
 | n+1,_=>λts=>zz (b_8 (S_8 n 0) (f_s) (en0 2 ts))
abbrev f_8 (n:Nat):List T->R T:=S_8 n 0
def b_t (c_8:List T->R T):En->RS:=
  zB (zL 2 (ZV eqC (zb ixT (vE 0) (cE (.int 0))) (cE (.str "keep"))))
  (zF (Z0 (ZZ (vE 1)) (zK 0) (zD eqC (za 2 c_8 (z9 (zb ixT (vE 1) (cE (.int 1))) (z9 (vE 0) (zj)))) (vB 2)) (vE 0) 1 [0,2]))
def f_t:List T->R T:=λts=>zz (b_t (f_8 8) (en0 3 ts))
def b_k (c_t:List T->R T):En->R (T×En):=
  ZH (Vp 101 0 2 "remaining" (za 2 c_t (z9 (vE 1) (z9 (ixF 101 0 2 "remaining" (Wp (cE (.int 1)))) (zj)))))
  (ZH (Vp 101 0 2 "done" (vE 1))
  (z1o))
def f_k:List (Str×Fd)->List T->R (T×List (Str×Fd)):=λfs ts=>JU 101 2 (b_k (f_t) (enM 101 2 fs ts))
def b_q (c_1a:List T->R T)(c_1b:List (Str×Fd)->List T->R T)(c_k:List (Str×Fd)->List T->R (T×List (Str×Fd))):En->R (T×En):=
  ZH (UR (za 1 c_1a (z9 (vE 2) (zj))))
  (ZH (zL 3 (uq 101 0 4 0 c_1b zj))
  (ZH (drM (u6 101 0 4 "do_step" 1 c_k (z9 (Zy (z9 (vE 1) (z9 (vE 2) (zj)))) (zj))))
  (ZH (Qn 101 0 4 "undone" (zj))
  (XU (zb ZY (vE 3) (uq 101 0 4 0 c_1b zj))))))
def f_q:List (Str×Fd)->List T->R (T×List (Str×Fd)):=λfs ts=>JU 101 4 (b_q (gA) (gB) (f_k) (enM 101 4 fs ts))
def b_1f (c_q:List (Str×Fd)->List T->R (T×List (Str×Fd))):En->R (T×En):=
  u6 101 0 2 "new_step" 2 c_q (z9 (cE (.str "keep")) (z9 (vE 1) (zj)))
def gC:List (Str×Fd)->List T->R (T×List (Str×Fd)):=λfs ts=>JU 101 2 (b_1f (f_q) (enM 101 2 fs ts))
def b_1g (c_q:List (Str×Fd)->List T->R (T×List (Str×Fd))):En->R (T×En):=
  u6 101 0 2 "new_step" 2 c_q (z9 (cE (.str "bar")) (z9 (vE 1) (zj)))
def gD:List (Str×Fd)->List T->R (T×List (Str×Fd)):=λfs ts=>JU 101 2 (b_1g (f_q) (enM 101 2 fs ts))
def z03 (c_1f:List (Str×Fd)->List T->R (T×List (Str×Fd)))(c_1g:List (Str×Fd)->List T->R (T×List (Str×Fd))):En->R (T×En):=
  z1x (zD eqC (zb ixT (vE 1) (cE (.int 0))) (cE (.str "keep"))) (u6 101 0 2 "keep" 1 c_1f (z9 (zb ixT (vE 1) (cE (.int 1))) (zj))) (u6 101 0 2 "bar" 1 c_1g (z9 (zb ixT (vE 1) (cE (.int 1))) (zj)))
def XZ:List (Str×Fd)->List T->R (T×List (Str×Fd)):=λfs ts=>JU 101 2 (z03 (gC) (gD) (enM 101 2 fs ts))
def b_l:En->RS:=
  zB (zL 1 (ZD (z9 (Jf 0 okX JH) (z9 (Jf 0 okX jX) (z9 (Jf 0 okX jU) (z9 (Jf 0 okX jV) (zj)))))))
  (zB (zL 1 (zb zC (vE 1) (ZD (z9 (Jf 0 okX jW) (z9 (Jf 0 okX jv) (z9 (Jf 0 okX jw) (zj)))))))
  (zB (ifS (orT (zD neC (GL z1c (vB 1) (cE (.bl true))) (cE (.int 1))) (u1 (Ji (Jf 0 okX ZL)))) (zF (cE (.str "wrong"))) (nxS))
  (zF (zb ixT (ZD (z9 (cE (.str "ended")) (z9 (cE (.str "no back")) (z9 (cE (.str "no kind")) (z9 (cE (.str "no rule")) (z9 (cE (.str "no text")) (z9 (cE (.str "no worth")) (z9 (cE (.str "too many")) (zj))))))))) (GL z1d (vB 1) (cE (.bl true)))))))
def f_l:Nat->R T:=λc=>zz (b_l  (enC 2 c))
def b_o:En->RS:=
  zB (ifS (zD eqC (ap1 Ze (vw 101 0 2 "done")) (cE (.int 0))) (Yj 6) (nxS))
  (zB (uh)
  (zB (uh)
  (zB (uh)
  (uh))))
def f_o:List (Str×Fd)->List T->R T:=λfs ts=>zz (b_o  (enO 101 2 fs (ts.take 0) (ts.drop 0)))
def b_5:En->R (T×En):=
  ZH (ifS (zD eqC (ap1 Ze (XV 101 0 2 "done")) (cE (.int 0))) (uh) (nxS))
  (ZH (seM 1 (Qo 101 0 2 "done"))
  (ZH (drM (Qo 101 0 2 "remaining"))
  (ZH (Vp 101 0 2 "undone" (vE 1))
  (XU (zb ixT (vE 1) (cE (.int 0)))))))
def f_5:List (Str×Fd)->List T->R (T×List (Str×Fd)):=λfs ts=>JU 101 2 (b_5  (enM 101 2 fs ts))
def b_n:En->RS:=
  zB (ifS (zD eqC (ap1 Ze (vw 101 0 2 "undone")) (cE (.int 0))) (Yj 6) (nxS))
  (zB (uh)
  (zB (uh)
  (uh)))
def f_n:List (Str×Fd)->List T->R T:=λfs ts=>zz (b_n  (enO 101 2 fs (ts.take 0) (ts.drop 0)))
def b_4 (c_k:List (Str×Fd)->List T->R (T×List (Str×Fd))):En->R (T×En):=
  ZH (ifS (zD eqC (ap1 Ze (XV 101 0 2 "undone")) (cE (.int 0))) (uh) (nxS))
  (ZH (seM 1 (Qo 101 0 2 "undone"))
  (ZH (drM (u6 101 0 2 "do_step" 1 c_k (z9 (vE 1) (zj))))
  (XU (zb ixT (vE 1) (cE (.int 0))))))
def f_4:List (Str×Fd)->List T->R (T×List (Str×Fd)):=λfs ts=>JU 101 2 (b_4 (f_k) (enM 101 2 fs ts))
def b_1k:En->RS:=
  zF (ap1 GN (ixV 101 0 1 "remaining" (Wp (cE (.int 1)))))
def z04:List (Str×Fd)->List T->R T:=λfs ts=>zz (b_1k  (enO 101 1 fs (ts.take 0) (ts.drop 0)))
def b_1j:En->RS:=
  zF (Zy (z9 (ap1 Ze (vw 101 0 1 "done")) (z9 (ap1 Ze (vw 101 0 1 "undone")) (zj))))
def z05:List (Str×Fd)->List T->R T:=λfs ts=>zz (b_1j  (enO 101 1 fs (ts.take 0) (ts.drop 0)))
def b_1l:En->RS:=
  zF (lcpV 101 0 1 "done")
def z06:List (Str×Fd)->List T->R T:=λfs ts=>zz (b_1l  (enO 101 1 fs (ts.take 0) (ts.drop 0)))
def b_0 (c_1:List T->R T)(c_6:List T->R T)(c_18:List T->R T)(c_l:Nat->R T)(c_13:List T->R T)(c_10:List T->R T)(c_w:List (Str×Fd)->List T->R (T×List (Str×Fd)))(c_1k:List (Str×Fd)->List T->R T)(c_1l:List (Str×Fd)->List T->R T)(c_5:List (Str×Fd)->List T->R (T×List (Str×Fd)))(c_o:List (Str×Fd)->List T->R T)(c_4:List (Str×Fd)->List T->R (T×List (Str×Fd)))(c_n:List (Str×Fd)->List T->R T)(c_1j:List (Str×Fd)->List T->R T)(c_1c:List (Str×Fd)->List T->R (T×List (Str×Fd))):En->RS:=
  zB (zL 1 (za 3 c_18 (z9 (vE 0) (z9 (cE (.int 10)) (z9 (cE (.int 40)) (zj))))))
  (zB (UX 2 3 4 5 10 (mkA 10 11 101 1 c_w (z9 (vE 1) (zj))) (z9 (ZD (z9 (za 1 c_6 (z9 (vE 1) (zj))) (zj))) (z9 (ZD (zj)) (z9 (cE (.int 0)) (zj)))))
  (zB (jt (Zu (cE (.int 16))) (zK 6) (zB (zL 7 (za 3 c_1 (z9 (vE 0) (z9 (zb zC (cE (.int 900)) (vE 6)) (z9 (cE (.int 7)) (zj))))))
  (zB (ifS (zD ltC (vB 7) (cE (.int 4))) (zB (zL 8 (za 2 c_13 (z9 (vE 0) (z9 (zb zC (cE (.int 1000)) (zb Z6 (cE (.int 100)) (vE 6))) (zj)))))
  (zB (zL 9 (za 2 c_10 (z9 (zb ixT (vE 3) (vE 5)) (z9 (vE 8) (zj)))))
  (zB (ifM (uo neC (X9 101 2 11 1 c_1c (z9 (vE 8) (zj))) (zb ZY (ap1 Ze (zb ixT (vE 3) (vE 5))) (ap1 Ze (vB 9)))) (zF (cE (.bl false))) (nxS))
  (zB (zL 3 (zb zC (slE (vE 3) (noO) (ZE (zb zC (vE 5) (cE (.int 1))))) (ZD (z9 (vE 9) (zj)))))
  (zB (zL 4 (zb zC (slE (vE 4) (noO) (ZE (vE 5))) (ZD (z9 (vE 8) (zj)))))
  (zL 5 (zb zC (vE 5) (cE (.int 1))))))))) (ifS (zD ltC (vB 7) (cE (.int 6))) (zB (ifM (uo neC (jI 101 2 11 "back" okX c_l c_o c_5) (ifE (zD gtC (vB 5) (cE (.int 0))) (zb ixT (zb ixT (vE 4) (zb ZY (vE 5) (cE (.int 1)))) (cE (.int 0))) (cE (.str "no back")))) (zF (cE (.bl false))) (nxS))
  (zL 5 (zb vm (cE (.int 0)) (zb ZY (vE 5) (cE (.int 1)))))) (zB (ifM (uo neC (jI 101 2 11 "forth" okX c_l c_n c_4) (ifE (zD ltC (vB 5) (ap1 Ze (vB 4))) (zb ixT (zb ixT (vE 4) (vE 5)) (cE (.int 0))) (cE (.str "no back")))) (zF (cE (.bl false))) (nxS))
  (zL 5 (zb Ws (ap1 Ze (vB 4)) (zb zC (vE 5) (cE (.int 1))))))))
  (ifS (orT (zD neC (uq 101 2 11 0 c_1k zj) (zb ixT (vE 3) (vE 5))) (orT (zD neC (uq 101 2 11 0 c_1j zj) (Zy (z9 (vE 5) (z9 (zb ZY (ap1 Ze (vB 4)) (vE 5)) (zj))))) (zD neC (uq 101 2 11 0 c_1l zj) (slE (vE 4) (noO) (ZE (vE 5)))))) (zF (cE (.bl false))) (nxS)))))
  (zF (cE (.bl true)))))
def f_0:List T->R T:=λts=>zz (b_0 (f_1) (f_6 8) (gs) (f_l) (XX) (XY) (f_w) (z04) (z06) (f_5) (f_o) (f_4) (f_n) (z05) (XZ) (enS 12 ts))
end G
namespace G
open PySem L2 PV
noncomputable abbrev scr (ns:List Int):T:= .fz (ns.map T.int)
theorem Xd (ns:List Int)(k:Int)(h0:0<=k):∃c,gq [scr ns,.int k]= .ok (.int c):=by
 have e1:gq [scr ns,.int k]=zz (if decide (k < ((ns.map T.int).length))=true then (atT (ns.map T.int) k).s (λt=> .rt t) else
   match (eqC (scr ns) (.lst [])).s (λb=>if b=true then RS.rt (.int 0) else .nx [.vl (scr ns),.vl (.int k)]) with
   | .nx ρ' =>zF (zb zC (zb Z6 (zb ixT (vE 0) (zb jR (vE 1) (ap1 Ze (vB 0)))) (cE (.int 31))) (vE 1)) ρ'
   | r=>r):=by
  show zz (match (if decide _=true then (atT _ k).s (λt=>RS.rt t) else .nx _) with
   | .nx ρ' =>_
   | r=>r)=_
  cases decide (k < ((ns.map _).length:Int)) with
  | true=>
   unfold atT;cases atI _ k <;> rfl
  | false=>rfl
 rw[e1,a9]
 by_cases hk:k < (ns.length)
 ·obtain⟨v,hv⟩:∃v,ns[k.toNat]? =some v:=⟨ns[k.toNat]'(by omega),ag (by omega)⟩
  have ea:atI (ns.map T.int) k=some (.int v):=by
   have:k=((k.toNat):Int):=by omega
   rw[this];exact ZX (by rw[av,hv];rfl)
  rw[decide_eq_true hk];exact⟨v,by unfold atT;rw[ea];rfl⟩
 ·rw[decide_eq_false hk];cases ns with
  | nil=>exact⟨0,rfl⟩
  | cons x xs=>
   have hm0:=iy k (show (((x :: xs).length):Int) ≠ 0 by simp only[af];omega)
   have hm1:=fP k (show (0) < (((x :: xs).length):Int) by simp only[af];omega)
   obtain⟨v,hv⟩:∃v,(x :: xs)[(k % (((x :: xs).length):Int)).toNat]? =some v:=⟨_,ag (by omega)⟩
   have ea:atI ((x :: xs).map T.int) (k % (((x :: xs).length):Int))=some (.int v):=by
    have e:k % (((x :: xs).length):Int)=(((k % (((x :: xs).length):Int)).toNat:Nat):Int):=by omega
    rw[e];exact ZX (by rw[av,hv];rfl)
   have cm:WZ v 31:= .inr ⟨by decide,by decide⟩
   have hp:(0:Int) < (((x :: xs).map T.int).length):=by simp only[a9,af];omega
   refine⟨v*31+k, ?_⟩;show zz (((((if 0 < (((x :: xs).map _).length:Int) then R.ok _ else .bad).bind λy=>ixT _ y).bind λa=>Z6 a _).bind λa=>zC a _).s λt=> .rt t)=_
   rw[if_pos hp];show zz ((((atT _ _).bind λa=>Z6 a _).bind λa=>zC a _).s λt=> .rt t)=_;rw[a9];unfold atT;rw[ea];show zz ((((if WZ v 31 then R.ok _ else .bad)).bind λa=>zC a _).s λt=> .rt t)=_
   rw[if_pos cm];rfl
theorem zP (ns:List Int)(k m:Int)(h0:0<=k)(hm:0 < m):∃p,f_1 [scr ns,.int k,.int m]= .ok (.int p)/\0<=p/\p < m:=by
 obtain⟨c,hc⟩:=Xd ns k h0;have cm2:WZ (c+6151*(k+1)) 40692:= .inr ⟨by decide,by decide⟩
 generalize hd:(c+6151*(k+1))*40692 % 2147483399=d;have cm3:WZ d d:= .inl ⟨by omega,by omega⟩
 refine⟨(d*d+d / 31) % 2147483629 % m, ?_,iy _ (by omega),fP _ hm⟩
 have e1:f_1 [scr ns,.int k,.int m]=zz (match ((((((gq _).bind λx=>(Z6 (.int 6151) (.int _)).bind λy=>zC x y).bind λx=>Z6 x _).bind λx=>jR x _)).s λt=>RS.nx _) with
   | .nx ρ' =>zF _ ρ'
   | r=>r):=rfl
 rw[e1,hc];show zz (match ((((if WZ _ _ then R.ok _ else .bad)).bind λx=>jR x _).s λt=>RS.nx _) with
   | .nx ρ' =>_
   | r=>r)=_
 rw[if_pos cm2];show zz (zF _ _)=_;rw[hd];show zz (((((if WZ d d then R.ok _ else .bad).bind λx=>zC x _).bind λx=>jR x _).bind λx=>jR x _).s λt=>RS.rt t)=_
 rw[if_pos cm3];show zz ((if 0 < m then R.ok _ else .bad).s λt=>RS.rt t)=_
 rw[if_pos hm];rfl
theorem YN:∀(ts:List T) (ρ:En) (x:Sl),zQ (zK 0) ft fe ts (ρ.set 0 x)=zQ (zK 0) ft fe ts ρ
 | [],_,_=>rfl
 | t :: ts,ρ,x=>by
  unfold zQ zK;rw[List.set_set]
theorem jd {p:T->Bool}{h:T->T}:∀(ts:List T) (ρ:En),(∀t∈ts,ft (ρ.set 0 (.vl t))= .ok (p t)/\(p t=true->fe (ρ.set 0 (.vl t))= .ok (h t)))->zQ (zK 0) ft fe ts ρ= .ok ((ts.filter p).map h)
 | [],_,_=>rfl
 | t :: ts,ρ,H=>by
  obtain⟨h1,h2⟩:=H t ak;have ih:=jd ts ρ λu hu=>H u (ac _ hu);have e:zQ (zK 0) ft fe (t :: ts) ρ=(ft _).bind λk=>if k=true then (fe _).bind λv=>(zQ _ ft fe ts _).bind λvs=> .ok _ else zQ _ ft fe ts _:=rfl
  rw[e,h1,YN,ih];show (if p t=true then _ else _)=_
  cases hp:p t with
  | true=>rw[h2 hp,List.filter_cons_of_pos hp];rfl
  | false=>rw[if_neg aA,List.filter_cons_of_neg (by rw[hp];exact aA)]
theorem YO {h:T->T}(ts:List T)(ρ:En)(H:∀t∈ts,fe (ρ.set 0 (.vl t))= .ok (h t)):zQ (zK 0) Zl fe ts ρ= .ok (ts.map h):=by
 have:=jd (ft:=Zl) ts ρ λt ht=>⟨rfl,λ_=>H t ht⟩;rw[this,List.filter_eq_self.mpr (λ_ _=>rfl)]
theorem Zb {h:T->T}{js:List Nat}(ts:List T)(hl:ts.length<=bnd)(H:∀t∈ts,fe ((Wv k js ρ).set 0 (.vl t))= .ok (h t)):zG (zK 0) Zl fe k js ρ ts= .ok (ts.map h):=by
 unfold zG;rw[if_pos hl,YO ts _ H];rfl
theorem Jj (p:T->Bool):∀ts:List T,u2 (ts.map λt=>T.bl (p t))=some (ts.all p)
 | []=>rfl
 | t :: ts=>by
  show (match u2 (ts.map λt=>T.bl _) with | some j=>some _ | none=>none)=_
  rw[Jj p ts];rfl
noncomputable def isW:T->Bool
 | .int _=>true
 | _=>false
theorem U4 (t:T):f_g [t]= .ok (.bl (isW t)):=by cases t <;> rfl
noncomputable def vx (a b:Nat):T->Bool
 | .tup xs=>decide (a<=xs.length) && decide (xs.length<=b)
 | _=>false
theorem jx (t:T)(a b:Nat):f_m [t,.int a,.int b]= .ok (.bl (vx a b t)):=by
 cases t with
 | tup xs=>
  show zz ((if decide _=true then R.ok _ else .ok _).s λt=> .rt t)=_
  have e1:decide ((a:Int)<=(xs.length))=decide (a<=xs.length):=by simp
  have e2:decide ((xs.length:Int)<=(b))=decide (xs.length<=b):=by simp
  rw[e1,e2];show _=R.ok (T.bl (decide _ && decide _));cases decide (a<=xs.length) <;> rfl
 | _=>rfl
noncomputable def Ja (lo hi:Int):T->T->Bool
 | .int i,.int j=>decide (lo<=i) && decide (i<=j) && decide (j<=hi)
 | _,_=>false
theorem YQ (t u:T)(lo hi:Int):GQ [t,u,.int lo,.int hi]= .ok (.bl (Ja lo hi t u)):=by
 cases t with
 | int i=>
  cases u with
  | int j=>
   show zz ((if decide _=true then (if decide _=true then R.ok _ else .ok _) else .ok _).s λt=> .rt t)=_
   show _=R.ok (T.bl (decide _ && decide _ && decide _));cases decide (lo<=i) <;> cases decide (i<=j) <;> rfl
  | _=>rfl
 | _=>cases u <;> rfl
noncomputable def Zt (c:Nat):Bool:=decide (97<=c) && decide (c<=122)
def Zm:T->Bool
 | .str x=>decide (1<=x.length) && decide (x.length<=3) && x.cps.toList.all Zt
 | _=>false
theorem Vq (a b:Nat):decide ([a] < [b])=decide (a < b):=by
 by_cases h:a < b
 ·rw[decide_eq_true h];exact decide_eq_true (List.Lex.rel h)
 ·rw[decide_eq_false h];refine decide_eq_false λz=> ?_;cases z with
  | rel h' =>exact h h'
  | cons h' =>cases h'
theorem Xe (c:Nat)(ρ:En):chE leC leC (cE (.str "a")) (vB 0) (cE (.str "z")) ((Sl.vl (.str ⟨#[c]⟩)) :: ρ)= .ok (.bl (Zt c)):=by
 have e1:leC (.str "a") (.str ⟨#[c]⟩)= .ok (decide (97<=c)):=by
  show R.ok (!decide ([c] < [97]))=_;rw[Vq]
  by_cases h:c < 97
  ·rw[decide_eq_true h,decide_eq_false (by omega)];rfl
  ·rw[decide_eq_false h,decide_eq_true (by omega)];rfl
 have e2:leC (.str ⟨#[c]⟩) (.str "z")= .ok (decide (c<=122)):=by
  show R.ok (!decide ([122] < [c]))=_;rw[Vq]
  by_cases h:122 < c
  ·rw[decide_eq_true h,decide_eq_false (by omega)];rfl
  ·rw[decide_eq_false h,decide_eq_true (by omega)];rfl
 show (leC (.str "a") (.str _)).bind (λk=>if k=true then (leC (.str _) (.str "z")).bind λk' =>R.ok (T.bl k') else R.ok _)=_
 rw[e1,e2];unfold Zt;cases decide (97<=c) <;> rfl
def Xf:T->Prop
 | .str x=>x.length<=bnd
 | _=>True
theorem YR (t:T)(ht:Xf t):f_r [t]= .ok (.bl (Zm t)):=by
 cases t with
 | str x=>
  have hx:=ht;have e0:Ze (.str x)= .ok _:=if_pos hx;have ec:zG (zK 0) Zl (chE leC leC (cE (.str "a")) (vB 0) (cE (.str "z"))) 1 [] [.vl (.str x)] (JB x)= .ok (x.cps.toList.map λc=>T.bl (Zt c)):=by
   have hs:(JB x).length<=bnd:=by unfold JB;rw[a9];exact hx
   have:=Zb (h:=λt=>match t with | .str y=>T.bl (Zt (y.cps.toList.headD 0)) | t=>t) (k:=1) (js:=[]) (ρ:=[.vl (.str x)]) _ hs λt ht=>by
    obtain⟨c,_,rfl⟩:=aO.mp ht;exact Xe c []
   rw[this];unfold JB;rw[bI];rfl
  have ea:u2 (x.cps.toList.map λc=>T.bl (Zt c))=some (x.cps.toList.all Zt):=by
   have:=Jj (λt=>match t with | .str y=>Zt (y.cps.toList.headD 0) | _=>true) (JB x)
   unfold JB at this;rw[bI,f_]at this;exact this
  have e1:f_r [.str x]=zz (match ((((Ze (.str x)).bind λy=>(leC _ y).bind λk=>if k=true then leC y _ else .ok _).bind λb=> .ok _).s λk=>if k=true then RS.rt _ else .nx _) with
    | .nx ρ' =>zF _ ρ'
    | r=>r):=rfl
  rw[e1,e0];have c1:decide ((1:Int)<=(x.length))=decide (1<=x.length):=by
   by_cases h:1<=x.length
   ·rw[decide_eq_true h];exact decide_eq_true (by omega)
   ·rw[decide_eq_false h];exact decide_eq_false (by omega)
  have c2:decide ((x.length:Int)<=(3))=decide (x.length<=3):=by
   by_cases h:x.length<=3
   ·rw[decide_eq_true h];exact decide_eq_true (by omega)
   ·rw[decide_eq_false h];exact decide_eq_false (by omega)
  show zz (match ((((if decide _=true then R.ok _ else .ok _)).bind λb=> .ok _).s λk=>if k=true then RS.rt _ else .nx _) with
    | .nx ρ' =>_
    | r=>r)=_
  rw[c1,c2];show _=R.ok (T.bl (decide _ && decide _ && x.cps.toList.all _));cases decide (1<=x.length) with
  | false=>rfl
  | true=>
   cases decide (x.length<=3) with
   | false=>rfl
   | true=>
    show zz ((((zG _ _ _ 1 [] [.vl _] _).bind λvs=> .ok _).bind xv).s λt=> .rt t)=_;rw[ec];show zz ((match u2 (x.cps.toList.map λc=>T.bl _) with | some k=>R.ok _ | none=> .bad).s λt=> .rt t)=_
    rw[ea];rfl
 | _=>rfl
theorem bOk {α β:Type}(a:α)(f:α->R β):(R.ok a).bind f=f a:=rfl
theorem ZS {α:Type}(a:α)(f:α->RS):(R.ok a).s f=f a:=rfl
theorem Jb (r:R T):zz (r.s λt=> .rt t)=r:=by cases r <;> rfl
theorem Zi (f:En->R T)(ρ:En):zF f ρ=(f (frz ρ)).s λt=> .rt t:=rfl
theorem zW:za 1 g (z9 f zj) ρ=(f ρ).bind λx=>g [x]:=by
 unfold za z9 zj;cases f ρ <;> rfl
theorem Z7:za 2 g (z9 f (z9 f' zj)) ρ=(f ρ).bind λx=>(f' ρ).bind λy=>g [x,y]:=by
 unfold za z9 zj;cases f ρ with
 | ok a=>cases f' ρ <;> rfl
 | ex c=>rfl
 | bad=>rfl
theorem Zn:za 3 g (z9 f (z9 f' (z9 f'' zj))) ρ=(f ρ).bind λx=>(f' ρ).bind λy=>(f'' ρ).bind λz=>g [x,y,z]:=by
 unfold za z9 zj;cases f ρ with
 | ok a=>
  cases f' ρ with
  | ok b=>cases f'' ρ <;> rfl
  | ex c=>rfl
  | bad=>rfl
 | ex c=>rfl
 | bad=>rfl
theorem z1D:za 4 g (z9 f (z9 f' (z9 f'' (z9 f3 zj)))) ρ=(f ρ).bind λx=>(f' ρ).bind λy=>(f'' ρ).bind λz=>(f3 ρ).bind λw=>g [x,y,z,w]:=by
 unfold za z9 zj;cases f ρ with
 | ok a=>
  cases f' ρ with
  | ok b=>
   cases f'' ρ with
   | ok c=>cases f3 ρ <;> rfl
   | ex c=>rfl
   | bad=>rfl
  | ex c=>rfl
  | bad=>rfl
 | ex c=>rfl
 | bad=>rfl
def z07 (r k:R T):R T:=r.bind λx=>match x with
 | .bl true=>k
 | .bl false=> .ok (.bl false)
 | _=> .bad
theorem wm (f g:En->R T)(ρ:En):jr f g ρ=z07 (f ρ) (g ρ):=rfl
theorem ZM (a:Bool)(k:R T):z07 (.ok (.bl a)) k=if a=true then k else .ok (.bl false):=by cases a <;> rfl
theorem v0:vE 0 (.vl t :: ρ)= .ok t:=rfl
theorem v1:vE 1 (a :: .vl t :: ρ)= .ok t:=rfl
theorem w0:vB 0 (.vl t :: ρ)= .ok t:=rfl
theorem w1:vB 1 (a :: .vl t :: ρ)= .ok t:=rfl
theorem zV:cE t ρ= .ok t:=rfl
theorem zt:zb g f f' ρ=(f ρ).bind λx=>(f' ρ).bind λy=>g x y:=rfl
theorem je:frz (.vl t :: ρ)= .vl t :: frz ρ:=rfl
theorem wT:frz (.un :: ρ)= .un :: frz ρ:=rfl
theorem jy:frz []=[]:=rfl
theorem vy:chE g g' fa fb fc ρ=(fa ρ).bind λx=>(fb ρ).bind λy=>(g x y).bind λk=>if k=true then (fc ρ).bind λz=>(g' y z).bind λk' => .ok (.bl k') else .ok (.bl false):=rfl
theorem j3 {g:T->R T}:ap1 g f ρ=(f ρ).bind g:=rfl
theorem WF:leC (.int i) (.int j)= .ok (decide (i<=j)):=rfl
theorem Zj:ZV g f f' ρ=(f ρ).bind λx=>(f' ρ).bind λy=>(g x y).bind λb=> .ok (.bl b):=rfl
theorem ur:Ze (.tup xs)= .ok (.int xs.length):=rfl
theorem gE:Ze (.lst xs)= .ok (.int xs.length):=rfl
mutual
noncomputable def sOk:T->Prop
 | .str x=>x.length<=bnd
 | .tup xs=>U5 xs
 | .lst xs=>U5 xs
 | .fz xs=>U5 xs
 | _=>True
noncomputable def U5:List T->Prop
 | []=>True
 | t :: ts=>sOk t/\U5 ts
end
theorem jJ:∀{ts:List T} {t:T},U5 ts->t∈ts->sOk t
 | u :: ts,t,h,hm=>by
  have h' :=by simpa only[U5] using h
  rcases am.mp hm with rfl | hm
  ·exact h'.1
  ·exact jJ h'.2 hm
theorem sOk.str (h:sOk t):Xf t:=by
 cases t with
 | str x=>
  have h' :=by simpa only[sOk] using h
  exact h'
 | _=>trivial
theorem wU {xs:List T}(h:sOk (.tup xs)):U5 xs:=by simpa only[sOk] using h
def zY:T->Bool
 | .tup [w,.int i]=>Zm w && decide (1<=i) && decide (i<=20)
 | _=>false
theorem YS (t:T)(ht:sOk t):gu [t]= .ok (.bl (zY t)):=by
 have e:gu [t]=zz (GR _ _ _ [.vl t]):=rfl;rw[e,GR];simp only[Zi,Jb,je,jy,wm,Zn,zW,v0,zV,bOk,zt,vy];rw[show f_m [t,.int 2,.int 2]= .ok _ from jx t 2 2,ZM];cases t with
 | tup xs=>
  match xs,ht with
  | [],_=>rfl
  | [_],_=>rfl
  | _ :: _ :: _ :: _,_=>simp[vx,zY]
  | [w,n],ht=>
   have hw:sOk w:=jJ (wU ht) (by simp)
   show (if true=true then z07 (f_r [w]) (z07 (f_g [n]) ((leC _ n).bind λk=>if k=true then (leC n _).bind λk' =>R.ok _ else .ok _)) else _)=_
   rw[YR w hw.str,U4,ZM,ZM];cases n with
   | int i=>
    show (if Zm w=true then (if true=true then (if decide _=true then R.ok _ else .ok _) else _) else _)=R.ok (T.bl (Zm w && decide _ && decide _))
    cases Zm w <;> cases decide (1<=i) <;> rfl
   | _=>
    cases Zm w <;> rfl
 | _=>rfl
theorem Z3 (f g:En->RS)(ρ:En):zB f g ρ=match f ρ with | .nx ρ' =>g ρ' | r=>r:=rfl
theorem j5 (g:En->R Bool)(f1 f2:En->RS)(ρ:En):ifS g f1 f2 ρ=(g ρ).s λk=>if k=true then f1 ρ else f2 ρ:=rfl
theorem YT (f g:En->R Bool)(ρ:En):orT f g ρ=(f ρ).bind λx=>if x=true then .ok true else g ρ:=rfl
theorem U6 (f:En->R Bool)(ρ:En):u1 f ρ=(f ρ).bind λx=> .ok (!x):=rfl
theorem WG (f:En->R T)(ρ:En):Ji f ρ=(f ρ).bind tru:=rfl
theorem YU (k:Bool):tru (.bl k)= .ok k:=rfl
theorem JI (i:Nat)(f:En->R T)(ρ:En):zL i f ρ=(f ρ).s λt=> .nx (ρ.set i (.vl t)):=rfl
theorem zN:zD g f f' ρ=(f ρ).bind λx=>(f' ρ).bind λy=>g x y:=rfl
theorem Z2 {g:T->En->R En}{js:List Nat}:Z0 fi g ft fe k js ρ=(fi ρ).bind λts=>(zG g ft fe k js ρ ts).bind λvs=> .ok (.lst vs):=rfl
theorem jf:ZZ f ρ=(f ρ).bind JC:=rfl
noncomputable def ZT:T->Str
 | .tup (.str w :: _)=>w
 | _=>⟨#[]⟩
def U7:T->Bool
 | .tup cs=>decide (1<=cs.length) && decide (cs.length<=4) && cs.all zY && decide ((dd [] (cs.map ZT)).length=cs.length)
 | _=>false
theorem WH (h:zY c=true):∃w n,c= .tup [.str w,n]:=by
 unfold zY at h;split at h
 ·rename_i w i;cases w with
  | str x=>exact⟨x,_,rfl⟩
  | _=>cases h
 ·cases h
theorem wn:∀{cs:List T},cs.all zY=true->yl (cs.map λc=>T.str (ZT c))=some (cs.map ZT)
 | [],_=>rfl
 | c :: cs,h=>by
  rw[c_,ae]at h;have ih:=wn h.2;show (match yl (cs.map λc=>T.str _) with | some ys=>some _ | none=>none)=_
  rw[ih];rfl
theorem UY (t:T)(ht:sOk t):gv [t]= .ok (.bl (U7 t)):=by
 have e:gv [t]=zz (GS _ _ [.vl t,.un]):=rfl;rw[e,GS];simp only[Z3,j5,YT,U6,WG,Zn,v0,zV,bOk];rw[show f_m [t,.int 1,.int 4]= .ok _ from jx t 1 4];cases t with
 | tup cs=>
  have hl:vx 1 4 (.tup cs)=(decide _ && decide _):=rfl;rw[hl];show _=R.ok (T.bl (decide _ && decide _ && cs.all _ && decide _));cases h14:(decide (1<=cs.length) && decide (cs.length<=4)) with
  | false=>rfl
  | true=>
   rw[ae,decide_eq_true_eq,decide_eq_true_eq]at h14;have hb:cs.length<=bnd:=aD h14.2 (by decide)
   have ec:zG _ _ (za 1 gu (z9 (vE 0) zj)) 1 [] [.vl (.tup cs),.un] cs= .ok (cs.map λc=>T.bl _):=
    Zb cs hb λc hc=>by
     exact YS c (jJ (wU ht) hc)
   simp only[dZ,aV,if_false,j3,Z2,jf,v0,bOk,JC,ec];have ea:xv (.lst (cs.map λc=>T.bl (zY c)))= .ok (.bl (cs.all zY)):=by
    show (match u2 (cs.map λc=>T.bl _) with | some k=>R.ok _ | none=> .bad)=_
    rw[Jj]
   rw[ea];simp only[bOk,YU,ZS];cases hall:cs.all _ with
   | false=>rfl
   | true=>
    have ew:zG _ _ (zb ixT (vE 0) (cE (.int 0))) 1 [] [.vl (.tup cs),.un] cs= .ok (cs.map λc=>T.str (ZT c)):=
     Zb cs hb λc hc=>by
      obtain⟨w,n,rfl⟩:=WH (aS.mp hall c hc);rfl
    simp only[dZ,aV,if_false,nxS,JI,Z2,jf,v0,bOk,JC,ew,ZS,Zi];show zz (((QX (.lst (cs.map λc=>T.str _))).bind λx=>(Ze (.lst (cs.map λc=>T.str _))).bind λy=>(eqC x y).bind λb=>R.ok _).s λt=> .rt t)=_;have el:QX (.lst (cs.map λc=>T.str (ZT c)))= .ok (.int (dd [] (cs.map ZT)).length):=by
     show (match yl (cs.map λc=>T.str _) with | some ys=>if (cs.map λc=>T.str _).length+1 < 4096 then R.ok _ else .bad | none=> .bad)=_
     rw[wn hall];exact if_pos (by rw[a9];omega)
    rw[el,gE,a9];show R.ok _=_;congr 2
    by_cases hq:(dd [] (cs.map ZT)).length=cs.length
    ·rw[hq];simp
    ·rw[decide_eq_false hq];simp only[fK,beq_eq_false_iff_ne];omega
 | _=>rfl
noncomputable def isS (w:Str):T->Bool
 | .str s=>s == w
 | _=>false
theorem eqS (h:T)(w:Str):eqC h (.str w)= .ok (isS w h):=by cases h <;> rfl
theorem eqI (i j:Int):eqC (.int i) (.int j)= .ok (i == j):=rfl
theorem at0:ixT (.tup (h :: r)) (.int 0)= .ok h:=by
 show atT _ 0=_;unfold atT;rw[show atI _ 0=some h from ZX rfl]
theorem at1:ixT (.tup (h :: a :: r)) (.int 1)= .ok a:=by
 show atT _ 1=_;unfold atT;rw[show atI _ 1=some a from ZX rfl]
theorem at2:ixT (.tup (h :: a :: b :: r)) (.int 2)= .ok b:=by
 show atT _ 2=_;unfold atT;rw[show atI _ 2=some b from ZX rfl]
theorem at3:ixT (.tup (h :: a :: b :: c :: r)) (.int 3)= .ok c:=by
 show atT _ 3=_;unfold atT;rw[show atI _ 3=some c from ZX rfl]
noncomputable def JJ (k:T->Bool):T->Bool
 | .tup ks=>decide (1<=ks.length) && decide (ks.length<=3) && ks.all k
 | _=>false
def WI:List T->Bool
 | [a,b]=>Ja (-20) 20 a b
 | _=>false
def YV:List T->Bool
 | [c]=>U7 c
 | _=>false
def gF (k:T->Bool):List T->Bool
 | [c]=>JJ k c
 | _=>false
def YW (k:T->Bool):List T->Bool
 | [c,a,b]=>Ja 0 3 a b && k c
 | _=>false
def UZ (k:T->Bool):T->Bool
 | .tup (h :: r)=>if isS "whole" h=true then WI r else if isS "pick" h=true then YV r else if isS "row" h=true then gF k r else if isS "many" h=true then YW k r else false
 | _=>false
def isK:Nat->T->Bool
 | 0,_=>false
 | d+1,t=>UZ (isK d) t
theorem YX {α:Type}(xs:List α)(n:Nat):((xs.length:Int) == (n:Int))=decide (xs.length=n):=by
 by_cases h:xs.length=n
 ·rw[h];simp
 ·rw[decide_eq_false h,beq_eq_false_iff_ne];omega
theorem Vr:Wp f ρ=(f ρ).bind λx=>match x with | .int i=> .ok (.int (-i)) | _=> .bad:=rfl
theorem Zg:ZY (.int i) (.int j)= .ok (.int (i - j)):=rfl
set_option maxHeartbeats 1000000 in
theorem Xg {n:Nat}{d:Nat}{k:T->Bool}(H0:∀t,sOk t->S_9 n 0 [t,.int d]= .ok (.bl (k t)))(H1:∀t,sOk t->S_9 n 1 [t,.int d]= .ok (.bl (JJ k t)))(t:T)(ht:sOk t):
  S_9 (n+1) 0 [t,.int ((d+1:Nat):Int)]= .ok (.bl (UZ k t)):=by
 have e:S_9 (n+1) 0 [t,.int ((d+1:Nat))]=zz (b_9 GQ _ gv _ [.vl t,.vl (.int _)]):=rfl;have hL:(((d+1:Nat):Int) == 0)=false:=by rw[beq_eq_false_iff_ne];omega
 have hL1:((d+1:Nat)) - 1=(d:Int):=by omega
 rw[e,b_9];simp only[Z3,j5,YT,U6,WG,zN,w0,w1,zV,bOk,eqI,hL,aV,if_false,j3];cases t with
 | tup xs=>
  cases xs with
  | nil=>rfl
  | cons h r=>
   have hs:=wU ht;have hm:∀u∈r,sOk u:=λu hu=>jJ hs (ac _ hu);have z0:(((h :: r).length:Int) == 0)=false:=by rw[beq_eq_false_iff_ne];simp only[af];omega
   have ti:W9 "tuple" (.tup (h :: r))= .ok (.bl true):=rfl;simp only[ti,bOk,YU,dZ,aV,if_false,ur,eqI,z0,ZS,nxS,zt,v0,v1,zV,at0,eqS,Zi,je,jy,wm,Zj,j3,w0,z1D,zW,Z7,Vr,Zg,hL1];show _=R.ok (T.bl (if isS "whole" h=true then WI r else if isS "pick" h=true then YV r else if isS "row" h=true then gF k r else if isS "many" h=true then YW k r else false))
   have l3:(((h :: r).length:Int) == 3)=decide _:=YX (h :: r) 3;have l2:(((h :: r).length:Int) == 2)=decide _:=YX (h :: r) 2;have l4:(((h :: r).length:Int) == 4)=decide _:=YX _ 4;simp only[l2,l3,l4,ZM];cases isS _ h with
   | true=>
    match r,hm with
    | [],_=>rfl
    | [_],_=>rfl
    | _ :: _ :: _ :: _,_=>simp[WI,ZS,zz]
    | [a,b],_=>
     simp only[at1,at2,bOk,YQ];rfl
   | false=>
    simp only[aV,if_false,v0,v1,w0,bOk,at0,ZS,je,jy,ur,eqI,l2,l4,ZM,Zg,hL1];cases isS _ h with
    | true=>
     match r,hm with
     | [],_=>rfl
     | _ :: _ :: _,_=>simp[YV,ZS,zz]
     | [c],hm=>
      simp only[at1,bOk,UY c (hm c (by simp))]
      rfl
    | false=>
     simp only[aV,if_false,v0,v1,w0,bOk,at0,ZS,je,jy,ur,eqI,l2,l4,ZM,Zg,hL1];cases isS _ h with
     | true=>
      match r,hm with
      | [],_=>rfl
      | _ :: _ :: _,_=>simp[gF,ZS,zz]
      | [c],hm=>
       simp only[at1,bOk,H1 c (hm c (by simp))]
       rfl
     | false=>
      simp only[aV,if_false,v0,v1,w0,bOk,at0,ZS,je,jy,ur,eqI,l2,l4,ZM,Zg,hL1];cases isS _ h with
      | true=>
       match r,hm with
       | [],_=>rfl
       | [_],_=>rfl
       | [_,_],_=>rfl
       | _ :: _ :: _ :: _ :: _,_=>simp[YW,ZS,zz]
       | [c,a,b],hm=>
        simp only[at1,at2,at3,bOk,YQ,H0 c (hm c (by simp)),ZM]
        show zz (match (if Ja 0 3 a b=true then R.ok _ else .ok _).s (λt=>RS.rt t) with | .nx _=>RS.rt _ | r=>r)=R.ok (T.bl (Ja 0 3 a b && k c))
        cases Ja 0 3 a b <;> rfl
      | false=>rfl
 | _=>rfl
theorem gG {k:T->Bool}(H0:∀t,sOk t->S_9 n 0 [t,.int d]= .ok (.bl (k t)))(t:T)(ht:sOk t):S_9 (n+1) 1 [t,.int d]= .ok (.bl (JJ k t)):=by
 have e:S_9 (n+1) 1 [t,.int d]=zz (GT f_m (S_9 n 0) [.vl t,.vl (.int d)]):=rfl;rw[e,GT];simp only[Zi,Jb,je,jy,wm,Zn,v0,zV,bOk];rw[show f_m [t,.int 1,.int 3]= .ok (.bl (vx 1 3 t)) from jx t 1 3,ZM];cases t with
 | tup ks=>
  show (if (decide (1<=ks.length) && decide (ks.length<=3))=true then _ else _)=R.ok (T.bl (decide (1<=ks.length) && decide (ks.length<=3) && ks.all k))
  cases h13:(decide (1<=ks.length) && decide (ks.length<=3)) with
  | false=>rfl
  | true=>
   rw[ae,decide_eq_true_eq,decide_eq_true_eq]at h13;have hb:ks.length<=bnd:=aD h13.2 (by decide)
   have ec:zG (zK 0) Zl (za 2 (S_9 n 0) (z9 (vE 0) (z9 (vE 1) zj))) 1 [1] [.vl (.tup ks),.vl (.int d)] ks= .ok (ks.map λc=>T.bl (k c)):=
    Zb (h:=λc=>T.bl (k c)) ks hb λc hc=>by
     show za 2 (S_9 n 0) (z9 (vE 0) (z9 (vE 1) zj)) [.vl c,.vl (.int d)]=_;rw[Z7,v0,v1,bOk,bOk];exact H0 c (jJ (wU ht) hc)
   simp only[if_true,j3,Z2,jf,v0,bOk,JC,ec];show (match u2 (ks.map λc=>T.bl (k c)) with | some k=>R.ok (T.bl k) | none=> .bad)=_
   rw[Jj];rfl
 | _=>rfl
theorem ut:∀(d n:Nat),2*d+1<=n->∀t,sOk t->S_9 n 0 [t,.int d]= .ok (.bl (isK d t))
 | 0,n+1,_,t,_=>rfl
 | d+1,n+2,h,t,ht=>Xg (n:=n+1) (λu hu=>ut d (n+1) (by omega) u hu) (λu hu=>gG (λv hv=>ut d n (by omega) v hv) u hu) t ht
theorem y9 (t:T)(ht:sOk t):f_3 [t]= .ok (.bl (isK 3 t)):=by
 have e:f_3 [t]=zz (b_3 (f_9 20) [.vl t]):=rfl;rw[e,b_3];simp only[Zi,Jb,je,jy,Z7,v0,zV,bOk];exact ut 3 20 (by omega) t ht
noncomputable def inR (lo hi:Int):T->Bool
 | .int i=>decide (lo<=i) && decide (i<=hi)
 | _=>false
theorem gH (xs:List T):eqC (.lst xs) (.lst [])= .ok xs.isEmpty:=by cases xs <;> rfl
theorem WJ:∀(ws acc:List Str),(dd acc ws).length<=acc.length+ws.length
 | [],acc=>aj _
 | w :: ws,acc=>by
  unfold dd;have:=WJ ws (if w∈acc then acc else acc++[w])
  by_cases h:w∈acc
  ·rw[if_pos h]at this ⊢;simp only[af];omega
  ·rw[if_neg h]at this ⊢;rw[ao,aC]at this;simp only[af];omega
theorem wV:∀(ws acc:List Str),((dd acc ws).length=acc.length+ws.length)↔∀(k:Nat) (w:Str),ws[k]? =some w->w ∉ acc++ws.take k
 | [],acc=>by simp[dd]
 | w :: ws,acc=>by
  unfold dd
  by_cases h:w∈acc
  ·rw[if_pos h];have:=WJ ws acc;constructor
   ·intro e;simp only[af]at e;omega
   ·intro H;exact absurd (bY _ h) (H 0 w rfl)
  ·rw[if_neg h];have ih:=wV ws (acc++[w]);rw[ao,aC]at ih;rw[show acc.length+(w :: ws).length=acc.length+1+ws.length by simp only[af];omega,ih]
   constructor
   ·intro H k v e;cases k with
    | zero=>simp at e;subst e;simpa using h
    | succ k=>
     have:=H k v (by simpa using e)
     simpa[aX] using this
   ·intro H k v e;have:=H (k+1) v (by simpa using e)
    simpa[aX] using this
theorem ltI (i j:Int):ltC (.int i) (.int j)= .ok (decide (i < j)):=rfl
theorem v2 {t:T}{a b:Sl}{ρ:En}:vE 2 (a :: b :: .vl t :: ρ)= .ok t:=rfl
theorem v3 {t:T}{a b c:Sl}{ρ:En}:vE 3 (a :: b :: c :: .vl t :: ρ)= .ok t:=rfl
theorem w2 {t:T}{a b:Sl}{ρ:En}:vB 2 (a :: b :: .vl t :: ρ)= .ok t:=rfl
theorem w3 {t:T}{a b c:Sl}{ρ:En}:vB 3 (a :: b :: c :: .vl t :: ρ)= .ok t:=rfl
theorem w5 {t:T}{a b c d e:Sl}{ρ:En}:vB 5 (a :: b :: c :: d :: e :: .vl t :: ρ)= .ok t:=rfl
theorem v4 {t:T}{a b c d:Sl}{ρ:En}:vE 4 (a :: b :: c :: d :: .vl t :: ρ)= .ok t:=rfl
theorem Xh (f g:En->R Bool)(ρ:En):K2 f g ρ=(f ρ).bind λx=>if x=true then g ρ else .ok false:=rfl
theorem U8 (w:Str):∀ws:List Str,W8 (λy=>eqF 30 y (.str w)) (ws.map T.str)=some (decide (w∈ws))
 | []=>rfl
 | x :: ws=>by
  have ih:=U8 w ws;show (match W8 (λy=>eqF 30 y (.str w)) (ws.map T.str) with | none=>none | some c=>some ((x == w) || c))=_
  rw[ih];show some ((x == w) || decide (w∈ws))=_
  congr 1
  by_cases h:x=w
  ·subst h;simp
  ·have h' :¬ w=x:=λz=>h z.symm;simp[h,h']
theorem wW {xs:List T}{k:Nat}:slT (.lst xs) none (some (k:Int))= .ok (.lst (xs.take k)):=by
 show R.ok (T.lst (cut xs none (some (k:Int))))=_;have:cut xs none (some (k:Int))=xs.take k:=by
  unfold cut;rw[HT.sIx_none,HT.sIx_nat];simp only[dh,Nat.sub_zero];rw[fo];omega
 rw[this]
theorem Xi {f:En->R T}{l h:En->R (Option Int)}{ρ:En}:slE f l h ρ=(f ρ).bind λt=>(l ρ).bind λlo=>(h ρ).bind λhi=>slT t lo hi:=rfl
theorem z1E {ρ:En}:noO ρ= .ok none:=rfl
theorem gtI (i j:Int):gtC (.int i) (.int j)= .ok (decide (i > j)):=rfl
theorem Z4 (i j:Int):zC (.int i) (.int j)= .ok (.int (i+j)):=rfl
theorem gI (p:Int)(h0:0<=p)(h1:p < 26):ixT (.str "abcdefghijklmnopqrstuvwxyz") (.int p)= .ok (.str ⟨#[97+p.toNat]⟩):=by
 obtain⟨n,rfl⟩:=cg h0;have h:n < 26:=by omega
 iterate 26 (refine(Nat.lt_or_eq_of_le (Nat.le_of_lt_succ h)).elim (λh=> ?_) (λe=>e ▸ rfl))
 exact absurd h (f8 _)
abbrev letE:En->R T:=zb ixT (vE 3) (za 3 f_1 (z9 (vE 1) (z9 (zb zC (zb zC (vE 2) (cE (.int 2))) (vE 0)) (z9 (cE (.int 26)) (zj)))))
theorem gJ (ns:List Int)(k:Int)(h0:0<=k)(j:Nat):∃c:Nat,(97<=c/\c<=122)/\letE [.vl (.int (j:Int)),.vl (scr ns),.vl (.int k),.vl (.str "abcdefghijklmnopqrstuvwxyz")]= .ok (.str ⟨#[c]⟩):=by
 obtain⟨p,e,p0,p1⟩:=zP ns (k+2+j) 26 (by omega) (by omega)
 refine⟨97+p.toNat,⟨by omega,by omega⟩, ?_⟩
 simp only[letE,zt,v3,bOk,Zn,v1,v2,v0,zV,Z4,e];exact gI p p0 p1
theorem ya (ns:List Int)(k:Int)(h0:0<=k):∃w:Str,f_z [scr ns,.int k]= .ok (.str w)/\Zm (.str w)=true:=by
 have e:f_z [scr ns,.int k]=zz (b_z _ [.vl _,.vl _,.un]):=rfl;obtain⟨p,e0,p0,p1⟩:=zP ns k 6 h0 (by omega)
 have hset:∀t,([Sl.vl (scr ns),Sl.vl (.int k),.un]).set 2 _=[Sl.vl _,Sl.vl _,.vl t]:=λ_=>rfl;rw[e,b_z];simp only[Z3,j5,JI,zV,ZS,hset,zN,Zn,v0,v1,bOk,e0,gtI];cases hp:decide (p > 0) with
 | true=>
  obtain⟨q,e1,q0,q1⟩:=zP ns (k+1) 4 (by omega) (by omega)
  simp only[if_true,Zi,je,jy,zt,Zn,v0,v1,zV,bOk,Z4,e1];have hq:q=0\/q=1\/q=2\/q=3:=by omega
  rcases hq with rfl | rfl | rfl | rfl
  ·exact⟨"a",rfl,by decide⟩
  ·exact⟨"b",rfl,by decide⟩
  ·exact⟨"ab",rfl,by decide⟩
  ·exact⟨"cab",rfl,by decide⟩
 | false=>
  obtain⟨q,e1,q0,q1⟩:=zP ns (k+1) 3 (by omega) (by omega)
  simp only[aV,if_false,nxS,Zi,Jb,je,jy,j3,Z2];obtain⟨g,hg⟩:=ie.mp (gJ ns k h0);have ei:Zu (zb zC (cE (.int 1)) (za 3 f_1 (z9 (vE 0) (z9 (zb zC (vE 1) (cE (.int 1))) (z9 (cE (.int 3)) (zj)))))) [Sl.vl (scr ns),Sl.vl (.int k),.vl (.str "abcdefghijklmnopqrstuvwxyz")]= .ok (rng 0 (1+q).toNat):=by
   unfold Zu;simp only[zt,Zn,v0,v1,zV,bOk,Z4,e1];rw[if_pos ⟨by omega,by omega⟩]
  have ec:∀n,n<=3->zG _ _ _ 1 [0,1,2] [Sl.vl _,Sl.vl _,.vl _] _= .ok ((rng 0 n).map λt=>match t with | .int j=> .str ⟨#[g j.toNat]⟩ | t=>t):=λn hn=>
   Zb _ (by unfold rng;rw[a9,bG];exact aD hn (by decide)) λt ht=>by
    obtain⟨j,_,rfl⟩:=aO.mp ht;rw[h9];exact(hg j).2
  rw[ei,bOk,ec _ (by omega),bOk]
  have hw:∀j,Zt _=true:=λj=>by
   obtain⟨a,b⟩:=(hg j).1;unfold Zt;rw[decide_eq_true a,decide_eq_true b];rfl
  have hq:q=0\/q=1\/q=2:=by omega
  rcases hq with rfl | rfl | rfl
  ·refine⟨⟨#[g 0]⟩,rfl, ?_⟩;show (Zt _ && true)=true;rw[hw 0];rfl
  ·refine⟨⟨#[g 0,g 1]⟩,rfl, ?_⟩;show (Zt _ && (Zt _ && true))=true;rw[hw 0,hw 1];rfl
  ·refine⟨⟨#[g 0,g 1,g 2]⟩,rfl, ?_⟩;show (Zt _ && (Zt _ && (Zt _ && true)))=true;rw[hw 0,hw 1,hw 2];rfl
theorem z1F (j:Int):Z6 (.int 5) (.int j)= .ok (.int (5*j)):=by
 show (if WZ 5 j then R.ok _ else .bad)=_
 rw[if_pos (.inl ⟨by decide,by decide⟩)]
theorem YY (hf:f ρ= .ok x)(hg:g ρ= .ok y):Zy (z9 f (z9 g zj)) ρ= .ok (.tup [x,y]):=by
 unfold Zy z9 zj;rw[hf,hg];rfl
theorem gK (hf:f ρ= .ok x)(hg:g ρ= .ok y)(hh:h ρ= .ok z):Zy (z9 f (z9 g (z9 h zj))) ρ= .ok (.tup [x,y,z]):=by
 unfold Zy z9 zj;rw[hf,hg,hh];rfl
theorem tup4 (hf:f ρ= .ok x)(hg:g ρ= .ok y)(hh:h ρ= .ok z)(hi:i ρ= .ok w):Zy (z9 f (z9 g (z9 h (z9 i zj)))) ρ= .ok (.tup [x,y,z,w]):=by
 unfold Zy z9 zj;rw[hf,hg,hh,hi];rfl
noncomputable def Dst (ws:List Str):Prop:=∀(k:Nat) (w:Str),ws[k]? =some w->w ∉ ws.take k
theorem Dst.add (h:Dst ws)(hw:w ∉ ws):Dst (ws++[w]):=λk x hx=>by
 by_cases hk:k < ws.length
 ·rw[az hk]at hx;rw[List.take_append_of_le_length (by omega)]
  exact h k x hx
 ·rw[aq (by omega)]at hx
  have hk' :k=ws.length:=by
   rcases Nat.lt_or_ge (k - ws.length) 1 with z | z
   ·omega
   ·rw[aZ (by simpa using z)]at hx;cases hx
  subst hk';rw[cA]at hx;cases hx;rw[f9]
  ·exact hw
  ·rfl
abbrev WK:En->RS:=zB (zL 5 (za 2 f_z (z9 (vE 0) (z9 (zb zC (zb zC (vE 1) (cE (.int 5))) (zb Z6 (cE (.int 5)) (vE 4))) (zj)))))
  (ifS (zD QF (vB 5) (vB 3)) (QN 3 (vE 5)) (nxS))
theorem JK (ns:List Int)(k:Int)(h0:0<=k):∀(js:List Nat) (ws:List Str) (x4 x5:Sl),js.length+ws.length<=4->Dst ws->(∀w∈ws,Zm (.str w)=true)->
  ∃ws' y4 y5,ZC (zK 4) WK (js.map λ(j:Nat)=>T.int (0+(j:Int))) [.vl (scr ns),.vl (.int k),.un,.ow (ws.map T.str),x4,x5]= .nx [.vl (scr ns),.vl (.int k),.un,.ow (ws'.map T.str),y4,y5]/\ws'.length<=4/\Dst ws' /\(∀w∈ws',Zm (.str w)=true)/\(0 < js.length+ws.length->0 < ws'.length)
 | [],ws,x4,x5,hl,hd,hw=>⟨ws,x4,x5,rfl,by simpa using hl,hd,hw,λh=>by simpa using h⟩
 | j :: js,ws,x4,x5,hl,hd,hw=>by
  obtain⟨w,ew,hw'⟩:=ya ns (k+5+5*(0+(j:Int))) (by omega)
  have hl' :js.length+ws.length+1<=4:=by simpa[af,Nat.add_right_comm] using hl
  have e:ZC (zK 4) WK ((j :: js).map λ(j:Nat)=>T.int (0+(j:Int))) [.vl (scr ns),.vl (.int k),.un,.ow (ws.map T.str),x4,x5]=match WK [.vl (scr ns),.vl (.int k),.un,.ow (ws.map T.str),.vl (.int (0+(j:Int))),x5] with
   | .nx ρ2=>ZC (zK 4) WK (js.map λ(j:Nat)=>T.int (0+(j:Int))) ρ2
   | .ct ρ2=>ZC (zK 4) WK (js.map λ(j:Nat)=>T.int (0+(j:Int))) ρ2
   | .bk ρ2=> .nx ρ2
   | r=>r:=rfl
  have eb:WK [.vl (scr ns),.vl (.int k),.un,.ow (ws.map T.str),.vl (.int (0+(j:Int))),x5]= .nx [.vl (scr ns),.vl (.int k),.un,.ow ((if w∈ws then ws else ws++[w]).map T.str),.vl (.int (0+(j:Int))),.vl (.str w)]:=by
   have w3o:∀(a b c:Sl) (ts:List T) (ρ:En),vB 3 (a :: b :: c :: .ow ts :: ρ)= .ok _:=λ_ _ _ _ _=>rfl;have hset:∀t,([.vl _,.vl (.int k),.un,.ow (ws.map T.str),.vl (.int (0+(j:Int))),x5]:En).set 5 (.vl t)=[.vl (scr ns),.vl (.int k),.un,.ow (ws.map T.str),.vl _,.vl t]:=λ_=>rfl;have en:QF (.str w) (.lst (ws.map T.str))= .ok (!decide (w∈ws)):=by
    show ((match W8 (λy=>eqF 30 y (.str w)) (ws.map _) with | some b=>R.ok b | none=> .bad)).bind (λb=>R.ok _)=_
    rw[U8];rfl
   simp only[WK,Z3,JI,Z7,v0,v1,v4,zt,zV,bOk,Z4,z1F,ew,ZS,hset,j5,zN,w5,w3o,en]
   by_cases hm:w∈ws
   ·rw[decide_eq_true hm,if_pos hm];rfl
   ·rw[decide_eq_false hm,if_neg hm];have hb:(ws.map T.str).length < bnd:=by rw[a9];exact bU (show ws.length<=4 by omega) (by decide)
    show (if (ws.map _).length < bnd then RS.nx _ else .bad)=_
    rw[if_pos hb,bn];rfl
  rw[e,eb]
  by_cases hm:w∈ws
  ·rw[if_pos hm];obtain⟨ws',y4,y5,r1,r2,r3,r4,r5⟩:=JK ns k h0 js ws _ _ (by omega) hd hw
   exact⟨ws',y4,y5,r1,r2,r3,r4,λ_=>r5 (by have:=List.length_pos_of_mem hm;omega)⟩
  ·rw[if_neg hm];obtain⟨ws',y4,y5,r1,r2,r3,r4,r5⟩:=JK ns k h0 js _ _ _ (by simp only[ao,af,bC];omega) (hd.add hm) (λx hx=>by
    rcases d4.mp hx with z | z
    ·exact hw x z
    ·rw[aN.mp z];exact hw')
   exact⟨ws',y4,y5,r1,r2,r3,r4,λ_=>r5 (by simp only[ao,af,bC];omega)⟩
abbrev z08:En->R T:=Zy (z9 (vE 1) (z9 (zb zC (cE (.int 1)) (za 3 f_1 (z9 (vE 2) (z9 (zb zC (zb zC (vE 3) (cE (.int 30))) (vE 0)) (z9 (cE (.int 20)) (zj)))))) (zj)))
theorem U9 (ns:List Int)(k:Int)(h0:0<=k):∀(ws:List Str) (i:Nat) (x0 x1:Sl),(∀w∈ws,Zm (.str w)=true)->∃cs:List T,zQ (ZF 0 1) Zl z08 (((ws.map T.str).zipIdx i).map λp=>T.tup [.int (p.2:Nat),p.1]) [x0,x1,.vl (scr ns),.vl (.int k)]= .ok cs/\cs.all zY=true/\cs.map ZT=ws
 | [],i,x0,x1,_=>⟨[],rfl,rfl,rfl⟩
 | w :: ws,i,x0,x1,hw=>by
  obtain⟨p,e,p0,p1⟩:=zP ns (k+30+i) 20 (by omega) (by omega)
  obtain⟨cs,r1,r2,r3⟩:=U9 ns k h0 ws _ _ _ λx hx=>hw x (ac _ hx);have ec:z08 [.vl (.int (i)),.vl (.str w),.vl (scr ns),.vl (.int k)]= .ok (.tup [.str w,.int (1+p)]):=by
   have ea:za 3 f_1 (z9 (vE 2) (z9 (zb zC (zb zC (vE 3) (cE (.int 30))) (vE 0)) (z9 (cE (.int 20)) (zj)))) [.vl (.int (i)),.vl (.str w),.vl (scr ns),.vl (.int k)]= .ok (.int p):=by
    simp only[Zn,v2,v3,v0,zt,zV,bOk,Z4,e]
   have eb:zb zC (cE (.int 1)) (za 3 f_1 (z9 (vE 2) (z9 (zb zC (zb zC (vE 3) (cE (.int 30))) (vE 0)) (z9 (cE (.int 20)) (zj))))) [.vl (.int (i)),.vl (.str w),.vl (scr ns),.vl (.int k)]= .ok (.int (1+p)):=by
    rw[zt,ea];rfl
   exact YY v1 eb
  refine⟨.tup [.str w,.int (1+p)] :: cs, ?_, ?_, ?_⟩
  ·show ((z08 [.vl _,.vl _,.vl _,.vl _]).bind λv=>(zQ _ _ _ (((ws.map _).zipIdx _).map λp=>T.tup _) [.vl _,.vl _,.vl _,.vl _]).bind λvs=>R.ok _)=_;rw[ec,r1];rfl
  ·rw[c_,r2,Bool.and_true];show (Zm _ && decide _ && decide _)=true;rw[hw w ak,decide_eq_true (by omega),decide_eq_true (by omega)];rfl
  ·rw[aL,r3];rfl
theorem Vs (i j:Int):Ws (.int i) (.int j)= .ok (.int (if j < i then j else i)):=rfl
theorem Xj (ns:List Int)(k:Int)(h0:0<=k):∃t,gr [scr ns,.int k]= .ok t/\∀d,isK (d+1) t=true:=by
 have e:gr [scr ns,.int k]=zz (GO f_1 f_z [.vl (scr ns),.vl (.int k),.un,.un,.un,.un]):=rfl;obtain⟨p,e0,p0,p1⟩:=zP ns k 3 h0 (by omega)
 rw[e,GO,Z3];simp only[j5,zN,Zn,v0,v1,zV,bOk,e0,gtI,ZS];cases hp:decide (p > 0) with
 | true=>
  obtain⟨q,e1,q0,q1⟩:=zP ns (k+1) 7 (by omega) (by omega)
  obtain⟨q3,e3,_,_⟩:=zP ns (k+3) 8 (by omega) (by omega)
  obtain⟨q4,e4,a4,b4⟩:=zP ns (k+4) 3 (by omega) (by omega)
  obtain⟨q2,e2,a2,b2⟩:=zP ns (k+2) 4 (by omega) (by omega)
  have hset:∀t x,([.vl (scr ns),.vl (.int k),x,.un,.un,.un]:En).set 2 (.vl t)=[.vl (scr ns),.vl (.int k),.vl t,.un,.un,.un]:=λ_ _=>rfl;have fin:∀low:Int, -20<=low->low<=20->∃t,zz (zF (Zy (z9 (cE (.str "whole")) (z9 (vE 2) (z9 (zb Ws (cE (.int 20)) (zb zC (vE 2) (za 3 f_1 (z9 (vE 0) (z9 (zb zC (vE 1) (cE (.int 2))) (z9 (cE (.int 4)) (zj))))))) (zj))))) [.vl (scr ns),.vl (.int k),.vl (.int low),.un,.un,.un])= .ok t/\∀d,isK (d+1) t=true:=by
   intro low hl1 hl2;refine⟨.tup [.str "whole",.int low,.int (if low+q2 < 20 then low+q2 else 20)], ?_,λd=> ?_⟩
   ·rw[Zi,Jb];refine gK rfl rfl ?_;simp only[je,wT,jy,zt,v2,v0,v1,Zn,zV,bOk,Z4,e2,Vs]
   ·show (decide (-20<=low) && decide (low<=_) && decide (_<=(20:Int)))=true;rw[decide_eq_true hl1,decide_eq_true (by split <;> omega),decide_eq_true (by split <;> omega)];rfl
  simp only[if_true,Z3,JI,j5,zt,Zn,v0,v1,zV,bOk,Z4,e1,Zg,ZS,hset,zN,e3,eqI];cases hq:(q3 == 0) with
  | true=>
   have h3:q4=0\/q4=1\/q4=2:=by omega
   rcases h3 with rfl | rfl | rfl
   ·obtain⟨t,r,s⟩:=fin (-20) (by omega) (by omega)
    refine⟨t, ?_,s⟩;rw[← r];simp only[if_true,e4,bOk];have hv:∀ρ,(ZD (z9 (Wp (cE (.int 20))) (z9 (cE (.int 17)) (z9 (cE (.int 20)) (zj)))) ρ)= .ok (.lst [.int (-20),.int 17,.int 20]):=λ_=>rfl;simp only[hv,bOk];have hx:ixT (.lst [.int (-20),.int 17,.int 20]) (.int 0)= .ok (.int (-20)):=rfl;simp only[hx,ZS,hset,Zi];generalize Zy _ _=z;cases z <;> rfl
   ·obtain⟨t,r,s⟩:=fin (17) (by omega) (by omega)
    refine⟨t, ?_,s⟩;rw[← r];simp only[if_true,e4,bOk];have hv:∀ρ,(ZD (z9 (Wp (cE (.int 20))) (z9 (cE (.int 17)) (z9 (cE (.int 20)) (zj)))) ρ)= .ok (.lst [.int (-20),.int 17,.int 20]):=λ_=>rfl;simp only[hv,bOk];have hx:ixT (.lst [.int (-20),.int 17,.int 20]) (.int 1)= .ok (.int (17)):=rfl;simp only[hx,ZS,hset,Zi];generalize Zy _ _=z;cases z <;> rfl
   ·obtain⟨t,r,s⟩:=fin (20) (by omega) (by omega)
    refine⟨t, ?_,s⟩;rw[← r];simp only[if_true,e4,bOk];have hv:∀ρ,(ZD (z9 (Wp (cE (.int 20))) (z9 (cE (.int 17)) (z9 (cE (.int 20)) (zj)))) ρ)= .ok (.lst [.int (-20),.int 17,.int 20]):=λ_=>rfl;simp only[hv,bOk];have hx:ixT (.lst [.int (-20),.int 17,.int 20]) (.int 2)= .ok (.int (20)):=rfl;simp only[hx,ZS,hset,Zi];generalize Zy _ _=z;cases z <;> rfl
  | false=>
   obtain⟨t,r,s⟩:=fin (q - 3) (by omega) (by omega)
   refine⟨t, ?_,s⟩;rw[← r];simp only[aV,if_false,nxS,Zi];generalize Zy _ _=z;cases z <;> rfl
 | false=>
  obtain⟨q,e1,q0,q1⟩:=zP ns (k+1) 4 (by omega) (by omega)
  simp only[aV,if_false,nxS,Z3];have ei:Zu (zb zC (cE (.int 1)) (za 3 f_1 (z9 (vE 0) (z9 (zb zC (vE 1) (cE (.int 1))) (z9 (cE (.int 4)) (zj)))))) [.vl (scr ns),.vl (.int k),.un,.ow [],.un,.un]= .ok (rng 0 (1+q).toNat):=by
   unfold Zu;simp only[zt,Zn,v0,v1,zV,bOk,Z4,e1];rw[if_pos ⟨by omega,by omega⟩]
  have el:yk 3 zj [.vl (scr ns),.vl (.int k),.un,.un,.un,.un]= .nx [.vl (scr ns),.vl (.int k),.un,.ow [],.un,.un]:=rfl;rw[el];have hn:(a_ (1+q).toNat).length=(1+q).toNat:=bG;obtain⟨ws,y4,y5,r1,r2,r3,r4,r5⟩:=JK ns k h0 (a_ (1+q).toNat) [] .un .un (by rw[hn,bC];omega) (λk w h=>by cases h) (λw h=>by cases h)
  have hpos:0 < ws.length:=r5 (by rw[hn,bC];omega)
  have ef:jt (Zu (zb zC (cE (.int 1)) (za 3 f_1 (z9 (vE 0) (z9 (zb zC (vE 1) (cE (.int 1))) (z9 (cE (.int 4)) (zj))))))) (zK 4) WK [.vl (scr ns),.vl (.int k),.un,.ow [],.un,.un]= .nx [.vl (scr ns),.vl (.int k),.un,.ow (ws.map T.str),y4,y5]:=by
   unfold jt;rw[ei,ZS];exact r1
  obtain⟨cs,s1,s2,s3⟩:=U9 ns k h0 ws 0 .un .un r4;have hcl:cs.length=ws.length:=by rw[← s3,a9]
  refine⟨.tup [.str "pick",.tup cs], ?_,λd=> ?_⟩
  ·dsimp only;rw[ef];dsimp only;rw[Zi,Jb];refine YY rfl ?_;rw[j3,Z2];have ee:xB (vE 3) (frz [.vl (scr ns),.vl (.int k),.un,.ow (ws.map T.str),y4,y5])= .ok (jG (ws.map T.str)):=rfl;rw[ee,bOk];unfold zG;rw[if_pos (by unfold jG;rw[a9,fQ,a9];exact aD r2 (by decide))]
   have ec:zQ (ZF 0 1) Zl z08 (jG (ws.map T.str)) (Wv 2 [0,1] (frz [.vl (scr ns),.vl (.int k),.un,.ow (ws.map T.str),y4,y5]))= .ok cs:=s1;rw[ec];rfl
  ·show (decide (1<=cs.length) && decide (cs.length<=4) && cs.all zY && decide ((dd [] (cs.map ZT)).length=cs.length))=true;have hd:(dd [] (cs.map ZT)).length=cs.length:=by
    rw[s3,hcl];have:=(wV ws []).mpr (λk w h=>by simpa using r3 k w h)
    simpa using this
   rw[decide_eq_true (by omega),decide_eq_true (by omega),s2,decide_eq_true hd];rfl
theorem uu (c:Int)(j:Int)(hc:WZ c j):Z6 (.int c) (.int j)= .ok (.int (c*j)):=by
 show (if WZ c j then R.ok _ else .bad)=_
 rw[if_pos hc]
theorem gL (j:Int):Z6 (.int 3) (.int j)= .ok (.int (3*j)):=uu _ _ (.inl ⟨by decide,by decide⟩)
theorem gN (j:Int):Z6 (.int 50) (.int j)= .ok (.int (50*j)):=uu _ _ (.inl ⟨by decide,by decide⟩)
abbrev z09 (c:List T->R T):En->R T:=za 3 c (z9 (vE 1) (z9 (zb zC (zb zC (zb Z6 (cE (.int 3)) (vE 2)) (cE (.int 40))) (zb Z6 (cE (.int 50)) (vE 0))) (z9 (zb ZY (vE 3) (cE (.int 1))) (zj))))
theorem uv (ns:List Int):∀(d n:Nat),d<=n->1<=d->∀k:Int,0<=k->∃t,S_e n 0 [scr ns,.int k,.int (d:Int)]= .ok t/\isK d t=true
 | d+1,n+1,hn,_,k,h0=>by
  have e:S_e (n+1) 0 [scr ns,.int k,.int ((d+1:Nat))]=zz (b_e f_1 gr (S_e n 0) [.vl (scr ns),.vl (.int k),.vl _,.un,.un,.un]):=rfl;obtain⟨p,e0,p0,p1⟩:=zP ns k 5 h0 (by omega)
  obtain⟨l,el,hl⟩:=Xj ns (k+1) (by omega)
  have hset:([.vl (scr ns),.vl (.int k),.vl (.int ((d+1:Nat))),.un,.un,.un]:En).set 3 (.vl (.int p))=[.vl (scr ns),.vl (.int k),.vl _,.vl (.int p),.un,.un]:=rfl;rw[e,b_e];simp only[Z3,JI,j5,YT,zN,Zn,Z7,v0,v1,v2,zV,bOk,e0,ZS,hset,w2,w3,eqI,ltI,Z4,Zi,je,wT,jy,zt,el];have hd1:((((d+1:Nat):Int) == 1))=decide (d=0):=by
   by_cases h:d=0
   ·subst h;rfl
   ·rw[decide_eq_false h,beq_eq_false_iff_ne];omega
  rw[hd1]
  by_cases hleaf:d=0\/p < 2
  ·refine⟨l, ?_,hl d⟩;rcases hleaf with h | h
   ·rw[decide_eq_true h];rfl
   ·rw[decide_eq_true h];cases decide (d=0) <;> rfl
  ·have hd0:¬ d=0:=λz=>hleaf (.inl z);have hp2:¬ p < 2:=λz=>hleaf (.inr z);have hsub:((d+1:Nat)) - 1=(d:Int):=by omega
   rw[decide_eq_false hd0,decide_eq_false hp2];simp only[aV,if_false,ZS,nxS,w3,v0,v1,v2,bOk,ltI,zV];cases hp:decide (p < 4) with
   | true=>
    obtain⟨q,e1,q0,q1⟩:=zP ns (k+1) 3 (by omega) (by omega)
    have hj:∀j:Nat,∃t,z09 (S_e n 0) [.vl (.int (0+(j:Int))),.vl (scr ns),.vl (.int k),.vl (.int ((d+1:Nat)))]= .ok t/\isK d t=true:=λj=>by
     obtain⟨t,r,s⟩:=uv ns d n (by omega) (by omega) (3*k+40+50*(0+(j:Int))) (by omega)
     refine⟨t, ?_,s⟩;simp only[z09,Zn,v0,v1,v2,v3,zt,zV,bOk,gL,gN,Z4,Zg,hsub,r]
    obtain⟨g,hg⟩:=ie.mp hj;have ei:Zu (zb zC (cE (.int 1)) (za 3 f_1 (z9 (vE 0) (z9 (zb zC (vE 1) (cE (.int 1))) (z9 (cE (.int 3)) (zj)))))) [.vl (scr ns),.vl (.int k),.vl (.int ((d+1:Nat))),.vl (.int p),.un,.un]= .ok (rng 0 (1+q).toNat):=by
     unfold Zu;simp only[zt,Zn,v0,v1,zV,bOk,Z4,e1];rw[if_pos ⟨by omega,by omega⟩]
    have ec:zG (zK 0) Zl (z09 (S_e n 0)) 1 [0,1,2] [.vl (scr ns),.vl (.int k),.vl _,.vl (.int p),.un,.un] _= .ok ((rng 0 (1+q).toNat).map λt=>match t with | .int j=>g j.toNat | t=>t):=
     Zb _ (by unfold rng;rw[a9,bG];exact aD (show (1+q).toNat<=3 by omega) (by decide)) λt ht=>by
      obtain⟨j,_,rfl⟩:=aO.mp ht;show z09 (S_e n 0) [.vl _,.vl (scr ns),.vl (.int k),.vl _]= .ok (g _);rw[(hg j).1,h9,bF]
    generalize hcs:((rng 0 (1+q).toNat).map λt=>match t with | .int j=>g j.toNat | t=>t)=cs at ec
    have hlen:cs.length=(1+q).toNat:=by rw[← hcs];unfold rng;rw[a9,a9,bG]
    have hall:∀t∈cs,isK d t=true:=λt ht=>by
     rw[← hcs]at ht;obtain⟨u,hu,rfl⟩:=aO.mp ht;obtain⟨j,_,rfl⟩:=aO.mp hu;exact(hg _).2
    refine⟨.tup [.str "row",.tup cs], ?_, ?_⟩
    ·have hs4:([.vl (scr ns),.vl (.int k),.vl (.int ((d+1:Nat))),.vl (.int p),.un,.un]:En).set 4 (.vl (.lst cs))=[.vl (scr ns),.vl (.int k),.vl _,.vl (.int p),.vl (.lst cs),.un]:=rfl;simp only[if_true,Z2,ei,bOk,ec,ZS,hs4,je,wT,jy];rfl
    ·show (decide _ && decide _ && cs.all _)=true;rw[decide_eq_true (by omega),decide_eq_true (by omega),aS.mpr hall];rfl
   | false=>
    obtain⟨q,e1,q0,q1⟩:=zP ns (k+1) 3 (by omega) (by omega)
    obtain⟨q2,e2,_,_⟩:=zP ns (k+2) 3 (by omega) (by omega)
    obtain⟨t,r,s⟩:=uv ns d n (by omega) (by omega) (3*k+40) (by omega)
    refine⟨.tup [.str "many",t,.int q,.int (if q+q2 < 3 then q+q2 else 3)], ?_, ?_⟩
    ·have hs5:([.vl (scr ns),.vl (.int k),.vl (.int ((d+1:Nat))),.vl (.int p),.un,.un]:En).set 5 (.vl (.int q))=[.vl _,.vl _,.vl _,.vl _,.un,.vl _]:=rfl;simp only[aV,if_false,v0,v1,zt,zV,bOk,Z4,e1,ZS,hs5,je,wT,jy,Jb];refine tup4 rfl ?_ rfl ?_
     ·simp only[Zn,v0,v1,v2,zt,zV,bOk,gL,Z4,Zg,hsub,r]
     ·have v5:∀{t:T} {a b c d e:Sl} {ρ:En},vE 5 (a :: b :: c :: d :: e :: .vl t :: ρ)= .ok t:=rfl;simp only[Zn,v0,v1,v5,zt,zV,bOk,Z4,e2,Vs]
    ·show (Ja 0 3 _ _ && isK d t)=true;rw[s,Bool.and_true];show (decide _ && decide _ && decide _)=true;rw[decide_eq_true (by omega),decide_eq_true (by split <;> omega),decide_eq_true (by split <;> omega)];rfl
mutual
noncomputable def dep:T->Nat
 | .tup xs=>Qp xs+1
 | .lst xs=>Qp xs+1
 | _=>1
noncomputable def Qp:List T->Nat
 | []=>0
 | t :: ts=>max (dep t) (Qp ts)
end
mutual
noncomputable def siz:T->Nat
 | .tup xs=>Qq xs+1
 | .lst xs=>Qq xs+1
 | _=>1
noncomputable def Qq:List T->Nat
 | []=>0
 | t :: ts=>siz t+Qq ts
end
theorem Jc (h:isS w t=true):t= .str w:=by
 cases t with
 | str s=>
  have:=h;rw[eq_of_beq this]
 | _=>cases h
theorem Xk (h:inR lo hi t=true):∃i,t= .int i:=by
 cases t with
 | int i=>exact⟨i,rfl⟩
 | _=>cases h
theorem Jk (h:Ja lo hi a b=true):∃i j,a= .int i/\b= .int j:=by
 cases a with
 | int i=>
  cases b with
  | int j=>exact⟨i,j,rfl,rfl⟩
  | _=>cases h
 | _=>cases h
structure Fit (D S:Nat) (t:T):Prop where
 so:sOk t
 dp:dep t<=D
 sz:siz t<=S
theorem yb (h:zY c=true):Fit 2 3 c:=by
 unfold zY at h;split at h
 ·rename_i w i;have hw:=by
   rw[ae,ae]at h;exact h.1.1
  cases w with
  | str x=>
   have hx:(decide _ && decide _ && x.cps.toList.all _)=true:=hw;rw[ae,ae,decide_eq_true_eq,decide_eq_true_eq]at hx;refine⟨?_, ?_, ?_⟩
   ·simp only[sOk,U5,and_true];exact aD hx.1.2 (by decide)
   ·simp[dep,Qp]
   ·simp[siz,Qq]
  | _=>cases hw
 ·cases h
theorem z1G {D S:Nat}:∀{cs:List T},(∀c∈cs,Fit D S c)->U5 cs/\Qp cs<=D/\Qq cs<=S*cs.length
 | [],_=>⟨by simp only[U5],bx _,bx _⟩
 | c :: cs,h=>by
  obtain⟨a,b,d⟩:=z1G λx hx=>h x (ac _ hx);obtain⟨x,y,z⟩:=h c ak;refine⟨?_, ?_, ?_⟩
  ·exact⟨x,a⟩
  ·simp only[Qp];omega
  ·simp only[Qq,af,Nat.mul_add,Nat.mul_one];omega
theorem wX:∀(d:Nat) (t:T),isK d t=true->Fit (2*d+2) (15*4 ^ d) t
 | 0,_,h=>by cases h
 | d+1,t,h=>by
  have hone:1<=4 ^ d:=Nat.pow_pos (by omega)
  have h:UZ _ t=true:=h;unfold UZ at h;split at h
  ·rename_i hd r;split at h
   ·rename_i e;rw[Jc e];unfold WI at h;split at h
    ·obtain⟨i,j,rfl,rfl⟩:=Jk h;refine⟨by simp only[sOk,U5,and_true];decide,by simp only[dep,Qp];omega,by simp only[siz,Qq];omega⟩
    ·cases h
   ·split at h
    ·rename_i e;rw[Jc e];unfold YV at h;split at h
     ·unfold U7 at h;split at h
      ·rw[ae,ae,ae,decide_eq_true_eq,decide_eq_true_eq]at h;obtain⟨a,b,z⟩:=z1G λc hc=>yb (aS.mp h.1.2 c hc);refine⟨by simp only[sOk,U5,and_true];exact⟨by decide,a⟩,by simp only[dep,Qp];omega,by simp only[siz,Qq];omega⟩
      ·cases h
     ·cases h
    ·split at h
     ·rename_i e;rw[Jc e];unfold gF at h;split at h
      ·unfold JJ at h;split at h
       ·rename_i cs;rw[ae,ae,decide_eq_true_eq,decide_eq_true_eq]at h;obtain⟨a,b,z⟩:=z1G λc hc=>wX d c (aS.mp h.2 c hc);have:15*4 ^ d*cs.length<=15*4 ^ d*3:=Nat.mul_le_mul_left _ h.1.2;refine⟨by simp only[sOk,U5,and_true];exact⟨by decide,a⟩,by simp only[dep,Qp];omega,by simp only[siz,Qq];omega⟩
       ·cases h
      ·cases h
     ·split at h
      ·rename_i e;rw[Jc e];unfold YW at h;split at h
       ·rename_i c a b;rw[ae]at h;obtain⟨i,j,rfl,rfl⟩:=Jk h.1;obtain⟨x,y,z⟩:=wX d c h.2;refine⟨by simp only[sOk,U5,and_true];exact⟨by decide,x⟩,by simp only[dep,Qp];omega,by simp only[siz,Qq];omega⟩
       ·cases h
      ·cases h
  ·cases h
theorem gP (h:xs.length+ys.length<=bnd):zC (.tup xs) (.tup ys)= .ok (.tup (xs++ys)):=if_pos h
theorem YZ (h:f ρ= .ok (.int i)):ZE f ρ= .ok (some i):=by
 unfold ZE;rw[h];rfl
theorem qa {xs:List T}{j:Nat}{x:T}(h:xs[j]? =some x):ixT (.lst xs) (.int (j:Int))= .ok x:=by
 show atT xs j=_;unfold atT;rw[ZX h]
theorem wp (ρ:En):nxS ρ= .nx ρ:=rfl
inductive Kd where
 | whole (lo hi:Int)
 | pick (cs:List (Str×Int))
 | row (ks:List Kd)
 | many (k:Kd) (lo hi:Nat)
noncomputable def Wa (c:Str×Int):T:= .tup [.str c.1,.int c.2]
mutual
noncomputable def Kd.t:Kd->T
 | .whole lo hi=> .tup [.str "whole",.int lo,.int hi]
 | .pick cs=> .tup [.str "pick",.tup (cs.map Wa)]
 | .row ks=> .tup [.str "row",.tup (Kd.ts ks)]
 | .many k lo hi=> .tup [.str "many",k.t,.int (lo:Int),.int (hi:Int)]
noncomputable def Kd.ts:List Kd->List T
 | []=>[]
 | k :: ks=>k.t :: Kd.ts ks
end
theorem Kd.ts_map:∀ks:List Kd,Kd.ts ks=ks.map Kd.t
 | []=>by simp only[Kd.ts,cP]
 | k :: ks=>by simp only[Kd.ts,aL,Kd.ts_map ks]
def Kd.Ok:Nat->Kd->Prop
 | 0,_=>False
 | _+1,.whole lo hi=> -20<=lo/\lo<=hi/\hi<=20
 | _+1,.pick cs=>1<=cs.length/\cs.length<=4/\(∀c∈cs,Zm (.str c.1)=true/\1<=c.2/\c.2<=20)/\Dst (cs.map (·.1))
 | d+1,.row ks=>1<=ks.length/\ks.length<=3/\∀k∈ks,Kd.Ok d k
 | d+1,.many k lo hi=>lo<=hi/\hi<=3/\Kd.Ok d k
theorem qb (h:zY c=true):∃p:Str×Int,c=Wa p/\Zm (.str p.1)=true/\1<=p.2/\p.2<=20:=by
 unfold zY at h;split at h
 ·rename_i w i;rw[ae,ae,decide_eq_true_eq,decide_eq_true_eq]at h;cases w with
  | str x=>exact⟨(x,i),rfl,h.1.1,h.1.2,h.2⟩
  | _=>cases h.1.1
 ·cases h
theorem uw {α:Type}{P:T->Prop}{Q:α->Prop}{f:α->T}(H:∀t,P t->∃a,t=f a/\Q a):∀(ts:List T),(∀t∈ts,P t)->∃as:List α,ts=as.map f/\∀a∈as,Q a
 | [],_=>⟨[],rfl,λ_ h=>nomatch h⟩
 | t :: ts,h=>by
  obtain⟨a,rfl,ha⟩:=H t (h t ak);obtain⟨as,rfl,has⟩:=uw H ts λu hu=>h u (ac _ hu);exact⟨a :: as,rfl,λb hb=>by
   rcases am.mp hb with rfl | hb
   ·exact ha
   ·exact has b hb⟩
theorem ux:∀(d:Nat) (t:T),isK d t=true->∃k:Kd,t=k.t/\k.Ok d
 | 0,_,h=>by cases h
 | d+1,t,h=>by
  have h:UZ _ t=true:=h;unfold UZ at h;split at h
  ·rename_i hd r;split at h
   ·rename_i e;rw[Jc e];unfold WI at h;split at h
    ·obtain⟨i,j,rfl,rfl⟩:=Jk h;have h:(decide _ && decide _ && decide _)=true:=h;rw[ae,ae,decide_eq_true_eq,decide_eq_true_eq,decide_eq_true_eq]at h;exact⟨.whole i j,by simp only[Kd.t],h.1.1,h.1.2,h.2⟩
    ·cases h
   ·split at h
    ·rename_i e;rw[Jc e];unfold YV at h;split at h
     ·unfold U7 at h;split at h
      ·rename_i cs;rw[ae,ae,ae,decide_eq_true_eq,decide_eq_true_eq,decide_eq_true_eq]at h;obtain⟨⟨⟨h1,h2⟩,h3⟩,h4⟩:=h;obtain⟨as,rfl,has⟩:=uw (λt ht=>qb ht) cs λc hc=>aS.mp h3 c hc;rw[a9]at h1 h2;refine⟨.pick as,by simp only[Kd.t],h1,h2,has, ?_⟩
       have e1:(as.map Wa).map ZT=as.map (·.1):=by rw[bI];rfl
       rw[e1]at h4;have:=(wV _ []).mp (by rw[h4,a9];simp)
       exact λk w hw hm=>this k w hw (by simpa using hm)
      ·cases h
     ·cases h
    ·split at h
     ·rename_i e;rw[Jc e];unfold gF at h;split at h
      ·unfold JJ at h;split at h
       ·rename_i cs;rw[ae,ae,decide_eq_true_eq,decide_eq_true_eq]at h;obtain⟨ks,rfl,hks⟩:=uw (λt ht=>ux d t ht) cs λc hc=>aS.mp h.2 c hc;rw[a9]at h;exact⟨.row ks,by simp only[Kd.t,Kd.ts_map],h.1.1,h.1.2,hks⟩
       ·cases h
      ·cases h
     ·split at h
      ·rename_i e;rw[Jc e];unfold YW at h;split at h
       ·rename_i c a b;rw[ae]at h;obtain⟨h1,h2⟩:=h;obtain⟨i,j,rfl,rfl⟩:=Jk h1;obtain⟨k,rfl,hk⟩:=ux d c h2;have h1:(decide _ && decide _ && decide _)=true:=h1;rw[ae,ae,decide_eq_true_eq,decide_eq_true_eq,decide_eq_true_eq]at h1;obtain⟨⟨a1,a2⟩,a3⟩:=h1;obtain⟨m,rfl⟩:=cg a1;obtain⟨n,rfl⟩:=cg (Int.le_trans a1 a2);exact⟨.many k m n,by simp only[Kd.t],by omega,by omega,hk⟩
       ·cases h
      ·cases h
  ·cases h
noncomputable def Zv (made:List (List T)):List (List T)->List (List T)
 | []=>made
 | ls :: r=>Zv (made.flatMap λa=>ls.map λx=>a++[x]) r
abbrev ym (ls:List (List T)):List T:=(Zv [[]] ls).map T.tup
mutual
noncomputable def Kd.all:Kd->List T
 | .whole lo hi=>(a_ (hi+1 - lo).toNat).map λ(i:Nat)=>T.int (lo+(i:Int))
 | .pick cs=>cs.map λc=>T.str c.1
 | .row ks=>ym (Kd.alls ks)
 | .many k lo hi=>(a_ (hi+1 - lo)).flatMap λi=>ym (ai (lo+i) k.all)
noncomputable def Kd.alls:List Kd->List (List T)
 | []=>[]
 | k :: ks=>k.all :: Kd.alls ks
end
theorem Kd.alls_map:∀ks:List Kd,Kd.alls ks=ks.map Kd.all
 | []=>by simp only[Kd.alls,cP]
 | k :: ks=>by simp only[Kd.alls,aL,Kd.alls_map ks]
noncomputable def prd:List Nat->Nat
 | []=>1
 | n :: r=>n*prd r
theorem JL:∀{ns:List Nat},(∀n∈ns,1<=n)->1<=prd ns
 | [],_=>aj _
 | n :: ns,h=>dW (h n ak) (JL λm hm=>h m (ac _ hm))
theorem Jl {α β:Type}(f:α->List β)(n:Nat):∀as:List α,(∀a∈as,(f a).length=n)->(as.flatMap f).length=as.length*n
 | [],_=>by simp
 | a :: as,h=>by
  rw[bR,ao,h a ak,Jl f n as λb hb=>h b (ac _ hb),af,io,c8,Nat.add_comm]
theorem JM:∀(ls:List (List T)) (made:List (List T)),(Zv made ls).length=made.length*prd (ls.map (·.length))
 | [],made=>by simp[Zv,prd]
 | l :: ls,made=>by
  rw[Zv,JM ls,Jl _ _ _ λa _=>a9 ..,aL,prd,cF]
abbrev z0a:En->RS:=Qk 3 (Z0 (ZZ (vE 2)) (zK 0) (Zl) (zb zC (vE 1) (Zy (z9 (vE 0) (zj)))) 1 [4])
theorem Ua (hl:l.length<=bnd):∀(as:List (List T)) (acc:List T) (x:Sl),(∀a∈as,a.length<=1000)->acc.length+as.length*l.length<=bnd->
  ∃y,ZC (zK 4) z0a (as.map T.tup) [.vl L,.vl M,.vl (.lst l),.ow acc,x]= .nx [.vl L,.vl M,.vl (.lst l),.ow (acc++(as.flatMap λa=>l.map λx=>a++[x]).map T.tup),y]
 | [],acc,x,_,_=>⟨x,by simp[ZC]⟩
 | a :: as,acc,x,ha,hb=>by
  have ha1:=ha a ak;have hb1:bnd=16777216:=rfl;rw[af,io]at hb;have ec:zG _ _ (zb zC (vE 1) (Zy (z9 (vE 0) (zj)))) 1 [4] [.vl L,.vl M,.vl (.lst l),.ow acc,.vl (.tup a)] l= .ok (l.map λx=>T.tup _):=
   Zb l hl λx hx=>by
    exact gP (by rw[aC];omega)
  have eb:z0a [.vl L,.vl M,.vl (.lst l),.ow acc,.vl (.tup a)]= .nx [.vl L,.vl M,.vl (.lst l),.ow (acc++l.map λx=>T.tup (a++[x])),.vl (.tup a)]:=by
   show (((zG _ _ _ _ _ _ l).bind _).s _)=_;rw[ec,bOk];show (if _ then _ else _)=_
   rw[if_pos (by rw[a9];omega)]
   rfl
  obtain⟨y,ih⟩:=Ua hl as (acc++l.map λx=>T.tup _) _ (λb hb=>ha b (ac _ hb)) (by rw[ao,a9];omega)
  refine⟨y, ?_⟩;have e:ZC (zK 4) _ ((a :: as).map T.tup) [.vl L,.vl M,.vl (.lst l),.ow acc,x]=match z0a [.vl L,.vl M,.vl _,.ow acc,.vl _] with
   | .nx ρ2=>ZC _ _ _ ρ2
   | .ct ρ2=>ZC _ _ _ ρ2
   | .bk ρ2=> .nx ρ2
   | r=>r:=rfl
  rw[e,eb];dsimp only;rw[ih,bR,bn,bI,aX];rfl
abbrev vz:En->RS:=(zB (yk 3 (zj))
  (zB (jt (ZZ (vE 1)) (zK 4) z0a)
  (mvS 1 3)))
theorem WL (m:Nat):∀(ls:List (List T)) (made:List (List T)) (k:Nat) (x y z:Sl),(∀a∈made,a.length<=k)->k+ls.length<=1000->(∀l∈ls,1<=l.length)->made.length*prd (ls.map (·.length))<=bnd->1<=made.length->
  ∃x' y' z',ZC (zK 2) vz (ls.map T.lst) [.vl L,.vl (.lst (made.map T.tup)),x,y,z]= .nx [.vl L,.vl (.lst ((Zv made ls).map T.tup)),x',y',z']
 | [],made,k,x,y,z,_,_,_,_,_=>⟨x,y,z,by simp[ZC,Zv]⟩
 | l :: ls,made,k,x,y,z,hk,hkl,hpos,hb,hm=>by
  have hpr:=JL λn hn=>by
   obtain⟨l',hl',rfl⟩:=aO.mp hn;exact hpos l' (ac _ hl')
  rw[aL,prd,← cF]at hb;have hb1:=aD (ci _ hpr) hb;have hll:=aD (Nat.le_mul_of_pos_left _ hm) hb1;rw[af]at hkl;obtain⟨w,er⟩:=Ua hll _ [] z (λa ha=>aD (hk a ha) (by omega)) (by rw[bC];omega)
  have es:vz [.vl L,.vl (.lst (made.map T.tup)),.vl (.lst l),y,z]= .nx [.vl L,.vl (.lst ((made.flatMap λa=>l.map λx=>a++[x]).map T.tup)),.vl (.lst l),.vl (.lst ((made.flatMap λa=>l.map λx=>a++[x]).map T.tup)),w]:=by
   have e0:yk 3 (zj) [.vl L,.vl (.lst (made.map T.tup)),.vl (.lst l),y,z]= .nx [.vl L,.vl _,.vl _,.ow [],z]:=rfl;have e1:jt (ZZ (vE 1)) _ _ [.vl L,.vl (.lst _),.vl _,.ow [],z]= .nx [.vl L,.vl _,.vl _,.ow ((made.flatMap λa=>l.map λx=>a++[x]).map _),w]:=er;unfold vz;rw[Z3,e0];dsimp only;rw[Z3,e1];rfl
  obtain⟨x',y',z',ih⟩:=WL m ls (made.flatMap λa=>l.map λx=>a++[x]) (k+1) _ (.vl (.lst ((made.flatMap λa=>l.map λx=>a++[x]).map _))) w (λa ha=>by
   obtain⟨b,hb,hx⟩:=cQ.mp ha;obtain⟨u,_,rfl⟩:=aO.mp hx;have:=hk b hb;rw[ao,aC];omega) (by omega) (λl' hl' =>hpos l' (ac _ hl')) (by
    rw[Jl _ _ _ λa _=>a9 ..];exact hb) (by
    rw[Jl _ _ _ λa _=>a9 ..];exact dW hm (hpos l ak))
  refine⟨x',y',z', ?_⟩;have e:ZC (zK 2) _ ((l :: ls).map T.lst) [.vl L,.vl (.lst (made.map T.tup)),x,y,z]=match vz [.vl L,.vl _,.vl _,y,z] with
   | .nx ρ2=>ZC _ _ _ ρ2
   | .ct ρ2=>ZC _ _ _ ρ2
   | .bk ρ2=> .nx ρ2
   | r=>r:=rfl
  rw[e,es];exact ih
theorem qc (ls:List (List T))(hl:ls.length<=1000)(hpos:∀l∈ls,1<=l.length)(hb:prd (ls.map (·.length))<=bnd):f_f [.lst (ls.map T.lst)]= .ok (.lst (ym ls)):=by
 obtain⟨x',y',z',er⟩:=WL 0 ls [[]] 0 .un .un .un (λa ha=>by rw[aN.mp ha];exact aj _) (by omega) hpos (by rw[aC,c8];exact hb) (aj _)
 have e:f_f [.lst (ls.map T.lst)]=zz (b_f [.vl _,.un,.un,.un,.un]):=rfl;have e0:zL 1 (ZD (z9 (Zy (zj)) (zj))) [.vl (.lst (ls.map T.lst)),.un,.un,.un,.un]= .nx [.vl _,.vl _,.un,.un,.un]:=rfl;have e1:jt (ZZ (vE 0)) _ _ [.vl (.lst _),.vl (.lst [.tup []]),.un,.un,.un]= .nx _:=er;rw[e,b_f,Z3,e0];dsimp only;rw[Z3,e1];rfl
theorem jg (n:Nat):∀m:Nat,prd (ai m n)=n ^ m
 | 0=>rfl
 | m+1=>by rw[bS,prd,jg n m,hJ,cO]
theorem Jm (ls:List (List T)):(ym ls).length=prd (ls.map (·.length)):=by
 rw[a9,JM,aC,c8]
noncomputable def pw (n lo hi:Nat):Nat:=((a_ (hi+1 - lo)).map λi=>n ^ (lo+i)).sum
theorem jl (k:Kd)(lo hi:Nat):(Kd.many k lo hi).all.length=pw k.all.length lo hi:=by
 rw[Kd.all,List.length_flatMap,pw];congr 1
 refine cV λi _=> ?_;rw[Jm,bg,jg]
theorem jY (ks:List Kd):(Kd.row ks).all.length=prd (ks.map λk=>k.all.length):=by
 rw[Kd.all,Jm,Kd.alls_map,bI];rfl
theorem jK (lo hi:Int):(Kd.whole lo hi).all.length=(hi+1 - lo).toNat:=by
 rw[Kd.all,a9,bG]
theorem wY (cs:List (Str×Int)):(Kd.pick cs).all.length=cs.length:=by
 rw[Kd.all,a9]
theorem Xl (h:lo<=hi)(h3:hi<=3):(lo=0/\hi=0)\/(lo=0/\hi=1)\/(lo=0/\hi=2)\/(lo=0/\hi=3)\/(lo=1/\hi=1)\/(lo=1/\hi=2)\/(lo=1/\hi=3)\/(lo=2/\hi=2)\/(lo=2/\hi=3)\/(lo=3/\hi=3):=(by decide:∀hi lo:Fin 4,lo.1<=hi.1->(lo.1=0/\hi.1=0)\/(lo.1=0/\hi.1=1)\/(lo.1=0/\hi.1=2)\/(lo.1=0/\hi.1=3)\/(lo.1=1/\hi.1=1)\/(lo.1=1/\hi.1=2)\/(lo.1=1/\hi.1=3)\/(lo.1=2/\hi.1=2)\/(lo.1=2/\hi.1=3)\/(lo.1=3/\hi.1=3)) ⟨hi,hU h3⟩ ⟨lo,hU (aD h h3)⟩ h
noncomputable def iv (b:Bool):Nat:=if b then 1 else 0
theorem Xm (n:Nat)(h:lo<=hi)(h3:hi<=3):pw n lo hi=iv (lo == 0)+n*iv (decide (lo<=1) && decide (1<=hi))+n*n*iv (decide (lo<=2) && decide (2<=hi))+n*n*n*iv (hi == 3):=by
 rcases Xl h h3 with ⟨rfl,rfl⟩ | ⟨rfl,rfl⟩ | ⟨rfl,rfl⟩ | ⟨rfl,rfl⟩ | ⟨rfl,rfl⟩ | ⟨rfl,rfl⟩ | ⟨rfl,rfl⟩ | ⟨rfl,rfl⟩ | ⟨rfl,rfl⟩ | ⟨rfl,rfl⟩ <;>
  simp[pw,iz,iv,hJ]
 all_goals omega
theorem gQ (hn:1<=n)(h:lo<=hi)(h3:hi<=3):1<=pw n lo hi:=by
 have h2:=dW hn hn;have h1:=dW h2 hn;rw[Xm n h h3];rcases Xl h h3 with ⟨rfl,rfl⟩ | ⟨rfl,rfl⟩ | ⟨rfl,rfl⟩ | ⟨rfl,rfl⟩ | ⟨rfl,rfl⟩ | ⟨rfl,rfl⟩ | ⟨rfl,rfl⟩ | ⟨rfl,rfl⟩ | ⟨rfl,rfl⟩ | ⟨rfl,rfl⟩ <;>
  simp[iv] <;> omega
theorem z1H (hn:n<=N)(h:lo<=hi)(h3:hi<=3):pw n lo hi<=1+N+N*N+N*N*N:=by
 have h2:=cj hn hn;have h1:=cj h2 hn;rw[Xm n h h3];rcases Xl h h3 with ⟨rfl,rfl⟩ | ⟨rfl,rfl⟩ | ⟨rfl,rfl⟩ | ⟨rfl,rfl⟩ | ⟨rfl,rfl⟩ | ⟨rfl,rfl⟩ | ⟨rfl,rfl⟩ | ⟨rfl,rfl⟩ | ⟨rfl,rfl⟩ | ⟨rfl,rfl⟩ <;>
  simp[iv] <;> omega
theorem Vt (hN:1<=N):∀(ns:List Nat),(∀n∈ns,n<=N)->prd ns<=N ^ ns.length
 | [],_=>aj _
 | n :: ns,h=>by
  rw[prd,cO];exact cj (Vt hN ns λm hm=>h m (ac _ hm)) (h n ak)
theorem ZN:∀(d:Nat) (k:Kd),k.Ok d->1<=k.all.length
 | 0,_,h=>h.elim
 | d+1,.whole lo hi,h=>by
  obtain⟨_,h2,_⟩:=h;rw[jK];omega
 | d+1,.pick cs,h=>by
  rw[wY];exact h.1
 | d+1,.row ks,h=>by
  rw[jY];refine JL λn hn=> ?_;obtain⟨k,hk,rfl⟩:=aO.mp hn;exact ZN d k (h.2.2 k hk)
 | d+1,.many k lo hi,h=>by
  rw[jl];exact gQ (ZN d k h.2.2) h.1 h.2.1
noncomputable def mx:Nat->Nat
 | 0=>0
 | 1=>41
 | d+1=>1+mx d+mx d*mx d+mx d*mx d*mx d
theorem Vu (d:Nat):41<=mx (d+1):=by
 induction d with
 | zero=>exact aj _
 | succ d ih=>
  show 41<=1+mx _+mx _*mx _+mx _*mx _*mx _;omega
theorem qd (d:Nat)(n:Nat)(h:n<=41):n<=mx (d+1):=aD h (Vu d)
theorem Xn (hN:1<=N)(h:m<=3):N ^ m<=1+N+N*N+N*N*N:=by
 have:m=0\/m=1\/m=2\/m=3:=by omega
 rcases this with rfl | rfl | rfl | rfl <;> simp[hJ] <;> omega
theorem jp:∀(d:Nat) (k:Kd),k.Ok d->k.all.length<=mx d
 | 0,_,h=>h.elim
 | d+1,.whole lo hi,h=>by
  obtain⟨h1,h2,h3⟩:=h;rw[jK];exact qd d _ (by omega)
 | d+1,.pick cs,h=>by
  rw[wY];exact qd d _ (aD h.2.1 (by omega))
 | 1,.row ks,h=>by
  obtain⟨h1,h2,h3⟩:=h
  match ks,h1,h3 with
  | k :: _,_,h3=>exact(h3 k ak).elim
 | d+2,.row ks,h=>by
  obtain⟨h1,h2,h3⟩:=h;rw[jY];have hp:=aD (by omega:1<=41) (Vu d)
  have:=Vt hp (ks.map λk=>k.all.length) λn hn=>by
   obtain⟨k,hk,rfl⟩:=aO.mp hn;exact jp _ k (h3 k hk)
  rw[a9]at this;exact aD this (Xn hp h2)
 | 1,.many k lo hi,h=>h.2.2.elim
 | d+2,.many k lo hi,h=>by
  rw[jl];exact z1H (jp _ k h.2.2) h.1 h.2.1
theorem zd (h:f ρ= .nx ρ'):zB f g ρ=g ρ' :=by rw[Z3,h]
theorem cs0:zD eqC (zb ixT (vE 0) (cE (.int 0))) (cE (.str w)) (.vl (.tup (.str x :: r)) :: ρ)= .ok (x == w):=by
 rw[zN,zt,v0,bOk,zV,bOk,at0,zV,bOk];rfl
theorem JZ:zb ixT (vE 0) (cE (.int 1)) (.vl (.tup (a :: b :: r)) :: ρ)= .ok b:=by
 rw[zt,v0,bOk,zV,bOk,at1]
theorem uy:zb ixT (vE 0) (cE (.int 2)) (.vl (.tup (a :: b :: c :: r)) :: ρ)= .ok c:=by
 rw[zt,v0,bOk,zV,bOk,at2]
theorem gR:zb ixT (vE 0) (cE (.int 3)) (.vl (.tup (a :: b :: c :: d :: r)) :: ρ)= .ok d:=by
 rw[zt,v0,bOk,zV,bOk,at3]
theorem qe (h:f ρ= .ok (.int i)):zb zC f (cE (.int 1)) ρ= .ok (.int (i+1)):=by
 rw[zt,h,bOk,zV,bOk,Z4]
theorem uz (hf:f ρ= .ok (.int i))(hg:g ρ= .ok (.int j))(h: -1000000 < i/\i < 1000000/\ -1000000 < j/\j < 1000000):Je f g ρ= .ok (rng i (j - i).toNat):=by
 unfold Je;rw[hf,hg];exact if_pos h
theorem qf:∀(cs:List (Str×Int)) (x y:Sl),zQ (ZF 0 1) Zl (vE 0) (cs.map Wa) [x,y]= .ok (cs.map λc=>T.str c.1)
 | [],_,_=>rfl
 | c :: cs,x,y=>by
  have e:zQ (ZF 0 1) Zl (vE 0) ((c :: cs).map Wa) [x,y]=(zQ _ _ _ _ [.vl _,.vl _]).bind λvs=> .ok _:=rfl;rw[e,qf cs];rfl
theorem qg {x:T}{m:Nat}(h:m<=3):Z6 (.lst [x]) (.int (m:Int))= .ok (.lst (ai m [x]).flatten):=by
 unfold Z6;dsimp only;have c:0<=(m:Int)/\(m:Int) < 1000000/\[x].length*(m:Int).toNat<=bnd:=by
  have hb:3<=bnd:=by decide
  refine⟨by omega,by omega, ?_⟩
  rw[aC,c8];exact aD h hb
 rw[if_pos c,bF]
theorem Jn {α:Type}(x:α):∀m:Nat,(ai m [x]).flatten=ai m x
 | 0=>rfl
 | m+1=>by rw[bS,dS,Jn x m];rfl
abbrev uA (ca cr:List T->R T):En->RS:=Qk 1 (za 1 cr (z9 (zb Z6 (ZD (z9 (za 1 ca (z9 (zb ixT (vE 0) (cE (.int 1))) (zj))) (zj))) (vE 2)) (zj)))
theorem k6 (hf:f ρ= .ok x):ZD (z9 f zj) ρ= .ok (.lst [x]):=by
 unfold ZD z9 zj;rw[hf];rfl
theorem WM {ca:List T->R T}{k:Kd}{t:T}{lo:Nat}{ws:List T}(hw:ca [t]= .ok (.lst ws))(hpos:1<=ws.length){a b c:T}:∀(js:List Nat) (acc:List T) (x:Sl),(∀j∈js,lo+j<=3)->acc.length+(js.map λj=>ws.length ^ (lo+j)).sum<=bnd->
  ∃y,ZC (zK 2) (uA ca f_f) (js.map λ(j:Nat)=>T.int ((lo:Int)+(j:Int))) [.vl (.tup [a,t,b,c]),.ow acc,x]= .nx [.vl (.tup [a,t,b,c]),.ow (acc++js.flatMap λj=>ym (ai (lo+j) ws)),y]
 | [],acc,x,_,_=>⟨x,by simp[ZC]⟩
 | j :: js,acc,x,hj,hb=>by
  have hj1:=hj j ak;rw[aL,du]at hb;have er:f_f [.lst ((ai (lo+j) ws).map _)]= .ok _:=qc _ (by rw[aQ];omega) (λl hl=>by rw[cb hl];exact hpos) (by rw[bg,jg];omega)
  have hlen:(ym (ai (lo+j) ws)).length=ws.length ^ (lo+j):=by rw[Jm,bg,jg]
  have em:Z6 (.lst [.lst ws]) (.int ((lo)+(j)))= .ok (.lst ((ai (lo+j) ws).map T.lst)):=by
   have e1:(lo:Int)+(j)=((lo+j:Nat)):=by omega
   rw[e1,qg (by omega),Jn,bg]
  have eb:uA ca f_f [.vl (.tup [a,t,b,c]),.ow acc,.vl (.int ((lo)+(j)))]= .nx [.vl (.tup [a,t,b,c]),.ow (acc++ym (ai (lo+j) ws)),.vl (.int ((lo)+(j)))]:=by
   have e1:za 1 f_f (z9 (zb Z6 (ZD (z9 (za 1 ca (z9 (zb ixT (vE 0) (cE (.int 1))) (zj))) (zj))) (vE 2)) (zj)) [.vl (.tup [a,t,b,c]),.ow acc,.vl (.int ((lo)+(j)))]= .ok (.lst (ym (ai (lo+j) ws))):=by
    have e0:za 1 ca (z9 (zb ixT (vE 0) (cE (.int 1))) (zj)) [.vl (.tup [a,t,b,c]),.ow acc,.vl (.int ((lo)+(j)))]= .ok (.lst ws):=by
     rw[zW,JZ,bOk,hw]
    rw[zW,zt,k6 e0,bOk,v2,bOk,em,bOk,er]
   show ((za 1 _ _ _).s λt=>match t with | .lst us=>if acc.length+us.length<=bnd then RS.nx _ else .bad | _=> .bad)=_
   rw[e1];show (if _ then _ else _)=_
   rw[if_pos (by omega)]
   rfl
  obtain⟨y,ih⟩:=WM (k:=k) hw hpos js (acc++ym (ai (lo+j) ws)) _ (λi hi=>hj i (ac _ hi)) (by rw[ao];omega)
  refine⟨y, ?_⟩;have e:ZC (zK 2) (uA ca f_f) ((j :: js).map λ(j:Nat)=>T.int ((lo)+(j))) [.vl (.tup [a,t,b,c]),.ow acc,x]=match uA ca _ [.vl _,.ow acc,.vl _] with
   | .nx ρ2=>ZC _ _ (js.map λ(j)=>T.int _) ρ2
   | .ct ρ2=>ZC _ _ (js.map λ(j)=>T.int _) ρ2
   | .bk ρ2=> .nx ρ2
   | r=>r:=rfl
  rw[e,eb];dsimp only;rw[ih,bR,aX]
theorem vA (h1:lo<=hi)(h2:hi<=3){r:RS}
  (el:ZC (zK 2) (uA ca f_f) ((a_ (hi+1 - lo)).map λ(j:Nat)=>T.int ((lo:Int)+(j:Int))) [.vl (.tup [a,t,.int (lo:Int),.int (hi:Int)]),.ow acc,x]=r):
  jt (Je (zb ixT (vE 0) (cE (.int 2))) (zb zC (zb ixT (vE 0) (cE (.int 3))) (cE (.int 1)))) (zK 2) (uA ca f_f) [.vl (.tup [a,t,.int (lo:Int),.int (hi:Int)]),.ow acc,x]=r:=by
 have hn:((hi:Int)+1 - (lo)).toNat=hi+1 - lo:=by omega
 have hc: -1000000 < (lo:Int)/\(lo:Int) < 1000000/\ -1000000 < (hi:Int)+1/\(hi:Int)+1 < 1000000:=by omega
 have e:jt (Je (zb ixT (vE 0) (cE (.int 2))) (zb zC (zb ixT (vE 0) (cE (.int 3))) (cE (.int 1)))) (zK 2) (uA ca f_f) [.vl (.tup [a,t,.int (lo),.int (hi)]),.ow acc,x]=(Je _ _ _).s λts=>ZC _ _ ts _:=rfl;rw[e,uz uy (qe gR) hc,hn];exact el
theorem gS (e:L=pw n lo hi)(h:L<=1000000):([]:List T).length+((a_ (hi+1 - lo)).map λj=>n ^ (lo+j)).sum<=bnd:=by
 have h' :pw n lo hi<=bnd:=aD (e ▸ h) (by decide)
 rw[bC,f6];exact h'
theorem qh (d:Nat)(lo hi:Int)(h:(Kd.whole lo hi).Ok (d+1))(hl:(Kd.whole lo hi).all.length<=1000000)(H:∀k' :Kd,k'.Ok d->ca [k'.t]= .ok (.lst k'.all)):zz (b_6 ca f_f (en0 3 [(Kd.whole lo hi).t]))= .ok (.lst (Kd.whole lo hi).all):=by
 have e:zz (b_6 ca f_f (en0 3 [(Kd.whole lo hi).t]))=zz (b_6 ca _ [.vl _,.un,.un]):=rfl;rw[e,b_6,Z3,j5];obtain⟨h1,h2,h3⟩:=h;simp only[Kd.t];rw[Zi,je,wT];unfold GK;rw[uz JZ (qe uy) ⟨by omega,by omega,by omega,by omega⟩]
 rfl
theorem vC (d:Nat)(cs:List (Str×Int))(h:(Kd.pick cs).Ok (d+1))(hl:(Kd.pick cs).all.length<=1000000)(H:∀k' :Kd,k'.Ok d->ca [k'.t]= .ok (.lst k'.all)):zz (b_6 ca f_f (en0 3 [(Kd.pick cs).t]))= .ok (.lst (Kd.pick cs).all):=by
 have hb1:bnd=16777216:=rfl;have e:zz (b_6 ca f_f (en0 3 [(Kd.pick cs).t]))=zz (b_6 ca _ [.vl _,.un,.un]):=rfl;rw[e,b_6,Z3,j5];simp only[Kd.t];rw[cs0,ZS,show (("pick":Str) == "whole")=false from rfl,if_neg aA,wp];dsimp only;rw[Z3,j5,Zi,je,wT,wT,jy,Z2,jf,JZ];have hc:=h.2.1;have ec:zG (ZF 0 1) Zl (vE 0) 2 [] [.vl (.tup [.str "pick",.tup (cs.map Wa)]),.un,.un] (cs.map Wa)= .ok (cs.map λc=>T.str c.1):=by
  unfold zG;rw[if_pos (by rw[a9];omega)]
  show quiet (zQ _ _ _ _ [.un,.un])=_;rw[qf];rfl
 show zz (match ((((R.ok _).bind λts=>(zG _ _ _ 2 [] _ ts).bind λvs=> .ok _)).s λt=> .rt t) with | .nx ρ' =>_ | r=>r)=_
 rw[bOk,ec];rfl
theorem Xo (d:Nat)(ks:List Kd)(h:(Kd.row ks).Ok (d+1))(hl:(Kd.row ks).all.length<=1000000)(H:∀k' :Kd,k'.Ok d->ca [k'.t]= .ok (.lst k'.all)):zz (b_6 ca f_f (en0 3 [(Kd.row ks).t]))= .ok (.lst (Kd.row ks).all):=by
 have hb1:bnd=16777216:=rfl;have e:zz (b_6 ca f_f (en0 3 [(Kd.row ks).t]))=zz (b_6 ca _ [.vl _,.un,.un]):=rfl;rw[e,b_6,Z3,j5];obtain⟨h1,h2,h3⟩:=h;simp only[Kd.t];rw[cs0,ZS,show (("row":Str) == "whole")=false from rfl,if_neg aA,wp];dsimp only;rw[Z3,j5,cs0,ZS,show (("row":Str) == "pick")=false from rfl,if_neg aA,wp];dsimp only;rw[Z3,j5,Zi,je,wT,wT,jy,zW,Kd.ts_map];have ec:zG (zK 0) Zl (za 1 ca (z9 (vE 0) (zj))) 1 [] [.vl (.tup [.str "row",.tup (ks.map Kd.t)]),.un,.un] (ks.map Kd.t)= .ok ((ks.map Kd.all).map T.lst):=by
  unfold zG;rw[if_pos (by rw[a9];omega)]
  show quiet (zQ _ _ _ _ [.un])=_;have:∀(ks:List Kd) (x:Sl),(∀k∈ks,k.Ok d)->zQ (zK 0) Zl (za 1 ca (z9 (vE 0) (zj))) (ks.map Kd.t) [x]= .ok ((ks.map Kd.all).map T.lst):=by
   intro ks
   induction ks with
   | nil=>intro _ _;rfl
   | cons k ks ih=>
    intro x hk;have e1:zQ (zK 0) Zl (za 1 ca (z9 (vE 0) (zj))) ((k :: ks).map _) [x]=(za 1 ca _ [.vl k.t]).bind λv=>(zQ _ _ _ _ [.vl k.t]).bind λvs=> .ok _:=rfl;rw[e1,zW,v0,bOk,H k (hk k ak),ih _ λk' hk' =>hk k' (ac _ hk')];rfl
  rw[this ks .un h3];rfl
 have hrow:=jY ks;have er:f_f [.lst ((ks.map Kd.all).map _)]= .ok _:=qc _ (by rw[a9];omega) (λl hl=>by
  obtain⟨k,hk,rfl⟩:=aO.mp hl;exact ZN d k (h3 k hk)) (by
  rw[bI];show prd (ks.map λk=>k.all.length)<=bnd;omega)
 show zz (match ((((R.ok _).bind λts=>(zG _ _ _ 1 [] _ ts).bind λvs=> .ok _).bind λx=>f_f [x]).s λt=> .rt t) with | .nx ρ' =>_ | r=>r)=_
 rw[bOk,ec,bOk,bOk,er,Kd.all,Kd.alls_map];rfl
theorem vD {ca:List T->R T}(d:Nat)(k:Kd)(lo hi:Nat)(h:(Kd.many k lo hi).Ok (d+1))(hl:(Kd.many k lo hi).all.length<=1000000)(H:∀k' :Kd,k'.Ok d->ca [k'.t]= .ok (.lst k'.all)):zz (b_6 ca f_f (en0 3 [(Kd.many k lo hi).t]))= .ok (.lst (Kd.many k lo hi).all):=by
 have hb1:bnd=16777216:=rfl;have e:zz (b_6 ca f_f (en0 3 [(Kd.many k lo hi).t]))=zz (b_6 ca f_f [.vl (Kd.many k lo hi).t,.un,.un]):=rfl;rw[e,b_6,Z3,j5];obtain⟨h1,h2,h3⟩:=h;have hml:=jl k lo hi;simp only[Kd.t];rw[cs0,ZS,show (("many":Str) == "whole")=false from rfl,if_neg aA,wp];dsimp only;rw[Z3,j5,cs0,ZS,show (("many":Str) == "pick")=false from rfl,if_neg aA,wp];dsimp only;rw[Z3,j5,cs0,ZS,show (("many":Str) == "row")=false from rfl,if_neg aA,wp];dsimp only;have e0:yk 1 (zj) [.vl (.tup [.str "many",k.t,.int (lo:Int),.int (hi:Int)]),.un,.un]= .nx [.vl (.tup [.str "many",k.t,.int (lo:Int),.int (hi:Int)]),.ow [],.un]:=rfl;rw[Z3,e0];dsimp only;obtain⟨y,el⟩:=WM (k:=k) (lo:=lo) (H k h3) (ZN d k h3) (a:= .str "many") (b:= .int (lo:Int)) (c:= .int (hi:Int)) (a_ (hi+1 - lo)) [] .un (λj hj=>by have:=bo.mp hj;omega) (gS hml hl)
 have e1:=vA (ca:=ca) (t:=k.t) h1 h2 el;rw[bO]at e1;rw[zd e1,Kd.all];rfl
theorem vF (d:Nat)(k:Kd)(h:k.Ok (d+1))(hl:k.all.length<=1000000)(H:∀k' :Kd,k'.Ok d->ca [k'.t]= .ok (.lst k'.all)):zz (b_6 ca f_f (en0 3 [k.t]))= .ok (.lst k.all):=by
 cases k with
 | whole lo hi=>exact qh d lo hi h hl H
 | pick cs=>exact vC d cs h hl H
 | row ks=>exact Xo d ks h hl H
 | many k lo hi=>exact vD d k lo hi h hl H
theorem qi:∀(d n:Nat),d<=n->d<=3->∀k:Kd,k.Ok d->k.all.length<=1000000->S_6 n 0 [k.t]= .ok (.lst k.all)
 | 0,_,_,_,_,h,_=>h.elim
 | d+1,0,hn,_,_,_,_=>by omega
 | d+1,n+1,hn,hd,k,h,hl=>by
  have e:S_6 (n+1) 0 [k.t]=zz (b_6 (S_6 n 0) f_f (en0 3 [k.t])):=rfl;rw[e];refine vF d k h hl λk' hk' =>qi d n (by omega) (by omega) k' hk' ?_
  have h1:=jp d k' hk';have:mx d<=1000000:=by
   have:d=0\/d=1\/d=2:=by omega
   rcases this with rfl | rfl | rfl <;> decide
  omega
theorem in2:zD inC (zb ixT (vE 0) (cE (.int 0))) (Zy (z9 (cE (.str a)) (z9 (cE (.str b)) (zj)))) (.vl (.tup (.str x :: r)) :: ρ)=inC (.str x) (.tup [.str a,.str b]):=by
 rw[zN,zt,v0,bOk,zV,bOk,at0,bOk,YY zV zV,bOk]
theorem jN (h:g ρ= .ok true):ifS g f1 f2 ρ=f1 ρ:=by rw[j5,h,ZS,if_pos rfl]
theorem z0b (h:g ρ= .ok false):ifS g f1 f2 ρ=f2 ρ:=by rw[j5,h,ZS,if_neg aA]
theorem zw (h:g ρ= .ok false):ifS g f1 nxS ρ= .nx ρ:=by rw[z0b h];rfl
theorem zM (h:f ρ= .ok t):zL i f ρ= .nx (ρ.set i (.vl t)):=by rw[JI,h,ZS]
theorem zy (h:f (frz ρ)= .ok t):zF f ρ= .rt t:=by rw[Zi,h,ZS]
theorem jL {g:T->En->R En}(hg:g t ρ= .ok ρ1)(hb:fb ρ1= .nx ρ2):ZC g fb (t :: ts) ρ=ZC g fb ts ρ2:=by
 rw[ZC,hg];dsimp only;rw[hb]
theorem zI (h:f ρ= .rt t):zB f g ρ= .rt t:=by rw[Z3,h]
theorem qj {i j:Nat}(h:i < 2 ^ 60):Z6 (.int (i:Int)) (.int (j:Int))= .ok (.int ((i*j:Nat):Int)):=by
 rw[uu _ _ (.inl ⟨by omega,by omega⟩),iw]
theorem gT (h:n<=mx d)(hd:d<=3):n < 2 ^ 60:=by
 have:d=0\/d=1\/d=2\/d=3:=by omega
 have h3:mx 3 < 2 ^ 60:=by decide
 have h2:mx 2 < 2 ^ 60:=by decide
 have h1:mx 1 < 2 ^ 60:=by decide
 have h0:mx 0 < 2 ^ 60:=by decide
 rcases this with rfl | rfl | rfl | rfl <;> omega
theorem Ub {a b:Sl}:∀(ns:List Nat) (m:Nat) (x y:Sl),(∀n∈ns,1<=n)->m*prd ns < 2 ^ 60->∃x',ZC (zK 3) (zL 2 (zb Z6 (vE 2) (vE 3))) (ns.map λ(n:Nat)=>T.int (n:Int)) [a,b,.vl (.int (m:Int)),x,y]= .nx [a,b,.vl (.int ((m*prd ns:Nat):Int)),x',y]
 | [],m,x,y,_,_=>⟨x,by simp[ZC,prd]⟩
 | n :: ns,m,x,y,hp,hb=>by
  have hpr:=JL λk hk=>hp k (ac _ hk);have hn:=hp n ak;have hmm:m<=m*prd (n :: ns):=ci _ (dW hn hpr);have hb2:=bU hmm hb;rw[prd,← cF]at hb;obtain⟨x',ih⟩:=Ub ns _ _ y (λk hk=>hp k (ac _ hk)) hb;refine⟨x', ?_⟩;have es:zL 2 (zb Z6 (vE 2) (vE 3)) [a,b,.vl (.int (m)),.vl (.int (n)),y]= .nx [a,b,.vl (.int ((m*n):Int)),.vl (.int (n)),y]:=by
   rw[JI,zt,v2,bOk,v3,bOk,qj hb2];rfl
  have s3:zK 3 (T.int (n)) [a,b,.vl (.int (m)),x,y]= .ok _:=rfl;rw[aL,jL s3 es,prd,← cF];exact ih
theorem vG:∀(d:Nat) (lo hi:Int),(Kd.whole lo hi).Ok (d+1)->(Kd.whole lo hi).Ok 1
 | _,_,_,h=>h
theorem vH:∀(d:Nat) (cs:List (Str×Int)),(Kd.pick cs).Ok (d+1)->(Kd.pick cs).Ok 1
 | _,_,h=>h
theorem WN (k:Kd)(h:k.Ok 1)(ht:k.t= .tup (.str x :: r))(hx:inC (.str x) (.tup [.str "whole",.str "pick"])= .ok true):zz (b_c (f_6 8) cs (en0 5 [k.t]))= .ok (.int (k.all.length:Int)):=by
 have ha:f_6 8 _= .ok _:=qi 1 8 (by omega) (by omega) k h (aD (jp 1 k h) (by decide))
 have e:zz (b_c (f_6 8) cs (en0 5 [k.t]))=zz (b_c _ cs [.vl k.t,.un,.un,.un,.un]):=rfl;have e1:zD inC (zb ixT (vE 0) (cE (.int 0))) (Zy (z9 (cE (.str "whole")) (z9 (cE (.str "pick")) (zj)))) [.vl k.t,.un,.un,.un,.un]= .ok true:=by
  rw[ht,in2,hx]
 have e2:zF (ap1 Ze (za 1 (f_6 8) (z9 (vE 0) (zj)))) [.vl k.t,.un,.un,.un,.un]= .rt (.int (k.all.length)):=by
  refine zy ?_;rw[je,j3,zW,v0,bOk,ha,bOk,gE]
 rw[e,b_c,zI (by rw[jN e1,e2])]
 rfl
theorem z1I (b:Bool):b2 b=(iv b:Int):=by cases b <;> rfl
theorem vI (hd:d+1<=3)(ks:List Kd)(h:(Kd.row ks).Ok (d+1))(H:∀k:Kd,k.Ok d->cs [k.t]= .ok (.int (k.all.length:Int))):zz (b_c (f_6 8) cs (en0 5 [(Kd.row ks).t]))= .ok (.int ((Kd.row ks).all.length:Int)):=by
 have hlt:=gT (jp _ _ h) hd;rw[jY]at hlt ⊢;obtain⟨h1,h2,h3⟩:=h;simp only[Kd.t,Kd.ts_map];have e:zz (b_c (f_6 8) cs (en0 5 [.tup [.str "row",.tup (ks.map Kd.t)]]))=zz (b_c _ cs [.vl _,.un,.un,.un,.un]):=rfl;have e1:zD inC (zb ixT (vE 0) (cE (.int 0))) (Zy (z9 (cE (.str "whole")) (z9 (cE (.str "pick")) (zj)))) [.vl (.tup [.str "row",.tup (ks.map Kd.t)]),.un,.un,.un,.un]= .ok false:=by
  rfl
 have ec:zG (zK 0) Zl (za 1 cs (z9 (vE 0) (zj))) 1 [] [.vl (.tup [.str "row",.tup (ks.map Kd.t)]),.un,.un,.un,.un] (ks.map Kd.t)= .ok ((ks.map λk=>k.all.length).map λ(n:Nat)=>T.int (n)):=by
  unfold zG;rw[if_pos (by rw[a9];exact aD h2 (by decide))]
  have:∀(ks:List Kd) (x:Sl),(∀k∈ks,k.Ok d)->zQ (zK 0) Zl (za 1 cs (z9 (vE 0) (zj))) (ks.map Kd.t) [x]= .ok ((ks.map λk=>k.all.length).map λ(n:Nat)=>T.int (n)):=by
   intro ks
   induction ks with
   | nil=>intro _ _;rfl
   | cons k ks ih=>
    intro x hk;have e1:zQ (zK 0) Zl (za 1 cs (z9 (vE 0) (zj))) ((k :: ks).map _) [x]=(za 1 cs _ [.vl k.t]).bind λv=>(zQ _ _ _ _ [.vl k.t]).bind λvs=> .ok _:=rfl;rw[e1,zW,v0,bOk,H k (hk k ak),ih _ λk' hk' =>hk k' (ac _ hk')];rfl
  show quiet (zQ _ _ _ _ [.un])=_;rw[this ks .un h3];rfl
 have e2:ifE (zD eqC (zb ixT (vE 0) (cE (.int 0))) (cE (.str "row"))) (Z0 (ZZ (zb ixT (vE 0) (cE (.int 1)))) (zK 0) (Zl) (za 1 cs (z9 (vE 0) (zj))) 1 []) (ZD (zj)) [.vl (.tup [.str "row",.tup (ks.map Kd.t)]),.un,.un,.un,.un]= .ok (.lst ((ks.map λk=>k.all.length).map λ(n:Nat)=>T.int (n))):=by
  unfold ifE;rw[cs0,bOk,show (("row":Str) == "row")=true from rfl,if_pos rfl,Z2,jf,JZ];show ((R.ok _).bind _)=_;rw[bOk,ec,bOk]
 obtain⟨x',el⟩:=Ub (a:= .vl _) (ks.map λk=>k.all.length) 1 .un .un (λn hn=>by
  obtain⟨k,hk,rfl⟩:=aO.mp hn;exact ZN d k (h3 k hk)) (by rw[c8];exact hlt)
 rw[c8]at el;have e3:jt (ZZ (vE 1)) _ _ [.vl _,.vl (.lst ((ks.map λk=>k.all.length).map λ(n:Nat)=>T.int (n))),.vl (.int 1),.un,.un]=_:=el;rw[e,b_c,zd (zw e1),zd (zM e2)];have s1:([.vl (.tup [.str "row",.tup (ks.map Kd.t)]),.un,.un,.un,.un]:En).set 1 (.vl (.lst ((ks.map λk=>k.all.length).map λ(n:Nat)=>T.int (n))))=[.vl _,.vl (.lst ((ks.map λk=>k.all.length).map λ(n:Nat)=>T.int (n))),.un,.un,.un]:=rfl;rw[s1,zd (zM zV)];have s2:([.vl (.tup [.str "row",.tup (ks.map Kd.t)]),.vl (.lst ((ks.map λk=>k.all.length).map λ(n:Nat)=>T.int (n))),.un,.un,.un]:En).set 2 (.vl (.int 1))=[.vl _,.vl (.lst ((ks.map λk=>k.all.length).map λ(n)=>T.int _)),.vl _,.un,.un]:=rfl;rw[s2,zd e3];rfl
theorem gU (hf:f ρ= .ok (.int i))(hg:g ρ= .ok (.int j)):chE leC leC f (cE (.int c)) g ρ= .ok (.bl (decide (i<=c) && decide (c<=j))):=by
 rw[vy,hf,bOk,zV,bOk,WF,hg];cases decide (i<=c) <;> rfl
theorem wq (a b:Nat):decide ((a:Int)<=(b:Int))=decide (a<=b):=by
 by_cases h:a<=b
 ·rw[decide_eq_true h];exact decide_eq_true (by omega)
 ·rw[decide_eq_false h];exact decide_eq_false (by omega)
theorem qk (a b:Nat):((a:Int) == (b:Int))=(a == b):=by
 by_cases h:a=b
 ·subst h;simp
 ·rw[beq_eq_false_iff_ne.mpr h,beq_eq_false_iff_ne];omega
theorem z0c (h:f ρ= .ok (.bl b)):ap1 Yl f ρ= .ok (.int ((iv b:Nat):Int)):=by
 rw[j3,h];show R.ok _=_;rw[z1I]
theorem qm (hf:f ρ= .ok (.int (i:Int)))(hg:g ρ= .ok (.int (j:Int))):zb zC f g ρ= .ok (.int ((i+j:Nat):Int)):=by
 rw[zt,hf,bOk,hg,bOk,Z4,Int.natCast_add]
theorem jZ (h:i < 2 ^ 60)(hf:f ρ= .ok (.int (i:Int)))(hg:g ρ= .ok (.int (j:Int))):zb Z6 f g ρ= .ok (.int ((i*j:Nat):Int)):=by
 rw[zt,hf,bOk,hg,bOk,qj h]
theorem Xp (h:n<=mx d)(hd:d+1<=3)(h0:1<=d):n*n*n < 2 ^ 60/\n*n < 2 ^ 60/\n < 2 ^ 60:=by
 have h1:n<=70644:=by
  have:d=1\/d=2:=by omega
  have h2:mx 2=70644:=by decide
  have h1:mx 1=41:=by decide
  rcases this with rfl | rfl <;> omega
 have h2:=cj h1 h1;have h3:=cj h2 h1;have h4:70644*70644*70644 < 2 ^ 60:=by decide
 have h5:70644*70644 < 2 ^ 60:=by decide
 have h6:70644 < 2 ^ 60:=by decide
 exact⟨bU h3 h4,bU h2 h5,bU h1 h6⟩
noncomputable abbrev mt (t:T)(lo hi:Nat):T:= .tup [.str "many",t,.int (lo:Int),.int (hi:Int)]
theorem v4' :vE 4 (a :: b :: c :: d :: .vl t :: ρ)= .ok t:=rfl
theorem qo {t:T}{a x:Sl}{lo hi n:Nat}(h3:n*n*n < 2 ^ 60)(h2:n*n < 2 ^ 60)(h1:n < 2 ^ 60):
  zB (zL 2 (zb zC (ap1 Yl (ZV eqC (zb ixT (vE 0) (cE (.int 2))) (cE (.int 0)))) (zb Z6 (vE 4) (ap1 Yl (chE leC leC (zb ixT (vE 0) (cE (.int 2))) (cE (.int 1)) (zb ixT (vE 0) (cE (.int 3))))))))
  (zB (zL 2 (zb zC (vE 2) (zb Z6 (zb Z6 (vE 4) (vE 4)) (ap1 Yl (chE leC leC (zb ixT (vE 0) (cE (.int 2))) (cE (.int 2)) (zb ixT (vE 0) (cE (.int 3))))))))
  (zL 2 (zb zC (vE 2) (zb Z6 (zb Z6 (zb Z6 (vE 4) (vE 4)) (vE 4)) (ap1 Yl (ZV eqC (zb ixT (vE 0) (cE (.int 3))) (cE (.int 3))))))))
  [.vl (mt t lo hi),a,.vl (.int 1),x,.vl (.int (n:Int))]= .nx [.vl (mt t lo hi),a,.vl (.int ((iv (lo == 0)+n*iv (decide (lo<=1) && decide (1<=hi))+n*n*iv (decide (lo<=2) && decide (2<=hi))+n*n*n*iv (hi == 3):Nat):Int)),x,.vl (.int (n:Int))]:=by
 have le1:∀{p q r s:Sl},ap1 _ (chE leC leC _ _ _) [.vl (mt t lo hi),p,q,r,s]= .ok (.int ((iv (decide (lo<=1) && decide (1<=hi))):Int)):=λ{p q r s}=>z0c (by
  rw[gU uy gR];rw[show decide ((lo:Int)<=1)=decide _ from wq lo 1,show decide ((1:Int)<=(hi))=decide _ from wq 1 hi])
 have le2:∀{p q r s:Sl},ap1 _ (chE leC leC _ _ _) [.vl (mt t lo hi),p,q,r,s]= .ok (.int ((iv (decide (lo<=2) && decide (2<=hi))):Int)):=λ{p q r s}=>z0c (by
  rw[gU uy gR];rw[show decide ((lo:Int)<=2)=decide _ from wq lo 2,show decide ((2:Int)<=(hi))=decide _ from wq 2 hi])
 have eq0:∀{p q r s:Sl},ap1 _ (ZV eqC (zb ixT _ _) (cE _)) [.vl (mt t lo hi),p,q,r,s]= .ok _:=λ{p q r s}=>z0c (by
  rw[Zj,uy,bOk,zV,bOk,eqI,bOk,show ((lo:Int) == 0)=(lo == 0) from qk lo 0])
 have eq3:∀{p q r s:Sl},ap1 _ (ZV eqC (zb ixT _ _) (cE _)) [.vl (mt t lo hi),p,q,r,s]= .ok _:=λ{p q r s}=>z0c (by
  rw[Zj,gR,bOk,zV,bOk,eqI,bOk,show ((hi:Int) == 3)=(hi == 3) from qk hi 3])
 have a1:=zM (i:=2) (qm (eq0 (p:=a) (q:= .vl (.int 1)) (r:=x)) (jZ h1 v4' le1));have a1:zL 2 _ _= .nx [.vl _,a,.vl _,x,.vl _]:=a1;rw[zd a1];generalize iv _+n*iv _=m1;have a2:=zM (i:=2) (qm (v2 (t:= .int (m1)) (b:=a) (ρ:=[x,.vl _])) (jZ h2 (jZ h1 v4' v4') le2));rw[zd a2];generalize m1+n*n*iv _=m2;have a3:=zM (i:=2) (qm (v2 (t:= .int (m2)) (b:=a) (ρ:=[x,.vl _])) (jZ h3 (jZ h2 (jZ h1 v4' v4') v4') eq3));exact a3
theorem qp {cs:List T->R T}{d:Nat}(hd:d+1<=3)(k:Kd)(lo hi:Nat)(h:(Kd.many k lo hi).Ok (d+1))(H:∀k:Kd,k.Ok d->cs [k.t]= .ok (.int (k.all.length:Int))):zz (b_c (f_6 8) cs (en0 5 [(Kd.many k lo hi).t]))= .ok (.int ((Kd.many k lo hi).all.length:Int)):=by
 obtain⟨h1,h2,h3⟩:=h;have hd0:1<=d:=by
  cases d with
  | zero=>exact h3.elim
  | succ d=>omega
 obtain⟨c3,c2,c1⟩:=Xp (jp d k h3) hd hd0;rw[jl,Xm _ h1 h2];simp only[Kd.t];have hk:=H k h3;generalize k.all.length=n at*;generalize k.t=t at*;have e:zz (b_c (f_6 8) cs (en0 5 [mt t lo hi]))=zz (b_c _ cs [.vl _,.un,.un,.un,.un]):=rfl;have e1:zD inC (zb ixT (vE 0) (cE (.int 0))) (Zy (z9 (cE (.str "whole")) (z9 (cE (.str "pick")) (zj)))) [.vl (mt t lo hi),.un,.un,.un,.un]= .ok false:=by
  rfl
 have e2:ifE (zD eqC (zb ixT (vE 0) (cE (.int 0))) (cE (.str "row"))) (Z0 (ZZ (zb ixT (vE 0) (cE (.int 1)))) (zK 0) (Zl) (za 1 cs (z9 (vE 0) (zj))) 1 []) (ZD (zj)) [.vl (mt t lo hi),.un,.un,.un,.un]= .ok (.lst []):=by
  rfl
 have s1:([.vl (mt t lo hi),.un,.un,.un,.un]:En).set 1 (.vl (.lst []))=[.vl _,.vl _,.un,.un,.un]:=rfl;have s2:([.vl (mt t lo hi),.vl (.lst []),.un,.un,.un]:En).set 2 (.vl (.int 1))=[.vl _,.vl _,.vl _,.un,.un]:=rfl;have e3:jt (ZZ (vE 1)) (zK 3) (zL 2 (zb Z6 (vE 2) (vE 3))) [.vl (mt t lo hi),.vl (.lst []),.vl (.int 1),.un,.un]= .nx _:=rfl;have e4:zD eqC (zb ixT (vE 0) (cE (.int 0))) (cE (.str "many")) [.vl (mt t lo hi),.vl (.lst []),.vl (.int 1),.un,.un]= .ok true:=by
  rfl
 have e5:za 1 cs (z9 (zb ixT (vE 0) (cE (.int 1))) (zj)) [.vl (mt t lo hi),.vl (.lst []),.vl (.int 1),.un,.un]= .ok (.int (n)):=by
  rw[zW,JZ,bOk,hk]
 have s5:([.vl (mt t lo hi),.vl (.lst []),.vl (.int 1),.un,.un]:En).set 4 (.vl (.int (n)))=[.vl _,.vl _,.vl _,.un,.vl _]:=rfl;have e6:=qo (t:=t) (a:= .vl (.lst [])) (x:= .un) (lo:=lo) (hi:=hi) c3 c2 c1;rw[e,b_c,zd (zw e1),zd (zM e2),s1,zd (zM zV),s2,zd e3];have e7:∀(P:En->RS),ifS _ (zB _ P) nxS _=P _:=λP=>by
  rw[jN e4,zd (zM e5),s5]
 rw[zd (Eq.trans (e7 _) e6)];rfl
theorem qq:∀(d n:Nat),d<=n->d<=3->∀k:Kd,k.Ok d->S_c n 0 [k.t]= .ok (.int (k.all.length:Int))
 | 0,_,_,_,_,h=>h.elim
 | d+1,0,hn,_,_,_=>by omega
 | d+1,n+1,hn,hd,k,h=>by
  have H:=λk' hk' =>qq d n (by omega) (by omega) k' hk'
  cases k with
  | whole lo hi=>exact WN _ (vG d lo hi h) (x:="whole") (r:=[.int lo,.int hi]) (by simp only[Kd.t]) rfl
  | pick cs=>exact WN _ (vH d cs h) (x:="pick") (r:=[.tup (cs.map Wa)]) (by simp only[Kd.t]) rfl
  | row ks=>exact vI (by omega) ks h H
  | many k lo hi=>exact qp (by omega) k lo hi h H
theorem Ok.mono:∀(d:Nat) (k:Kd),k.Ok d->k.Ok (d+1)
 | 0,_,h=>h.elim
 | d+1,.whole _ _,h=>h
 | d+1,.pick _,h=>h
 | d+1,.row ks,h=>⟨h.1,h.2.1,λk hk=>Ok.mono d k (h.2.2 k hk)⟩
 | d+1,.many k _ _,h=>⟨h.1,h.2.1,Ok.mono d k h.2.2⟩
theorem Xq (j:Int):Z6 (.int 700) (.int j)= .ok (.int (700*j)):=uu _ _ (.inl ⟨by decide,by decide⟩)
theorem gW (ns:List Int)(d:Nat)(h1:1<=d)(h8:d<=8)(k:Int)(h0:0<=k):∃q:Kd,f_e 8 [scr ns,.int k,.int (d:Int)]= .ok q.t/\q.Ok d:=by
 obtain⟨t,ht,hi⟩:=uv ns d 8 h8 h1 k h0;obtain⟨q,rfl,hq⟩:=ux d t hi;exact⟨q,ht,hq⟩
abbrev smB:En->RS:=zB (ifS (zD leC (za 1 (f_c 8) (z9 (vE 3) (zj))) (vB 2)) (zF (vE 3)) (nxS))
  (zL 3 (za 3 (f_e 8) (z9 (vE 0) (z9 (zb zC (zb zC (vE 1) (cE (.int 500))) (zb Z6 (cE (.int 700)) (vE 4))) (z9 (cE (.int 2)) (zj))))))
abbrev en5 (ns:List Int)(a:Int)(m:Nat)(k:Kd)(x:Sl):En:=[.vl (scr ns),.vl (.int a),.vl (.int (m:Int)),.vl k.t,x]
theorem qr (hk:k.Ok 3):zD leC (za 1 (f_c 8) (z9 (vE 3) (zj))) (vB 2) (en5 ns a m k x)= .ok (decide (k.all.length<=m)):=by
 have e:f_c 8 _= .ok _:=qq 3 8 (by omega) (by omega) k hk
 rw[zN,zW,v3,bOk,e,bOk,w2,bOk,WF,wq]
theorem Xr (ns:List Int)(ha:0<=a)(hk:k.Ok 3)(j:Nat):(k.all.length<=m/\smB (en5 ns a m k (.vl (.int (0+(j:Int)))))= .rt k.t)\/∃k' :Kd,k'.Ok 3/\smB (en5 ns a m k (.vl (.int (0+(j:Int)))))= .nx (en5 ns a m k' (.vl (.int (0+(j:Int))))):=by
 by_cases h:k.all.length<=m
 ·refine .inl ⟨h, ?_⟩;refine zI ?_;rw[jN (by rw[qr hk,decide_eq_true h])]
  exact zy rfl
 ·obtain⟨q,hq,ho⟩:=gW ns 2 (by omega) (by omega) (a+500+700*(0+(j))) (by omega)
  refine .inr ⟨q,Ok.mono 2 q ho, ?_⟩;unfold smB;rw[zd (zw (by rw[qr hk,decide_eq_false h]))]
  have hq:f_e 8 [scr ns,.int _,.int 2]= .ok q.t:=hq;have e:za 3 (f_e 8) (z9 (vE 0) (z9 (zb zC (zb zC (vE 1) (cE (.int 500))) (zb Z6 (cE (.int 700)) (vE 4))) (z9 (cE (.int 2)) (zj)))) (en5 ns a m k (.vl (.int (0+(j)))))= .ok q.t:=by
   rw[Zn,v0,bOk,zt,zt,v1,bOk,zV,bOk,Z4,bOk,zt,zV,bOk,v4,bOk,Xq,bOk,Z4,bOk,zV,bOk,hq]
  rw[zM e];rfl
theorem gX {g:T->En->R En}(hg:g t ρ= .ok ρ1)(hb:fb ρ1= .rt r):ZC g fb (t :: ts) ρ= .rt r:=by
 rw[ZC,hg];dsimp only;rw[hb]
theorem qt (ns:List Int)(ha:0<=a):∀(js:List Nat) (k:Kd) (x:Sl),k.Ok 3->(∃k' :Kd,k'.Ok 3/\k'.all.length<=m/\ZC (zK 4) smB (js.map λ(j:Nat)=>T.int (0+(j:Int))) (en5 ns a m k x)= .rt k'.t)\/
  ∃(k' :Kd) (x' :Sl),k'.Ok 3/\ZC (zK 4) smB (js.map λ(j:Nat)=>T.int (0+(j:Int))) (en5 ns a m k x)= .nx (en5 ns a m k' x')
 | [],k,x,hk=> .inr ⟨k,x,hk,rfl⟩
 | j :: js,k,x,hk=>by
  have s3:zK 4 (T.int (0+(j))) (en5 ns a m k x)= .ok _:=rfl;rw[aL];rcases Xr ns ha hk j with ⟨h1,h2⟩ | ⟨k',h1,h2⟩
  ·exact .inl ⟨k,hk,h1,gX s3 h2⟩
  ·rw[jL s3 h2];exact qt ns ha js k' _ h1
theorem vJ (ns:List Int)(a:Int)(ha:0<=a)(m:Nat)(hm:4<=m):∃k:Kd,k.Ok 3/\k.all.length<=m/\gs [scr ns,.int a,.int (m:Int)]= .ok k.t:=by
 obtain⟨q,hq,ho⟩:=gW ns 3 (by omega) (by omega) a ha
 have hq:f_e 8 [scr ns,.int a,.int 3]= .ok q.t:=hq;have e:gs [scr ns,.int a,.int (m)]=zz (GP _ _ [.vl _,.vl _,.vl _,.un,.un]):=rfl;have e1:za 3 (f_e 8) (z9 (vE 0) (z9 (vE 1) (z9 (cE (.int 3)) (zj)))) [.vl (scr ns),.vl (.int a),.vl (.int (m)),.un,.un]= .ok q.t:=by
  rw[Zn,v0,bOk,v1,bOk,zV,bOk,hq]
 have s1:([.vl _,.vl _,.vl _,.un,.un]:En).set 3 _=en5 ns a m q .un:=rfl;rw[e,GP,zd (zM e1),s1];rcases qt ns ha _ q .un ho with ⟨k,h1,h2,h3⟩ | ⟨k,x,h1,h3⟩
 ·refine⟨k,h1,h2, ?_⟩;have e2:jt (Zu (cE (.int 3))) (zK 4) smB _= .rt k.t:=h3;rw[zI e2];rfl
 ·have e2:jt (Zu (cE (.int 3))) (zK 4) smB _= .nx _:=h3;rw[zd e2];have ec:zD leC _ _ (frz (en5 ns a m k x))= .ok _:=qr h1
  by_cases h:k.all.length<=m
  ·refine⟨k,h1,h, ?_⟩;rw[zy]
   ·rfl
   ·unfold ifE;rw[ec,decide_eq_true h];rfl
  ·refine⟨.whole (-1) 2,⟨by omega,by omega,by omega⟩,by exact hm, ?_⟩
   rw[zy]
   ·rfl
   ·unfold ifE;rw[ec,bOk,decide_eq_false h,if_neg aA];rfl
mutual
noncomputable def Kd.has:Kd->T->Bool
 | .whole lo hi=>λt=>inR lo hi t
 | .pick cs=>λt=>match t with | .str x=>cs.any λc=>c.1 == x | _=>false
 | .row ks=>λt=>match t with | .tup xs=>xs.length == ks.length && Kd.hass ks xs | _=>false
 | .many k lo hi=>λt=>match t with | .tup xs=>decide (lo<=xs.length) && decide (xs.length<=hi) && xs.all k.has | _=>false
noncomputable def Kd.hass:List Kd->List T->Bool
 | []=>λ_=>true
 | k :: ks=>λxs=>match xs with | []=>true | x :: xs=>k.has x && Kd.hass ks xs
end
noncomputable def yc:List (List T)->List T->Prop
 | [],[]=>True
 | l :: ls,x :: xs=>x∈l/\yc ls xs
 | _,_=>False
theorem JN:∀(ls made:List (List T)) (xs:List T),xs∈Zv made ls↔∃a∈made,∃b,yc ls b/\xs=a++b
 | [],made,xs=>by
  rw[Zv];constructor
  ·exact λh=>⟨xs,h,[],trivial,by simp⟩
  ·rintro⟨a,ha,b,hb,rfl⟩
   cases b with
   | nil=>simpa using ha
   | cons=>exact hb.elim
 | l :: ls,made,xs=>by
  rw[Zv,JN ls];constructor
  ·rintro⟨a',ha',b,hb,rfl⟩
   obtain⟨a,ha,hx⟩:=cQ.mp ha';obtain⟨x,hl,e⟩:=aO.mp hx;exact⟨a,ha,x :: b,⟨hl,hb⟩,by rw[← e];simp⟩
  ·rintro⟨a,ha,b,hb,rfl⟩
   cases b with
   | nil=>exact hb.elim
   | cons x b=>exact⟨a++[x],cQ.mpr ⟨a,ha,aO.mpr ⟨x,hb.1,rfl⟩⟩,b,hb.2,by simp⟩
theorem wZ (ls:List (List T))(t:T):t∈ym ls↔∃xs,yc ls xs/\t= .tup xs:=by
 rw[aO];constructor
 ·rintro⟨xs,h,rfl⟩
  obtain⟨a,ha,b,hb,rfl⟩:=(JN ls _ xs).mp h;rw[aN.mp ha];exact⟨b,hb,rfl⟩
 ·rintro⟨xs,h,rfl⟩
  exact⟨xs,(JN ls _ xs).mpr ⟨[],aN.mpr rfl,xs,h,rfl⟩,rfl⟩
theorem W0 (l:List T):∀(m:Nat) (xs:List T),yc (ai m l) xs↔xs.length=m/\∀x∈xs,x∈l
 | 0,[]=>by simp[yc]
 | 0,x :: xs=>by simp[yc]
 | m+1,[]=>by simp[yc,bS]
 | m+1,x :: xs=>by
  show x∈l/\yc _ xs↔_;rw[W0 l m xs];simp;constructor
  ·rintro⟨a,b,c⟩;exact⟨b,a,c⟩
  ·rintro⟨a,b,c⟩;exact⟨b,a,c⟩
theorem WO:∀(ks:List Kd),(∀k∈ks,∀x,x∈k.all↔k.has x=true)->∀xs,yc (ks.map Kd.all) xs↔(xs.length == ks.length && Kd.hass ks xs)=true
 | [],_,[]=>by simp[yc,Kd.hass]
 | [],_,x :: xs=>by simp[yc]
 | k :: ks,h,[]=>by simp[yc]
 | k :: ks,h,x :: xs=>by
  show x∈k.all/\yc _ xs↔_;rw[WO ks (λk' hk' =>h k' (ac _ hk')) xs,h k ak x];simp[Kd.hass];constructor
  ·rintro⟨a,b,c⟩;exact⟨b,a,c⟩
  ·rintro⟨a,b,c⟩;exact⟨b,a,c⟩
mutual
theorem W1:∀(k:Kd) (x:T),x∈k.all↔k.has x=true
 | .whole lo hi,x=>by
  rw[Kd.all,Kd.has,aO];constructor
  ·rintro⟨i,hi',rfl⟩
   rw[bo]at hi';simp[inR];omega
  ·intro h;obtain⟨i,rfl⟩:=Xk h;simp[inR]at h;exact⟨(i - lo).toNat,by rw[bo];omega,by congr 1;omega⟩
 | .pick cs,x=>by
  rw[Kd.all,Kd.has,aO];constructor
  ·rintro⟨c,hc,rfl⟩
   simp only[ig];exact⟨c,hc,by simp⟩
  ·intro h;dsimp only at h;split at h
   ·rw[ig]at h;obtain⟨c,hc,e⟩:=h;exact⟨c,hc,by rw[eq_of_beq e]⟩
   ·cases h
 | .row ks,x=>by
  rw[Kd.all,Kd.has,wZ,Kd.alls_map];have:=WO ks (Uc ks);constructor
  ·rintro⟨xs,h,rfl⟩
   exact(this xs).mp h
  ·intro h;dsimp only at h;split at h
   ·rename_i xs;exact⟨xs,(this xs).mpr h,rfl⟩
   ·cases h
 | .many k lo hi,x=>by
  rw[Kd.all,Kd.has,cQ];constructor
  ·rintro⟨i,hi',h⟩
   rw[wZ]at h;obtain⟨xs,h,rfl⟩:=h;rw[W0]at h;rw[bo]at hi';simp only[ae,decide_eq_true_eq,aS];exact⟨⟨by omega,by omega⟩,λy hy=>(W1 k y).mp (h.2 y hy)⟩
  ·intro h;dsimp only at h;split at h
   ·rename_i xs;simp only[ae,decide_eq_true_eq,aS]at h;refine⟨xs.length - lo,by rw[bo];omega, ?_⟩
    rw[wZ];exact⟨xs,(W0 _ _ _).mpr ⟨by omega,λy hy=>(W1 k y).mpr (h.2 y hy)⟩,rfl⟩
   ·cases h
theorem Uc:∀(ks:List Kd),∀k∈ks,∀x,x∈k.all↔k.has x=true
 | [],_,h=>nomatch h
 | k :: ks,k',h=>by
  rcases am.mp h with e | h
  ·intro x;rw[e];exact W1 k x
  ·exact Uc ks k' h
end
theorem Ud {α:Type}(p:α->Bool):∀qs:List α,u2 (qs.map λq=>T.bl (p q))=some (qs.all p)
 | []=>rfl
 | q :: qs=>by
  have e:u2 ((q :: qs).map λq=>T.bl (p q))=match u2 (qs.map λq=>T.bl _) with | some j=>some _ | none=>none:=rfl
  rw[e,Ud p qs];rfl
theorem vK (cs:List (Str×Int))(h:cs.length<=4):gw [(Kd.pick cs).t]= .ok (.lst (cs.map λc=>T.str c.1)):=by
 have e:gw [(Kd.pick cs).t]=zz (GW [.vl (.tup [.str "pick",.tup (cs.map Wa)])]):=by rfl
 have hb:(cs.map Wa).length<=bnd:=by rw[a9];exact aD h (by decide)
 have ec:zG _ _ (zb ixT (vE 0) (cE (.int 0))) 1 [] [.vl (.tup [.str "pick",.tup (cs.map Wa)])] _= .ok ((cs.map Wa).map λc=>match c with | .tup (w :: _)=>w | _=>c):=
  Zb _ hb λt ht=>by
   obtain⟨c,_,rfl⟩:=aO.mp ht;rfl
 rw[e,GW,zy]
 ·rfl
 ·show Z0 _ _ _ _ _ _ [.vl _]=_;show ((zG _ _ _ _ _ _ _).bind _)=_;rw[ec,bI];rfl
abbrev en2 (a b:T):En:=[.vl a,.vl b]
theorem k7 (h:(x == w)=false):ifS (zD eqC (zb ixT (vE 0) (cE (.int 0))) (cE (.str w))) f nxS (en2 (.tup (.str x :: r)) b)= .nx (en2 (.tup (.str x :: r)) b):=
 zw (by rw[cs0,h])
theorem cs0t:ifS (zD eqC (zb ixT (vE 0) (cE (.int 0))) (cE (.str x))) f nxS (en2 (.tup (.str x :: r)) b)=f (en2 (.tup (.str x :: r)) b):=
 jN (by rw[cs0,beq_self_eq_true])
theorem qu:∀(d:Nat) (k:Kd),k.Ok d->isK d k.t=true
 | 0,_,h=>h.elim
 | d+1,.whole lo hi,h=>by
  have e:isK (d+1) (Kd.whole lo hi).t=(decide (-20<=lo) && decide (lo<=hi) && decide (hi<=20)):=by rfl
  obtain⟨h1,h2,h3⟩:=h;rw[e];simp;omega
 | d+1,.pick cs,h=>by
  have e:isK (d+1) (Kd.pick cs).t=(decide (1<=(cs.map Wa).length) && decide ((cs.map Wa).length<=4) && (cs.map Wa).all zY && decide ((dd [] ((cs.map Wa).map ZT)).length=(cs.map Wa).length)):=by rfl
  obtain⟨h1,h2,h3,h4⟩:=h;have e1:(cs.map Wa).map ZT=cs.map (·.1):=by rw[bI];rfl
  have e2:=(wV _ []).mpr λk w hw=>by simpa using h4 k w hw
  rw[e,e1,e2,a9];simp only[ae,decide_eq_true_eq,aS];refine⟨⟨⟨h1,h2⟩,λc hc=> ?_⟩,by simp⟩
  obtain⟨p,hp,rfl⟩:=aO.mp hc;obtain⟨a,b,c⟩:=h3 p hp;show (Zm _ && decide _ && decide _)=true;rw[a];simp;omega
 | d+1,.row ks,h=>by
  have e:isK (d+1) (Kd.row ks).t=(decide (1<=(ks.map Kd.t).length) && decide ((ks.map Kd.t).length<=3) && (ks.map Kd.t).all (isK d)):=by rw[Kd.t,Kd.ts_map];rfl
  obtain⟨h1,h2,h3⟩:=h;rw[e,a9];simp only[ae,decide_eq_true_eq,aS];refine⟨⟨h1,h2⟩,λc hc=> ?_⟩;obtain⟨k,hk,rfl⟩:=aO.mp hc;exact qu d k (h3 k hk)
 | d+1,.many k lo hi,h=>by
  have e:isK (d+1) (Kd.many k lo hi).t=((decide ((0:Int)<=(lo:Int)) && decide ((lo:Int)<=(hi)) && decide ((hi:Int)<=3)) && isK d k.t):=by rfl
  obtain⟨h1,h2,h3⟩:=h;rw[e,qu d k h3];simp;omega
theorem Ue:∀(ks:List Kd) (xs:List T),xs.length=ks.length->Kd.hass ks xs=true->∀x∈xs,∃k∈ks,k.has x=true
 | [],[],_,_,_,h=>nomatch h
 | k :: ks,[],h,_,_,_=>by cases h
 | [],x :: xs,h,_,_,_=>by cases h
 | k :: ks,x :: xs,hl,h,y,hy=>by
  rw[Kd.hass]at h;rw[ae]at h;rcases am.mp hy with rfl | hy
  ·exact⟨k,ak,h.1⟩
  ·obtain⟨k',hk,hh⟩:=Ue ks xs (by simpa using hl) h.2 y hy
   exact⟨k',ac _ hk,hh⟩
theorem Uf {α β:Type}(f:α->List β)(m:Nat):∀(as:List α) (i j:Nat),(∀a∈as,(f a).length=m)->j < m->(as.flatMap f)[i*m+j]? =(as[i]?).bind λa=>(f a)[j]?
 | [],i,j,_,_=>by simp
 | a :: as,0,j,h,hj=>by
  have ha:=h a ak;rw[bR,Nat.zero_mul,f6,az (by omega)]
  rfl
 | a :: as,i+1,j,h,hj=>by
  have ha:=h a ak;have e:(i+1)*m=i*m+m:=by rw[io,c8]
  rw[bR,aq (by omega),ha,e,show i*m+m+j - m=i*m+j by omega,Uf f m as i j (λb hb=>h b (ac _ hb)) hj]
  rfl
theorem WP {α β:Type}(f:α->List β):∀(as:List α) (q j:Nat) (a:α),as[q]? =some a->j < (f a).length->(as.flatMap f)[((as.take q).map λb=>(f b).length).sum+j]? =(f a)[j]?
 | [],q,j,a,h,_=>by simp at h
 | b :: as,0,j,a,h,hj=>by
  have e:=by simpa using h
  subst e;rw[bR,List.take_zero,cP,List.sum_nil,f6,az hj]
 | b :: as,q+1,j,a,h,hj=>by
  rw[bR,List.take_succ_cons,aL,du,Nat.add_assoc,aq (by omega),eO]
  exact WP f as q j a (by simpa using h) hj
theorem wt:∀(ls made:List (List T)) (l:List T),Zv made (ls++[l])=(Zv made ls).flatMap λa=>l.map λx=>a++[x]
 | [],made,l=>rfl
 | _ :: ls,made,l=>by
  rw[dr,Zv,Zv,wt ls]
theorem vL {ls:List (List T)}(h:(Zv [[]] ls)[i]? =some xs)(hx:l[j]? =some x):(Zv [[]] (ls++[l]))[i*l.length+j]? =some (xs++[x]):=by
 have hj:=(aw.mp hx).1;rw[wt,Uf _ _ _ i j (λa _=>a9 ..) hj,h];show (l.map λx=>xs++[x])[j]? =_;rw[av,hx];rfl
theorem Ug:∀(ns:List Nat) (n:Nat),prd (ns++[n])=prd ns*n
 | [],n=>by simp[prd]
 | m :: ns,n=>by rw[dr,prd,prd,Ug ns n,cF]
theorem wu (ls:List (List T)):(Zv [[]] ls).length=prd (ls.map (·.length)):=by rw[JM,aC,c8]
theorem Uh {α:Type}{xs:List α}(h:i < xs.length):∃x,xs[i]? =some x:=⟨_,ag h⟩
theorem gY {xs:List T}{j:Nat}{v:T}(h:xs[j]? =some v):atT xs (j:Int)= .ok v:=by unfold atT;rw[ZX h]
noncomputable def shr (c lo q:Nat):Nat:=((a_ q).map λi=>c ^ (lo+i)).sum
theorem vM (c lo q:Nat):shr c lo (q+1)=shr c lo q+c ^ (lo+q):=by
 unfold shr;rw[iz,bn];simp
theorem Xs (hq:q < hi+1 - lo)(h:(Zv [[]] (ai (lo+q) k.all))[j]? =some xs):(Kd.many k lo hi).all[shr k.all.length lo q+j]? =some (.tup xs):=by
 have hj:=(aw.mp h).1;have e:=WP (λi=>ym (ai _ _)) _ q j q (by rw[cU hq]) (by rw[a9];exact hj)
 have e2:(((a_ (hi+1 - lo)).take q).map λb=>(ym (ai (lo+b) k.all)).length).sum=shr k.all.length lo q:=by
  rw[List.take_range,iA (eT hq),shr];congr 1
  refine cV λi _=> ?_;rw[Jm,bg,jg]
 rw[e2]at e;rw[Kd.all,e];rw[av,h];rfl
abbrev cpB (c:List T->R T):En->RS:=zL 1 (zb Z6 (vE 1) (za 1 c (z9 (vE 2) (zj))))
theorem qw:∀(ks:List Kd) (m:Nat) (x:Sl),(∀k∈ks,c [k.t]= .ok (.int (k.all.length:Int))/\1<=k.all.length)->m*prd (ks.map λk=>k.all.length) < 2 ^ 60->
  ∃y,ZC (zK 2) (cpB c) (ks.map Kd.t) [S,.vl (.int (m:Int)),x]= .nx [S,.vl (.int ((m*prd (ks.map λk=>k.all.length):Nat):Int)),y]
 | [],m,x,_,_=>⟨x,by simp[ZC,prd]⟩
 | k :: ks,m,x,H,hb=>by
  obtain⟨hc,h1⟩:=H k ak;have hp:=JL λn hn=>by
   obtain⟨k',hk',rfl⟩:=aO.mp hn;exact(H k' (ac _ hk')).2
  rw[aL,prd,← cF]at hb;have hm:m < 2 ^ 60:=by
   have h2:m<=m*k.all.length:=ci _ h1;have h3:m*k.all.length<=m*k.all.length*prd (ks.map λk=>k.all.length):=ci _ hp;omega
  have eb:cpB c [S,.vl (.int (m)),.vl k.t]= .nx [S,.vl (.int ((m*k.all.length:Nat))),.vl k.t]:=by
   rw[cpB,zM]
   ·rfl
   ·rw[zt,v1,bOk,zW,v2,bOk,hc,bOk,qj hm]
  obtain⟨y,ih⟩:=qw (S:=S) ks _ _ (λk' hk' =>H k' (ac _ hk')) hb;refine⟨y, ?_⟩;rw[aL,jL rfl eb,ih,aL,prd,cF]
theorem JO (ks:List Kd)(hs:JC s= .ok (ks.map Kd.t))(H:∀k∈ks,c [k.t]= .ok (.int (k.all.length:Int))/\1<=k.all.length)(hb:prd (ks.map λk=>k.all.length) < 2 ^ 60):
  zz (b_y c (en0 3 [s]))= .ok (.int ((prd (ks.map λk=>k.all.length):Nat):Int)):=by
 obtain⟨y,e⟩:=qw ks 1 .un H (by rw[c8];exact hb)
 rw[c8]at e;have e0:zL 1 (cE (.int 1)) [.vl s,.un,.un]= .nx [.vl s,.vl _,.un]:=rfl;have e1:jt (ZZ (vE 0)) (zK 2) (cpB c) [.vl s,.vl (.int 1),.un]= .nx [.vl s,.vl (.int ((prd (ks.map λk=>k.all.length)):Int)),y]:=by
  show ((JC s).s λts=>ZC _ _ ts _)=_;rw[hs];exact e
 show zz (b_y c [.vl s,.un,.un])=_;rw[b_y,zd e0,zd e1];rfl
theorem qx {α:Type}(g:α->Nat):∀l:List α,ZI (l.map λa=>T.int ((g a:Nat):Int))=some (l.map λa=>((g a:Nat):Int))
 | []=>rfl
 | a :: l=>by
  show (match ZI (l.map λa=>T.int _) with | some l=>some _ | none=>none)=_
  rw[qx g l];rfl
theorem Ui {α:Type}(g:α->Nat):∀l:List α,(l.map λa=>((g a:Nat):Int)).sum=(((l.map g).sum:Nat):Int)
 | []=>rfl
 | a :: l=>by rw[aL,du,aL,du,Ui g l];omega
theorem gZ {α:Type}(g:α->Nat)(l:List α):xT (.lst (l.map λa=>T.int ((g a:Nat):Int)))= .ok (.int (((l.map g).sum:Nat):Int)):=by
 unfold xT;dsimp only;rw[qx,← Ui]
theorem jP (k:Kd)(m:Nat):((ai m k).map λk=>k.all.length)=ai m k.all.length:=by rw[bg]
theorem qy (h4:lo+q<=4)(H:∀m,m<=3->c [.lst (ai m t)]= .ok (.int ((n ^ m:Nat):Int))):
  zz (b_p c (en0 2 [mt t lo hi,.int ((lo+q:Nat):Int)]))= .ok (.int ((shr n lo q:Nat):Int)):=by
 have er:Je (zb ixT (vE 0) (cE (.int 2))) (vE 1) [.vl (mt t lo hi),.vl (.int ((lo+q:Nat)))]= .ok (rng (lo) q):=by
  rw[uz rfl rfl ⟨by omega,by omega,by omega,by omega⟩]
  congr 2;omega
 have ec:zG _ _ (za 1 c (z9 (zb _ _ _) _)) 1 [0] [.vl _,.vl (.int ((lo+q:Nat)))] _= .ok ((rng (lo) q).map λx=>match x with | .int i=>T.int ((n ^ i.toNat:Nat)) | y=>y):=
  Zb _ (by unfold rng;rw[a9,bG];have:bnd=16777216:=rfl;omega) λx hx=>by
   obtain⟨i,hi',rfl⟩:=aO.mp hx;have hi2:=bo.mp hi';show za 1 c _ [.vl _,.vl _]=_;have e1:zb Z6 (ZD (z9 (zb ixT (vE 1) (cE (.int 1))) (zj))) (vE 0) [.vl (.int ((lo)+(i))),.vl (mt t lo hi)]= .ok (.lst (ai (lo+i) t)):=by
    have e0:zb ixT (vE 1) (cE (.int 1)) [.vl (.int ((lo)+(i))),.vl (mt t lo hi)]= .ok t:=rfl;rw[zt,k6 e0,bOk,v0,bOk,show (lo:Int)+(i)=((lo+i:Nat)) by omega,qg (by omega),Jn]
   rw[zW,e1,bOk,H _ (by omega)]
   show _=R.ok (T.int _);rw[show ((lo:Int)+(i)).toNat=lo+i by omega]
 rw[b_p,zy]
 ·rfl
 ·show ap1 _ _ [.vl _,.vl _]=_;rw[j3,Z2,er,bOk,ec,bOk,bOk];have e2:((rng (lo) q).map λx=>match x with | .int i=>T.int ((n ^ i.toNat:Nat)) | y=>y)=(a_ q).map λi=>T.int ((n ^ (lo+i):Nat)):=by
   unfold rng;rw[bI];refine cV λi _=> ?_;show T.int _=_;rw[show ((lo:Int)+(i)).toNat=lo+i by omega]
  rw[e2,gZ (λi=>n ^ (lo+i))];rfl
theorem Vv (h:n<=mx d)(hd:d<=2)(hm:m<=3):n ^ m < 2 ^ 60:=by
 have h2:mx d<=70644:=by
  have:d=0\/d=1\/d=2:=by omega
  rcases this with rfl | rfl | rfl <;> decide
 have h3:=aD (Nat.pow_le_pow_left (aD h h2) m) (cL (by omega) hm)
 omega
theorem Uj:∀(d n:Nat),3*d<=n->d<=3->∀k:Kd,k.Ok d->S_2 n 0 [k.t]= .ok (.int (k.all.length:Int))
 | 0,_,_,_,_,h=>h.elim
 | d+1,n+3,hn,hd,k,h=>by
  have ih:=Uj d n (by omega) (by omega)
  have ih1:=Uj d (n+1) (by omega) (by omega)
  have e:S_2 (n+3) 0 [k.t]=zz (b_2 _ _ [.vl k.t]):=rfl;have e2:∀s u,S_2 (n+2) 2 [s,u]=zz _:=λs u=>rfl;rw[e,b_2];cases k with
  | whole lo hi=>
   obtain⟨h1,h2,h3⟩:=h;rw[jK];simp only[Kd.t];rw[zI (t:= .int _)]
   ·rfl
   ·rw[jN (by rw[cs0,beq_self_eq_true]),zy]
    show R.ok _=_;congr 2;omega
  | pick cs=>
   rw[wY];simp only[Kd.t];rw[zd (zw (by rfl)),zI]
   ·rfl
   ·rw[jN (by rw[cs0,beq_self_eq_true]),zy]
    show R.ok _=_;rw[a9]
  | row ks=>
   obtain⟨h1,h2,h3⟩:=h;rw[jY];simp only[Kd.t];rw[Kd.ts_map,zd (zw (by rfl)),zd (zw (by rfl)),zI]
   ·rfl
   ·rw[jN (by rw[cs0,beq_self_eq_true]),zy]
    have hl:=jp (d+1) (.row ks) ⟨h1,h2,h3⟩;rw[jY]at hl;exact JO ks rfl (λk hk=>⟨ih1 k (h3 k hk),ZN d k (h3 k hk)⟩) (gT hl hd)
  | many k lo hi=>
   obtain⟨h1,h2,h3⟩:=h;rw[jl];simp only[Kd.t];rw[zd (zw (by rfl)),zd (zw (by rfl)),zd (zw (by rfl)),zy]
   ·rfl
   ·show za 2 _ _ [.vl _]=_;rw[Z7,v0,bOk,qe gR,bOk,e2,show (hi:Int)+1=((lo+(hi+1 - lo):Nat)) by omega]
    refine qy (by omega) λm hm=> ?_
    have hp:prd ((ai m k).map λk=>k.all.length)=k.all.length ^ m:=by rw[jP,jg]
    rw[← hp];refine JO _ (by rw[bg];rfl) (λk' hk' => ?_) (by rw[hp];exact Vv (jp d k h3) (by omega) hm)
    rw[cb hk'];exact⟨ih k h3,ZN d k h3⟩
theorem jH {d:Nat}(hd:d<=3){k:Kd}(h:k.Ok d):f_2 20 [k.t]= .ok (.int (k.all.length:Int)):=Uj d 20 (by omega) hd k h
theorem Uk {d:Nat}(hd:d<=2){k:Kd}(h:k.Ok d){lo hi q:Nat}(h4:lo+q<=4):f_p 20 [mt k.t lo hi,.int ((lo+q:Nat):Int)]= .ok (.int ((shr k.all.length lo q:Nat):Int)):=by
 have e:f_p 20 [mt k.t lo hi,.int ((lo+q:Nat))]=zz (b_p (S_2 19 1) (en0 2 [mt k.t lo hi,.int ((lo+q):Int)])):=rfl;rw[e];refine qy h4 λm hm=> ?_;have hp:prd ((ai m k).map λk=>k.all.length)=k.all.length ^ m:=by rw[jP,jg]
 rw[← hp];refine JO _ (by rw[bg];rfl) (λk' hk' => ?_) (by rw[hp];exact Vv (jp d k h) hd hm)
 rw[cb hk'];exact⟨Uj d 18 (by omega) (by omega) k h,ZN d k h⟩
abbrev paB (cc cw:List T->R T):En->RS:=zB (zL 5 (za 1 cc (z9 (vE 4) (zj))))
  (zB (QN 2 (za 2 cw (z9 (vE 4) (z9 (zb jR (vE 3) (vE 5)) (zj)))))
  (zL 3 (zb wG (vE 3) (vE 5))))
structure AtOk (cc cw:List T->R T) (k:Kd):Prop where
 cnt:cc [k.t]= .ok (.int (k.all.length:Int))
 at_:∀(i:Nat) x,k.all[i]? =some x->cw [k.t,.int (i:Int)]= .ok x
 pos:1<=k.all.length
 le:k.all.length < 1000000
theorem v5' :vE 5 (a :: b :: c :: d :: e :: .vl t :: ρ)= .ok t:=rfl
theorem Vw {n c:Nat}(h:1<=c):jR (.int (n:Int)) (.int (c:Int))= .ok (.int ((n % c:Nat):Int)):=by
 unfold jR;dsimp only;rw[if_pos (by omega)];rfl
theorem Xt {n c:Nat}(h:1<=c)(h' :c < 1000000):wG (.int (n:Int)) (.int (c:Int))= .ok (.int ((n / c:Nat):Int)):=by
 unfold wG;dsimp only;rw[if_pos (by omega)];rfl
theorem G1 (hi:ρ[i]? =some (.ow ts))(hl:ts.length < bnd)(h:f ρ= .ok t):QN i f ρ= .nx (ρ.set i (.ow (ts++[t]))):=by
 unfold QN;rw[hi];dsimp only;rw[h,ZS,if_pos hl]
theorem qz {cc cw:List T->R T}{S N:Sl}:∀(rs:List Kd) (acc:List T) (n:Nat) (x y:Sl),(∀k∈rs,AtOk cc cw k)->n < prd (rs.map λk=>k.all.length)->acc.length+rs.length<=1000->
  ∃xs r x' y',(Zv [[]] (rs.reverse.map Kd.all))[n]? =some xs/\ZC (zK 4) (paB cc cw) (rs.map Kd.t) [S,N,.ow acc,.vl (.int (n:Int)),x,y]= .nx [S,N,.ow (acc++xs.reverse),r,x',y']
 | [],acc,n,x,y,_,hn,_=>⟨[],.vl (.int (n)),x,y,by
   have:=by simp[prd]at hn;exact hn
   subst this;rfl,by simp[ZC]⟩
 | k :: rs,acc,n,x,y,H,hn,hl=>by
  obtain⟨hc,hw,h1,hle⟩:=H k ak;rw[af]at hl;have hb:bnd=16777216:=rfl;have hmod:n % k.all.length < k.all.length:=Nat.mod_lt _ h1;obtain⟨v,hv⟩:=Uh hmod;have hdiv:=Nat.div_lt_of_lt_mul hn;obtain⟨xs,r,x',y',e1,e2⟩:=qz rs (acc++[v]) _ _ _ (λk' hk' =>H k' (ac _ hk')) hdiv (by rw[ao,aC];omega)
  have b1:zL 5 (za 1 cc (z9 (vE 4) (zj))) [S,N,.ow acc,.vl (.int (n)),.vl k.t,y]= .nx [S,N,.ow acc,.vl (.int (n)),.vl k.t,.vl (.int (k.all.length))]:=by
   rw[zM]
   ·rfl
   ·rw[zW,v4,bOk,hc]
  have b2:QN 2 (za 2 cw (z9 (vE 4) (z9 (zb jR (vE 3) (vE 5)) (zj)))) [S,N,.ow acc,.vl (.int (n)),.vl k.t,.vl (.int (k.all.length))]= .nx [S,N,.ow (acc++[v]),.vl (.int (n)),.vl k.t,.vl (.int (k.all.length))]:=by
   rw[G1 rfl (by omega)]
   ·rfl
   ·rw[Z7,v4,bOk,zt,v3,bOk,v5',bOk,Vw h1,bOk,hw _ v hv]
  have b3:zL 3 (zb wG (vE 3) (vE 5)) [S,N,.ow (acc++[v]),.vl (.int (n)),.vl k.t,.vl (.int (k.all.length))]= .nx [S,N,.ow (acc++[v]),.vl (.int ((n / k.all.length:Nat))),.vl k.t,.vl (.int (k.all.length))]:=by
   rw[zM]
   ·rfl
   ·rw[zt,v3,bOk,v5',bOk,Xt h1 hle]
  have eb:paB cc cw [S,N,.ow acc,.vl (.int (n)),.vl k.t,y]= .nx [S,N,.ow (acc++[v]),.vl (.int ((n / k.all.length:Nat))),.vl k.t,.vl (.int (k.all.length))]:=by
   rw[paB,zd b1,zd b2,b3]
  refine⟨xs++[v],r,x',y', ?_, ?_⟩
  ·have:=vL e1 hv;rw[cO,Nat.div_add_mod]at this;rw[aR,bn];exact this
  ·rw[aL,jL rfl eb,e2];simp
theorem qA:∀ns:List Nat,prd ns.reverse=prd ns
 | []=>rfl
 | n :: ns=>by rw[aR,Ug,qA ns,prd,cO]
theorem JP {cc cw:List T->R T}{s:T}(ks:List Kd)(hs:wO s= .ok (ks.map Kd.t))(hl:ks.length<=3)(H:∀k∈ks,AtOk cc cw k){n:Nat}{xs:List T}(hx:(Zv [[]] (ks.map Kd.all))[n]? =some xs):
  zz (gz cc cw (en0 6 [s,.int (n:Int)]))= .ok (.tup xs):=by
 have hn:=(aw.mp hx).1;rw[wu,bI]at hn;have hr:(ks.reverse.map λk=>k.all.length)=(ks.map λk=>k.all.length).reverse:=by rw[ii]
 obtain⟨ys,r,x',y',e1,e2⟩:=qz _ [] n .un .un (λk hk=>H k (ij.mp hk)) (by rw[hr,qA];exact hn) (by rw[aG,bC];omega)
 rw[fD,hx]at e1;cases e1;have e0:yk 2 (zj) [.vl s,.vl (.int (n)),.un,.un,.un,.un]= .nx [.vl s,.vl _,.ow [],.un,.un,.un]:=rfl;have e3:zL 3 (vE 1) [.vl s,.vl (.int (n)),.ow [],.un,.un,.un]= .nx [.vl s,.vl _,.ow [],.vl _,.un,.un]:=rfl;have e4:jt (z1i (vE 0)) (zK 4) (paB cc cw) [.vl s,.vl (.int (n)),.ow [],.vl (.int (n)),.un,.un]= .nx [.vl s,.vl (.int (n)),.ow xs.reverse,r,x',y']:=by
  show (((wO s).bind λxs=>R.ok _).s λts=>ZC _ _ ts _)=_;rw[hs,bOk,← ii];exact e2
 have hlen:xs.reverse.length<=bnd:=by
  have:∀(ls made:List _) (m:Nat),(∀a∈made,a.length<=m)->∀a∈Zv made ls,a.length<=m+ls.length:=by
   intro ls
   induction ls with
   | nil=>intro made m h a ha;exact h a ha
   | cons l ls ih=>
    intro made m h a ha;have:=ih (made.flatMap λa=>l.map λx=>a++[x]) (m+1) (λb hb=>by
     obtain⟨c,hc,hb⟩:=cQ.mp hb;obtain⟨z,_,rfl⟩:=aO.mp hb;have:=h c hc;rw[ao,aC];omega) a ha
    rw[af];omega
  have h1:=this _ _ 0 (λa ha=>by rw[aN.mp ha];exact aj _) xs (fu hx)
  rw[a9]at h1;rw[aG];have hb:bnd=16777216:=rfl;omega
 show zz (gz cc cw [.vl s,.vl _,.un,.un,.un,.un])=_;rw[gz,zd e0,zd e3,zd e4,zy]
 ·rfl
 ·show vh (.lst _)=_;unfold vh;dsimp only;rw[if_pos hlen,fD]
abbrev mtT:En->R Bool:=zD leC (za 2 (f_p 20) (z9 (vE 0) (z9 (zb zC (vE 2) (cE (.int 1))) (zj)))) (vB 1)
abbrev mtB:En->RS:=zL 2 (zb zC (vE 2) (cE (.int 1)))
theorem w1n:vB 1 (a :: .vl t :: ρ)= .ok t:=rfl
theorem qB {d:Nat}(hd:d<=2){k:Kd}(h:k.Ok d){lo hi n:Nat}(h1:lo<=hi)(h3:hi<=3)(hn:n < shr k.all.length lo (hi+1 - lo)):∀(f q:Nat),q<=hi - lo->hi - lo - q < f->shr k.all.length lo q<=n->
  ∃q',q' <=hi - lo/\shr k.all.length lo q' <=n/\n < shr k.all.length lo (q' +1)/\jo mtT mtB f [.vl (mt k.t lo hi),.vl (.int (n:Int)),.vl (.int ((lo+q:Nat):Int))]= .nx [.vl (mt k.t lo hi),.vl (.int (n:Int)),.vl (.int ((lo+q' :Nat):Int))]
 | 0,q,_,hf,_=>by omega
 | f+1,q,hq,hf,hs=>by
  have et:mtT [.vl (mt k.t lo hi),.vl (.int (n)),.vl (.int ((lo+q:Nat)))]= .ok (decide (shr k.all.length lo (q+1)<=n)):=by
   rw[mtT,zN,Z7,v0,bOk,qe v2,bOk,show ((lo+q:Nat):Int)+1=((lo+(q+1):Nat)) by omega,Uk hd h (by omega),bOk,w1n,bOk,WF,wq]
  have eu:jo mtT mtB (f+1) [.vl (mt k.t lo hi),.vl (.int (n)),.vl (.int ((lo+q:Nat)))]=(mtT _).s λk' =>if k' =true then match mtB [.vl _,.vl _,.vl (.int _)] with
    | .nx ρ2=>jo mtT mtB f ρ2
    | .ct ρ2=>jo mtT mtB f ρ2
    | .bk ρ2=> .nx ρ2
    | r=>r
   else .nx _:=rfl
  rw[eu,et,ZS]
  by_cases hc:shr k.all.length lo (q+1)<=n
  ·rw[if_pos (decide_eq_true hc)];have hq2:q+1<=hi - lo:=by
    rcases Nat.lt_or_ge q _ with z | z
    ·exact z
    ·have:q=hi - lo:=by omega
     rw[this,show hi - lo+1=hi+1 - lo by omega]at hc
     omega
   have eb:mtB [.vl (mt k.t lo hi),.vl (.int (n)),.vl (.int ((lo+q:Nat)))]= .nx [.vl (mt k.t lo hi),.vl (.int (n)),.vl (.int ((lo+(q+1):Nat)))]:=by
    rw[mtB,zM]
    ·rfl
    ·rw[qe v2,show ((lo+q:Nat):Int)+1=((lo+(q+1):Nat)) by omega]
   exact qB hd h h1 h3 hn f _ hq2 (by omega) hc
  ·rw[if_neg (by simpa using hc)]
   exact⟨q,hq,hs,by omega,rfl⟩
theorem G2 {i j:Nat}(h:j<=i):ZY (.int (i:Int)) (.int (j:Int))= .ok (.int ((i - j:Nat):Int)):=by
 rw[Zg];congr 2;omega
theorem yd {d:Nat}(hd:d<=2){k:Kd}(h:k.Ok d){cp:List T->R T}{lo hi n:Nat}(h1:lo<=hi)(h3:hi<=3)(hn:n < shr k.all.length lo (hi+1 - lo))
  (H:∀(m:Nat),m<=3->∀(j:Nat) (xs:List T),(Zv [[]] (ai m k.all))[j]? =some xs->cp [.lst (ai m k.t),.int (j:Int)]= .ok (.tup xs)):
  ∃x,(Kd.many k lo hi).all[n]? =some x/\zz (gy (f_p 20) cp (en0 3 [mt k.t lo hi,.int (n:Int)]))= .ok x:=by
 obtain⟨q,hq,hs,hs',e⟩:=qB hd h h1 h3 hn 8 0 (by omega) (by omega) (by unfold shr;simp)
 rw[vM]at hs';have hj:n - shr k.all.length lo q < (Zv [[]] (ai (lo+q) k.all)).length:=by
  rw[wu,bg,jg];omega
 obtain⟨xs,hx⟩:=Uh hj;have ha:=Xs (hi:=hi) (by omega) hx
 rw[show shr _ lo q+(n - shr _ lo q)=n by omega]at ha
 refine⟨_,ha, ?_⟩;have e0:zL 2 (zb ixT (vE 0) (cE (.int 2))) [.vl (mt k.t lo hi),.vl (.int (n:Int)),.un]= .nx [.vl _,.vl _,.vl (.int ((lo+0:Nat)))]:=rfl;show zz (gy _ cp [.vl _,.vl _,.un])=_;rw[gy,zd e0,zd e,zy]
 ·rfl
 ·show za 2 cp _ [.vl _,.vl _,.vl _]=_;have em:zb Z6 (ZD (z9 (zb ixT (vE 0) (cE (.int 1))) (zj))) (vE 2) [.vl (mt k.t lo hi),.vl (.int (n)),.vl (.int ((lo+q:Nat)))]= .ok (.lst (ai (lo+q) k.t)):=by
   rw[zt,k6 JZ,bOk,v2,bOk,qg (by omega),Jn]
  rw[Z7,em,bOk,zt,v1,bOk,Z7,v0,bOk,v2,bOk,Uk hd h (by omega),bOk,G2 hs,bOk,H _ (by omega) _ xs hx]
theorem qC {d:Nat}(hd:d<=2){k:Kd}(h:k.Ok d):k.all.length < 1000000:=by
 have h1:=jp d k h;have h2:mx d<=70644:=by
  have:d=0\/d=1\/d=2:=by omega
  rcases this with rfl | rfl | rfl <;> decide
 omega
theorem jz:∀(d n:Nat),3*d<=n->d<=3->∀k:Kd,k.Ok d->∀(i:Nat) (x:T),k.all[i]? =some x->S_d n 0 [k.t,.int (i:Int)]= .ok x
 | 0,_,_,_,_,h=>h.elim
 | d+1,n+3,hn,hd,k,h=>by
  intro i x hx;have ih:=jz d n (by omega) (by omega)
  have ih1:=jz d (n+1) (by omega) (by omega)
  have e:S_d (n+3) 0 [k.t,.int (i:Int)]=zz (b_d gw _ _ (en2 k.t (.int (i:Int)))):=rfl;have hi' :=(aw.mp hx).1;rw[e,b_d];cases k with
  | whole lo hi=>
   rw[Kd.all,av]at hx;rw[jK]at hi';rw[cU hi']at hx;cases hx;rw[zI]
   ·rfl
   ·rfl
  | pick cs=>
   have hw:=vK cs h.2.1;simp only[Kd.t]at hw ⊢;rw[zd (k7 (by decide)),zI]
   ·rfl
   ·rw[cs0t,zy];show zb ixT _ _ (en2 _ _)=_;rw[zt,zW,v0,bOk,hw,v1];exact gY hx
  | row ks=>
   obtain⟨h1,h2,h3⟩:=h;rw[Kd.all,Kd.alls_map,av]at hx;cases hr:(Zv _ _)[i]? with
   | none=>rw[hr]at hx;cases hx
   | some xs=>
    rw[hr]at hx;cases hx;simp only[Kd.t];rw[Kd.ts_map,zd (k7 (by decide)),zd (k7 (by decide)),zI]
    ·rfl
    ·rw[cs0t,zy];refine JP ks rfl h2 (λk hk=>⟨jH (by omega) (h3 k hk),ih1 k (h3 k hk),ZN d k (h3 k hk),qC (by omega) (h3 k hk)⟩) hr
  | many k lo hi=>
   obtain⟨h1,h2,h3⟩:=h;rw[jl]at hi';obtain⟨x',hx',hv⟩:=yd (cp:=S_d (n+1) 2) (by omega) h3 h1 h2 hi' (λm hm j xs hr=>by
    refine JP _ (by rw[bg];rfl) (by rw[aQ];exact hm) (λk' hk' => ?_) (by rw[bg];exact hr)
    rw[cb hk'];exact⟨jH (by omega) h3,ih k h3,ZN d k h3,qC (by omega) h3⟩)
   rw[hx]at hx';cases hx';simp only[Kd.t];rw[zd (k7 (by decide)),zd (k7 (by decide)),zd (k7 (by decide)),zy]
   ·rfl
   ·show za 2 _ _ (en2 _ _)=_;rw[Z7,v0,bOk,v1,bOk];exact hv
theorem G4 {k:Kd}(h:k.Ok 3){i:Nat}{x:T}(hx:k.all[i]? =some x):f_d 20 [k.t,.int (i:Int)]= .ok x:=jz 3 20 (by omega) (by omega) k h i x hx
noncomputable def Pl:Nat->T->Prop
 | 0,_=>False
 | n+1,.tup xs=>∀x∈xs,Pl n x
 | n+1,.lst xs=>∀x∈xs,Pl n x
 | _+1,.fz _=>False
 | _+1,_=>True
theorem Jo {f:T->T->Option Bool}:∀(xs ys:List T),(∀x∈xs,∀y,∃b,f x y=some b)->∃b,eqL f xs ys=some b
 | [],[],_=>⟨_,rfl⟩
 | [],_ :: _,_=>⟨_,rfl⟩
 | _ :: _,[],_=>⟨_,rfl⟩
 | x :: xs,y :: ys,h=>by
  obtain⟨b,hb⟩:=h x ak y;obtain⟨c,hc⟩:=Jo xs ys λz hz=>h z (ac _ hz);exact⟨b && c,by unfold eqL;rw[hb,hc]⟩
theorem Zk {f:T->T->Option Bool}:∀(xs:List T),(∀x∈xs,f x x=some true)->eqL f xs xs=some true
 | [],_=>rfl
 | x :: xs,h=>by
  unfold eqL;rw[h x ak,Zk xs λz hz=>h z (ac _ hz)];rfl
theorem Jp:∀(n:Nat) (y x:T),Pl n y->∃b,eqF n y x=some b
 | 0,_,_,h=>h.elim
 | n+1,y,x,h=>by
  cases y with
  | tup xs=>
   cases x with
   | tup ys=>exact Jo xs ys λz hz u=>Jp n z u (h z hz)
   | _=>exact⟨false,by rw[eqF] <;> intros <;> first | rfl | contradiction | (intro z)⟩
  | lst xs=>
   cases x with
   | lst ys=>exact Jo xs ys λz hz u=>Jp n z u (h z hz)
   | fz ys=>exact Jo xs ys λz hz u=>Jp n z u (h z hz)
   | _=>exact⟨false,by rw[eqF] <;> intros <;> first | rfl | contradiction | (intro z)⟩
  | fz xs=>exact h.elim
  | non=>cases x <;> exact⟨_,rfl⟩
  | bl b=>cases x <;> exact⟨_,rfl⟩
  | int i=>cases x <;> exact⟨_,rfl⟩
  | str i=>cases x <;> exact⟨_,rfl⟩
theorem Zd:∀(n:Nat) (y:T),Pl n y->eqF n y y=some true
 | 0,_,h=>h.elim
 | n+1,y,h=>by
  cases y with
  | tup xs=>exact Zk xs λz hz=>Zd n z ((h) z hz)
  | lst xs=>exact Zk xs λz hz=>Zd n z ((h) z hz)
  | fz xs=>exact h.elim
  | non=>rfl
  | bl b=>show some _=_;simp
  | int i=>show some _=_;simp
  | str i=>show some _=_;simp
theorem Pl.up:∀(n:Nat) (y:T),Pl n y->Pl (n+1) y
 | 0,_,h=>h.elim
 | n+1,y,h=>by
  cases y with
  | tup xs=>exact λz hz=>Pl.up n z ((h) z hz)
  | lst xs=>exact λz hz=>Pl.up n z ((h) z hz)
  | fz xs=>exact h.elim
  | _=>exact trivial
theorem Pl.le (hm:n<=m)(h:Pl n y):Pl m y:=by
 obtain⟨j,rfl⟩:∃j,m=n+j:=⟨m - n,by omega⟩
 clear hm
 induction j with
 | zero=>exact h
 | succ j ih=>exact Pl.up _ _ ih
theorem qD (h:Pl 30 t):neC t t= .ok false:=by unfold neC;rw[Zd 30 t h];rfl
theorem WQ {f:T->Option Bool}:∀(ts:List T),(∀t∈ts,∃b,f t=some b)->∃b,W8 f ts=some b/\(b=false->∀t∈ts,f t=some false)
 | [],_=>⟨false,rfl,λ_ _ h=>nomatch h⟩
 | t :: ts,h=>by
  obtain⟨b,hb⟩:=h t ak;obtain⟨c,hc,h'⟩:=WQ ts λu hu=>h u (ac _ hu);refine⟨b || c,by unfold W8;rw[hb,hc],λe u hu=> ?_⟩
  rw[fE]at e;rcases am.mp hu with rfl | hu
  ·rw[hb,e.1]
  ·exact h' e.2 u hu
theorem qE (h:f ρ= .ok t):UR f ρ= .nx ρ:=by unfold UR;rw[h,ZS]
theorem all_map (k:Kd):((rng 0 k.all.length).map λt=>match t with | .int i=>(k.all[i.toNat]?).getD .non | y=>y)=k.all:=by
 unfold rng;rw[bI];refine dU λi=> ?_;rw[av]
 by_cases hi:i < k.all.length
 ·rw[cU hi];show some ((k.all[((0:Int)+(i)).toNat]?).getD _)=_;rw[show ((0:Int)+(i)).toNat=i by omega]
  obtain⟨x,hx⟩:=Uh hi;rw[hx];rfl
 ·rw[aZ (by simpa using hi),aZ (by omega)];rfl
theorem qF (hf:f ρ= .ok (.int j))(h: -1000000 < j/\j < 1000000):Zu f ρ= .ok (rng 0 j.toNat):=by
 unfold Zu;rw[hf];exact if_pos h
theorem Xu:gtC (.int i) (.int j)= .ok (decide (j < i)):=rfl
theorem G5 (h:g ρ= .ok true):ifE g f f' ρ=f ρ:=by unfold ifE;rw[h];rfl
theorem G6 (h:g ρ= .ok false):ifE g f f' ρ=f' ρ:=by unfold ifE;rw[h];rfl
inductive W:Nat->T->Prop where
 | int (d:Nat) (i:Int):W d (.int i)
 | str (d:Nat) (s:Str):W d (.str s)
 | tup {d:Nat} {xs:List T} (h:xs.length<=3) (r:∀x∈xs,W d x):W (d+1) (.tup xs)
theorem G7:∀(d:Nat) (k:Kd) (x:T),k.Ok (d+1)->k.has x=true->W d x
 | d,.whole lo hi,x,_,h=>by
  cases x <;> first | exact .int _ _ | (simp[Kd.has,inR]at h)
 | d,.pick cs,x,_,h=>by
  cases x <;> first | exact .str _ _ | (simp[Kd.has]at h)
 | 0,.row ks,x,hk,h=>by
  obtain⟨h1,h3,hk⟩:=hk
  match ks,h1,hk with
  | k :: _,_,hk=>exact(hk k ak).elim
 | 0,.many k lo hi,x,hk,h=>hk.2.2.elim
 | d+1,.row ks,x,hk,h=>by
  obtain⟨h1,h3,hk⟩:=hk;cases x with
  | tup xs=>
   rw[Kd.has]at h;simp only[ae,beq_iff_eq]at h;obtain⟨hl,hh⟩:=h;refine .tup (by omega) λx hx=> ?_
   obtain⟨k,hm,hx'⟩:=Ue ks xs hl hh x hx;exact G7 d k x (hk k hm) hx'
  | _=>simp[Kd.has]at h
 | d+1,.many k lo hi,x,hk,h=>by
  obtain⟨h1,h3,hk⟩:=hk;cases x with
  | tup xs=>
   rw[Kd.has]at h;simp only[ae,decide_eq_true_eq,aS]at h;obtain⟨⟨hl,hl'⟩,hh⟩:=h;refine .tup (by omega) λx hx=> ?_
   exact G7 d k x hk (hh x hx)
  | _=>simp[Kd.has]at h
mutual
noncomputable def lv:T->List T
 | .tup xs=>lvs xs
 | .non=>[.non]
 | .bl b=>[.bl b]
 | .int b=>[.int b]
 | .str b=>[.str b]
 | .lst b=>[.lst b]
 | .fz b=>[.fz b]
noncomputable def lvs:List T->List T
 | []=>[]
 | x :: xs=>lv x++lvs xs
end
theorem G8 (xs:List T):lv (.tup xs)=lvs xs:=by rw[lv]
theorem W2 (x:T)(xs:List T):lvs (x :: xs)=lv x++lvs xs:=by rw[lvs]
theorem qG:lvs []=[]:=by rw[lvs]
theorem qH:∀xs:List T,(∀x∈xs,(lv x).length<=n)->(lvs xs).length<=xs.length*n
 | [],_=>by exact bx _
 | x :: xs,h=>by
  rw[W2,ao,af,eX];have h1:=h x ak;have h2:=qH xs λy hy=>h y (ac _ hy);omega
theorem pow3 (d:Nat):1<=3 ^ d:=Nat.one_le_pow _ _ (by omega)
theorem qJ (h:W d x):(lv x).length<=3 ^ d:=by
 induction h with
 | int d i=>exact pow3 d
 | str d i=>exact pow3 d
 | @tup d xs h r ih=>
  rw[G8];have:=qH xs ih;have h3:=Nat.mul_le_mul_right (3 ^ d) h;omega
inductive Lf:T->Prop where
 | int (i:Int):Lf (.int i)
 | str (i:Str):Lf (.str i)
theorem Vx:∀(xs:List T),(∀x∈xs,∀y∈lv x,Lf y)->∀y∈lvs xs,Lf y
 | [],_,y,hy=>by cases hy
 | x :: xs,h,y,hy=>by
  rcases d4.mp hy with hy | hy
  ·exact h x ak y hy
  ·exact Vx xs (λz hz=>h z (ac _ hz)) y hy
theorem z1J (h:W d x):∀y∈lv x,Lf y:=by
 induction h with
 | int d i=>intro y hy;rw[aN.mp hy];exact .int _
 | str d i=>intro y hy;rw[aN.mp hy];exact .str _
 | @tup d xs h r ih=>intro y hy;exact Vx xs ih y hy
theorem G9 (hi:ρ[i]? =some (.ow ts))(h:f ρ= .ok (.lst us))(hl:ts.length+us.length<=bnd):Qk i f ρ= .nx (ρ.set i (.ow (ts++us))):=by
 unfold Qk;rw[hi];dsimp only;rw[h,ZS];dsimp only;rw[if_pos hl]
abbrev loB (c:List T->R T):En->RS:=Qk 1 (za 1 c (z9 (vE 2) (zj)))
theorem qK (hn:n<=1000):∀(xs:List T) (acc:List T) (x:Sl),(∀x∈xs,c [x]= .ok (.lst (lv x))/\(lv x).length<=n)->acc.length+xs.length*n<=1000000->
  ∃x',ZC (zK 2) (loB c) xs [a,.ow acc,x]= .nx [a,.ow (acc++lvs xs),x']
 | [],acc,x,_,_=>⟨x,by rw[qG,aW];rfl⟩
 | y :: xs,acc,x,H,hb=>by
  obtain⟨e,hl⟩:=H y ak;rw[af,eX]at hb;have hB:bnd=16777216:=rfl;obtain⟨x',h⟩:=qK hn xs (acc++lv y) _ (λz hz=>H z (ac _ hz)) (by rw[ao];omega)
  refine⟨x', ?_⟩;have s2:zK 2 y [a,.ow acc,x]= .ok _:=rfl;have b2:loB c [a,.ow acc,.vl y]= .nx [a,.ow (acc++lv y),.vl y]:=by
   have z:za 1 c (z9 (vE 2) (zj)) [a,.ow acc,.vl y]= .ok (.lst (lv y)):=by rw[zW,v2,bOk,e]
   exact G9 rfl z (by omega)
  rw[jL s2 b2,h,W2,aX]
theorem Vy:u1 (Ji (ap1 (W9 "tuple") (vB 0))) (.vl x :: r)= .ok (!(match x with | .tup _=>true | _=>false)):=by
 all_goals (cases x <;> rfl)
theorem JQ:∀(n d:Nat),d < n->d<=3->∀x:T,W d x->S_b n 0 [x]= .ok (.lst (lv x))
 | 0,d,h,_,_,_=>absurd h (f8 _)
 | n+1,d,h,h3,x,hx=>by
  show zz (b_b _ [.vl x,.un,.un])=_;rw[b_b];cases hx with
  | int d i=>
   rfl
  | str d i=>
   rfl
  | @tup d xs hl r=>
   have hp:3 ^ d<=27:=cL (by omega) (show d<=3 by omega)
   obtain⟨x',el⟩:=qK (by omega) xs [] .un (λy hy=>⟨JQ n d (by omega) (by omega) y (r y hy),qJ (r y hy)⟩) (by have:=cj hl hp;simp;omega)
   have e1:yk 1 zj [.vl (.tup xs),.un,.un]= .nx [.vl _,.ow [],.un]:=rfl;have e2:jt (ZZ (vE 0)) (zK 2) (loB (S_b n 0)) [.vl (.tup xs),.ow [],.un]= .nx [.vl (.tup xs),.ow ([]++lvs xs),x']:=by
    exact el
   rw[zd (zw Vy),zd e1,zd e2,bO];rfl
abbrev llB (c:List T->R T):En->RS:=zL 1 (zb zC (vE 1) (za 1 c (z9 (vE 2) (zj))))
theorem qL (h:xs.length+ys.length<=1000000):zC (.lst xs) (.lst ys)= .ok (.lst (xs++ys)):=by
 unfold zC;dsimp only;rw[if_pos (by have hB:bnd=16777216:=rfl;omega)]
theorem qN (hn:n<=1000):∀(xs:List T) (acc:List T) (x:Sl),(∀x∈xs,c [x]= .ok (.lst (lv x))/\(lv x).length<=n)->acc.length+xs.length*n<=1000000->
  ∃x',ZC (zK 2) (llB c) xs [a,.vl (.lst acc),x]= .nx [a,.vl (.lst (acc++lvs xs)),x']
 | [],acc,x,_,_=>⟨x,by rw[qG,aW];rfl⟩
 | y :: xs,acc,x,H,hb=>by
  obtain⟨e,hl⟩:=H y ak;rw[af,eX]at hb;obtain⟨x',h⟩:=qN hn xs (acc++lv y) _ (λz hz=>H z (ac _ hz)) (by rw[ao];omega)
  refine⟨x', ?_⟩;have s2:zK 2 y [a,.vl (.lst acc),x]= .ok _:=rfl;have b2:llB c [a,.vl (.lst acc),.vl y]= .nx [a,.vl (.lst (acc++lv y)),.vl y]:=by
   have z:zb zC (vE 1) (za 1 c (z9 (vE 2) (zj))) [a,.vl (.lst acc),.vl y]= .ok (.lst (acc++lv y)):=by rw[zt,v1,bOk,zW,v2,bOk,e,bOk,qL (by omega)]
   exact zM z
  rw[jL s2 b2,h,W2,aX]
theorem Ul:∀(n d:Nat),d < n->d<=3->∀x:T,W d x->S_i n 0 [x]= .ok (.lst (lv x))
 | 0,d,h,_,_,_=>absurd h (f8 _)
 | n+1,d,h,h3,x,hx=>by
  show zz (b_i _ [.vl x,.un,.un])=_;rw[b_i];cases hx with
  | int d i=>
   rfl
  | str d i=>
   rfl
  | @tup d xs hl r=>
   have hp:3 ^ d<=27:=cL (by omega) (show d<=3 by omega)
   obtain⟨x',el⟩:=qN (by omega) xs [] .un (λy hy=>⟨Ul n d (by omega) (by omega) y (r y hy),qJ (r y hy)⟩) (by have:=cj hl hp;simp;omega)
   have e1:zL 1 (ZD zj) [.vl (.tup xs),.un,.un]= .nx [.vl _,.vl _,.un]:=rfl;have e2:jt (ZZ (vE 0)) (zK 2) (llB (S_i n 0)) [.vl (.tup xs),.vl (.lst []),.un]= .nx [.vl (.tup xs),.vl (.lst ([]++lvs xs)),x']:=by
    exact el
   rw[zd (zw Vy),zd e1,zd e2,bO];rfl
theorem Zw {p:T->Bool}{js:List Nat}(ts:List T)(hl:ts.length<=bnd)(H:∀t∈ts,ft ((Wv k js ρ).set 0 (.vl t))= .ok (p t)/\fe ((Wv k js ρ).set 0 (.vl t))= .ok t):zG (zK 0) ft fe k js ρ ts= .ok (ts.filter p):=by
 unfold zG;rw[if_pos hl,jd (h:=id) ts _ λt ht=>⟨(H t ht).1,λ_=>(H t ht).2⟩,List.map_id];rfl
noncomputable def ZO:List T->List Int
 | []=>[]
 | .int i :: r=>i :: ZO r
 | .non :: r=>ZO r
 | .bl _ :: r=>ZO r
 | .str _ :: r=>ZO r
 | .tup _ :: r=>ZO r
 | .lst _ :: r=>ZO r
 | .fz _ :: r=>ZO r
theorem JR:∀ts:List T,ts.filter isW=(ZO ts).map T.int
 | []=>rfl
 | t :: ts=>by
  have ih:=JR ts;rw[ik,ih];cases t <;> rfl
theorem uB:∀is:List Int,ZI (is.map T.int)=some is
 | []=>rfl
 | i :: is=>by
  have e:ZI ((i :: is).map T.int)=match ZI _ with | some l=>some _ | none=>none:=rfl
  rw[e,uB is]
theorem W3:∀ts:List T,(ZO ts).length<=ts.length
 | []=>aj _
 | t :: ts=>by
  have ih:=W3 ts;cases t <;> simp only[ZO,af] <;> omega
theorem w9 (hd:d<=2)(h:W d x):(lv x).length<=9:=aD (qJ h) (cL (by omega) hd)
theorem ye (hd:d<=2)(h:W d x):f_v [x]= .ok (.lst ((ZO (lv x)).map T.int)):=by
 show zz _=_;have hl:=w9 hd h;have ec:zG _ (Ji (za 1 f_g (z9 (vE 0) _))) (vE 0) 1 [] [.vl x] (lv x)= .ok _:=
  Zw _ (by have hB:bnd=16777216:=rfl;omega) λt _=>⟨by
   show Ji _ [.vl t]=_;rw[WG,zW,v0,bOk,U4,bOk,YU],rfl⟩
 rw[b_v,zy]
 ·rfl
 ·show Z0 _ _ _ _ _ _ [.vl x]=_;have hv:f_b 8 [x]= .ok _:=JQ 8 d (by omega) (by omega) x h
  rw[Z2,jf,zW,v0,bOk,hv];show ((zG _ _ _ _ _ _ _).bind _)=_;rw[ec,bOk,JR]
noncomputable def asc (is:List Int):Bool:=(is.zip (is.drop 1)).all λq=>decide (q.1<=q.2)
theorem qQ:∀(qs:List (Int×Int)) (x y:Sl),zQ (ZF 0 1) Zl (ZV leC (vB 0) (vB 1)) (qs.map λq=>T.tup [.int q.1,.int q.2]) [x,y]= .ok (qs.map λq=>T.bl (decide (q.1<=q.2)))
 | [],_,_=>rfl
 | q :: qs,x,y=>by
  have ih:=qQ qs (.vl (.int q.1)) (.vl (.int q.2));have e0:zQ (ZF 0 1) Zl (ZV leC (vB 0) (vB 1)) ((q :: qs).map λq=>T.tup [.int q.1,.int q.2]) [x,y]=
   (R.ok (T.bl _)).bind λv=>(zQ _ _ _ (qs.map λq=>T.tup [.int q.1,.int q.2]) [.vl _,.vl _]).bind λvs=> .ok _:=rfl
  rw[e0,bOk,ih,bOk,aL]
theorem Xv (xs:List T):cut xs (some ((1:Nat):Int)) none=xs.drop 1:=by
 unfold cut;rw[HT.sIx_nat,HT.sIx_none]
 by_cases h:1<=xs.length
 ·rw[iA h,e_ (by rw[eF];omega)]
 ·have:xs=[]:=eH.mp (by omega)
  subst this;rfl
theorem qR (is:List Int)(hl:is.length<=100):z01 [.lst (is.map T.int)]= .ok (.bl (asc is)):=by
 show zz _=_;have hz:z19 (vE 0) (slE (vE 0) (ZE (cE (.int 1))) (noO)) [.vl (.lst (is.map T.int))]= .ok ((is.zip (is.drop 1)).map λq=>T.tup [.int q.1,.int q.2]):=by
  show R.ok (Vh _ (cut _ (some ((1:Nat))) _))=_;rw[Xv,← List.map_drop];unfold Vh;rw[List.zip_map,bI];rfl
 have ec:zG (ZF 0 1) Zl (ZV leC (vB 0) (vB 1)) 2 [] [.vl (.lst (is.map T.int))] ((is.zip (is.drop 1)).map λq=>T.tup [.int q.1,.int q.2])= .ok ((is.zip (is.drop 1)).map λq=>T.bl (decide (q.1<=q.2))):=by
  unfold zG;rw[if_pos (by rw[a9,List.length_zip];have hB:bnd=16777216:=rfl;omega)]
  show quiet (zQ _ _ _ _ [.un,.un])=_;rw[qQ];rfl
 rw[z1B,zy]
 ·rfl
 ·show ap1 _ _ [.vl _]=_;rw[j3,Z2,hz,bOk,ec,bOk];show (match u2 _ with | some k=>R.ok _ | none=> .bad)=_
  rw[Ud (λq=>decide _)];rfl
theorem Zo (x y:Int)(r:List Int):asc (x :: y :: r)=(decide (x<=y) && asc (y :: r)):=by
 unfold asc;rw[fH,dh,List.zip_cons_cons,c_,fH,dh]
theorem qS (x:Int):∀l:List Int,asc l=true->asc (uW x l)=true/\∀y,(∀z∈l,y<=z)->y<=x->∀z∈uW x l,y<=z
 | [],_=>⟨rfl,λy _ h z hz=>by rw[aN.mp hz];exact h⟩
 | [a],_=>by
  rw[uW];split
  ·rename_i h;exact⟨by rw[Zo,decide_eq_true h];rfl,λy h1 h2 z hz=>by
    rcases am.mp hz with rfl | hz
    ·exact h2
    ·exact h1 z hz⟩
  ·rw[uW];exact⟨by rw[Zo,decide_eq_true (by omega)];rfl,λy h1 h2 z hz=>by
    rcases am.mp hz with rfl | hz
    ·exact h1 _ ak
    ·rw[aN.mp hz];exact h2⟩
 | a :: b :: r,h=>by
  rw[Zo,ae,decide_eq_true_eq]at h;obtain⟨ih1,ih2⟩:=qS x _ h.2;rw[uW];split
  ·rename_i hx;exact⟨by rw[Zo,decide_eq_true hx,Zo,decide_eq_true h.1,h.2];rfl,λy h1 h2 z hz=>by
    rcases am.mp hz with rfl | hz
    ·exact h2
    ·exact h1 z hz⟩
  ·refine⟨?_,λy h1 h2 z hz=>by
    rcases am.mp hz with rfl | hz
    ·exact h1 _ ak
    ·exact ih2 y (λw hw=>h1 w (ac _ hw)) h2 z hz⟩
   rw[uW]at ih1 ⊢;split
   ·rename_i hb;rw[if_pos hb]at ih1;rw[Zo,decide_eq_true (by omega),ih1];rfl
   ·rename_i hb;rw[if_neg hb]at ih1;rw[Zo,decide_eq_true h.1,ih1];rfl
theorem qT:∀l:List Int,asc (Yx l)=true
 | []=>rfl
 | x :: l=>by rw[Yx];exact(qS x _ (qT l)).1
theorem qU:∀l:List Int,asc l=true->Yx l=l
 | [],_=>rfl
 | [x],_=>rfl
 | x :: y :: r,h=>by
  rw[Zo,ae,decide_eq_true_eq]at h;rw[Yx,qU _ h.2,uW,if_pos h.1]
theorem Um:∀xs ys:List Int,∃b,eqL (eqF n) (xs.map T.int) (ys.map T.int)=some b/\(b=true↔xs=ys)
 | [],[]=>⟨true,rfl,by simp⟩
 | [],y :: ys=>⟨false,rfl,by simp⟩
 | x :: xs,[]=>⟨false,rfl,by simp⟩
 | x :: xs,y :: ys=>by
  obtain⟨b,e,h⟩:=Um xs ys;have e0:eqL _ ((x :: xs).map T.int) ((y :: ys).map T.int)=match eqF n _ _ with
   | none=>none
   | some b=>match eqL _ _ _ with
    | none=>none
    | some c=>some _:=rfl
  have e1:eqF n (.int x) (.int y)=some (x == y):=by cases n <;> rfl
  refine⟨(x == y) && b,by rw[e0,e1,e], ?_⟩
  rw[ae,beq_iff_eq,h,List.cons.injEq]
theorem qV (is:List Int):eqC (.lst (is.map T.int)) (.lst ((Yx is).map T.int))= .ok (asc is):=by
 obtain⟨b,e,h⟩:=Um is _;have e0:eqF 30 (.lst _) (.lst _)=some b:=e;unfold eqC;rw[e0];show R.ok b=_;congr 1
 cases hb:b with
 | true=>
  have:=h.mp hb;rw[this];exact(qT is).symm
 | false=>
  cases ha:asc is with
  | false=>rfl
  | true=>rw[hb]at h;exact absurd (h.mpr (qU is ha).symm) aA
theorem YD (is:List Int)(hl:is.length<=60):vi (.lst (is.map T.int))= .ok (.lst ((Yx is).map T.int)):=by
 unfold vi;dsimp only;rw[uB];dsimp only;rw[if_pos (by rw[a9];omega)]
theorem Ga (is:List Int):xT (.lst (is.map T.int))= .ok (.int is.sum):=by
 unfold xT;dsimp only;rw[uB]
def inB (xs:List T)(x:T):Bool:=(W8 (λy=>eqF 30 y x) xs).getD false
theorem Gb (x:T)(h:∀y∈xs,Pl 30 y):W8 (λy=>eqF 30 y x) xs=some (inB xs x):=by
 obtain⟨b,e,_⟩:=WQ xs λt ht=>Jp 30 t x (h t ht);unfold inB;rw[e];rfl
theorem W.pl (h:W d x):Pl (d+1) x:=by
 induction h with
 | int d i=>exact trivial
 | str d i=>exact trivial
 | @tup d xs h r ih=>exact ih
theorem W.pl30 (h:W d x)(hd:d<=2):Pl 30 x:=h.pl.le (by omega)
noncomputable def Zf:T->List T
 | .tup xs=>xs
 | .non=>[.non]
 | .bl b=>[.bl b]
 | .int b=>[.int b]
 | .str b=>[.str b]
 | .lst b=>[.lst b]
 | .fz b=>[.fz b]
theorem Xw (h:W d x):f_x [x]= .ok (.tup (Zf x)):=by cases h <;> rfl
theorem WR (h:W d x):(Zf x).length<=3:=by
 cases h with
 | int=>exact(by decide:1<=3)
 | str=>exact(by decide:1<=3)
 | tup h _=>exact h
theorem Uo (h:W d x)(hd:d<=2):∀y∈Zf x,Pl 30 y:=by
 cases h with
 | int=>intro y hy;rw[aN.mp hy];exact trivial
 | str=>intro y hy;rw[aN.mp hy];exact trivial
 | @tup d xs h r=>intro y hy;exact(r y hy).pl30 (by omega)
def un (ps:List T):Bool:= !(ps.zipIdx.any λp=>inB (ps.take p.2) p.1)
theorem WS {xs:List T}{k:Nat}:slT (.tup xs) none (some (k:Int))= .ok (.tup (xs.take k)):=by
 show R.ok _=_;have:cut xs none (some (k))=xs.take k:=by
  unfold cut;rw[HT.sIx_none,HT.sIx_nat];simp only[dh,Nat.sub_zero];rw[fo];omega
 rw[this]
theorem qW {ps:List T}(h:∀y∈ps,Pl 30 y)(k:Nat)(x:T):inC x (.tup (ps.take k))= .ok (inB (ps.take k) x):=by
 show (match W8 (λy=>eqF 30 y x) _ with | some b=>R.ok b | none=> .bad)=_
 rw[Gb x λy hy=>h y (List.mem_of_mem_take hy)]
abbrev ulE:En->R T:=ZV inC (vB 1) (slE (vE 2) (noO) (ZE (vE 0)))
theorem qX {ps:List T}(h:∀y∈ps,Pl 30 y):∀(qs:List (T×Nat)) (x y:Sl),zQ (ZF 0 1) Zl ulE (qs.map λp=>T.tup [.int (p.2:Nat),p.1]) [x,y,.vl (.tup ps)]= .ok (qs.map λp=>T.bl (inB (ps.take p.2) p.1))
 | [],_,_=>rfl
 | q :: qs,x,y=>by
  have ih:=qX h qs (.vl (.int (q.2))) (.vl q.1);have e:ulE [.vl (.int (q.2)),.vl q.1,.vl (.tup ps)]= .ok (.bl (inB (ps.take q.2) q.1)):=by
   have e2:slE (vE 2) noO (ZE (vE 0)) [.vl (.int (q.2)),.vl q.1,.vl (.tup ps)]=slT (.tup ps) _ _:=rfl;unfold ulE;rw[Zj,w1,bOk,e2,WS,bOk,qW h,bOk]
  have e0:zQ (ZF 0 1) Zl ulE ((q :: qs).map λp=>T.tup [.int (p.2),p.1]) [x,y,.vl (.tup ps)]=
   (ulE [.vl _,.vl q.1,.vl _]).bind λv=>(zQ _ _ ulE (qs.map λp=>T.tup _) [.vl _,.vl q.1,.vl _]).bind λvs=> .ok _:=rfl
  rw[e0,e,bOk,ih,bOk,aL]
theorem WT {α:Type}(p:α->Bool):∀qs:List α,JX (qs.map λq=>T.bl (p q))=some (qs.any p)
 | []=>rfl
 | q :: qs=>by
  have e:JX ((q :: qs).map λq=>T.bl (p q))=match JX (qs.map λq=>T.bl _) with | some j=>some _ | none=>none:=rfl
  rw[e,WT p qs];rfl
theorem qY (h:∀y∈ps,Pl 30 y)(hl:ps.length<=100):z02 [.tup ps]= .ok (.bl (un ps)):=by
 show zz _=_;have ec:zG (ZF 0 1) Zl ulE 2 [0] [.vl (.tup ps)] (jG ps)= .ok (ps.zipIdx.map λp=>T.bl (inB (ps.take p.2) p.1)):=by
  unfold zG;rw[if_pos (by unfold jG;rw[a9,fQ];have hB:bnd=16777216:=rfl;omega)]
  show quiet (zQ _ _ _ _ [.un,.un,.vl _])=_;unfold jG;rw[qX h];rfl
 rw[z1C,zy]
 ·rfl
 ·have e1:Z0 (uY (vE 0)) (ZF 0 1) Zl ulE 2 [0] [.vl (.tup ps)]= .ok (.lst (ps.zipIdx.map λp=>T.bl (inB (ps.take p.2) p.1))):=by
   show ((R.ok _).bind _)=_;rw[bOk,ec,bOk]
  have e2:ap1 z1k (Z0 (uY (vE 0)) (ZF 0 1) Zl ulE 2 [0]) [.vl (.tup ps)]= .ok (.bl (ps.zipIdx.any λp=>inB (ps.take p.2) p.1)):=by
   rw[j3,e1];show (match JX _ with | some k=>R.ok _ | none=> .bad)=_
   rw[WT (λp:T×Nat=>inB _ p.1)]
  show Qj _ [.vl _]=_;unfold Qj;rw[e2];rfl
theorem vN {ps:List T}(h:∀y∈ps,Pl 30 y)(hl:ps.length<=100){a b c:Sl}{ρ:En}:∃r,zG (zK 0) (zD inC (zb ixT (vE 1) (vE 0)) (slE (vE 1) (noO) (ZE (vE 0)))) (vE 0) 1 [3] (a :: b :: c :: .vl (.tup ps) :: ρ) (rng 0 ps.length)= .ok r/\r.isEmpty=un ps:=by
 let p:T->Bool:=λt=>match t with
  | .int i=>match ps[i.toNat]? with | some w=>inB (ps.take i.toNat) w | none=>false
  | _=>false
 refine⟨(rng 0 _).filter p,Zw _ (by unfold rng;rw[a9,bG];have hB:bnd=16777216:=rfl;omega) λt ht=> ?_, ?_⟩
 ·obtain⟨k,hk,rfl⟩:=aO.mp ht;have hk' :=bo.mp hk;refine⟨?_,rfl⟩;show zD inC _ _ [.vl _,.vl _]=_;rw[show (0:Int)+(k)=(k) by omega]
  have e1:ixT (.tup ps) (.int k)= .ok ps[k]:=by
   show atT ps k=_;unfold atT;rw[ZX (ag hk')]
  have e2:slE (vE 1) noO (ZE (vE 0)) [.vl (.int (k)),.vl (.tup ps)]=slT (.tup ps) _ _:=rfl;rw[zN,zt,v1,bOk,v0,bOk,e1,bOk,e2,WS,bOk,qW h];show _=R.ok (match ps[((k:Int)).toNat]? with | some w=>inB _ w | none=>false)
  rw[bF,ag hk']
 ·rw[fg,List.isEmpty_iff,List.filter_eq_nil_iff];unfold un;rw[hV,fR];constructor
  ·intro H q hq;obtain⟨x,k⟩:=q;have hk:=List.mem_zipIdx' hq;have:=H _ (by exact aO.mpr ⟨k,bo.mpr hk.1,rfl⟩)
   intro hb;apply this
   show (match ps[((0:Int)+(k)).toNat]? with | some w=>inB _ w | none=>false)=true
   rw[show ((0:Int)+(k)).toNat=k by omega,ag hk.1,← hk.2]
   exact hb
  ·intro H t ht hb;obtain⟨k,hk,rfl⟩:=aO.mp ht;have hk' :=bo.mp hk;have hb:(match ps[((0:Int)+(k)).toNat]? with | some w=>inB _ w | none=>false)=true:=hb
   rw[show ((0:Int)+(k)).toNat=k by omega,ag hk']at hb
   exact H _ (List.mk_mem_zipIdx_iff_getElem?.mpr (ag hk')) hb
noncomputable def Qr (w:Str):T->Bool
 | .str x=>x == w
 | _=>false
theorem Gc (w:Str)(n:Nat):∀t:T,eqF n t (.str w)=some (Qr w t)
 | .str x=>by cases n <;> rfl
 | .non=>by cases n <;> rfl
 | .bl _=>by cases n <;> rfl
 | .int _=>by cases n <;> rfl
 | .tup _=>by cases n <;> rfl
 | .lst _=>by cases n <;> rfl
 | .fz _=>by cases n <;> rfl
theorem qZ (w:Str):∀ts:List T,W8 (λy=>eqF 30 y (.str w)) ts=some (ts.any (Qr w))
 | []=>rfl
 | t :: ts=>by
  have e:W8 (λy=>eqF 30 y (.str w)) (t :: ts)=match eqF 30 t _ with
   | none=>none
   | some b=>match W8 (λy=>eqF 30 y _) ts with
    | none=>none
    | some d=>some _:=rfl
  rw[e,Gc,qZ w ts];rfl
theorem Xx (w:Str)(ts:List T):(ts.filter (Qr w)).isEmpty= !(ts.any (Qr w)):=by
 induction ts with
 | nil=>rfl
 | cons t ts ih=>
  rw[ik,fJ];cases Qr w t with
  | true=>rfl
  | false=>rw[if_neg aA,ih,Bool.false_or]
inductive Ru where
 | sum (a b:Int) | size (a b:Int) | word (w:Str) | rising | unlike | no (r:Ru) | all (r s:Ru) | some (r s:Ru)
def Ru.t:Ru->T
 | .sum a b=> .tup [.str "sum",.int a,.int b]
 | .size a b=> .tup [.str "size",.int a,.int b]
 | .word w=> .tup [.str "word",.str w]
 | .rising=> .tup [.str "rising"]
 | .unlike=> .tup [.str "unlike"]
 | .no r=> .tup [.str "no",r.t]
 | .all r s=> .tup [.str "all",r.t,s.t]
 | .some r s=> .tup [.str "some",r.t,s.t]
inductive j4:Nat->Ru->Prop where
 | sum {d:Nat} {a b:Int} (ha: -50<=a/\a<=50) (hb: -50<=b/\b<=50):j4 (d+1) (.sum a b)
 | size {d:Nat} {a b:Int} (ha: -50<=a/\a<=50) (hb: -50<=b/\b<=50):j4 (d+1) (.size a b)
 | word {d:Nat} {w:Str} (h:Zm (.str w)=true):j4 (d+1) (.word w)
 | rising {d:Nat}:j4 (d+1) .rising
 | unlike {d:Nat}:j4 (d+1) .unlike
 | no {d:Nat} {r:Ru} (h:j4 d r):j4 (d+1) (.no r)
 | all {d:Nat} {r s:Ru} (h:j4 d r) (h' :j4 d s):j4 (d+1) (.all r s)
 | some {d:Nat} {r s:Ru} (h:j4 d r) (h' :j4 d s):j4 (d+1) (.some r s)
theorem j4.up (h:j4 d r):j4 (d+1) r:=by
 induction h with
 | sum ha hb=>exact .sum ha hb
 | size ha hb=>exact .size ha hb
 | word h=>exact .word h
 | rising=>exact .rising
 | unlike=>exact .unlike
 | no h ih=>exact .no ih
 | all h h' ih ih' =>exact .all ih ih'
 | some h h' ih ih' =>exact .some ih ih'
def kp:Ru->T->Bool
 | .sum a b,x=>decide (a<=(ZO (lv x)).sum) && decide ((ZO (lv x)).sum<=b)
 | .size a b,x=>decide (a<=((Zf x).length:Int)) && decide (((Zf x).length:Int)<=b)
 | .word w,x=>(lv x).any (Qr w)
 | .rising,x=>asc (ZO (lv x))
 | .unlike,x=>un (Zf x)
 | .no r,x=> !kp r x
 | .all r s,x=>kp r x && kp s x
 | .some r s,x=>kp r x || kp s x
theorem Jq (h: -50<=i/\i<=50):GZ [.int i]= .ok (.bl true):=by
 show zz _=_;rw[z1A,zy]
 ·rfl
 ·show jr _ _ [.vl _]=_;rw[wm,zW,v0,bOk,vy,Vr,zV,bOk];rw[bOk,w0,bOk,WF,decide_eq_true h.1,bOk,bOk,WF,decide_eq_true h.2];rfl
theorem Zr (b:Bool)(h:(x == w)=b):zD eqC (zb ixT (vE 0) (cE (.int 0))) (cE (.str w)) (.vl (.tup (.str x :: r)) :: ρ)= .ok b:=by rw[cs0,h]
theorem Up (h:f ρ= .ok false)(h' :g ρ= .ok b):orT f g ρ= .ok b:=by rw[YT,h,bOk,if_neg aA,h']
theorem or_t (h:f ρ= .ok true):orT f g ρ= .ok true:=by rw[YT,h,bOk,if_pos rfl]
theorem w8 (h:f ρ= .ok (.bl true))(h' :g ρ=r):jr f g ρ=r:=by rw[wm,h,ZM,if_pos rfl,h']
theorem Vz (h:((xs.length:Int) == n)=true):ZV eqC (ap1 Ze (vB 0)) (cE (.int n)) (.vl (.tup xs) :: ρ)= .ok (.bl true):=by
 rw[Zj,j3,w0,bOk,ur,bOk,zV,bOk,eqI,h,bOk]
theorem jh:orT (zD eqC (vB 1) (cE (.int 0))) (orT (u1 (Ji (ap1 (W9 "tuple") (vB 0)))) (zD eqC (ap1 Ze (vB 0)) (cE (.int 0)))) (en2 (.tup (x :: xs)) (.int ((d+1:Nat):Int)))= .ok false:=by
 refine Up ?_ (Up ?_ ?_)
 ·rw[zN,w1,bOk,zV,bOk,eqI,beq_eq_false_iff_ne.mpr (by omega)]
 ·rfl
 ·rw[zN,j3,w0,bOk,ur,bOk,zV,bOk,eqI,beq_eq_false_iff_ne.mpr (by rw[af];omega)]
theorem vO (h:Zm (.str w)=true):Xf (.str w):=by
 have h:(decide _ && decide _ && w.cps.toList.all _)=true:=h;simp only[ae,decide_eq_true_eq]at h;exact aD h.1.2 (by decide)
theorem J0:∀(n d:Nat),d<=n->∀r:Ru,j4 d r->S_j n 0 [r.t,.int (d:Int)]= .ok (.bl true)
 | 0,d,h,r,hr=>by
  have:d=0:=by omega
  subst this;cases hr
 | n+1,d,h,r,hr=>by
  show zz (b_j f_r (S_j n 0) GZ (en2 r.t (.int (d:Int))))=_;rw[b_j];cases hr with
  | @sum d a b ha hb=>
   rw[Ru.t,zd (zw jh),zI (t:= .bl true)]
   ·rfl
   ·exact zy (w8 (Vz rfl) (w8 (by show za 1 _ _ (en2 _ _)=_;rw[zW,JZ,bOk,Jq ha]) (by show za 1 _ _ (en2 _ _)=_;rw[zW,uy,bOk,Jq hb])))
  | @size d a b ha hb=>
   rw[Ru.t,zd (zw jh),zI (t:= .bl true)]
   ·rfl
   ·exact zy (w8 (Vz rfl) (w8 (by show za 1 _ _ (en2 _ _)=_;rw[zW,JZ,bOk,Jq ha]) (by show za 1 _ _ (en2 _ _)=_;rw[zW,uy,bOk,Jq hb])))
  | @word d w hw=>
   rw[Ru.t,zd (zw jh),zd (zw (Up (Zr false (by decide)) (Zr false (by decide)))),zI (t:= .bl true)]
   ·rfl
   ·exact zy (w8 (Vz rfl) (by show za 1 _ _ (en2 _ _)=_;rw[zW,JZ,bOk,YR _ (vO hw),hw]))
  | rising=>
   rw[Ru.t,zd (zw jh),zd (zw (Up (Zr false (by decide)) (Zr false (by decide)))),zd (zw (Zr false (by decide))),zI (t:= .bl true)]
   ·rfl
   ·rw[jN (or_t (Zr true (by decide)))]
    exact zy (Vz rfl)
  | unlike=>
   rw[Ru.t,zd (zw jh),zd (zw (Up (Zr false (by decide)) (Zr false (by decide)))),zd (zw (Zr false (by decide))),zI (t:= .bl true)]
   ·rfl
   ·rw[jN (Up (Zr false (by decide)) (Zr true (by decide)))]
    exact zy (Vz rfl)
  | @no d r hr=>
   have ih:=J0 n d (by omega) r hr
   rw[Ru.t,zd (zw jh),zd (zw (Up (Zr false (by decide)) (Zr false (by decide)))),zd (zw (Zr false (by decide))),zd (zw (Up (Zr false (by decide)) (Zr false (by decide)))),zI (t:= .bl true)]
   ·rfl
   ·rw[jN (Zr true (by decide))]
    exact zy (w8 (Vz rfl) (by show za 2 _ _ (en2 _ _)=_;rw[Z7,JZ,bOk,zt,v1,bOk,zV,bOk,Zg,bOk,show ((d+1:Nat)) - 1=(d:Int) by omega,ih]))
  | @all d r s hr hs=>
   have ih:=J0 n d (by omega) r hr
   have ih' :=J0 n d (by omega) s hs
   rw[Ru.t,zd (zw jh),zd (zw (Up (Zr false (by decide)) (Zr false (by decide)))),zd (zw (Zr false (by decide))),zd (zw (Up (Zr false (by decide)) (Zr false (by decide)))),zd (zw (Zr false (by decide))),zI (t:= .bl true)]
   ·rfl
   ·exact zy (w8 (Vz rfl) (w8 (by show za 2 _ _ (en2 _ _)=_;rw[Z7,JZ,bOk,zt,v1,bOk,zV,bOk,Zg,bOk,show ((d+1:Nat):Int) - 1=(d) by omega,ih]) (by show za 2 _ _ (en2 _ _)=_;rw[Z7,uy,bOk,zt,v1,bOk,zV,bOk,Zg,bOk,show ((d+1:Nat):Int) - 1=(d) by omega,ih'])))
  | @some d r s hr hs=>
   have ih:=J0 n d (by omega) r hr
   have ih' :=J0 n d (by omega) s hs
   rw[Ru.t,zd (zw jh),zd (zw (Up (Zr _ (by decide)) (Zr _ (by decide)))),zd (zw (Zr _ (by decide))),zd (zw (Up (Zr _ (by decide)) (Zr _ (by decide)))),zd (zw (Zr _ (by decide))),zI]
   ·rfl
   ·exact zy (w8 (Vz rfl) (w8 (by show za 2 _ _ (en2 _ _)=_;rw[Z7,JZ,bOk,zt,v1,bOk,zV,bOk,Zg,bOk,show ((d+1:Nat):Int) - 1=(d) by omega,ih]) (by show za 2 _ _ (en2 _ _)=_;rw[Z7,uy,bOk,zt,v1,bOk,zV,bOk,Zg,bOk,show ((d+1:Nat):Int) - 1=(d) by omega,ih'])))
theorem Ge (hf:f ρ= .ok (.int i))(hg:g ρ= .ok (.int j))(hh:h ρ= .ok (.int k)):chE leC leC f g h ρ= .ok (.bl (decide (i<=j) && decide (j<=k))):=by
 rw[vy,hf,bOk,hg,bOk,WF,bOk];cases decide (i<=j) with
 | true=>rw[if_pos rfl,hh,bOk,WF,bOk,fK]
 | false=>rw[if_neg aA,Bool.false_and]
theorem Q0 (hd:d<=2)(h:W d x)(b:Bool)(hr:(match r with | .no _=>False | .all _ _=>False | .some _ _=>False | _=>True)):f_s [r.t,x]= .ok (.bl (kp r x)):=by
 have hn:=ye hd h;have hp:=Xw h;have hv:f_b 8 [x]= .ok (.lst (lv x)):=JQ 8 d (by omega) (by omega) x h
 have hi:=aD (W3 _) (w9 hd h);show zz (b_s f_x (f_b 8) f_v _ _ (en2 r.t x))=_;rw[b_s];cases r with
 | sum a b=>
  rw[zI]
  ·rfl
  ·refine zy ?_;show chE _ _ _ _ _ (en2 _ x)=_;exact Ge JZ (by rw[j3,zW,v1,bOk,hn,bOk,Ga]) uy
 | size a b=>
  rw[Ru.t,zd (zw (Zr _ (by decide))),zI]
  ·rfl
  ·rw[jN (Zr _ (by decide))]
   refine zy ?_;show chE _ _ _ _ _ (en2 _ x)=_;exact Ge JZ (by rw[j3,zW,v1,bOk,hp,bOk,ur]) uy
 | word w=>
  rw[Ru.t,zd (zw (Zr false (by decide))),zd (zw (Zr false (by decide))),zI]
  ·rfl
  ·rw[jN (Zr true (by decide))]
   refine zy ?_;show ZV _ _ _ (en2 _ x)=_;rw[Zj,JZ,bOk,zW,v1,bOk,hv];show ((match W8 (λy=>eqF 30 y (.str w)) (lv x) with | some b=>R.ok b | none=> .bad).bind _)=_
   rw[qZ];rfl
 | rising=>
  rw[Ru.t,zd (zw (Zr false (by decide))),zd (zw (Zr _ (by decide))),zd (zw (Zr _ (by decide))),zI (t:= .bl (kp _ x))]
  ·rfl
  ·rw[jN (Zr true (by decide))]
   refine zy ?_;show za 1 _ _ (en2 _ x)=_;rw[zW,zW,v1,bOk,hn,bOk,qR _ (by omega)]
   rfl
 | unlike=>
  rw[Ru.t,zd (zw (Zr false (by decide))),zd (zw (Zr _ (by decide))),zd (zw (Zr false (by decide))),zd (zw (Zr _ (by decide))),zy]
  ·rfl
  ·show za 1 _ _ (en2 _ x)=_;rw[zW,zW,v1,bOk,hp,bOk,qY (Uo h hd) (aD (WR h) (by omega))]
   rfl
 | no=>exact hr.elim
 | all=>exact hr.elim
 | some=>exact hr.elim
theorem Q1 (h:f ρ= .ok (.bl b)):Qj f ρ= .ok (.bl (!b)):=by unfold Qj;rw[h];rfl
theorem W4 (h:f ρ= .ok (.bl a))(h' :g ρ= .ok (.bl b)):jr f g ρ= .ok (.bl (a && b)):=by
 rw[wm,h,h'];cases a <;> rfl
theorem VA (h:f ρ= .ok (.bl a))(h' :g ρ= .ok (.bl b)):orE f g ρ= .ok (.bl (a || b)):=by
 unfold orE;rw[h];cases a with
 | true=>rfl
 | false=>exact h'
theorem J4 (he:e<=2)(hx:W e x):∀(n d:Nat),d<=n->∀r:Ru,j4 d r->S_8 n 0 [r.t,x]= .ok (.bl (kp r x))
 | 0,d,h,r,hr=>by
  have:d=0:=by omega
  subst this;cases hr
 | n+1,d,h,r,hr=>by
  show zz (b_8 (S_8 n 0) f_s (en2 r.t x))=_;rw[b_8];have fin:∀(r:Ru) (s:Str) (q:List T),r.t= .tup (.str s :: q)->(s == "no")=false->(s == "all")=false->(s == "some")=false->(match r with | .no _=>False | .all _ _=>False | .some _ _=>False | _=>True)->
    zz (zB (ifS (zD eqC (zb ixT (vE 0) (cE (.int 0))) (cE (.str "no"))) (zF (Qj (za 2 (S_8 n 0) (z9 (zb ixT (vE 0) (cE (.int 1))) (z9 (vE 1) (zj)))))) (nxS))
  (zB (ifS (zD eqC (zb ixT (vE 0) (cE (.int 0))) (cE (.str "all"))) (zF (jr (za 2 (S_8 n 0) (z9 (zb ixT (vE 0) (cE (.int 1))) (z9 (vE 1) (zj)))) (za 2 (S_8 n 0) (z9 (zb ixT (vE 0) (cE (.int 2))) (z9 (vE 1) (zj)))))) (nxS))
  (zB (ifS (zD eqC (zb ixT (vE 0) (cE (.int 0))) (cE (.str "some"))) (zF (orE (za 2 (S_8 n 0) (z9 (zb ixT (vE 0) (cE (.int 1))) (z9 (vE 1) (zj)))) (za 2 (S_8 n 0) (z9 (zb ixT (vE 0) (cE (.int 2))) (z9 (vE 1) (zj)))))) (nxS))
  (zF (za 2 f_s (z9 (vE 0) (z9 (vE 1) (zj))))))) (en2 r.t x))= .ok (.bl (kp r x)):=by
   intro r s q e h1 h2 h3 hm;have hs:=Q0 he hx true hm;rw[e]at hs ⊢;rw[zd (zw (Zr _ h1)),zd (zw (Zr false h2)),zd (zw (Zr _ h3)),zy]
   ·rfl
   ·show za 2 _ _ (en2 _ x)=_;rw[Z7,v0,bOk,v1,bOk,hs]
  cases hr with
  | @sum d a b ha hb=>exact fin (.sum a b) "sum" _ rfl (by decide) (by decide) (by decide) trivial
  | @size d a b ha hb=>exact fin _ "size" _ rfl (by decide) (by decide) (by decide) trivial
  | @word d w hw=>exact fin _ _ _ rfl (by decide) (by decide) (by decide) trivial
  | rising=>exact fin .rising _ _ rfl (by decide) (by decide) (by decide) trivial
  | unlike=>exact fin .unlike _ _ rfl (by decide) (by decide) (by decide) trivial
  | @no d r hr=>
   have ih:=J4 he hx n d (by omega) r hr
   rw[Ru.t,zI]
   ·rfl
   ·exact zy (Q1 (by show za 2 _ _ (en2 _ x)=_;rw[Z7,JZ,bOk,v1,bOk,ih]))
  | @all d r s hr hs=>
   have ih:=J4 he hx n d (by omega) r hr
   have ih' :=J4 he hx n d (by omega) s hs
   rw[Ru.t,zd (zw (Zr _ (by decide))),zI]
   ·rfl
   ·exact zy (W4 (by show za 2 _ _ (en2 _ x)=_;rw[Z7,JZ,bOk,v1,bOk,ih]) (by show za 2 _ _ (en2 _ x)=_;rw[Z7,uy,bOk,v1,bOk,ih']))
  | @some d r s hr hs=>
   have ih:=J4 he hx n d (by omega) r hr
   have ih' :=J4 he hx n d (by omega) s hs
   rw[Ru.t,zd (zw (Zr _ (by decide))),zd (zw (Zr _ (by decide))),zI]
   ·rfl
   ·exact zy (VA (by show za 2 _ _ (en2 _ x)=_;rw[Z7,JZ,bOk,v1,bOk,ih]) (by show za 2 _ _ (en2 _ x)=_;rw[Z7,uy,bOk,v1,bOk,ih']))
abbrev lk (r x a b:T):En:=[.vl r,.vl x,.vl a,.vl b,.un,.un,.un]
theorem lk0 (c:Bool)(h:(x == w)=c):zD eqC (zb ixT (vE 0) (cE (.int 0))) (cE (.str w)) (lk (.tup (.str x :: r)) y a b)= .ok c:=Zr c h
theorem Uq:∀(is:List Int) (m:Int) (y:Sl),∃y',ZC (zK 5) (zL 4 (zb zC (vE 4) (vE 5))) (is.map T.int) [.vl r,.vl x,.vl a,.vl b,.vl (.int m),y,z]= .nx [.vl r,.vl x,.vl a,.vl b,.vl (.int (m+is.sum)),y',z]
 | [],m,y=>⟨y,by rw[List.sum_nil,Int.add_zero];rfl⟩
 | i :: is,m,y=>by
  obtain⟨y',h⟩:=Uq (r:=r) (x:=x) (a:=a) (b:=b) (z:=z) is (m+i) (.vl (.int i));refine⟨y', ?_⟩;have s2:zK 5 (.int i) [.vl r,.vl x,.vl a,.vl b,.vl (.int m),y,z]= .ok [.vl r,.vl x,.vl a,.vl b,.vl (.int m),.vl (.int i),z]:=rfl;have b2:zL 4 (zb zC (vE 4) (vE 5)) [.vl r,.vl x,.vl a,.vl b,.vl (.int m),.vl (.int i),z]= .nx [.vl r,.vl x,.vl a,.vl b,.vl (.int (m+i)),.vl (.int i),z]:=rfl;rw[aL,jL s2 b2,h,du,Int.add_assoc]
theorem z1K (hf:f ρ= .ok (.int i))(hg:g ρ= .ok (.int j)):ZV leC f g ρ= .ok (.bl (decide (i<=j))):=by rw[Zj,hf,bOk,hg,bOk,WF,bOk]
theorem ge_E (hf:f ρ= .ok (.int i))(hg:g ρ= .ok (.int j)):ZV geC f g ρ= .ok (.bl (decide (j<=i))):=by
 rw[Zj,hf,bOk,hg,bOk];rfl
theorem WU:frz (lk r x a b)=lk r x a b:=rfl
theorem jm (he:e<=2)(hx:W e x):∀(n d:Nat),d<=n->∀r:Ru,j4 d r->S_a n 0 [r.t,x]= .ok (.bl (kp r x))
 | 0,d,h,r,hr=>by
  have:d=0:=by omega
  subst this;cases hr
 | n+1,d,h,r,hr=>by
  show zz (b_a (f_i 8) (S_a n 0) [.vl r.t,.vl x,.un,.un,.un,.un,.un])=_;have hv:f_i 8 [x]= .ok (.lst (lv x)):=Ul 8 e (by omega) (by omega) x hx
  have hl:=w9 he hx;have hB:bnd=16777216:=rfl;have hi:(ZO (lv x)).length<=9:=aD (W3 _) hl;have e1:zL 2 (Z0 (ZZ (za 1 (f_i 8) (z9 (vE 1) (zj)))) (zK 0) (Ji (ap1 (W9 "int") (vB 0))) (vE 0) 1 []) [.vl r.t,.vl x,.un,.un,.un,.un,.un]= .nx [.vl r.t,.vl x,.vl (.lst ((ZO (lv x)).map T.int)),.un,.un,.un,.un]:=by
   have ec:zG (zK 0) (Ji (ap1 (W9 "int") (vB 0))) (vE 0) 1 [] [.vl r.t,.vl x,.un,.un,.un,.un,.un] (lv x)= .ok ((lv x).filter isW):=
    Zw _ (by omega) λt ht=>⟨by cases z1J hx t ht <;> rfl,rfl⟩
   rw[zM (t:= .lst ((ZO (lv x)).map T.int))]
   ·rfl
   ·rw[Z2,jf,zW,v1,bOk,hv,bOk];show ((zG _ _ _ _ _ _ (lv x)).bind _)=_;rw[ec,bOk,JR]
  have e2:zL 3 (ifE (Ji (ap1 (W9 "tuple") (vB 1))) (vE 1) (Zy (z9 (vE 1) (zj)))) [.vl r.t,.vl x,.vl (.lst ((ZO (lv x)).map T.int)),.un,.un,.un,.un]= .nx (lk r.t x (.lst ((ZO (lv x)).map T.int)) (.tup (Zf x))):=by
   cases hx <;> rfl
  rw[b_a,zd e1,zd e2];cases hr with
  | @sum d a b ha hb=>
   obtain⟨y',el⟩:=Uq (r:=(Ru.sum a b).t) (x:=x) (a:= .lst ((ZO (lv x)).map T.int)) (b:= .tup (Zf x)) (z:= .un) (ZO (lv x)) 0 .un;rw[h9]at el;have e3:zL 4 (cE (.int 0)) (lk (Ru.sum a b).t x (.lst ((ZO (lv x)).map T.int)) (.tup (Zf x)))= .nx [.vl (Ru.sum a b).t,.vl x,.vl (.lst ((ZO (lv x)).map T.int)),.vl (.tup (Zf x)),.vl (.int 0),.un,.un]:=rfl;have e4:jt (ZZ (vE 2)) (zK 5) (zL 4 (zb zC (vE 4) (vE 5))) [.vl (Ru.sum a b).t,.vl x,.vl (.lst ((ZO (lv x)).map T.int)),.vl (.tup (Zf x)),.vl (.int 0),.un,.un]= .nx [.vl (Ru.sum a b).t,.vl x,.vl (.lst ((ZO (lv x)).map T.int)),.vl (.tup (Zf x)),.vl (.int (ZO (lv x)).sum),y',.un]:=by
    unfold jt;rw[jf,v2,bOk];exact el
   rw[zI (t:= .bl (kp (.sum a b) x))]
   ·rfl
   ·rw[jN (by rw[Ru.t];exact lk0 true (by decide)),zd e3,zd e4,zy (t:= .bl (kp (.sum a b) x))]
    show jr _ _ [.vl (Ru.sum a b).t,.vl x,.vl (.lst ((ZO (lv x)).map T.int)),.vl (.tup (Zf x)),.vl (.int (ZO (lv x)).sum),frz1 y',.un]=_;rw[Ru.t];exact W4 (z1K JZ rfl) (z1K rfl uy)
  | @size d a b ha hb=>
   rw[Ru.t,zd (zw (lk0 false (by decide))),zI (t:= .bl (kp (.size a b) x))]
   ·rfl
   ·rw[jN (lk0 true (by decide)),zy (t:= .bl (kp (.size a b) x))]
    rw[WU];exact W4 (ge_E (i:=((Zf x).length:Int)) rfl JZ) (z1K (i:=((Zf x).length:Int)) rfl uy)
  | @word d w hw=>
   rw[Ru.t,zd (zw (lk0 false (by decide))),zd (zw (lk0 false (by decide))),zI (t:= .bl (kp (.word w) x))]
   ·rfl
   ·rw[jN (lk0 true (by decide)),zy (t:= .bl (kp (.word w) x))]
    rw[WU];have ec:zG (zK 0) (zD eqC (vB 0) (zb ixT (vE 1) (cE (.int 1)))) (vE 0) 1 [0] (lk (.tup [.str "word",.str w]) x (.lst ((ZO (lv x)).map T.int)) (.tup (Zf x))) (lv x)= .ok ((lv x).filter (Qr w)):=
     Zw _ (by omega) λt ht=>⟨by
      show zD eqC (vB 0) (zb ixT (vE 1) (cE (.int 1))) [.vl t,.vl (.tup [.str "word",.str w])]=_;rw[zN,w0,bOk,zt,v1,bOk,zV,bOk,at1,bOk];unfold eqC;rw[Gc],rfl⟩
    rw[Zj,Z2,jf,zW,v1,bOk,hv,bOk];show (((zG _ _ _ _ _ _ (lv x)).bind _).bind _)=_;rw[ec,bOk,bOk,show ZD zj (lk (.tup [.str "word",.str w]) x (.lst ((ZO (lv x)).map T.int)) (.tup (Zf x)))= .ok (.lst []) from rfl,bOk];have en:neC (.lst ((lv x).filter (Qr w))) (.lst [])= .ok (!((lv x).filter (Qr w)).isEmpty):=by cases (lv x).filter (Qr w) <;> rfl
    rw[en,bOk,Xx,Bool.not_not];rfl
  | rising=>
   rw[Ru.t,zd (zw (lk0 false (by decide))),zd (zw (lk0 false (by decide))),zd (zw (lk0 false (by decide))),zI (t:= .bl (kp .rising x))]
   ·rfl
   ·rw[jN (lk0 true (by decide)),zy (t:= .bl (kp .rising x))]
    rw[WU,Zj,j3,w2,bOk,bOk,YD _ (by omega),bOk,qV,bOk]
    rfl
  | unlike=>
   rw[Ru.t,zd (zw (lk0 false (by decide))),zd (zw (lk0 false (by decide))),zd (zw (lk0 false (by decide))),zd (zw (lk0 false (by decide))),zI (t:= .bl (kp .unlike x))]
   ·rfl
   ·rw[jN (lk0 true (by decide)),zy (t:= .bl (kp .unlike x))]
    rw[WU];have hp3:=WR hx;obtain⟨q,eq,hq⟩:=vN (Uo hx he) (by omega) (a:= .vl (.tup [.str "unlike"])) (b:= .vl x) (c:= .vl (.lst ((ZO (lv x)).map T.int))) (ρ:=[.un,.un,.un])
    have er:Zu (ap1 Ze (vB 3)) (lk (.tup [.str "unlike"]) x (.lst ((ZO (lv x)).map T.int)) (.tup (Zf x)))= .ok (rng 0 (Zf x).length):=by
     rw[qF (j:=((Zf x).length:Int)) rfl ⟨by omega,by omega⟩,bF]
    rw[Zj,Z2,er,bOk,eq,bOk,bOk,show ZD zj (lk (.tup [.str "unlike"]) x (.lst ((ZO (lv x)).map T.int)) (.tup (Zf x)))= .ok (.lst []) from rfl,bOk,gH,bOk,hq];rfl
  | @no d r hr=>
   have ih:=jm he hx n d (by omega) r hr
   rw[Ru.t,zd (zw (lk0 false (by decide))),zd (zw (lk0 false (by decide))),zd (zw (lk0 false (by decide))),zd (zw (lk0 false (by decide))),zd (zw (lk0 false (by decide))),zI (t:= .bl (kp (.no r) x))]
   ·rfl
   ·rw[jN (lk0 true (by decide)),zy (t:= .bl (kp (.no r) x))]
    rw[WU];exact Q1 (by rw[Z7,JZ,bOk,v1,bOk,ih])
  | @all d r s hr hs=>
   have ih:=jm he hx n d (by omega) r hr
   have ih' :=jm he hx n d (by omega) s hs
   have e3:zL 6 (Z0 (ZZ (slE (vE 0) (ZE (cE (.int 1))) (noO))) (zK 0) (Zl) (za 2 (S_a n 0) (z9 (vE 0) (z9 (vE 1) (zj)))) 1 [1]) (lk (.tup [.str "all",r.t,s.t]) x (.lst ((ZO (lv x)).map T.int)) (.tup (Zf x)))= .nx [.vl (.tup [.str "all",r.t,s.t]),.vl x,.vl (.lst ((ZO (lv x)).map T.int)),.vl (.tup (Zf x)),.un,.un,.vl (.lst [.bl (kp r x),.bl (kp s x)])]:=by
    rw[zM (t:= .lst [.bl (kp r x),.bl (kp s x)])]
    ·rfl
    ·rw[Z2];show ((zG (zK 0) Zl (za 2 (S_a n 0) (z9 (vE 0) (z9 (vE 1) (zj)))) 1 [1] (lk (.tup [.str "all",r.t,s.t]) x (.lst ((ZO (lv x)).map T.int)) (.tup (Zf x))) [r.t,s.t]).bind _)=_;have ec:zG (zK 0) Zl (za 2 (S_a n 0) (z9 (vE 0) (z9 (vE 1) (zj)))) 1 [1] (lk (.tup [.str "all",r.t,s.t]) x (.lst ((ZO (lv x)).map T.int)) (.tup (Zf x))) [r.t,s.t]= .ok [.bl (kp r x),.bl (kp s x)]:=by
      unfold zG;rw[if_pos (by show 2<=bnd;omega)]
      have c1:za 2 (S_a n 0) (z9 (vE 0) (z9 (vE 1) (zj))) [.vl r.t,.vl x]= .ok (.bl (kp r x)):=by rw[Z7,v0,bOk,v1,bOk,ih]
      have c2:za 2 (S_a n 0) (z9 (vE 0) (z9 (vE 1) (zj))) [.vl s.t,.vl x]= .ok (.bl (kp s x)):=by rw[Z7,v0,bOk,v1,bOk,ih']
      show quiet ((za 2 (S_a n 0) (z9 (vE 0) (z9 (vE 1) (zj))) [.vl r.t,.vl x]).bind λv=>((za 2 (S_a n 0) (z9 (vE 0) (z9 (vE 1) (zj))) [.vl s.t,.vl x]).bind λv=>(R.ok []).bind λvs=> .ok (v :: vs)).bind λvs=> .ok (v :: vs))=_;rw[c1,c2];rfl
     rw[ec,bOk]
   rw[Ru.t,zd (zw (lk0 false (by decide))),zd (zw (lk0 false (by decide))),zd (zw (lk0 false (by decide))),zd (zw (lk0 false (by decide))),zd (zw (lk0 false (by decide))),zd (zw (lk0 false (by decide))),zd e3,zy (t:= .bl (kp (.all r s) x))]
   ·rfl
   ·show ifE _ _ _ [.vl (.tup [.str "all",r.t,s.t]),.vl x,.vl (.lst ((ZO (lv x)).map T.int)),.vl (.tup (Zf x)),.un,.un,.vl (.lst [.bl (kp r x),.bl (kp s x)])]=_;unfold ifE;rw[Zr true (by decide),bOk,if_pos rfl]
    exact W4 rfl rfl
  | @some d r s hr hs=>
   have ih:=jm he hx n d (by omega) r hr
   have ih' :=jm he hx n d (by omega) s hs
   have e3:zL 6 (Z0 (ZZ (slE (vE 0) (ZE (cE (.int 1))) (noO))) (zK 0) (Zl) (za 2 (S_a n 0) (z9 (vE 0) (z9 (vE 1) (zj)))) 1 [1]) (lk (.tup [.str "some",r.t,s.t]) x (.lst ((ZO (lv x)).map T.int)) (.tup (Zf x)))= .nx [.vl (.tup [.str "some",r.t,s.t]),.vl x,.vl (.lst ((ZO (lv x)).map T.int)),.vl (.tup (Zf x)),.un,.un,.vl (.lst [.bl (kp r x),.bl (kp s x)])]:=by
    rw[zM (t:= .lst [.bl (kp r x),.bl (kp s x)])]
    ·rfl
    ·rw[Z2];show ((zG (zK 0) Zl (za 2 (S_a n 0) (z9 (vE 0) (z9 (vE 1) (zj)))) 1 [1] (lk (.tup [.str "some",r.t,s.t]) x (.lst ((ZO (lv x)).map T.int)) (.tup (Zf x))) [r.t,s.t]).bind _)=_;have ec:zG (zK 0) Zl (za 2 (S_a n 0) (z9 (vE 0) (z9 (vE 1) (zj)))) 1 [1] (lk (.tup [.str "some",r.t,s.t]) x (.lst ((ZO (lv x)).map T.int)) (.tup (Zf x))) [r.t,s.t]= .ok [.bl (kp r x),.bl (kp s x)]:=by
      unfold zG;rw[if_pos (by show 2<=bnd;omega)]
      have c1:za 2 (S_a n 0) (z9 (vE 0) (z9 (vE 1) (zj))) [.vl r.t,.vl x]= .ok (.bl (kp r x)):=by rw[Z7,v0,bOk,v1,bOk,ih]
      have c2:za 2 (S_a n 0) (z9 (vE 0) (z9 (vE 1) (zj))) [.vl s.t,.vl x]= .ok (.bl (kp s x)):=by rw[Z7,v0,bOk,v1,bOk,ih']
      show quiet ((za 2 (S_a n 0) (z9 (vE 0) (z9 (vE 1) (zj))) [.vl r.t,.vl x]).bind λv=>((za 2 (S_a n 0) (z9 (vE 0) (z9 (vE 1) (zj))) [.vl s.t,.vl x]).bind λv=>(R.ok []).bind λvs=> .ok (v :: vs)).bind λvs=> .ok (v :: vs))=_;rw[c1,c2];rfl
     rw[ec,bOk]
   rw[Ru.t,zd (zw (lk0 false (by decide))),zd (zw (lk0 false (by decide))),zd (zw (lk0 false (by decide))),zd (zw (lk0 false (by decide))),zd (zw (lk0 false (by decide))),zd (zw (lk0 false (by decide))),zd e3,zy (t:= .bl (kp (.some r s) x))]
   ·rfl
   ·show ifE _ _ _ [.vl (.tup [.str "some",r.t,s.t]),.vl x,.vl (.lst ((ZO (lv x)).map T.int)),.vl (.tup (Zf x)),.un,.un,.vl (.lst [.bl (kp r x),.bl (kp s x)])]=_;unfold ifE;rw[Zr false (by decide),bOk,if_neg aA]
    exact VA rfl rfl
abbrev lr (ns:List Int)(k:Int)(d:Nat)(p:Int)(a b:Sl):En:=[.vl (scr ns),.vl (.int k),.vl (.int (d:Int)),.vl (.int p),a,b]
theorem Q2 (h:f_1 [scr ns,.int (k+j),.int m]= .ok (.int q)):za 3 f_1 (z9 (vE 0) (z9 (zb zC (vE 1) (cE (.int j))) (z9 (cE (.int m)) (zj)))) (lr ns k d p a b)= .ok (.int q):=by
 rw[Zn,v0,bOk,zt,v1,bOk,zV,bOk,Z4,bOk,zV,bOk,h]
theorem W5 (ns:List Int):∀(n d:Nat),d<=n->1<=d->∀k:Int,0<=k->∃r:Ru,S_h n 0 [scr ns,.int k,.int (d:Int)]= .ok r.t/\j4 d r
 | 0,d,h,h1,k,hk=>by omega
 | n+1,d,h,h1,k,hk=>by
  obtain⟨p,hp,p0,p9⟩:=zP ns k 9 hk (by omega)
  have e1:zL 3 (za 3 f_1 (z9 (vE 0) (z9 (vE 1) (z9 (cE (.int 9)) (zj))))) [.vl (scr ns),.vl (.int k),.vl (.int (d:Int)),.un,.un,.un]= .nx (lr ns k d p .un .un):=by
   rw[zM (t:= .int p)]
   ·rfl
   ·rw[Zn,v0,bOk,v1,bOk,zV,bOk,hp]
  have e:S_h (n+1) 0 [scr ns,.int k,.int (d:Int)]=zz (b_h f_1 (S_h n 0) [.vl (scr ns),.vl (.int k),.vl (.int (d:Int)),.un,.un,.un]):=rfl;rw[e,b_h,zd e1];have et:K2 (zD gtC (vB 2) (cE (.int 1))) (zD gtC (vB 3) (cE (.int 5))) (lr ns k d p .un .un)= .ok (decide (1 < d) && decide (5 < p)):=by
   rw[Xh,zN,w2,bOk,zV,bOk,Xu,bOk,show decide ((1:Int) < (d:Int))=decide (1 < d) by rw[fg,decide_eq_true_eq,decide_eq_true_eq];omega]
   cases decide (1 < d) with
   | true=>rw[if_pos rfl,zN,w3,bOk,zV,bOk,Xu,fK]
   | false=>rfl
  by_cases hb:1 < d/\5 < p
  ·rw[decide_eq_true hb.1,decide_eq_true hb.2]at et;obtain⟨d,rfl⟩:∃d',d=d' +1:=⟨d - 1,by omega⟩
   obtain⟨r1,hr1,o1⟩:=W5 ns n d (by omega) (by omega) (2*k+11) (by omega)
   obtain⟨r2,hr2,o2⟩:=W5 ns n d (by omega) (by omega) (2*k+24) (by omega)
   have m2:Z6 (.int 2) (.int k)= .ok (.int (2*k)):=uu _ _ (.inl ⟨by decide,by decide⟩)
   have e2:zL 4 (za 3 (S_h n 0) (z9 (vE 0) (z9 (zb zC (zb Z6 (cE (.int 2)) (vE 1)) (cE (.int 11))) (z9 (zb ZY (vE 2) (cE (.int 1))) (zj))))) (lr ns k (d+1) p .un .un)= .nx (lr ns k (d+1) p (.vl r1.t) .un):=by
    rw[zM (t:=r1.t)]
    ·rfl
    ·rw[Zn,v0,bOk,zt,zt,zV,bOk,v1,bOk,m2,bOk,zV,bOk,Z4,bOk,zt,v2,bOk,zV,bOk,Zg,bOk,show ((d+1:Nat):Int) - 1=(d:Int) by omega,hr1]
   have c2:za 3 (S_h n 0) (z9 (vE 0) (z9 (zb zC (zb Z6 (cE (.int 2)) (vE 1)) (cE (.int 24))) (z9 (zb ZY (vE 2) (cE (.int 1))) (zj)))) (lr ns k (d+1) p (.vl r1.t) .un)= .ok r2.t:=by
    rw[Zn,v0,bOk,zt,zt,zV,bOk,v1,bOk,m2,bOk,zV,bOk,Z4,bOk,zt,v2,bOk,zV,bOk,Zg,bOk,show ((d+1:Nat):Int) - 1=(d:Int) by omega,hr2]
   by_cases h6:p=6
   ·subst h6;refine⟨.no r1, ?_,.no o1⟩;rw[zI (t:=(Ru.no r1).t)]
    ·rfl
    ·rw[jN et,zd e2,zI (t:=(Ru.no r1).t)];rw[jN rfl,Ru.t];exact zy (YY rfl rfl)
   ·have h6' :zD eqC (vB 3) (cE (.int 6)) (lr ns k (d+1) p (.vl r1.t) .un)= .ok false:=by
     rw[zN,w3,bOk,zV,bOk,eqI,beq_eq_false_iff_ne.mpr h6]
    by_cases h7:p=7
    ·subst h7;refine⟨.all r1 r2, ?_,.all o1 o2⟩;rw[zI (t:=(Ru.all r1 r2).t)]
     ·rfl
     ·rw[jN et,zd e2,zd (zw h6'),Ru.t];exact zy (gK rfl rfl c2)
    ·have h8:p=8:=by omega
     subst h8;refine⟨.some r1 r2, ?_,.some o1 o2⟩;rw[zI (t:=(Ru.some r1 r2).t)]
     ·rfl
     ·rw[jN et,zd e2,zd (zw h6'),Ru.t];exact zy (gK rfl rfl c2)
  ·have et:K2 (zD gtC (vB 2) (cE (.int 1))) (zD gtC (vB 3) (cE (.int 5))) (lr ns k d p .un .un)= .ok false:=by
    rw[et];congr 1
    rw[Bool.and_eq_false_iff,decide_eq_false_iff_not,decide_eq_false_iff_not];omega
   obtain⟨d,rfl⟩:∃d',d=d' +1:=⟨d - 1,by omega⟩
   obtain⟨q,hq,q0,q9⟩:=zP ns (k+1) 9 (by omega) (by omega)
   have e2:zL 5 (zb ZY (za 3 f_1 (z9 (vE 0) (z9 (zb zC (vE 1) (cE (.int 1))) (z9 (cE (.int 9)) (zj))))) (cE (.int 4))) (lr ns k (d+1) p .un .un)= .nx (lr ns k (d+1) p .un (.vl (.int (q - 4)))):=by
    rw[zM (t:= .int (q - 4))]
    ·rfl
    ·rw[zt,Q2 hq,bOk,zV,bOk,Zg]
   rw[zd (zw et),zd e2];have hm:∃m:Nat,m < 6/\zb jR (vE 3) (cE (.int 6)) (lr ns k (d+1) p .un (.vl (.int (q - 4))))= .ok (.int (m:Int)):=by
    obtain⟨w,rfl⟩:=cg p0;exact⟨w % 6,Nat.mod_lt _ (by omega),by rw[zt,v3,bOk,zV,bOk];exact Vw (c:=6) (by omega)⟩
   obtain⟨m,m6,hm⟩:=hm;have t2:zD ltC (zb jR (vE 3) (cE (.int 6))) (cE (.int 2)) (lr ns k (d+1) p .un (.vl (.int (q - 4))))= .ok (decide (m < 2)):=by
    rw[zN,hm,bOk,zV,bOk,ltI];congr 1;rw[fg,decide_eq_true_eq,decide_eq_true_eq];omega
   have tk:∀j:Nat,zD eqC (zb jR (vE 3) (cE (.int 6))) (cE (.int (j:Int))) (lr ns k (d+1) p .un (.vl (.int (q - 4))))= .ok (m == j):=λj=>by
    rw[zN,hm,bOk,zV,bOk,eqI,qk]
   have tk2:zD eqC (zb jR (vE 3) (cE (.int 6))) (cE (.int 2)) (lr ns k (d+1) p .un (.vl (.int (q - 4))))= .ok (m == 2):=tk 2;have tk3:zD eqC (zb jR (vE 3) (cE (.int 6))) (cE (.int 3)) (lr ns k (d+1) p .un (.vl (.int (q - 4))))= .ok (m == 3):=tk 3;have tk4:zD eqC (zb jR (vE 3) (cE (.int 6))) (cE (.int 4)) (lr ns k (d+1) p .un (.vl (.int (q - 4))))= .ok (m == 4):=tk 4
   by_cases h2:m < 2
   ·obtain⟨u,hu,u0,u5⟩:=zP ns (k+2) 5 (by omega) (by omega)
    refine⟨.sum (q - 4) (q - 4+u - 1), ?_,.sum ⟨by omega,by omega⟩ ⟨by omega,by omega⟩⟩
    rw[zI (t:=(Ru.sum (q - 4) (q - 4+u - 1)).t)]
    ·rfl
    ·rw[jN (by rw[t2,decide_eq_true h2]),Ru.t]
     refine zy (gK rfl rfl ?_);show zb ZY _ _ (lr ns k (d+1) p .un (.vl (.int (q - 4))))=_;rw[zt,zt,Q2 hu,show vE 5 (lr ns k (d+1) p .un (.vl (.int (q - 4))))= .ok (.int (q - 4)) from rfl,bOk,bOk,Z4,bOk,zV,bOk,Zg]
   rw[zd (zw (by rw[t2,decide_eq_false h2]))]
   by_cases h3:m=2
   ·subst h3;obtain⟨q',hq',q'0,q'3⟩:=zP ns (k+1) 3 (by omega) (by omega)
    obtain⟨u,hu,u0,u4⟩:=zP ns (k+2) 4 (by omega) (by omega)
    refine⟨.size q' u, ?_,.size ⟨by omega,by omega⟩ ⟨by omega,by omega⟩⟩
    rw[zI (t:=(Ru.size q' u).t)]
    ·rfl
    ·rw[jN tk2,Ru.t];exact zy (gK rfl (Q2 hq') (Q2 hu))
   rw[zd (zw (by rw[tk2,beq_eq_false_iff_ne.mpr h3]))]
   by_cases h4:m=3
   ·subst h4;obtain⟨q',hq',q'0,q'3⟩:=zP ns (k+1) 4 (by omega) (by omega)
    have hw:∃w:Str,Zm (.str w)=true/\ixT (.lst [.str "a",.str "b",.str "ab",.str "zz"]) (.int q')= .ok (.str w):=by
     have hq4:q' =0\/q' =1\/q' =2\/q' =3:=by omega
     rcases hq4 with rfl | rfl | rfl | rfl
     ·exact⟨"a",by decide,rfl⟩
     ·exact⟨"b",by decide,rfl⟩
     ·exact⟨"ab",by decide,rfl⟩
     ·exact⟨"zz",by decide,rfl⟩
    obtain⟨w,hw,hx⟩:=hw;refine⟨.word w, ?_,.word hw⟩;rw[zI (t:=(Ru.word w).t)]
    ·rfl
    ·rw[jN tk3,Ru.t];refine zy (YY rfl ?_);show zb ixT _ _ (lr ns k (d+1) p .un (.vl (.int (q - 4))))=_;rw[zt,Q2 hq'];exact hx
   rw[zd (zw (by rw[tk3,beq_eq_false_iff_ne.mpr h4]))]
   by_cases h5:m=4
   ·subst h5;refine⟨.rising, ?_,.rising⟩;rw[zy (t:=Ru.rising.t)]
    ·rfl
    ·show ifE _ _ _ (lr ns k (d+1) p .un (.vl (.int (q - 4))))=_;unfold ifE;rw[tk4,bOk];rfl
   ·refine⟨.unlike, ?_,.unlike⟩;rw[zy (t:=Ru.unlike.t)]
    ·rfl
    ·show ifE _ _ _ (lr ns k (d+1) p .un (.vl (.int (q - 4))))=_;unfold ifE;rw[tk4,bOk,beq_eq_false_iff_ne.mpr h5];rfl
theorem yf (hx:W 2 x)(hr:j4 3 r):f_8 8 [r.t,x]= .ok (.bl (kp r x)):=J4 (by omega) hx 8 3 (by omega) r hr
theorem Xy {k:Kd}(hk:k.Ok 3):GV [k.t]= .ok .non:=by
 have hi:=qu 3 k hk;show zz (GU f_3 [.vl k.t])=_;rw[GU,zw]
 ·rfl
 ·show u1 (Ji (za 1 f_3 (z9 (vE 0) zj))) [.vl k.t]=_;rw[U6,WG,zW,v0,bOk,y9 _ (wX 3 _ hi).so,hi];rfl
theorem W6 {k:Kd}(hk:k.Ok 3)(h5:k.all.length<=500):f_u [k.t]= .ok (.lst k.all):=by
 show zz (b_u GV (f_2 20) (f_d 20) [.vl k.t,.un])=_;have e1:zL 1 (za 1 (f_2 20) (z9 (vE 0) (zj))) [.vl k.t,.un]= .nx (en2 k.t (.int (k.all.length:Int))):=by
  rw[zM (t:= .int (k.all.length:Int))]
  ·rfl
  ·rw[zW,v0,bOk,jH (by omega) hk]
 have e2:zD gtC (vB 1) (cE (.int 500)) (en2 k.t (.int (k.all.length:Int)))= .ok false:=by
  rw[zN,w1,bOk,zV,bOk,Xu,decide_eq_false (by omega)]
 have er:Zu (vE 1) (en2 k.t (.int (k.all.length:Int)))= .ok (rng 0 k.all.length):=by
  rw[qF (j:=(k.all.length:Int)) rfl ⟨by omega,by omega⟩,bF]
 have ec:zG (zK 0) Zl (za 2 (f_d 20) (z9 (vE 1) (z9 (vE 0) (zj)))) 1 [0] (en2 k.t (.int (k.all.length:Int))) (rng 0 k.all.length)= .ok ((rng 0 k.all.length).map λt=>match t with | .int i=>(k.all[i.toNat]?).getD .non | y=>y):=
  Zb _ (by unfold rng;rw[a9,bG];have:bnd=16777216:=rfl;omega) λt ht=>by
   unfold rng at ht;obtain⟨i,hi,rfl⟩:=aO.mp ht;obtain⟨x,hx⟩:=Uh (bo.mp hi);show za 2 _ _ (en2 (.int ((0:Int)+(i:Int))) k.t)=R.ok ((k.all[((0:Int)+(i:Int)).toNat]?).getD .non);rw[show ((0:Int)+(i:Int))=(i:Int) by omega,Z7,v1,bOk,v0,bOk,G4 hk hx,bF,hx]
   rfl
 have e3:GM (Zu (vE 1)) (zK 0) (Zl) (za 2 (f_d 20) (z9 (vE 1) (z9 (vE 0) (zj)))) 1 [0] (en2 k.t (.int (k.all.length:Int)))= .rf k.all:=by
  show ((Zu (vE 1) (en2 k.t (.int (k.all.length:Int)))).s λts=>(zG _ _ _ _ _ (en2 k.t (.int (k.all.length:Int))) ts).s λvs=>RS.rf vs)=_;rw[er,ZS,ec,ZS];exact congrArg RS.rf (all_map k)
 rw[b_u,zd (qE (t:= .non) (by rw[zW,v0,bOk,Xy hk])),zd e1,zd (zw e2),e3]
 rfl
theorem WV (h:j4 3 r):gA [r.t]= .ok .non:=by
 show zz (z00 f_7 [.vl r.t])=_;rw[z00,zw]
 ·rfl
 ·have e:f_7 [r.t]= .ok (.bl true):=by
   show zz (zF (za 2 (f_j 8) (z9 (vE 0) (z9 (cE (.int 3)) zj))) [.vl r.t])=_;rw[zy (t:= .bl true)]
   ·rfl
   ·show za 2 _ _ [.vl r.t]=_;rw[Z7,v0,bOk,zV,bOk];exact J0 8 3 (by omega) r h
  rw[U6,WG,zW,v0,bOk,e];rfl
theorem Q3:zz (zF f ρ)=f (frz ρ):=by rw[Zi,Jb]
theorem ix0 (h:vE i ρ= .ok (.tup [a,b])):zb ixT (vE i) (cE (.int 0)) ρ= .ok a:=by rw[zt,h,bOk,zV,bOk,at0]
theorem ix1 (h:vE i ρ= .ok (.tup [a,b])):zb ixT (vE i) (cE (.int 1)) ρ= .ok b:=by rw[zt,h,bOk,zV,bOk,at1]
noncomputable abbrev sv (t:T)(rs ds us:List T):List (Str×Fd):=[("kind",.tv t),("remaining",.tl rs),("done",.tl ds),("undone",.tl us)]
noncomputable abbrev Rem (fs:List (Str×Fd))(rs:List T):Prop:=fs.lookup ("remaining":Str)=some (.tl rs)
theorem Q4:atT (rs++[w]) (-1)= .ok w:=by
 have:atI (rs++[w]) (-1)=some w:=by
  unfold atI ixN;have hl:(rs++[w]).length=rs.length+1:=by simp
  rw[if_neg (by decide),if_pos (by omega),hl,show ((-1:Int)+((rs.length+1:Nat):Int)).toNat=rs.length by omega]
  show (rs++[w])[rs.length]? =some w;rw[aq (aj _),cA];rfl
 unfold atT;rw[this]
theorem ix_l {j:Nat}{fs:List (Str×Fd)}{w:T}{rs:List T}{ρ:En}{os:List Ob}(h:obD 101 0 j ρ=some (0,fs,os))(hl:Rem fs (rs++[w])):ixF 101 0 j "remaining" (Wp (cE (.int 1))) ρ= .ok w:=by
 unfold ixF;rw[h];dsimp only;rw[show fs.lookup ("remaining":Str)=_ from hl];exact Q4
abbrev oo (fs:List (Str×Fd)):En:=[.oc 101 fs,.un]
theorem ix_v (hl:Rem fs (rs++[w])):ixV 101 0 1 "remaining" (Wp (cE (.int 1))) (oo fs)= .ok w:=by
 have:lsV 101 0 1 "remaining" (oo fs)=some (rs++[w]):=by
  show (match fs.lookup ("remaining":Str) with | some (.tl ts)=>some ts | _=>none)=_
  rw[show fs.lookup ("remaining":Str)=_ from hl]
 unfold ixV;rw[this];exact Q4
theorem Q5 (hl:Rem fs (rs++[.lst ws])):z04 fs []= .ok (.lst ws):=by
 show zz (zF (ap1 GN (ixV 101 0 1 "remaining" (Wp (cE (.int 1))))) (oo fs))=_;rw[Q3];show ap1 GN _ (oo fs)=_;rw[j3,ix_v hl];rfl
theorem Q6 (hl:Rem fs (rs++[.lst ws])):gB fs []= .ok (.int (ws.length:Int)):=by
 show zz (zF (ap1 Ze (ixV 101 0 1 "remaining" (Wp (cE (.int 1))))) (oo fs))=_;rw[Q3];show ap1 Ze _ (oo fs)=_;rw[j3,ix_v hl];rfl
theorem Q7:z05 (sv t rs ds us) []= .ok (.tup [.int (ds.length:Int),.int (us.length:Int)]):=rfl
theorem Q8 {g:List (Str×Fd)->List T->R T}(h:obL k i j ρ=some fs)(hg:g fs []=r):uq k i j 0 g zj ρ=r:=by
 unfold uq;rw[h];exact hg
theorem Xz {k:Kd}(hk:k.Ok 3)(h5:k.all.length<=500):f_w [] [k.t]= .ok (.non,sv k.t [.lst k.all] [] []):=by
 show JU 101 2 (b_w f_u [.ob 101 0,.vl k.t,.st [(101,[])]])=_;have e:z9 (za 1 f_u (z9 (vE 1) zj)) zj [.ob 101 0,.vl k.t,.st [(101,[("kind",.tv k.t)])]]= .ok [.lst k.all]:=by
  show ((za 1 f_u (z9 (vE 1) zj)) _).bind _=_;rw[zW,v1,bOk,W6 hk h5];rfl
 have e2:Qn 101 0 2 "remaining" (z9 (za 1 f_u (z9 (vE 1) zj)) zj) [.ob 101 0,.vl k.t,.st [(101,[("kind",.tv k.t)])]]= .nx [.ob 101 0,.vl k.t,.st [(101,[("kind",.tv k.t),("remaining",.tl [.lst k.all])])]]:=by
  unfold Qn;rw[e];rfl
 unfold b_w;show JU 101 2 (match Qn 101 0 2 "remaining" (z9 (za 1 f_u (z9 (vE 1) zj)) zj) [.ob 101 0,.vl k.t,.st [(101,[("kind",.tv k.t)])]] with
  | .nx ρ' =>_
  | .ex c=> .ex c
  | _=> .bad)=_
 rw[e2];rfl
def J6 (b:Bool)(r:Ru)(ws:List T):List T:=ws.filter λx=>kp r x == b
noncomputable def dw (b:Bool):Str:=if b then "keep" else "bar"
def stp (b:Bool)(r:Ru):T:= .tup [.str (dw b),r.t]
theorem kw (b:Bool):eqC (.str (dw b)) (.str "keep")= .ok b:=by cases b <;> rfl
theorem Gf (a b:Bool):eqC (.bl a) (.bl b)= .ok (a == b):=by cases a <;> cases b <;> rfl
theorem z1L (h:vE i ρ= .ok (stp b r)):zb ixT (vE i) (cE (.int 0)) ρ= .ok (.str (dw b)):=ix0 h
theorem z1M (h:vE i ρ= .ok (stp b r)):zb ixT (vE i) (cE (.int 1)) ρ= .ok r.t:=ix1 h
theorem yg (hr:j4 3 r)(hw:∀x∈ws,W 2 x)(hl:ws.length<=bnd):f_t [stp b r,.lst ws]= .ok (.lst (J6 b r ws)):=by
 show zz (b_t (f_8 8) [.vl (stp b r),.vl (.lst ws),.un])=_;have e1:zL 2 (ZV eqC (zb ixT (vE 0) (cE (.int 0))) (cE (.str "keep"))) [.vl (stp b r),.vl (.lst ws),.un]= .nx [.vl (stp b r),.vl (.lst ws),.vl (.bl b)]:=by
  rw[zM (t:= .bl b)]
  ·rfl
  ·rw[Zj,z1L rfl,bOk,zV,bOk,kw,bOk]
 have ec:zG (zK 0) (zD eqC (za 2 (f_8 8) (z9 (zb ixT (vE 1) (cE (.int 1))) (z9 (vE 0) (zj)))) (vB 2)) (vE 0) 1 [0,2] [.vl (stp b r),.vl (.lst ws),.vl (.bl b)] ws= .ok (J6 b r ws):=
  Zw _ hl λt ht=>⟨by
   show zD eqC _ _ [.vl t,.vl (stp b r),.vl (.bl b)]=_;rw[zN,Z7,z1M (b:=b) rfl,bOk,v0,bOk,yf (hw t ht) hr,bOk];exact Gf _ _,rfl⟩
 rw[b_t,zd e1,zy (t:= .lst (J6 b r ws))]
 ·rfl
 ·show Z0 _ _ _ _ _ _ [.vl (stp b r),.vl (.lst ws),.vl (.bl b)]=_;rw[Z2,jf,v1,bOk];show ((zG _ _ _ _ _ _ ws).bind _)=_;rw[ec,bOk]
theorem Q9 (hd:d<=3)(hr:j4 d r)(hw:∀x∈ws,W 2 x)(hl:ws.length<=bnd):XY [.lst ws,stp b r]= .ok (.lst (J6 b r ws)):=by
 show zz (GY (f_a 8) (en2 (.lst ws) (stp b r)))=_;have ec:zG (zK 0) (zD eqC (za 2 (f_a 8) (z9 (zb ixT (vE 1) (cE (.int 1))) (z9 (vE 0) (zj)))) (ZV eqC (zb ixT (vE 1) (cE (.int 0))) (cE (.str "keep")))) (vE 0) 1 [1] (en2 (.lst ws) (stp b r)) ws= .ok (J6 b r ws):=
  Zw _ hl λt ht=>⟨by
   show zD eqC _ _ (en2 t (stp b r))=_;have ek:f_a 8 [r.t,t]= .ok (.bl (kp r t)):=jm (by omega) (hw t ht) 8 d (by omega) r hr
   rw[zN,Z7,z1M (b:=b) rfl,bOk,v0,bOk,ek,bOk,Zj,z1L (r:=r) rfl,bOk,zV,bOk,kw,bOk,bOk,Gf],rfl⟩
 rw[GY,zy (t:= .lst (J6 b r ws))]
 ·rfl
 ·show Z0 _ _ _ _ _ _ (en2 (.lst ws) (stp b r))=_;rw[Z2,jf,v0,bOk];show ((zG _ _ _ _ _ _ ws).bind _)=_;rw[ec,bOk]
theorem vP:z06 (sv t rs ds us) []= .ok (.lst ds):=rfl
theorem XA {k i j n:Nat}{f:Str}{fa:En->R T}{ρ:En}{fs:List (Str×Fd)}{os:List Ob}{ts:List T}{t:T}(h:obD k i j ρ=some (n,fs,os))(hl:fs.lookup f=some (.tl ts))(hf:fa ρ= .ok t)(hb:ts.length < bnd):Vp k i j f fa ρ= .nx (ρ.set j (.st (os.set n (k,u3 f (.tl (ts++[t])) fs)))):=by
 unfold Vp;rw[h];dsimp only;rw[hl];dsimp only;rw[hf,ZS,if_pos hb]
theorem uC {k i j n nn:Nat}{m:Str}{g:List (Str×Fd)->List T->R (T×List (Str×Fd))}{ga:En->R (List T)}{ρ:En}{fs fs' :List (Str×Fd)}{os:List Ob}{ts:List T}{t:T}(h:obD k i j ρ=some (n,fs,os))(hm:fs.lookup m=none)(ha:ga ρ= .ok ts)(hn:ts.length=nn)(hg:g fs ts= .ok (t,fs')):u6 k i j m nn g ga ρ= .ok (t,ρ.set j (.st (os.set n (k,fs')))):=by
 unfold u6;rw[h];dsimp only;rw[hm,if_pos (show (none:Option Fd).isNone=true from rfl),ha,bOk,if_pos hn,hg];rfl
theorem WW (m:Str)(h:(m == ("kind":Str) || (m == ("remaining":Str) || (m == ("done":Str) || m == ("undone":Str))))=false):(sv t rs ds us).lookup m=none:=by
 simp only[fE]at h;obtain⟨a,b,c,d⟩:=h;simp only[sv,aJ,a,b,c,d];rfl
theorem Z8 (h:f ρ= .nx ρ'):ZH f g ρ=g ρ' :=by unfold ZH;rw[h]
theorem z1N (hf:f ρ= .ok x)(hg:g ρ= .ok y):z9 f (z9 g zj) ρ= .ok [x,y]:=by
 show ((f ρ).bind λt=>((z9 g zj) ρ).bind λts=> .ok (t :: ts))=_;rw[hf,bOk];show ((g ρ).bind λt=>(R.ok []).bind λts=>R.ok (t :: ts)).bind _=_;rw[hg];rfl
theorem Gg (hf:f ρ= .ok x):z9 f zj ρ= .ok [x]:=by
 show ((f ρ).bind λt=>(R.ok []).bind λts=>R.ok (t :: ts))=_;rw[hf];rfl
theorem XB:z9 (Zy (z9 (vE 1) (z9 (vE 2) zj))) zj [a,.vl (.str (dw b)),.vl r.t,c,s]= .ok [stp b r]:=rfl
theorem Gh:z9 (cE (.str "keep")) (z9 (vE 1) zj) [a,.vl y,c]= .ok [.str (dw true),y]:=by
 rw[show dw true="keep" from if_pos rfl];rfl
theorem z1O:z9 (cE (.str "bar")) (z9 (vE 1) zj) [a,.vl y,c]= .ok [.str (dw false),y]:=by
 rw[show dw false="bar" from if_neg aA];rfl
theorem ob2 (fs:List (Str×Fd)):obD 101 0 2 [.ob 101 0,a,.st [(101,fs)]]=some (0,fs,[(101,fs)]):=rfl
theorem ob4 (fs:List (Str×Fd)):obD 101 0 4 [.ob 101 0,a,b,c,.st [(101,fs)]]=some (0,fs,[(101,fs)]):=rfl
theorem z1P (fs:List (Str×Fd))(x:T):f_k fs [x]=JU 101 2 (b_k f_t [.ob 101 0,.vl x,.st [(101,fs)]]):=rfl
theorem Gi (fs:List (Str×Fd))(x y:T):f_q fs [x,y]=JU 101 4 (b_q gA gB f_k [.ob 101 0,.vl x,.vl y,.un,.st [(101,fs)]]):=rfl
theorem XD (fs:List (Str×Fd))(x:T):gC fs [x]=JU 101 2 (u6 101 0 2 "new_step" 2 f_q (z9 (cE (.str "keep")) (z9 (vE 1) zj)) [.ob 101 0,.vl x,.st [(101,fs)]]):=rfl
theorem Gj (fs:List (Str×Fd))(x:T):gD fs [x]=JU 101 2 (u6 101 0 2 "new_step" 2 f_q (z9 (cE (.str "bar")) (z9 (vE 1) zj)) [.ob 101 0,.vl x,.st [(101,fs)]]):=rfl
theorem z0d (fs:List (Str×Fd))(x t:T):JU 101 2 (.ok (t,[.ob 101 0,.vl x,.st [(101,fs)]]))= .ok (t,fs):=rfl
section
variable {k:Kd}{t:T}{rs ds us ws:List T}{b:Bool}{r:Ru}
abbrev sv' (t:T)(rs ds us ws:List T)(b:Bool)(r:Ru):List (Str×Fd):=sv t ((rs++[.lst ws])++[.lst (J6 b r ws)]) (ds++[stp b r]) us
theorem Gk (hr:j4 3 r)(hw:∀x∈ws,W 2 x)(hl:ws.length<=1000)(h1:rs.length<=1000)(h2:ds.length<=1000):f_k (sv t (rs++[.lst ws]) ds us) [stp b r]= .ok (.non,sv' t rs ds us ws b r):=by
 have hb:bnd=16777216:=rfl;rw[z1P];have e1:=XA (k:=101) (i:=0) (j:=2) (f:="remaining") (fa:=za 2 f_t (z9 (vE 1) (z9 (ixF 101 0 2 "remaining" (Wp (cE (.int 1)))) (zj)))) (ρ:=[.ob 101 0,.vl (stp b r),.st [(101,sv t (rs++[.lst ws]) ds us)]]) (t:= .lst (J6 b r ws)) rfl rfl
  (by rw[Z7,v1,bOk,ix_l (rs:=rs) (w:= .lst ws) rfl rfl,bOk,yg hr hw (by omega)]) (by rw[ao,aC];omega)
 have e2:=XA (k:=101) (i:=0) (j:=2) (f:="done") (fa:=vE 1) (ρ:=[.ob 101 0,.vl (stp b r),.st [(101,sv t ((rs++[.lst ws])++[.lst (J6 b r ws)]) ds us)]]) (ts:=ds) (t:=stp b r) rfl rfl rfl (by omega)
 unfold b_k;rw[Z8 e1];show JU 101 2 (ZH _ _ [.ob 101 0,.vl (stp b r),.st [(101,sv t ((rs++[.lst ws])++[.lst (J6 b r ws)]) ds us)]])=_;rw[Z8 e2];rfl
theorem VB (hr:j4 3 r)(hw:∀x∈ws,W 2 x)(hl:ws.length<=1000)(h1:rs.length<=1000)(h2:ds.length<=1000):f_q (sv t (rs++[.lst ws]) ds us) [.str (dw b),r.t]= .ok (.int ((ws.length:Int) - ((J6 b r ws).length:Int)),sv' t rs ds [] ws b r):=by
 rw[Gi];have e1:UR (za 1 gA (z9 (vE 2) zj)) [.ob 101 0,.vl (.str (dw b)),.vl r.t,.un,.st [(101,sv t (rs++[.lst ws]) ds us)]]= .nx [.ob 101 0,.vl (.str (dw b)),.vl r.t,.un,.st [(101,sv t (rs++[.lst ws]) ds us)]]:=qE (t:= .non) (by rw[zW];exact WV hr)
 have e2:zL 3 (uq 101 0 4 0 gB zj) [.ob 101 0,.vl (.str (dw b)),.vl r.t,.un,.st [(101,sv t (rs++[.lst ws]) ds us)]]= .nx [.ob 101 0,.vl (.str (dw b)),.vl r.t,.vl (.int (ws.length:Int)),.st [(101,sv t (rs++[.lst ws]) ds us)]]:=by
  rw[zM (t:= .int (ws.length:Int))]
  ·rfl
  ·exact Q8 rfl (Q6 (rs:=rs) rfl)
 have d0:=Gk (t:=t) (rs:=rs) (ds:=ds) (ws:=ws) (b:=b) (us:=us) hr hw hl h1 h2;have m1:(sv t (rs++[.lst ws]) ds us).lookup ("do_step":Str)=none:=WW _ (by decide+kernel)
 have m:=uC (nn:=1) (ob4 (a:= .vl (.str (dw b))) (b:= .vl r.t) (c:= .vl (.int (ws.length:Int))) (sv t (rs++[.lst ws]) ds us)) m1 XB rfl d0;have e3:drM (u6 101 0 4 "do_step" 1 f_k (z9 (Zy (z9 (vE 1) (z9 (vE 2) (zj)))) (zj))) [.ob 101 0,.vl (.str (dw b)),.vl r.t,.vl (.int (ws.length:Int)),.st [(101,sv t (rs++[.lst ws]) ds us)]]= .nx [.ob 101 0,.vl (.str (dw b)),.vl r.t,.vl (.int (ws.length:Int)),.st [(101,sv' t rs ds us ws b r)]]:=by
  unfold drM;rw[m];rfl
 have e4:Qn 101 0 4 "undone" zj [.ob 101 0,.vl (.str (dw b)),.vl r.t,.vl (.int (ws.length:Int)),.st [(101,sv' t rs ds us ws b r)]]= .nx [.ob 101 0,.vl (.str (dw b)),.vl r.t,.vl (.int (ws.length:Int)),.st [(101,sv' t rs ds [] ws b r)]]:=by
  unfold Qn;rw[ob4];rfl
 unfold b_q;rw[Z8 e1,Z8 e2,Z8 e3,Z8 e4];unfold XU;have ev:vE 3 [.ob 101 0,.vl (.str (dw b)),.vl r.t,.vl (.int (ws.length:Int)),.st [(101,sv' t rs ds [] ws b r)]]= .ok (.int (ws.length:Int)):=rfl;rw[zt,ev,bOk,Q8 (fs:=sv' t rs ds [] ws b r) rfl (Q6 (rs:=rs++[.lst ws]) rfl)];rfl
theorem XF (hr:j4 3 r)(hw:∀x∈ws,W 2 x)(hl:ws.length<=1000)(h1:rs.length<=1000)(h2:ds.length<=1000):gC (sv t (rs++[.lst ws]) ds us) [r.t]= .ok (.int ((ws.length:Int) - ((J6 true r ws).length:Int)),sv' t rs ds [] ws true r):=by
 have d0:=VB (t:=t) (rs:=rs) (ds:=ds) (ws:=ws) (b:=true) (us:=us) hr hw hl h1 h2;have m1:(sv t (rs++[.lst ws]) ds us).lookup ("new_step":Str)=none:=WW _ (by decide+kernel)
 rw[XD,uC (nn:=2) (ob2 _) m1 Gh rfl d0];exact z0d _ _ _
theorem Gm (hr:j4 3 r)(hw:∀x∈ws,W 2 x)(hl:ws.length<=1000)(h1:rs.length<=1000)(h2:ds.length<=1000):gD (sv t (rs++[.lst ws]) ds us) [r.t]= .ok (.int ((ws.length:Int) - ((J6 false r ws).length:Int)),sv' t rs ds [] ws false r):=by
 have d0:=VB (t:=t) (rs:=rs) (ds:=ds) (ws:=ws) (b:=false) (us:=us) hr hw hl h1 h2;have m1:(sv t (rs++[.lst ws]) ds us).lookup ("new_step":Str)=none:=WW _ (by decide+kernel)
 rw[Gj,uC (nn:=2) (ob2 _) m1 z1O rfl d0];exact z0d _ _ _
theorem vQ {α:Type}(xs:List α)(x:α):(xs++[x]).dropLast=xs:=List.dropLast_concat
theorem XG {α:Type}(xs:List α)(x:α):(xs++[x])[(xs++[x]).length - 1]? =some x:=by
 rw[ao,aC,Nat.add_sub_cancel,aq (aj _),cA];rfl
theorem XH {k i j n:Nat}{f:Str}{ρ:En}{fs:List (Str×Fd)}{os:List Ob}{ts:List T}{t:T}(h:obD k i j ρ=some (n,fs,os))(hl:fs.lookup f=some (.tl (ts++[t]))):Qo k i j f ρ= .ok (t,ρ.set j (.st (os.set n (k,u3 f (.tl ts) fs)))):=by
 unfold Qo;rw[h];dsimp only;rw[hl];dsimp only;rw[XG];dsimp only;rw[vQ]
theorem Gn (fs:List (Str×Fd))(x:T):XZ fs [x]=JU 101 2 (z03 gC gD [.ob 101 0,.vl x,.st [(101,fs)]]):=rfl
theorem Go (hr:j4 3 r)(hw:∀x∈ws,W 2 x)(hl:ws.length<=1000)(h1:rs.length<=1000)(h2:ds.length<=1000):XZ (sv t (rs++[.lst ws]) ds us) [stp b r]= .ok (.int ((ws.length:Int) - ((J6 b r ws).length:Int)),sv' t rs ds [] ws b r):=by
 have a1:z9 (zb ixT (vE 1) (cE (.int 1))) zj [.ob 101 0,.vl (stp b r),.st [(101,sv t (rs++[.lst ws]) ds us)]]= .ok [r.t]:=Gg (z1M (b:=b) rfl);have mk:(sv t (rs++[.lst ws]) ds us).lookup ("keep":Str)=none:=WW _ (by decide+kernel)
 have mb:(sv t (rs++[.lst ws]) ds us).lookup ("bar":Str)=none:=WW _ (by decide+kernel)
 rw[Gn];unfold z03 z1x;rw[zN,z1L (b:=b) (r:=r) rfl,bOk,zV,bOk,kw,bOk];cases b with
 | true=>rw[if_pos rfl,uC (nn:=1) (ob2 _) mk a1 rfl (XF (us:=us) hr hw hl h1 h2)];exact z0d _ _ _
 | false=>rw[if_neg aA,uC (nn:=1) (ob2 _) mb a1 rfl (Gm (us:=us) hr hw hl h1 h2)];exact z0d _ _ _
theorem XI {w:T}(hu:us.length<=1000):f_5 (sv t (rs++[w]) (ds++[stp b r]) us) []= .ok (.str (dw b),sv t rs ds (us++[stp b r])):=by
 have hb:bnd=16777216:=rfl;show JU 101 2 (b_5 [.ob 101 0,.un,.st [(101,sv t (rs++[w]) (ds++[stp b r]) us)]])=_;have e1:ifS (zD eqC (ap1 Ze (XV 101 0 2 "done")) (cE (.int 0))) uh nxS [.ob 101 0,.un,.st [(101,sv t (rs++[w]) (ds++[stp b r]) us)]]= .nx [.ob 101 0,.un,.st [(101,sv t (rs++[w]) (ds++[stp b r]) us)]]:=by
  refine zw ?_;show R.ok ((((ds++[stp b r]).length:Nat):Int) == 0)=_;rw[ao,aC,beq_eq_false_iff_ne.mpr (by omega)]
 have e2:seM 1 (Qo 101 0 2 "done") [.ob 101 0,.un,.st [(101,sv t (rs++[w]) (ds++[stp b r]) us)]]= .nx [.ob 101 0,.vl (stp b r),.st [(101,sv t (rs++[w]) ds us)]]:=by
  unfold seM;rw[XH (ob2 _) rfl];rfl
 have e3:drM (Qo 101 0 2 "remaining") [.ob 101 0,.vl (stp b r),.st [(101,sv t (rs++[w]) ds us)]]= .nx [.ob 101 0,.vl (stp b r),.st [(101,sv t rs ds us)]]:=by
  unfold drM;rw[XH (ob2 _) rfl];rfl
 have e4:Vp 101 0 2 "undone" (vE 1) [.ob 101 0,.vl (stp b r),.st [(101,sv t rs ds us)]]= .nx [.ob 101 0,.vl (stp b r),.st [(101,sv t rs ds (us++[stp b r]))]]:=by
  rw[XA (ob2 _) (ts:=us) (t:=stp b r) rfl rfl (by omega)];rfl
 unfold b_5;rw[Z8 e1,Z8 e2,Z8 e3,Z8 e4];rfl
theorem vR (hr:j4 3 r)(hw:∀x∈ws,W 2 x)(hl:ws.length<=1000)(h1:rs.length<=1000)(h2:ds.length<=1000):f_4 (sv t (rs++[.lst ws]) ds (us++[stp b r])) []= .ok (.str (dw b),sv' t rs ds us ws b r):=by
 show JU 101 2 (b_4 f_k [.ob 101 0,.un,.st [(101,sv t (rs++[.lst ws]) ds (us++[stp b r]))]])=_;have e1:ifS (zD eqC (ap1 Ze (XV 101 0 2 "undone")) (cE (.int 0))) uh nxS [.ob 101 0,.un,.st [(101,sv t (rs++[.lst ws]) ds (us++[stp b r]))]]= .nx [.ob 101 0,.un,.st [(101,sv t (rs++[.lst ws]) ds (us++[stp b r]))]]:=by
  refine zw ?_;show R.ok ((((us++[stp b r]).length:Nat):Int) == 0)=_;rw[ao,aC,beq_eq_false_iff_ne.mpr (by omega)]
 have e2:seM 1 (Qo 101 0 2 "undone") [.ob 101 0,.un,.st [(101,sv t (rs++[.lst ws]) ds (us++[stp b r]))]]= .nx [.ob 101 0,.vl (stp b r),.st [(101,sv t (rs++[.lst ws]) ds us)]]:=by
  unfold seM;rw[XH (ob2 _) rfl];rfl
 have m1:(sv t (rs++[.lst ws]) ds us).lookup ("do_step":Str)=none:=WW _ (by decide+kernel)
 have m:=uC (nn:=1) (ga:=z9 (vE 1) zj) (ts:=[stp b r]) (ob2 (a:= .vl (stp b r)) (sv t (rs++[.lst ws]) ds us)) m1 rfl rfl (Gk hr hw hl h1 h2);have e3:drM (u6 101 0 2 "do_step" 1 f_k (z9 (vE 1) zj)) [.ob 101 0,.vl (stp b r),.st [(101,sv t (rs++[.lst ws]) ds us)]]= .nx [.ob 101 0,.vl (stp b r),.st [(101,sv' t rs ds us ws b r)]]:=by
  unfold drM;rw[m];rfl
 unfold b_4;rw[Z8 e1,Z8 e2,Z8 e3];rfl
theorem vS:f_o (sv t rs [] us) []= .ex 6:=rfl
theorem vT:f_o (sv t rs (ds++[d]) us) []= .bad:=by
 show zz (b_o [.oc 101 (sv t rs (ds++[d]) us),.un,.un])=_;unfold b_o;rw[zd (zw ?_)]
 ·rfl
 ·show R.ok ((((ds++[d]).length:Nat):Int) == 0)=_;rw[ao,aC,beq_eq_false_iff_ne.mpr (by omega)]
theorem Qa:f_n (sv t rs ds []) []= .ex 6:=rfl
theorem Qb:f_n (sv t rs ds (us++[d])) []= .bad:=by
 show zz (b_n [.oc 101 (sv t rs ds (us++[d])),.un,.un])=_;unfold b_n;rw[zd (zw ?_)]
 ·rfl
 ·show R.ok ((((us++[d]).length:Nat):Int) == 0)=_;rw[ao,aC,beq_eq_false_iff_ne.mpr (by omega)]
theorem Ur:f_l 6= .ok (.str "no back"):=rfl
end
theorem z1Q (h:j4 d r):Pl (d+1) r.t:=by
 induction h with
 | sum _ _=>intro x hx;simp only[am,aT,or_false]at hx;rcases hx with rfl | rfl | rfl <;> trivial
 | size _ _=>intro x hx;simp only[am,aT,or_false]at hx;rcases hx with rfl | rfl | rfl <;> trivial
 | word _=>intro x hx;simp only[am,aT,or_false]at hx;rcases hx with rfl | rfl <;> trivial
 | rising=>intro x hx;simp only[am,aT,or_false]at hx;subst hx;trivial
 | unlike=>intro x hx;simp only[am,aT,or_false]at hx;subst hx;trivial
 | no _ ih=>intro x hx;simp only[am,aT,or_false]at hx;rcases hx with rfl | rfl;trivial;exact ih
 | all _ _ i1 i2=>intro x hx;simp only[am,aT,or_false]at hx;rcases hx with rfl | rfl | rfl;trivial;exact i1;exact i2
 | some _ _ i1 i2=>intro x hx;simp only[am,aT,or_false]at hx;rcases hx with rfl | rfl | rfl;trivial;exact i1;exact i2
theorem Gp (h:j4 2 r):Pl 29 (stp b r):=λx hx=>by
 simp only[am,aT,or_false]at hx;rcases hx with rfl | rfl
 ·trivial
 ·exact(z1Q h).le (show 2+1<=28 by decide)
theorem XJ (ns:List Int)(a:Int)(ha:0<=a):∃(b:Bool) (r:Ru),j4 2 r/\XX [scr ns,.int a]= .ok (stp b r):=by
 obtain⟨p,hp,p0,p2⟩:=zP ns a 2 ha (by decide)
 obtain⟨r,hr,ok⟩:=W5 ns 8 2 (by omega) (by omega) (4*a+30) (by omega)
 refine⟨decide (p=0),r,ok, ?_⟩;show zz (GX f_1 (f_h 8) (en2 (scr ns) (.int a)))=_;unfold GX;rw[zy (t:=stp (decide (p=0)) r)]
 ·rfl
 ·show Zy _ (en2 (scr ns) (.int a))=_;refine YY ?_ ?_
  ·rw[zt];show (za 3 f_1 _ (en2 (scr ns) (.int a))).bind (ixT (.lst [.str "keep",.str "bar"]))=_;rw[show za 3 f_1 (z9 (vE 0) (z9 (vE 1) (z9 (cE (.int 2)) zj))) (en2 (scr ns) (.int a))=f_1 [scr ns,.int a,.int 2] from rfl,hp,bOk];have:p=0\/p=1:=by omega
   rcases this with rfl | rfl <;> rfl
  ·rw[Zn,v0,bOk,zt,zt,zV,bOk,v1,bOk,uu _ _ (.inl ⟨by decide,by decide⟩),bOk,zV,bOk]
   show (R.ok _).bind _=_;rw[bOk];exact hr
noncomputable abbrev De:Type:=Bool×Ru
abbrev dT (d:De):T:=stp d.1 d.2
abbrev sf (d:De)(ws:List T):List T:=J6 d.1 d.2 ws
def fut:List T->List De->List (List T)
 | _,[]=>[]
 | ws,d :: us=>sf d ws :: fut (sf d ws) us
def Chn (k:Kd):List De->List (List T)->List T->Prop
 | [],[],ws=>ws=k.all
 | d :: ds,w :: rs,ws=>j4 2 d.2/\ws=sf d w/\Chn k ds rs w
 | _,_,_=>False
theorem Chn.len {k:Kd}:∀{ds:List De} {rs:List (List T)} {ws:List T},Chn k ds rs ws->rs.length=ds.length
 | [],[],_,_=>rfl
 | _ :: ds,_ :: rs,_,h=>by rw[af,af,Chn.len h.2.2]
 | [],_ :: _,_,h=>by simp[Chn]at h
 | _ :: _,[],_,h=>by simp[Chn]at h
theorem Chn.sub {k:Kd}:∀{ds:List De} {rs:List (List T)} {ws:List T},Chn k ds rs ws->(∀x∈ws,k.has x=true)/\ws.length<=k.all.length/\∀d∈ds,j4 2 d.2
 | [],[],_,h=>by
  have h:_=k.all:=h;subst h;exact⟨λx hx=>(W1 k x).mp hx,aj _,λ_ z=>nomatch z⟩
 | d :: ds,w :: rs,_,h=>by
  obtain⟨h1,rfl,h3⟩:=h;obtain⟨a,b,c⟩:=Chn.sub h3;refine⟨λx hx=>a x (d3.mp hx).1,aD (List.length_filter_le _ _) b,λe he=> ?_⟩;rcases am.mp he with rfl | z
  ·exact h1
  ·exact c e z
 | [],_ :: _,_,h=>by simp[Chn]at h
 | _ :: _,[],_,h=>by simp[Chn]at h
structure S2 (k:Kd) (n:Nat) (ds:List De) (rs:List (List T)) (ws:List T) (us:List De):Prop where
 ch:Chn k ds rs ws
 un:∀d∈us,j4 2 d.2
 le:ds.length+us.length<=n
abbrev ZP (rs:List (List T))(ws:List T)(us:List De):List T:=(rs.reverse++ws :: fut ws us).map T.lst
abbrev Z1 (ds us:List De):List T:=(ds.reverse++us).map dT
abbrev fv (k:Kd)(ds:List De)(rs:List (List T))(ws:List T)(us:List De):List (Str×Fd):=sv k.t (rs.reverse.map T.lst++[.lst ws]) (ds.reverse.map dT) (us.map dT).reverse
abbrev en (ns:List Int)(k:Kd)(ro wo:List T)(a:Int)(i:T)(b c d:Sl)(fs:List (Str×Fd)):En:=[.vl (scr ns),.vl k.t,.ob 101 0,.vl (.lst ro),.vl (.lst wo),.vl (.int a),.vl i,b,c,d,.un,.st [(101,fs)]]
abbrev eS (ns:List Int)(k:Kd)(ds:List De)(rs:List (List T))(ws:List T)(us:List De)(i:T)(b c d:Sl):En:=en ns k (ZP rs ws us) (Z1 ds us) (ds.length:Int) i b c d (fv k ds rs ws us)
section
variable {ns:List Int}{k:Kd}{ro wo:List T}{a:Int}{i:T}{b c d:Sl}{fs fs' :List (Str×Fd)}{ds us:List De}{rs:List (List T)}{ws w:List T}{n:Nat}{e:De}
theorem obe:obD 101 2 11 (en ns k ro wo a i b c d fs)=some (0,fs,[(101,fs)]):=rfl
theorem e3:vE 3 (en ns k ro wo a i b c d fs)= .ok (.lst ro):=rfl
theorem e4:vE 4 (en ns k ro wo a i b c d fs)= .ok (.lst wo):=rfl
theorem e5:vE 5 (en ns k ro wo a i b c d fs)= .ok (.int a):=rfl
theorem WX {ga:En->R (Bool×En)}(h:ga ρ= .ok (false,ρ')):ifM ga f nxS ρ= .nx ρ' :=by
 unfold ifM;rw[h,ZS];rfl
theorem z1R {k i j n nn:Nat}{g:List (Str×Fd)->List T->R (T×List (Str×Fd))}{ga:En->R (List T)}{ρ:En}{fs fs' :List (Str×Fd)}{os:List Ob}{ts:List T}{t:T}(h:obD k i j ρ=some (n,fs,os))(ha:ga ρ= .ok ts)(hn:ts.length=nn)(hg:g fs ts= .ok (t,fs')):X9 k i j nn g ga ρ= .ok (t,ρ.set j (.st (os.set n (k,fs')))):=by
 unfold X9;rw[h];dsimp only;rw[ha,bOk,if_pos hn,hg];rfl
theorem WY (h:f ρ= .ok (t,ρ'))(h' :g ρ' = .ok t)(hp:Pl 30 t):uo neC f g ρ= .ok (false,ρ'):=by
 unfold uo;rw[h,bOk];show (g ρ').bind _=_;rw[h',bOk,qD hp];rfl
theorem Qc {k i j n:Nat}{m:Str}{ok:Nat->Bool}{gx:Nat->R T}{gO:List (Str×Fd)->List T->R T}{gM:List (Str×Fd)->List T->R (T×List (Str×Fd))}{ρ:En}{fs:List (Str×Fd)}{os:List Ob}{x:Nat}{t:T}(h:obD k i j ρ=some (n,fs,os))(h1:gO fs []= .ex x)(h2:ok x=true)(h3:gx x= .ok t):jI k i j m ok gx gO gM ρ= .ok (t,ρ):=by
 unfold jI;rw[h];dsimp only;rw[h1];dsimp only;rw[if_pos h2,h3];rfl
theorem Us {k i j n:Nat}{m:Str}{ok:Nat->Bool}{gx:Nat->R T}{gO:List (Str×Fd)->List T->R T}{gM:List (Str×Fd)->List T->R (T×List (Str×Fd))}{ρ:En}{fs fs' :List (Str×Fd)}{os:List Ob}{t:T}(h:obD k i j ρ=some (n,fs,os))(h1:gO fs []= .bad)(h2:gM fs []= .ok (t,fs'))(h3:fs.lookup m=none):jI k i j m ok gx gO gM ρ= .ok (t,ρ.set j (.st (os.set n (k,fs')))):=by
 unfold jI;rw[h];dsimp only;rw[h1];dsimp only;rw[h2];exact uC h h3 rfl rfl h2
theorem Gq:sv' k.t (rs.reverse.map T.lst) (ds.reverse.map dT) us' ws e.1 e.2=sv k.t ((ws :: rs).reverse.map T.lst++[.lst (sf e ws)]) ((e :: ds).reverse.map dT) us' :=by
 rw[aR,bn,aR,bn];rfl
theorem uD (h:rs.length=ds.length):ixT (.lst (ZP rs ws us)) (.int (ds.length:Int))= .ok (.lst ws):=by
 refine qa ?_;rw[av,← h,aq (by rw[aG];exact aj _),aG,cA];rfl
theorem Qd:ixT (.lst (Z1 ds (e :: us))) (.int (ds.length:Int))= .ok (dT e):=by
 refine qa ?_;rw[av,aq (by rw[aG];exact aj _),aG,cA];rfl
theorem Ut:Z1 (e :: ds) us=Z1 ds (e :: us):=by
 show eQ dT ((e :: ds).reverse++us)=eQ dT (ds.reverse++e :: us);rw[aR,aX];rfl
theorem Qe:ZP (w :: rs) (sf e w) us=ZP rs w (e :: us):=by
 show eQ T.lst ((w :: rs).reverse++sf e w :: fut (sf e w) us)=eQ T.lst (rs.reverse++w :: sf e w :: fut (sf e w) us);rw[aR,aX];rfl
theorem XL (h:rs.length=ds.length):(ZP rs ws us).take (ds.length+1)++[.lst (sf e ws)]=ZP (ws :: rs) (sf e ws) []:=by
 show (eQ T.lst (rs.reverse++ws :: fut ws us)).take (ds.length+1)++[.lst (sf e ws)]=eQ T.lst ((ws :: rs).reverse++[sf e ws]);rw[← List.map_take,show rs.reverse++ws :: fut ws us=(ws :: rs).reverse++fut ws us by rw[aR,aX];rfl,f9 (by rw[aG,af,h]),bn (l₂:=[sf e ws])];rfl
theorem Uu:(Z1 ds us).take ds.length=ds.reverse.map dT:=by
 rw[← List.map_take,f9 (by rw[aG])]
theorem vU:ds.reverse.map dT++[dT e]=Z1 (e :: ds) []:=by
 show _=eQ dT ((e :: ds).reverse++[]);rw[aW,aR,bn];rfl
theorem ZU:(Z1 ds us).length=ds.length+us.length:=by rw[a9,ao,aG]
theorem Qf:∀(us:List De) (ws:List T),(fut ws us).length=us.length
 | [],_=>rfl
 | d :: us,ws=>by rw[fut,af,Qf us,af]
theorem XM:(ZP rs ws us).length=rs.length+us.length+1:=by rw[a9,ao,aG,af,Qf];omega
theorem Uv:Pl 30 (.str x):=trivial
abbrev brA:En->RS:=zB (zL 8 (za 2 XX (z9 (vE 0) (z9 (zb zC (cE (.int 1000)) (zb Z6 (cE (.int 100)) (vE 6))) (zj)))))
  (zB (zL 9 (za 2 XY (z9 (zb ixT (vE 3) (vE 5)) (z9 (vE 8) (zj)))))
  (zB (ifM (uo neC (X9 101 2 11 1 XZ (z9 (vE 8) (zj))) (zb ZY (ap1 Ze (zb ixT (vE 3) (vE 5))) (ap1 Ze (vB 9)))) (zF (cE (.bl false))) (nxS))
  (zB (zL 3 (zb zC (slE (vE 3) (noO) (ZE (zb zC (vE 5) (cE (.int 1))))) (ZD (z9 (vE 9) (zj)))))
  (zB (zL 4 (zb zC (slE (vE 4) (noO) (ZE (vE 5))) (ZD (z9 (vE 8) (zj)))))
  (zL 5 (zb zC (vE 5) (cE (.int 1))))))))
theorem Gr (hk:k.Ok 3)(h40:k.all.length<=40)(S:S2 k n ds rs ws us)(hn:n<=100){j:Nat}:∃(e:De) (c' d' :Sl),j4 2 e.2/\brA (eS ns k ds rs ws us (.int (0+(j:Int))) b c d)= .nx (eS ns k (e :: ds) (ws :: rs) (sf e ws) [] (.int (0+(j:Int))) b c' d'):=by
 obtain⟨bb,r,hr,hd⟩:=XJ ns (1000+100*(0+(j:Int))) (by omega)
 obtain⟨hh,hl,hds⟩:=S.ch.sub;have hw:∀x∈ws,W 2 x:=λx hx=>G7 2 k x hk (hh x hx);have len:=S.ch.len;have sle:=S.le;have hb:bnd=16777216:=rfl;have rl:=XM (rs:=rs) (ws:=ws) (us:=us);have wl:=ZU (ds:=ds) (us:=us);refine⟨(bb,r),.vl (stp bb r),.vl (.lst (J6 bb r ws)),hr, ?_⟩;have a1:∀{ρ:En},vE 0 ρ= .ok (scr ns)->vE 6 ρ= .ok (.int (0+(j:Int)))->za 2 XX (z9 (vE 0) (z9 (zb zC (cE (.int 1000)) (zb Z6 (cE (.int 100)) (vE 6))) (zj))) ρ= .ok (stp bb r):=λh0 h6=>by
  rw[Z7,h0,bOk,zt,zV,bOk,zt,zV,bOk,h6,bOk,uu _ _ (.inl ⟨by decide,by decide⟩),bOk]
  exact hd
 have s1:zL 8 (za 2 XX (z9 (vE 0) (z9 (zb zC (cE (.int 1000)) (zb Z6 (cE (.int 100)) (vE 6))) (zj)))) (eS ns k ds rs ws us (.int (0+(j:Int))) b c d)= .nx (eS ns k ds rs ws us (.int (0+(j:Int))) b (.vl (stp bb r)) d):=by
  rw[zM (t:=stp bb r)]
  ·rfl
  ·exact a1 rfl rfl
 have s2:zL 9 (za 2 XY (z9 (zb ixT (vE 3) (vE 5)) (z9 (vE 8) (zj)))) (eS ns k ds rs ws us (.int (0+(j:Int))) b (.vl (stp bb r)) d)= .nx (eS ns k ds rs ws us (.int (0+(j:Int))) b (.vl (stp bb r)) (.vl (.lst (J6 bb r ws)))):=by
  rw[zM (t:= .lst (J6 bb r ws))]
  ·rfl
  ·rw[Z7,zt];show (ixT (.lst (ZP rs ws us)) (.int (ds.length:Int))).bind _=_;rw[uD len,bOk];show XY [.lst ws,stp bb r]=_;exact Q9 (by decide) hr hw (by omega)
 have s3:ifM (uo neC (X9 101 2 11 1 XZ (z9 (vE 8) (zj))) (zb ZY (ap1 Ze (zb ixT (vE 3) (vE 5))) (ap1 Ze (vB 9)))) (zF (cE (.bl false))) (nxS) (eS ns k ds rs ws us (.int (0+(j:Int))) b (.vl (stp bb r)) (.vl (.lst (J6 bb r ws))))= .nx (en ns k (ZP rs ws us) (Z1 ds us) (ds.length:Int) (.int (0+(j:Int))) b (.vl (stp bb r)) (.vl (.lst (J6 bb r ws))) (fv k ((bb,r) :: ds) (ws :: rs) (sf (bb,r) ws) [])):=by
  have m0:=z1R (nn:=1) (ga:=z9 (vE 8) zj) (ts:=[stp bb r]) (obe (ns:=ns) (k:=k) (ro:=ZP rs ws us) (wo:=Z1 ds us) (a:=(ds.length:Int)) (i:= .int (0+(j:Int))) (b:=b) (c:= .vl (stp bb r)) (d:= .vl (.lst (J6 bb r ws))) (fs:=fv k ds rs ws us)) rfl rfl (Go (b:=bb) (us:=(us.map dT).reverse) hr.up hw (by omega) (by rw[a9,aG];omega) (by rw[a9,aG];omega))
  rw[Gq (e:=(bb,r))]at m0;refine WX (WY m0 ?_ trivial);show (zb ZY (ap1 Ze (zb ixT (vE 3) (vE 5))) (ap1 Ze (vB 9)) (en ns k (ZP rs ws us) (Z1 ds us) (ds.length:Int) (.int (0+(j:Int))) b (.vl (stp bb r)) (.vl (.lst (J6 bb r ws))) _))=_;rw[zt,j3,zt,e3,bOk,e5,bOk,uD len,bOk];rfl
 have s4:∀{fs:List (Str×Fd)},zL 3 (zb zC (slE (vE 3) (noO) (ZE (zb zC (vE 5) (cE (.int 1))))) (ZD (z9 (vE 9) (zj)))) (en ns k (ZP rs ws us) (Z1 ds us) (ds.length:Int) (.int (0+(j:Int))) b (.vl (stp bb r)) (.vl (.lst (J6 bb r ws))) fs)= .nx (en ns k (ZP (ws :: rs) (sf (bb,r) ws) []) (Z1 ds us) (ds.length:Int) (.int (0+(j:Int))) b (.vl (stp bb r)) (.vl (.lst (J6 bb r ws))) fs):=λ{fs}=>by
  rw[zM (t:= .lst (ZP (ws :: rs) (sf (bb,r) ws) []))]
  ·rfl
  ·rw[zt,Xi,e3,bOk,z1E,bOk,YZ (i:=((ds.length+1:Nat):Int)) (by rw[zt,e5,bOk,zV,bOk,Z4];rfl),bOk,wW,bOk,k6 (x:= .lst (J6 bb r ws)) rfl,bOk,qL (by rw[cN,aC];omega),XL (e:=(bb,r)) len]
 have s5:∀{ro:List T} {fs:List (Str×Fd)},zL 4 (zb zC (slE (vE 4) (noO) (ZE (vE 5))) (ZD (z9 (vE 8) (zj)))) (en ns k ro (Z1 ds us) (ds.length:Int) (.int (0+(j:Int))) b (.vl (stp bb r)) (.vl (.lst (J6 bb r ws))) fs)= .nx (en ns k ro (Z1 ((bb,r) :: ds) []) (ds.length:Int) (.int (0+(j:Int))) b (.vl (stp bb r)) (.vl (.lst (J6 bb r ws))) fs):=λ{ro fs}=>by
  rw[zM (t:= .lst (Z1 ((bb,r) :: ds) []))]
  ·rfl
  ·rw[zt,Xi,e4,bOk,z1E,bOk,YZ (i:=(ds.length:Int)) rfl,bOk,wW,bOk,k6 (x:=dT (bb,r)) rfl,bOk,qL (by rw[cN,aC];omega),Uu,vU]
 rw[show brA _=_ from zd s1,zd s2,zd s3,zd s4,zd s5,zM (t:= .int (((bb,r) :: ds).length:Int))]
 ·rfl
 ·rw[zt,e5,bOk,zV,bOk,Z4];rfl
abbrev brB:En->RS:=zB (ifM (uo neC (jI 101 2 11 "back" okX f_l f_o f_5) (ifE (zD gtC (vB 5) (cE (.int 0))) (zb ixT (zb ixT (vE 4) (zb ZY (vE 5) (cE (.int 1)))) (cE (.int 0))) (cE (.str "no back")))) (zF (cE (.bl false))) (nxS))
  (zL 5 (zb vm (cE (.int 0)) (zb ZY (vE 5) (cE (.int 1)))))
theorem Gs:brB (eS ns k [] [] ws us i b c d)= .nx (eS ns k [] [] ws us i b c d):=by
 have s1:ifM (uo neC (jI 101 2 11 "back" okX f_l f_o f_5) (ifE (zD gtC (vB 5) (cE (.int 0))) (zb ixT (zb ixT (vE 4) (zb ZY (vE 5) (cE (.int 1)))) (cE (.int 0))) (cE (.str "no back")))) (zF (cE (.bl false))) (nxS) (eS ns k [] [] ws us i b c d)= .nx (eS ns k [] [] ws us i b c d):=
  WX (WY (Qc obe vS rfl Ur) (by rw[G6 rfl];rfl) Uv)
 rw[show brB _=_ from zd s1];rfl
theorem Gu (hu:us.length<=1000):brB (eS ns k (e :: ds) (w :: rs) (sf e w) us i b c d)= .nx (eS ns k ds rs w (e :: us) i b c d):=by
 have m0:=XI (t:=k.t) (b:=e.1) (r:=e.2) (rs:=rs.reverse.map T.lst++[.lst w]) (ds:=ds.reverse.map dT) (us:=(us.map dT).reverse) (w:= .lst (sf e w)) (by rw[aG,a9];exact hu)
 have f1:fv k (e :: ds) (w :: rs) (sf e w) us=sv k.t ((rs.reverse.map T.lst++[.lst w])++[.lst (sf e w)]) (ds.reverse.map dT++[dT e]) (us.map dT).reverse:=by
  show sv k.t ((w :: rs).reverse.map T.lst++_) ((e :: ds).reverse.map dT) _=_;rw[aR,bn,aR,bn];rfl
 have f2:sv k.t (rs.reverse.map T.lst++[.lst w]) (ds.reverse.map dT) ((us.map dT).reverse++[stp e.1 e.2])=fv k ds rs w (e :: us):=by
  show _=sv k.t _ _ ((e :: us).map dT).reverse;rw[aL,aR]
 have s1:ifM (uo neC (jI 101 2 11 "back" okX f_l f_o f_5) (ifE (zD gtC (vB 5) (cE (.int 0))) (zb ixT (zb ixT (vE 4) (zb ZY (vE 5) (cE (.int 1)))) (cE (.int 0))) (cE (.str "no back")))) (zF (cE (.bl false))) (nxS) (eS ns k (e :: ds) (w :: rs) (sf e w) us i b c d)= .nx (en ns k (ZP rs w (e :: us)) (Z1 ds (e :: us)) ((e :: ds).length:Int) i b c d (fv k ds rs w (e :: us))):=by
  rw[show eS ns k (e :: ds) (w :: rs) (sf e w) us i b c d=en ns k (ZP rs w (e :: us)) (Z1 ds (e :: us)) ((e :: ds).length:Int) i b c d (sv k.t ((rs.reverse.map T.lst++[.lst w])++[.lst (sf e w)]) (ds.reverse.map dT++[dT e]) (us.map dT).reverse) by rw[← f1,← Qe,← Ut]]
  rw[f2]at m0;refine WX (WY (Us obe vT m0 (WW _ (by decide+kernel))) ?_ Uv)
  show ifE _ _ _ (en ns k (ZP rs w (e :: us)) (Z1 ds (e :: us)) ((e :: ds).length:Int) i b c d _)=_;rw[G5 (by
   show R.ok (decide ((0:Int) < ((e :: ds).length:Int)))=_;rw[decide_eq_true (by rw[af];omega)]),zt,zt,e4,bOk,zt,e5,bOk,zV,bOk,Zg,bOk,show ((e :: ds).length:Int) - 1=(ds.length:Int) by rw[af];omega,Qd]
  rfl
 rw[show brB _=_ from zd s1,zM (t:= .int (ds.length:Int))]
 ·rfl
 ·show ((zb ZY (vE 5) (cE (.int 1)) (en ns k (ZP rs w (e :: us)) (Z1 ds (e :: us)) ((e :: ds).length:Int) i b c d (fv k ds rs w (e :: us))))).bind (vm (.int 0))=_;rw[zt,e5,bOk,zV,bOk,Zg,bOk];show R.ok (T.int (if ((e :: ds).length:Int) - 1 > 0 then ((e :: ds).length:Int) - 1 else 0))=_
  rw[show ((e :: ds).length:Int) - 1=(ds.length:Int) by rw[af];omega]
  split
  ·rfl
  ·rw[show (ds.length:Int)=0 by omega]
abbrev brC:En->RS:=zB (ifM (uo neC (jI 101 2 11 "forth" okX f_l f_n f_4) (ifE (zD ltC (vB 5) (ap1 Ze (vB 4))) (zb ixT (zb ixT (vE 4) (vE 5)) (cE (.int 0))) (cE (.str "no back")))) (zF (cE (.bl false))) (nxS))
  (zL 5 (zb Ws (ap1 Ze (vB 4)) (zb zC (vE 5) (cE (.int 1)))))
theorem Uw (h:ds.length+us.length=wo.length)(h' :a=(ds.length:Int))(x:Int)(hx:x=if us=[] then a else a+1):zL 5 (zb Ws (ap1 Ze (vB 4)) (zb zC (vE 5) (cE (.int 1)))) (en ns k ro wo a i b c d fs)= .nx (en ns k ro wo x i b c d fs):=by
 rw[zM (t:= .int x)]
 ·rfl
 ·show R.ok (T.int (if a+1 < (wo.length:Int) then a+1 else (wo.length:Int)))=_
  subst hx h';cases us with
  | nil=>rw[bC]at h;rw[if_neg (by omega),if_pos rfl,← h];rfl
  | cons e us=>
   rw[af]at h;rw[if_neg (show ¬ (e :: us)=[] from λz=>by cases z)]
   split
   ·rfl
   ·rw[show (wo.length:Int)=(ds.length:Int)+1 by omega]
theorem Gv:brC (eS ns k ds rs ws [] i b c d)= .nx (eS ns k ds rs ws [] i b c d):=by
 have s1:ifM (uo neC (jI 101 2 11 "forth" okX f_l f_n f_4) (ifE (zD ltC (vB 5) (ap1 Ze (vB 4))) (zb ixT (zb ixT (vE 4) (vE 5)) (cE (.int 0))) (cE (.str "no back")))) (zF (cE (.bl false))) (nxS) (eS ns k ds rs ws [] i b c d)= .nx (eS ns k ds rs ws [] i b c d):=
  WX (WY (Qc obe Qa rfl Ur) (by
   rw[G6 (by
    show R.ok (decide ((ds.length:Int) < ((Z1 ds []).length:Int)))=_;rw[decide_eq_false (by rw[ZU,bC];omega)])];rfl) Uv)
 rw[show brC _=_ from zd s1];exact Uw (ds:=ds) (us:=[]) ZU.symm rfl _ rfl
theorem Gw (he:j4 3 e.2)(hw:∀x∈ws,W 2 x)(hl:ws.length<=1000)(h1:rs.length<=1000)(h2:ds.length<=1000):brC (eS ns k ds rs ws (e :: us) i b c d)= .nx (eS ns k (e :: ds) (ws :: rs) (sf e ws) us i b c d):=by
 have m0:=vR (t:=k.t) (b:=e.1) (r:=e.2) (rs:=rs.reverse.map T.lst) (ds:=ds.reverse.map dT) (us:=(us.map dT).reverse) (ws:=ws) he hw hl (by rw[a9,aG];exact h1) (by rw[a9,aG];exact h2)
 rw[Gq]at m0;have s1:ifM (uo neC (jI 101 2 11 "forth" okX f_l f_n f_4) (ifE (zD ltC (vB 5) (ap1 Ze (vB 4))) (zb ixT (zb ixT (vE 4) (vE 5)) (cE (.int 0))) (cE (.str "no back")))) (zF (cE (.bl false))) (nxS) (eS ns k ds rs ws (e :: us) i b c d)= .nx (en ns k (ZP rs ws (e :: us)) (Z1 ds (e :: us)) (ds.length:Int) i b c d (fv k (e :: ds) (ws :: rs) (sf e ws) us)):=by
  have f1:fv k ds rs ws (e :: us)=sv k.t (rs.reverse.map T.lst++[.lst ws]) (ds.reverse.map dT) ((us.map dT).reverse++[stp e.1 e.2]):=by
   show sv k.t _ _ ((e :: us).map dT).reverse=_;rw[aL,aR]
  rw[show eS ns k ds rs ws (e :: us) i b c d=en ns k (ZP rs ws (e :: us)) (Z1 ds (e :: us)) (ds.length:Int) i b c d (sv k.t (rs.reverse.map T.lst++[.lst ws]) (ds.reverse.map dT) ((us.map dT).reverse++[stp e.1 e.2])) by rw[← f1]]
  refine WX (WY (Us obe Qb m0 (WW _ (by decide+kernel))) ?_ Uv)
  show ifE _ _ _ (en ns k (ZP rs ws (e :: us)) (Z1 ds (e :: us)) (ds.length:Int) i b c d _)=_;rw[G5 (by
   show R.ok (decide ((ds.length:Int) < ((Z1 ds (e :: us)).length:Int)))=_;rw[decide_eq_true (by rw[ZU,af];omega)]),zt,zt,e4,bOk,e5,bOk,Qd]
  rfl
 rw[show brC _=_ from zd s1,Uw (ds:=ds) (us:=e :: us) ZU.symm rfl ((e :: ds).length:Int) (by rw[if_neg (show ¬ (e :: us)=[] from λz=>by cases z)];rfl),← Qe,← Ut]
abbrev ckB:En->RS:=ifS (orT (zD neC (uq 101 2 11 0 z04 zj) (zb ixT (vE 3) (vE 5))) (orT (zD neC (uq 101 2 11 0 z05 zj) (Zy (z9 (vE 5) (z9 (zb ZY (ap1 Ze (vB 4)) (vE 5)) (zj))))) (zD neC (uq 101 2 11 0 z06 zj) (slE (vE 4) (noO) (ZE (vE 5)))))) (zF (cE (.bl false))) (nxS)
theorem XN (h:f ρ= .ok t)(h' :g ρ= .ok t)(hp:Pl 30 t):zD neC f g ρ= .ok false:=by rw[zN,h,bOk,h',bOk,qD hp]
theorem z1S (hk:k.Ok 3)(C:Chn k ds rs ws):ckB (eS ns k ds rs ws us i b c d)= .nx (eS ns k ds rs ws us i b c d):=by
 obtain⟨hh,hl,hds⟩:=C.sub;have p1:Pl 30 (.lst ws):=λx hx=>(G7 2 k x hk (hh x hx)).pl.le (show 2+1<=29 by decide)
 have p3:Pl 30 (.lst (ds.reverse.map dT)):=λx hx=>by
  obtain⟨d,hd,rfl⟩:=aO.mp hx;exact Gp (hds d (ij.mp hd))
 refine zw (Up (XN (t:= .lst ws) (Q8 rfl (Q5 (rs:=rs.reverse.map T.lst) rfl)) ?_ p1) (Up (XN (t:= .tup [.int (ds.length:Int),.int (us.length:Int)]) (Q8 rfl ?_) ?_ ?_) (XN (t:= .lst (ds.reverse.map dT)) (Q8 rfl vP) ?_ p3)))
 ·rw[zt,e3,bOk,e5,bOk,uD C.len]
 ·rw[Q7,a9,aG,aG,a9]
 ·refine YY rfl ?_;rw[zt];show ZY (.int ((Z1 ds us).length:Int)) (.int (ds.length:Int))=_;rw[Zg,ZU,show ((ds.length+us.length:Nat):Int) - (ds.length:Int)=(us.length:Int) by omega]
 ·intro x hx;simp only[am,aT,or_false]at hx;rcases hx with rfl | rfl <;> trivial
 ·rw[Xi,e4,bOk,z1E,bOk,YZ (i:=(ds.length:Int)) rfl,bOk,wW,Uu]
abbrev wyA:En->RS:=zL 7 (za 3 f_1 (z9 (vE 0) (z9 (zb zC (cE (.int 900)) (vE 6)) (z9 (cE (.int 7)) (zj)))))
abbrev yh:En->RS:=zB wyA (zB (ifS (zD ltC (vB 7) (cE (.int 4))) brA (ifS (zD ltC (vB 7) (cE (.int 6))) brB brC)) ckB)
theorem Qg (hk:k.Ok 3)(h40:k.all.length<=40)(S:S2 k n ds rs ws us)(hn:n<=100){j:Nat}:∃ds' rs' ws' us' b' c' d',S2 k (n+1) ds' rs' ws' us' /\yh (eS ns k ds rs ws us (.int (0+(j:Int))) b c d)= .nx (eS ns k ds' rs' ws' us' (.int (0+(j:Int))) b' c' d'):=by
 obtain⟨p,hp,p0,p7⟩:=zP ns (900+(0+(j:Int))) 7 (by omega) (by decide)
 have s1:wyA (eS ns k ds rs ws us (.int (0+(j:Int))) b c d)= .nx (eS ns k ds rs ws us (.int (0+(j:Int))) (.vl (.int p)) c d):=by
  rw[show wyA=zL 7 _ from rfl,zM (t:= .int p)]
  ·rfl
  ·rw[Zn];exact hp
 have go:∀{br:En->RS} {ds' rs' ws' us' c' d'},Chn k ds' rs' ws' ->ifS (zD ltC (vB 7) (cE (.int 4))) brA (ifS (zD ltC (vB 7) (cE (.int 6))) brB brC) (eS ns k ds rs ws us (.int (0+(j:Int))) (.vl (.int p)) c d)= .nx (eS ns k ds' rs' ws' us' (.int (0+(j:Int))) (.vl (.int p)) c' d')->yh (eS ns k ds rs ws us (.int (0+(j:Int))) b c d)= .nx (eS ns k ds' rs' ws' us' (.int (0+(j:Int))) (.vl (.int p)) c' d'):=λC h=>by
  rw[show yh _=_ from zd s1,zd h];exact z1S hk C
 obtain⟨hh,hl,hds⟩:=S.ch.sub;have len:=S.ch.len;have sle:=S.le;have t4:∀{q:Bool},decide (p < 4)=q->zD ltC (vB 7) (cE (.int 4)) (eS ns k ds rs ws us (.int (0+(j:Int))) (.vl (.int p)) c d)= .ok q:=λh=>by
  show R.ok (decide (p < 4))=_;rw[h]
 have t6:∀{q:Bool},decide (p < 6)=q->zD ltC (vB 7) (cE (.int 6)) (eS ns k ds rs ws us (.int (0+(j:Int))) (.vl (.int p)) c d)= .ok q:=λh=>by
  show R.ok (decide (p < 6))=_;rw[h]
 by_cases q4:p < 4
 ·obtain⟨e,c',d',he,hA⟩:=Gr hk h40 S hn (ns:=ns) (b:= .vl (.int p)) (c:=c) (d:=d) (j:=j);have C:Chn k (e :: ds) (ws :: rs) (sf e ws):=⟨he,rfl,S.ch⟩;exact⟨_,_,_,[],_,_,_,⟨C,(λ_ z=>nomatch z),by rw[af,bC];omega⟩,go (br:=brA) C ((jN (t4 (decide_eq_true q4))).trans hA)⟩
 ·by_cases q6:p < 6
  ·have br:∀{x},brB (eS ns k ds rs ws us (.int (0+(j:Int))) (.vl (.int p)) c d)=x->_=x:=λh=>((z0b (f1:=brA) (t4 (decide_eq_false q4))).trans (jN (f2:=brC) (t6 (decide_eq_true q6)))).trans h;cases ds with
   | nil=>
    cases rs with
    | cons _ _=>cases len
    | nil=>exact⟨[],[],ws,us,_,_,_,⟨S.ch,S.un,by omega⟩,go (br:=brA) S.ch (br Gs)⟩
   | cons e ds=>
    cases rs with
    | nil=>cases len
    | cons w rs=>
     obtain⟨h1,h2,h3⟩:=S.ch;subst h2;rw[af]at sle;refine⟨ds,rs,w,e :: us,_,_,_,⟨h3,λx hx=> ?_,by rw[af];omega⟩,go (br:=brA) h3 (br (Gu (by omega)))⟩
     rcases am.mp hx with rfl | z
     ·exact h1
     ·exact S.un x z
  ·have br:∀{x},brC (eS ns k ds rs ws us (.int (0+(j:Int))) (.vl (.int p)) c d)=x->_=x:=λh=>((z0b (f1:=brA) (t4 (decide_eq_false q4))).trans (z0b (f1:=brB) (t6 (decide_eq_false q6)))).trans h;cases us with
   | nil=>exact⟨ds,rs,ws,[],_,_,_,⟨S.ch,S.un,by omega⟩,go (br:=brA) S.ch (br Gv)⟩
   | cons e us=>
    have he:=S.un e ak;have C:Chn k (e :: ds) (ws :: rs) (sf e ws):=⟨he,rfl,S.ch⟩;rw[af]at sle;exact⟨_,_,_,us,_,_,_,⟨C,λx hx=>S.un x (ac _ hx),by rw[af];omega⟩,go (br:=brA) C (br (Gw he.up (λx hx=>G7 2 k x hk (hh x hx)) (by omega) (by omega) (by omega)))⟩
theorem Gx (hk:k.Ok 3)(h40:k.all.length<=40):∀(m:List Nat) (n:Nat) (ds us:List De) (rs:List (List T)) (ws:List T) (i:T) (b c d:Sl),S2 k n ds rs ws us->n+m.length<=100->∃ρ,ZC (zK 6) yh (m.map λ(i:Nat)=> .int (0+(i:Int))) (eS ns k ds rs ws us i b c d)= .nx ρ
 | [],n,ds,us,rs,ws,i,b,c,d,_,_=>⟨_,rfl⟩
 | j :: m,n,ds,us,rs,ws,i,b,c,d,S,h=>by
  rw[af]at h;obtain⟨ds',rs',ws',us',b',c',d',S',e⟩:=Qg hk h40 S (by omega) (ns:=ns) (j:=j) (b:=b) (c:=c) (d:=d)
  obtain⟨ρ,e2⟩:=Gx hk h40 m (n+1) ds' us' rs' ws' (.int (0+(j:Int))) b' c' d' S' (by omega)
  exact⟨ρ,by rw[aL,jL (ρ1:=eS ns k ds rs ws us (.int (0+(j:Int))) b c d) rfl e];exact e2⟩
end
theorem z1T (hf:f ρ= .ok x)(hg:g ρ= .ok y)(hh:h ρ= .ok z):z9 f (z9 g (z9 h zj)) ρ= .ok [x,y,z]:=by
 show ((f ρ).bind λt=>((z9 g (z9 h zj)) ρ).bind λts=> .ok (t :: ts))=_;rw[hf,bOk,z1N hg hh];rfl
abbrev lB:En->RS:=UX 2 3 4 5 10 (mkA 10 11 101 1 f_w (z9 (vE 1) (zj))) (z9 (ZD (z9 (za 1 (f_6 8) (z9 (vE 1) (zj))) (zj))) (z9 (ZD (zj)) (z9 (cE (.int 0)) (zj))))
abbrev eN (ns:List Int)(k:Kd)(ws:List T)(i:Sl)(fs:List (Str×Fd)):En:=[.vl (scr ns),.vl k.t,.ob 101 0,.vl (.lst [.lst ws]),.vl (.lst []),.vl (.int 0),i,.un,.un,.un,.un,.st [(101,fs)]]
theorem z1U (h:f_w [] [k.t]= .ok (.non,fs))(ha:f_6 8 [k.t]= .ok (.lst ws)):lB [.vl (scr ns),.vl k.t,.un,.un,.un,.un,.un,.un,.un,.un,.un,.st []]= .nx (eN ns k ws .un fs):=by
 have e1:mkA 10 11 101 1 f_w (z9 (vE 1) (zj)) [.vl (scr ns),.vl k.t,.un,.un,.un,.un,.un,.un,.un,.un,.un,.st []]= .ok [.vl (scr ns),.vl k.t,.un,.un,.un,.un,.un,.un,.un,.un,.ob 101 0,.st [(101,fs)]]:=by
  unfold mkA;rw[Gg (x:=k.t) rfl,bOk,if_pos ⟨rfl,by decide,show 10 < 12 by decide⟩]
  show (match f_w [] [k.t] with | .ok (.non,fs)=>_ | .ex c=>_ | _=>_)=_
  rw[h];rfl
 show UX 2 3 4 5 10 _ _ _=_;unfold UX;rw[e1,ZS,z1T (x:= .lst [.lst ws]) (y:= .lst []) (z:= .int 0) (k6 (by rw[zW,v1,bOk,ha])) rfl rfl];rfl
theorem law_ok (ns:List Int)(h:ns.length<=63):f_0 [.fz (ns.map T.int)]= .ok (.bl true):=by
 obtain⟨k,hk,hl,hs⟩:=vJ ns 10 (by omega) 40 (by omega)
 have ha:=qi 3 8 (by omega) (by omega) k hk (by omega)
 have e0:zL 1 (za 3 gs (z9 (vE 0) (z9 (cE (.int 10)) (z9 (cE (.int 40)) (zj))))) [.vl (scr ns),.un,.un,.un,.un,.un,.un,.un,.un,.un,.un,.st []]= .nx [.vl (scr ns),.vl k.t,.un,.un,.un,.un,.un,.un,.un,.un,.un,.st []]:=by
  rw[zM (t:=k.t)]
  ·rfl
  ·rw[Zn,v0,bOk,zV,bOk,zV,bOk];exact hs
 have S:S2 k 0 [] [] k.all []:=⟨rfl,(λ_ z=>nomatch z),aj _⟩;obtain⟨ds',rs',ws',us',b',c',d',S',t1⟩:=Qg hk hl S (by decide) (ns:=ns) (j:=0) (b:= .un) (c:= .un) (d:= .un)
 obtain⟨ρ,t2⟩:=Gx hk hl (ns:=ns) [1,2,3,4,5,6,7,8,9,10,11,12,13,14,15] 1 ds' us' rs' ws' (.int (0+((0:Nat):Int))) b' c' d' S' (by decide)
 have e6:jt (Zu (cE (.int 16))) (zK 6) yh (eN ns k k.all .un (sv k.t [.lst k.all] [] []))= .nx ρ:=by
  show ZC (zK 6) yh (.int (0+((0:Nat):Int)) :: ([1,2,3,4,5,6,7,8,9,10,11,12,13,14,15].map λ(i:Nat)=> .int (0+(i:Int)))) _=_;rw[jL (ρ1:=eS ns k [] [] k.all [] (.int (0+((0:Nat):Int))) .un .un .un) rfl t1];exact t2
 show zz (b_0 _ _ _ _ _ _ _ _ _ _ _ _ _ _ _ [.vl (scr ns),.un,.un,.un,.un,.un,.un,.un,.un,.un,.un,.st []])=_;rw[b_0,zd e0,show _=_ from zd (z1U (Xz hk (by omega)) ha),zd e6]
 rfl
end G
namespace G
open PySem PySem.Spec PyProof.Rows L2 PV
noncomputable def top (i:Nat):Stmt:=PySem.Challenge.pw_worthkinds_k82_whole_sieves_back.main.body.getD i (.Pass ⟨0,0,0,0⟩)
noncomputable def JS (s:Stmt)(j:Nat):Stmt:=match s with
 | .ClassDef _ _ _ b _ _ _ _ _ _ _=>b.getD j (.Pass ⟨0,0,0,0⟩)
 | s=>s
set_option genInjectivity false in
set_option genSizeOf false in
structure Tx (K:a8) (mg:Str->Option Value):Prop where
 C_1h:FE K mg "_law_cell" (top 60) ["_law_script","_law_k"]
 C_1:FE K mg "_law_pick" (top 61) ["_law_script","_law_k","_law_many"]
 C_z:FE K mg "_law_word_of" (top 62) ["_law_script","_law_at"]
 C_15:FE K mg "_law_leaf_kind" (top 63) ["_law_script","_law_at"]
 C_e:FE K mg "_law_kind" (top 64) ["_law_script","_law_at","_law_deep"]
 C_f:FE K mg "_law_rows_of" (top 66) ["_law_lists"]
 C_6:FE K mg "_law_all" (top 65) ["_law_kind_here"]
 C_c:FE K mg "_law_size" (top 67) ["_law_kind_here"]
 C_18:FE K mg "_law_small" (top 68) ["_law_script","_law_at","_law_most"]
 C_g:FE K mg "is_whole" (top 14) ["thing"]
 C_1i:FE K mg "is_span" (top 17) ["low","high","least","most"]
 C_m:FE K mg "is_tuple_of" (top 15) ["thing","least","most"]
 C_r:FE K mg "is_word" (top 16) ["thing"]
 C_19:FE K mg "is_choice" (top 20) ["thing"]
 C_17:FE K mg "are_choices" (top 19) ["thing"]
 C_9:FE K mg "is_kind_within" (top 18) ["thing","levels"]
 C_1n:FE K mg "are_kinds_within" (top 21) ["thing","levels"]
 C_3:FE K mg "is_kind" (top 12) ["thing"]
 C_1d:FE K mg "need_kind" (top 13) ["kind"]
 C_2:FE K mg "count_of" (top 26) ["kind"]
 C_y:FE K mg "count_of_parts" (top 27) ["kinds"]
 C_p:FE K mg "count_shorter" (top 28) ["kind","length"]
 C_16:FE K mg "words_of_pick" (top 22) ["kind"]
 C_d:FE K mg "worth_at" (top 29) ["kind","number"]
 C_1m:FE K mg "many_at" (top 30) ["kind","number"]
 C_14:FE K mg "parts_at" (top 31) ["kinds","number"]
 C_u:FE K mg "all_worths" (top 25) ["kind"]
 C_h:FE K mg "_law_rule" (top 69) ["_law_script","_law_at","_law_deep"]
 C_13:FE K mg "_law_deed" (top 72) ["_law_script","_law_at"]
 C_i:FE K mg "_law_leaves" (top 70) ["_law_worth"]
 C_a:FE K mg "_law_keeps" (top 71) ["_law_rule_here","_law_worth"]
 C_10:FE K mg "_law_sifted" (top 73) ["_law_worths","_law_deed_here"]
 C_1e:FE K mg "is_bound" (top 48) ["thing"]
 C_j:FE K mg "is_rule_within" (top 47) ["thing","levels"]
 C_7:FE K mg "is_rule" (top 45) ["thing"]
 C_1a:FE K mg "need_rule" (top 46) ["rule"]
 C_b:FE K mg "leaves_of" (top 52) ["worth"]
 C_v:FE K mg "numbers_in" (top 53) ["worth"]
 C_x:FE K mg "parts_of" (top 51) ["worth"]
 C_11:FE K mg "are_rising" (top 54) ["numbers"]
 C_12:FE K mg "are_unlike" (top 55) ["parts"]
 C_s:FE K mg "is_single_kept" (top 50) ["rule","worth"]
 C_8:FE K mg "is_kept" (top 49) ["rule","worth"]
 C_t:FE K mg "left_by" (top 58) ["step","worths"]
 C__law_did:FE K mg "_law_did" (top 74) ["_law_sieve","_law_deed_here"]
 C_l:FE K mg "_law_class" (top 75) ["_law_kept"]
 C__law_told:FE K mg "_law_told" (top 76) ["_law_deed_here"]
 C_0:FE K mg "law" (top 77) ["_law_script"]
 z:∀x,(["ValueError","all","any","bool","enumerate","int","isinstance","len","list","max","min","range","reversed","set","sorted","str","sum","tuple","zip"]:List Str).contains x=true->mg x=none
 c_DEEPEST:∃u,mg "DEEPEST"=some u/\∃t,u=Value.int 3 t
 c_DEEPEST_RULE:∃u,mg "DEEPEST_RULE"=some u/\∃t,u=Value.int 3 t
 c_FARTHEST_BOUND:∃u,mg "FARTHEST_BOUND"=some u/\∃t,u=Value.int 50 t
 c_MOST_TOLD:∃u,mg "MOST_TOLD"=some u/\∃t,u=Value.int 500 t
structure To (K:a8) (mg:Str->Option Value) (cl:Nat->Value):Prop where
 A_Sieve:CA 101 ["kind","remaining","done","undone"] K cl
 M_Sieve_init:FI K mg cl 101 "Sieve" (JS (top 57) 0) ["self","kind"]
 M_Sieve_left:FM K cl 101 "left" (JS (top 57) 3) ["self"]
 M_Sieve_do_step:FM K cl 101 "do_step" (JS (top 57) 13) ["self","step"]
 M_Sieve_new_step:FM K cl 101 "new_step" (JS (top 57) 12) ["self","word","rule"]
 M_Sieve_keep:FM K cl 101 "keep" (JS (top 57) 1) ["self","rule"]
 M_Sieve_bar:FM K cl 101 "bar" (JS (top 57) 2) ["self","rule"]
 M_Sieve_back:FM K cl 101 "back" (JS (top 57) 8) ["self"]
 M_Sieve_forth:FM K cl 101 "forth" (JS (top 57) 9) ["self"]
 M_Sieve_worths:FM K cl 101 "worths" (JS (top 57) 4) ["self"]
 M_Sieve_counts:FM K cl 101 "counts" (JS (top 57) 10) ["self"]
 M_Sieve_steps:FM K cl 101 "steps" (JS (top 57) 7) ["self"]
noncomputable abbrev bmVE:List Value:=[.type "ValueError",.type "Exception",.type "BaseException",.type "object"]
set_option genInjectivity false in
set_option genSizeOf false in
structure Tq (K:a8) (mg:Str->Option Value) (base:Heap) (cl:Nat->Value) where
 (q_Ended q_NoBack q_NoKind q_NoRule q_NoText q_NoWorth q_TooMany q_WorthError:Addr)
 X_k:XK1 K cl okX
 e_WorthError:∀c,okX c=true->PySem.W.exmOne K (cl c) (.ref q_WorthError)=some true
 l_NoBack:cl 6= .ref q_NoBack
 m_Ended:mg "Ended"=some (.ref q_Ended)
 m_NoBack:mg "NoBack"=some (.ref q_NoBack)
 m_NoKind:mg "NoKind"=some (.ref q_NoKind)
 m_NoRule:mg "NoRule"=some (.ref q_NoRule)
 m_NoText:mg "NoText"=some (.ref q_NoText)
 m_NoWorth:mg "NoWorth"=some (.ref q_NoWorth)
 m_TooMany:mg "TooMany"=some (.ref q_TooMany)
 m_WorthError:mg "WorthError"=some (.ref q_WorthError)
 o_NoBack:OwnCls "NoBack" q_NoBack bmVE "ValueError.__new__" mg base
 t_Ended:∀c,okX c=true->aM K (cl c) (.ref q_Ended)=some (JH c)
 t_NoBack:∀c,okX c=true->aM K (cl c) (.ref q_NoBack)=some (jX c)
 t_NoKind:∀c,okX c=true->aM K (cl c) (.ref q_NoKind)=some (jU c)
 t_NoRule:∀c,okX c=true->aM K (cl c) (.ref q_NoRule)=some (jV c)
 t_NoText:∀c,okX c=true->aM K (cl c) (.ref q_NoText)=some (jW c)
 t_NoWorth:∀c,okX c=true->aM K (cl c) (.ref q_NoWorth)=some (jv c)
 t_TooMany:∀c,okX c=true->aM K (cl c) (.ref q_TooMany)=some (jw c)
 t_ValueError:∀c,okX c=true->aM K (cl c) (.type "ValueError")=some (ZL c)
section
variable {Z:Zz}{Pt:Addr}(tx:Tx Z.K Z.mg)(xq:Tq Z.K Z.mg Z.base Z.cl)(tc:To Z.K Z.mg Z.cl)
include tx xq tc
set_option hygiene false
local macro_rules | `(tactic| gp_on)=> `(tactic| first
  | (show wE _ _ _ _;first
   | refine V4 ?_ ?_
   | exact kS)
  | (show Snd _ _ (.Name ..) _;first
   | exact z0B _ (pv _)
   | exact tx.c_FARTHEST_BOUND.elim λ_ h=>wN (by rfl) h.1 h.2
   | exact tx.c_DEEPEST.elim λ_ h=>wN (by rfl) h.1 h.2
   | exact tx.c_MOST_TOLD.elim λ_ h=>wN (by rfl) h.1 h.2
   | exact tx.c_DEEPEST_RULE.elim λ_ h=>wN (by rfl) h.1 h.2)
  | (show Snd _ _ (.Constant ..) _;first
   | exact z0C
   | exact kR
   | exact s_bl)
  | (show JW _ _ _ _;first
   | refine K7 ?_ ?_
   | exact z0Z
   | refine z10 ?_)
  | (show j6 _ _ _ _;first
   | exact kQ _ (pv _)
   | exact CA.go tc.A_Sieve λ_ e c n=>gj (pv _) (by rw[hy];exact e) c (n _ (by kernel_rfl))
   | exact CA.go tc.A_Sieve λ_ e c n=>KU (pv _) (by rw[hy];exact e) c (n _ (by kernel_rfl))
   | refine Snd.b ?_)
  | (show jT _ _ _ _;first
   | refine z11 ?_
   | refine z12 ?_ ?_ ?_
   | refine K8 nd (by rfl) (.inl (by rfl)) ?_
   | exact z1e
   | refine Kh iB (by rfl) ?_ ?_ ?_
   | refine K9 nd (by rfl) (.inl (by rfl)) ?_
   | refine Km (cr1 hy (by kernel_rfl) (by kernel_rfl) (by rfl) ?_ (λ_ hy _ _ _ _ _ _=> ?_) (λ_ hy _ _ _ _ _ _ _ hp=> ?_)) nd (by rfl) (.inl (by rfl)) (by rfl)
   | refine CA.go tc.A_Sieve λ_ e c n=>KW (pv _) (by rw[hy];exact e) c (n _ (by kernel_rfl)) ?_
   | refine K8 nd (by rfl) (.inr (by rfl)) ?_
   | refine z14 (pv _) ?_
   | refine CA.go tc.A_Sieve λ_ e c n=>KY (pv _) (by rw[hy];exact e) c (n _ (by kernel_rfl)) ?_
   | refine z1r ?_
   | refine z1u ?_ ?_ ?_
   | refine z13 (pv _) ?_
   | refine Ka ?_
   | exact xE (c:=_) xq.o_NoBack dO (by decide) dO hE (by rw[hy];exact xq.l_NoBack) (by rfl)
   | refine z1s nd (by rfl) (.inl (by rfl)) ?_
   | exact s_mv (pv _) nd (by rfl) (.inl (by rfl))
   | refine xw (n:=_) iB ?_ ?_
   | refine Ky (cr1 hy (by kernel_rfl) (by kernel_rfl) (by rfl) ?_ (λ_ hy _ _ _ _ _ _=> ?_) (λ_ hy _ _ _ _ _ _ _ hp=> ?_))
   | refine CA.go tc.A_Sieve λ_ e c n=>z1q (pv _) (by rw[hy];exact e) c (n _ (by kernel_rfl)) ?_
   | refine Xc (w:="?q") (by rfl) nd (by rfl) (by rfl) (by rfl) (by rfl) (.inr (by rfl)) (.inl (by rfl)) (.inl (by rfl)) (.inl (by rfl)) (by rfl) (by rfl) ?_ ?_
   | refine Kh PassesOwn.leaving (by rfl) ?_ ?_ ?_)
  | (show Snd _ _ (.Call ..) _;first
   | refine z0V (by rfl) (tx.z _ (by kernel_rfl)) ?_
   | refine QL (n:="tuple") (Y6 _) (by rfl) (tx.z _ (by kernel_rfl)) (by rfl) (tx.z _ (by kernel_rfl)) PyProof.Rows.Boot.«tuple» ?_
   | exact QM.go (by assumption) λ_ _ _ _ _ _ e c M F=>vt (pv _) hy e c M.m F hr (by omega) M.b hp
   | refine Kx (by rfl) (tx.z _ (by kernel_rfl)) ?_
   | refine z0Y hr.hd (by rfl) (tx.z _ (by kernel_rfl)) ?_
   | refine K6 (by rfl) (by rfl) (tx.z _ (by kernel_rfl)) ?_ ?_
   | refine xn (by rfl) (tx.z _ (by kernel_rfl)) ?_
   | refine QL (n:="int") (xo _) (by rfl) (tx.z _ (by kernel_rfl)) (by rfl) (tx.z _ (by kernel_rfl)) PyProof.Rows.Boot.«int» ?_
   | refine z1f hr.hd (by rfl) (tx.z _ (by kernel_rfl)) ?_
   | refine Kq ?_
   | refine xQ hr.hd (by rfl) (tx.z _ (by kernel_rfl)) (by rfl) (tx.z _ (by kernel_rfl)) ?_ ?_
   | refine QL (n:="bool") (QK _) (by rfl) (tx.z _ (by kernel_rfl)) (by rfl) (tx.z _ (by kernel_rfl)) PyProof.Rows.Boot.«bool» ?_
   | refine QL (n:="str") (xp _) (by rfl) (tx.z _ (by kernel_rfl)) (by rfl) (tx.z _ (by kernel_rfl)) PyProof.Rows.Boot.«str» ?_
   | refine Kr hr.hd (by rfl) (tx.z _ (by kernel_rfl)) (by rfl) (tx.z _ (by kernel_rfl)) ?_
   | refine KL hr.hd (by rfl) (tx.z _ (by kernel_rfl)) (by rfl) (tx.z _ (by kernel_rfl)) ?_
   | refine KM (by rfl) (tx.z _ (by kernel_rfl)) ?_
   | refine z1l hr.hd (by rfl) (tx.z _ (by kernel_rfl)) ?_
   | exact ju (by rw[hy];exact xq.X_k) (by rw[hy];exact xq.t_Ended) (by rfl) (tx.z _ (by kernel_rfl)) (pv _) (by rfl) xq.m_Ended
   | exact ju (by rw[hy];exact xq.X_k) (by rw[hy];exact xq.t_NoBack) (by rfl) (tx.z _ (by kernel_rfl)) (pv _) (by rfl) xq.m_NoBack
   | exact ju (by rw[hy];exact xq.X_k) (by rw[hy];exact xq.t_NoKind) (by rfl) (tx.z _ (by kernel_rfl)) (pv _) (by rfl) xq.m_NoKind
   | exact ju (by rw[hy];exact xq.X_k) (by rw[hy];exact xq.t_NoRule) (by rfl) (tx.z _ (by kernel_rfl)) (pv _) (by rfl) xq.m_NoRule
   | exact ju (by rw[hy];exact xq.X_k) (by rw[hy];exact xq.t_NoText) (by rfl) (tx.z _ (by kernel_rfl)) (pv _) (by rfl) xq.m_NoText
   | exact ju (by rw[hy];exact xq.X_k) (by rw[hy];exact xq.t_NoWorth) (by rfl) (tx.z _ (by kernel_rfl)) (pv _) (by rfl) xq.m_NoWorth
   | exact ju (by rw[hy];exact xq.X_k) (by rw[hy];exact xq.t_TooMany) (by rfl) (tx.z _ (by kernel_rfl)) (pv _) (by rfl) xq.m_TooMany
   | refine xR hr.units ?_ ?_
   | exact xH (n:="ValueError") (by rw[hy];exact xq.X_k) (by rw[hy];exact xq.t_ValueError) (by rfl) (tx.z _ (by kernel_rfl)) (pv _) (by rfl) (tx.z _ (by kernel_rfl)) PyProof.Rows.Boot.«ValueError»
   | refine xS hr.units ?_ ?_
   | refine z1v (by rfl) (tx.z _ (by kernel_rfl)) ?_
   | exact CA.go tc.A_Sieve λ_ e c n=>gm (pv _) (by rw[hy];exact e) c (n _ (by kernel_rfl)) (by rfl) (tx.z _ (by kernel_rfl))
   | refine KN (by rfl) (by rfl) (tx.z _ (by kernel_rfl)) ?_ ?_
   | refine cZ hy (by assumption) hr ?_)
  | (show Snd _ _ (.Subscript ..) _;first
   | refine s_ix ?_ ?_
   | refine xu ?_ ?_ ?_
   | refine CA.go tc.A_Sieve λ_ e c n=>z1y (pv _) (by rw[hy];exact e) c (n _ (by kernel_rfl)) ?_
   | refine CA.go tc.A_Sieve λ_ e c n=>z1t (pv _) (by rw[hy];exact e) c (n _ (by kernel_rfl)) ?_)
  | (show Snd _ _ (.BinOp ..) _;first
   | refine z0F ?_ ?_
   | refine z0I ?_ ?_
   | refine z0G ?_ ?_
   | refine z0H ?_ ?_
   | refine kW ?_ ?_)
  | (show W7 _ _ _ _;first
   | refine ua kX (V5 hr.units) ?_ ?_ (jn _)
   | refine z0S ?_
   | refine ua z0K kY ?_ ?_ (jn _)
   | refine ua z0L kZ ?_ ?_ (jn _)
   | refine ua xi (Y1 hr.units) ?_ ?_ (jn _)
   | refine ua wI jD ?_ ?_ (jn _)
   | refine ua QG (V6 hr.units) ?_ ?_ (by rfl)
   | refine ua K1 (xj hr.units) ?_ ?_ (by rfl)
   | refine xl wI wI jD jD ?_ ?_ ?_
   | refine z0T ?_
   | refine yj.t ?_)
  | (show Snd _ _ (.BoolOp ..) _;first
   | refine z0O ?_ ?_
   | refine s_or ?_ ?_
   | refine z0N ?_)
  | (show ud _ _ _ _ _;first
   | refine Kf (by rfl) (tx.z _ (by kernel_rfl)) ?_
   | refine Kg (by rfl) (tx.z _ (by kernel_rfl)) ?_ ?_
   | refine Ko (by rfl) (tx.z _ (by kernel_rfl)) ?_
   | refine z1j (by rfl) (tx.z _ (by kernel_rfl)) ?_
   | refine z1a (by rfl) (tx.z _ (by kernel_rfl)) ?_ ?_
   | refine xX (by rfl) (tx.z _ (by kernel_rfl)) ?_
   | refine z18 ?_)
  | (show Snd _ _ (.Compare ..) _;first
   | refine Y0 kX (V5 hr.units) ?_ ?_ (jn _)
   | refine xk wI wI jD jD ?_ ?_ ?_
   | refine Y0 wI jD ?_ ?_ (jn _)
   | refine Y0 QG (V6 hr.units) ?_ ?_ (by rfl)
   | refine QH wI wI wI jD jD jD ?_ ?_ ?_ ?_
   | refine Y0 z0M K0 ?_ ?_ (jn _)
   | refine Y0 xi (Y1 hr.units) ?_ ?_ (jn _))
  | (show yj _ _ _ _;first
   | refine w_or ?_ ?_
   | refine z0R ?_ ?_
   | refine z0Q ?_
   | refine K3 ?_)
  | (show vp _ _ _ _;first
   | refine KT ?_ ?_
   | refine z1n ?_
   | exact z1p)
  | (show Snd _ _ (.List ..) _;first
   | refine z0E ?_)
  | (show wL _ _ _ _;first
   | exact Kk
   | refine Kl ?_)
  | (show Snd _ _ (.Tuple ..) _;first
   | refine z0D ?_)
  | (show Snd _ _ (.ListComp ..) _;first
   | refine Ve (cr1 hy (by kernel_rfl) (by kernel_rfl) (by rfl) ?_ (λ_ hy _ _ _ _ _ _=> ?_) (λ_ hy _ _ _ _ _ _ _ hp=> ?_))
   | refine Ve (cr2 hy (by kernel_rfl) (by kernel_rfl) (by rfl) ?_ (λ_ hy _ _ _ _ _ _=> ?_) (λ_ hy _ _ _ _ _ _ _ hp=> ?_)))
  | (show xr _ _ _ _;first
   | exact K4
   | refine K5 ?_)
  | (show z16 _ _ _ _;first
   | exact Vc nd (by rfl) (.inl (by rfl))
   | exact Vc nd (by rfl) (.inr (by rfl)))
  | (show uk _ _ (.Call ..) _;first
   | refine QM.go (by assumption) λ_ _ _ _ _ _ e c M F=>KZ (pv _) hy e c M.m F hr (by omega) M.b hp ?_
   | exact CA.go tc.A_Sieve λ_ e c n=>g9 (pv _) (by rw[hy];exact e) c (n _ (by kernel_rfl))
   | refine QQ.go (by assumption) λ_ _ _ _ C F=>gi (pv _) hy F hr (by omega) (by rfl) C.m C.F.kp C.b hp ?_
   | exact YM L hT hy (by assumption) U_Sieve_back U_Sieve_back_O hr (by kernel_rfl) (by kernel_rfl)
   | exact YM L hT hy (by assumption) U_Sieve_forth U_Sieve_forth_O hr (by kernel_rfl) (by kernel_rfl))
  | (show Snd _ _ (.UnaryOp ..) _;first
   | refine z0J ?_
   | refine z0P ?_)
  | (show Snd _ _ (.IfExp ..) _;first
   | refine s_if ?_ ?_ ?_)
  | (show uk _ _ _ _;first
   | refine KS ?_)
  | (show X7 _ _ _ _;first
   | refine gf xi (Y1 hr.units) ?_ ?_ (jn _))
  | (show uk _ _ (.IfExp ..) _;first
   | refine m_if ?_ ?_ ?_)
  | (show Xb _ _ _ _ _;first
   | refine QI.go (by assumption) λ_ _ _ _ _ _ e g M O F=>q_mk hy e M F hr (by omega) (by rfl) g O.b hp ?_)
  )
local macro_rules | `(tactic| kd_all)=> `(tactic| (intro cdv A outer s H E Y hy hE hr nd hp;repeat' gp_on))
theorem z1V:qP Z "_law_cell" 2 1 (oP 2 b_1h):=by
 refine okP tx.C_1h ["_law_script","_law_k"] λ_=> ?_
 kd_all
theorem ok_1 (_:qP Z "_law_cell" 2 1 c_1h):qP Z "_law_pick" 3 2 (oP 4 (b_1 c_1h)):=by
 refine okP tx.C_1 ["_law_script","_law_k","_law_many","_law_drawn"] λ_=> ?_
 kd_all
theorem ok_z (_:qP Z "_law_pick" 3 2 c_1):qP Z "_law_word_of" 2 3 (oP 3 (b_z c_1)):=by
 refine okP tx.C_z ["_law_script","_law_at","_law_letters"] λ_=> ?_
 kd_all
theorem z1W (_:qP Z "_law_pick" 3 2 c_1)(_:qP Z "_law_word_of" 2 3 c_z):qP Z "_law_leaf_kind" 2 4 (oP 6 (GO c_1 c_z)):=by
 refine okP tx.C_15 ["_law_script","_law_at","_law_low","_law_words","_law_k","_law_word"] λ_=> ?_
 kd_all
theorem ok_e {j:Nat}(hj:4<=j)(_:qP Z "_law_pick" 3 2 c_1)(_:qP Z "_law_leaf_kind" 2 4 c_15)(_:qP Z "_law_kind" 3 j c_e):qP Z "_law_kind" 3 (j+1) (oP 6 (b_e c_1 c_15 c_e)):=by
 refine okP tx.C_e ["_law_script","_law_at","_law_deep","_law_way","_law_some","_law_low"] λ_=> ?_
 kd_all
theorem ok_f:qP Z "_law_rows_of" 1 1 (oP 5 b_f):=by
 refine okP tx.C_f ["_law_lists","_law_made","_law_some","_law_longer","_law_ahead"] λ_=> ?_
 kd_all
theorem ok_6 {j:Nat}(hj:1<=j)(_:qP Z "_law_all" 1 j c_6)(_:qP Z "_law_rows_of" 1 1 c_f):qP Z "_law_all" 1 (j+1) (oP 3 (b_6 c_6 c_f)):=by
 refine okP tx.C_6 ["_law_kind_here","_law_made","_law_size_here"] λ_=> ?_
 kd_all
theorem ok_c {j:Nat}(hj:9<=j)(_:qP Z "_law_all" 1 9 c_6)(_:qP Z "_law_size" 1 j c_c):qP Z "_law_size" 1 (j+1) (oP 5 (b_c c_6 c_c)):=by
 refine okP tx.C_c ["_law_kind_here","_law_sizes","_law_made","_law_size_here","_law_inner"] λ_=> ?_
 kd_all
theorem z1X (_:qP Z "_law_kind" 3 12 c_e)(_:qP Z "_law_size" 1 17 c_c):qP Z "_law_small" 3 18 (oP 5 (GP c_e c_c)):=by
 refine okP tx.C_18 ["_law_script","_law_at","_law_most","_law_kind_here","_law_k"] λ_=> ?_
 kd_all
theorem ok_g:qP Z "is_whole" 1 1 (oP 1 b_g):=by
 refine okP tx.C_g ["thing"] λ_=> ?_
 kd_all
theorem z1Y (_:qP Z "is_whole" 1 1 c_g):qP Z "is_span" 4 2 (oP 4 (b_1i c_g)):=by
 refine okP tx.C_1i ["low","high","least","most"] λ_=> ?_
 kd_all
theorem ok_m:qP Z "is_tuple_of" 3 1 (oP 3 b_m):=by
 refine okP tx.C_m ["thing","least","most"] λ_=> ?_
 kd_all
theorem ok_r:qP Z "is_word" 1 1 (oP 1 b_r):=by
 refine okP tx.C_r ["thing"] λ_=> ?_
 kd_all
theorem z1Z (_:qP Z "is_whole" 1 1 c_g)(_:qP Z "is_tuple_of" 3 1 c_m)(_:qP Z "is_word" 1 1 c_r):qP Z "is_choice" 1 2 (oP 1 (GR c_g c_m c_r)):=by
 refine okP tx.C_19 ["thing"] λ_=> ?_
 kd_all
theorem z20 (_:qP Z "is_tuple_of" 3 1 c_m)(_:qP Z "is_choice" 1 2 c_19):qP Z "are_choices" 1 3 (oP 2 (GS c_m c_19)):=by
 refine okP tx.C_17 ["thing","words"] λ_=> ?_
 kd_all
theorem ok_9 {j:Nat}(hj:3<=j)(_:qP Z "is_span" 4 2 c_1i)(_:qP Z "is_kind_within" 2 j c_9)(_:qP Z "are_choices" 1 3 c_17)(_:qP Z "are_kinds_within" 2 j c_1n):qP Z "is_kind_within" 2 (j+1) (oP 2 (b_9 c_1i c_9 c_17 c_1n)):=by
 refine okP tx.C_9 ["thing","levels"] λ_=> ?_
 kd_all
theorem z21 {j:Nat}(hj:3<=j)(_:qP Z "is_tuple_of" 3 1 c_m)(_:qP Z "is_kind_within" 2 j c_9):qP Z "are_kinds_within" 2 (j+1) (oP 2 (GT c_m c_9)):=by
 refine okP tx.C_1n ["thing","levels"] λ_=> ?_
 kd_all
theorem ok_3 (_:qP Z "is_kind_within" 2 23 c_9):qP Z "is_kind" 1 24 (oP 1 (b_3 c_9)):=by
 refine okP tx.C_3 ["thing"] λ_=> ?_
 kd_all
theorem z22 (_:qP Z "is_kind" 1 24 c_3):qP Z "need_kind" 1 25 (oP 1 (GU c_3)):=by
 refine okP tx.C_1d ["kind"] λ_=> ?_
 kd_all
theorem ok_2 {j:Nat}(hj:0<=j)(_:qP Z "count_of_parts" 1 j c_y)(_:qP Z "count_shorter" 2 j c_p):qP Z "count_of" 1 (j+1) (oP 1 (b_2 c_y c_p)):=by
 refine okP tx.C_2 ["kind"] λ_=> ?_
 kd_all
theorem ok_y {j:Nat}(hj:0<=j)(_:qP Z "count_of" 1 j c_2):qP Z "count_of_parts" 1 (j+1) (oP 3 (b_y c_2)):=by
 refine okP tx.C_y ["kinds","count","kind"] λ_=> ?_
 kd_all
theorem ok_p {j:Nat}(hj:0<=j)(_:qP Z "count_of_parts" 1 j c_y):qP Z "count_shorter" 2 (j+1) (oP 2 (b_p c_y)):=by
 refine okP tx.C_p ["kind","length"] λ_=> ?_
 kd_all
theorem z23:qP Z "words_of_pick" 1 1 (oP 1 GW):=by
 refine okP tx.C_16 ["kind"] λ_=> ?_
 kd_all
theorem ok_d {j:Nat}(hj:20<=j)(_:qP Z "words_of_pick" 1 1 c_16)(_:qP Z "many_at" 2 j c_1m)(_:qP Z "parts_at" 2 j c_14):qP Z "worth_at" 2 (j+1) (oP 2 (b_d c_16 c_1m c_14)):=by
 refine okP tx.C_d ["kind","number"] λ_=> ?_
 kd_all
theorem z24 {j:Nat}(hj:20<=j)(_:qP Z "count_shorter" 2 20 c_p)(_:qP Z "parts_at" 2 j c_14):qP Z "many_at" 2 (j+1) (oP 3 (gy c_p c_14)):=by
 refine okP tx.C_1m ["kind","number","length"] λ_=> ?_
 kd_all
theorem z25 {j:Nat}(hj:20<=j)(_:qP Z "count_of" 1 20 c_2)(_:qP Z "worth_at" 2 j c_d):qP Z "parts_at" 2 (j+1) (oP 6 (gz c_2 c_d)):=by
 refine okP tx.C_14 ["kinds","number","parts","rest","kind","count"] λ_=> ?_
 kd_all
theorem ok_u (_:qP Z "need_kind" 1 25 c_1d)(_:qP Z "count_of" 1 20 c_2)(_:qP Z "worth_at" 2 40 c_d):qP Z "all_worths" 1 41 (oP 2 (b_u c_1d c_2 c_d)):=by
 refine okP tx.C_u ["kind","count"] λ_=> ?_
 kd_all
theorem ok_w (_:qP Z "all_worths" 1 41 c_u):qI Z 101 "Sieve" 1 42 (oM 101 2 (b_w c_u)):=by
 refine okI tc.M_Sieve_init ["self","kind","?"] λ_ _=> ?_
 kd_all
theorem ok_h {j:Nat}(hj:2<=j)(_:qP Z "_law_pick" 3 2 c_1)(_:qP Z "_law_rule" 3 j c_h):qP Z "_law_rule" 3 (j+1) (oP 6 (b_h c_1 c_h)):=by
 refine okP tx.C_h ["_law_script","_law_at","_law_deep","_law_way","_law_one","_law_low"] λ_=> ?_
 kd_all
theorem z26 (_:qP Z "_law_pick" 3 2 c_1)(_:qP Z "_law_rule" 3 10 c_h):qP Z "_law_deed" 2 11 (oP 2 (GX c_1 c_h)):=by
 refine okP tx.C_13 ["_law_script","_law_at"] λ_=> ?_
 kd_all
theorem ok_i {j:Nat}(hj:0<=j)(_:qP Z "_law_leaves" 1 j c_i):qP Z "_law_leaves" 1 (j+1) (oP 3 (b_i c_i)):=by
 refine okP tx.C_i ["_law_worth","_law_made","_law_part"] λ_=> ?_
 kd_all
theorem ok_a {j:Nat}(hj:8<=j)(_:qP Z "_law_leaves" 1 8 c_i)(_:qP Z "_law_keeps" 2 j c_a):qP Z "_law_keeps" 2 (j+1) (oP 7 (b_a c_i c_a)):=by
 refine okP tx.C_a ["_law_rule_here","_law_worth","_law_numbers","_law_parts","_law_total","_law_number","_law_some"] λ_=> ?_
 kd_all
theorem z27 (_:qP Z "_law_keeps" 2 16 c_a):qP Z "_law_sifted" 2 17 (oP 2 (GY c_a)):=by
 refine okP tx.C_10 ["_law_worths","_law_deed_here"] λ_=> ?_
 kd_all
theorem z28 (_:qP Z "is_whole" 1 1 c_g):qP Z "is_bound" 1 2 (oP 1 (z1A c_g)):=by
 refine okP tx.C_1e ["thing"] λ_=> ?_
 kd_all
theorem ok_j {j:Nat}(hj:2<=j)(_:qP Z "is_word" 1 1 c_r)(_:qP Z "is_rule_within" 2 j c_j)(_:qP Z "is_bound" 1 2 c_1e):qP Z "is_rule_within" 2 (j+1) (oP 2 (b_j c_r c_j c_1e)):=by
 refine okP tx.C_j ["thing","levels"] λ_=> ?_
 kd_all
theorem ok_7 (_:qP Z "is_rule_within" 2 10 c_j):qP Z "is_rule" 1 11 (oP 1 (b_7 c_j)):=by
 refine okP tx.C_7 ["thing"] λ_=> ?_
 kd_all
theorem z29 (_:qP Z "is_rule" 1 11 c_7):qP Z "need_rule" 1 12 (oP 1 (z00 c_7)):=by
 refine okP tx.C_1a ["rule"] λ_=> ?_
 kd_all
theorem z2a:qO Z 101 "left" 0 1 (oO 101 1 0 b_1b):=by
 refine okO tc.A_Sieve tc.M_Sieve_left ["self","?"] λ_ _=> ?_
 kd_all
theorem ok_b {j:Nat}(hj:0<=j)(_:qP Z "leaves_of" 1 j c_b):qP Z "leaves_of" 1 (j+1) (oP 3 (b_b c_b)):=by
 refine okP tx.C_b ["worth","leaves","part"] λ_=> ?_
 kd_all
theorem ok_v (_:qP Z "is_whole" 1 1 c_g)(_:qP Z "leaves_of" 1 8 c_b):qP Z "numbers_in" 1 9 (oP 1 (b_v c_g c_b)):=by
 refine okP tx.C_v ["worth"] λ_=> ?_
 kd_all
theorem ok_x:qP Z "parts_of" 1 1 (oP 1 b_x):=by
 refine okP tx.C_x ["worth"] λ_=> ?_
 kd_all
theorem Gy:qP Z "are_rising" 1 1 (oP 1 z1B):=by
 refine okP tx.C_11 ["numbers"] λ_=> ?_
 kd_all
theorem Gz:qP Z "are_unlike" 1 1 (oP 1 z1C):=by
 refine okP tx.C_12 ["parts"] λ_=> ?_
 kd_all
theorem ok_s (_:qP Z "parts_of" 1 1 c_x)(_:qP Z "leaves_of" 1 8 c_b)(_:qP Z "numbers_in" 1 9 c_v)(_:qP Z "are_rising" 1 1 c_11)(_:qP Z "are_unlike" 1 1 c_12):qP Z "is_single_kept" 2 10 (oP 2 (b_s c_x c_b c_v c_11 c_12)):=by
 refine okP tx.C_s ["rule","worth"] λ_=> ?_
 kd_all
theorem ok_8 {j:Nat}(hj:10<=j)(_:qP Z "is_kept" 2 j c_8)(_:qP Z "is_single_kept" 2 10 c_s):qP Z "is_kept" 2 (j+1) (oP 2 (b_8 c_8 c_s)):=by
 refine okP tx.C_8 ["rule","worth"] λ_=> ?_
 kd_all
theorem ok_t (_:qP Z "is_kept" 2 18 c_8):qP Z "left_by" 2 19 (oP 3 (b_t c_8)):=by
 refine okP tx.C_t ["step","worths","is_keep"] λ_=> ?_
 kd_all
theorem ok_k (_:qP Z "left_by" 2 19 c_t):qM Z 101 "do_step" 1 20 (oM 101 2 (b_k c_t)):=by
 refine okM tc.A_Sieve tc.M_Sieve_do_step ["self","step","?"] λ_ _=> ?_
 kd_all
theorem ok_q (_:qP Z "need_rule" 1 12 c_1a)(_:qO Z 101 "left" 0 1 c_1b)(_:qM Z 101 "do_step" 1 20 c_k):qM Z 101 "new_step" 2 21 (oM 101 4 (b_q c_1a c_1b c_k)):=by
 refine okM tc.A_Sieve tc.M_Sieve_new_step ["self","word","rule","before","?"] λ_ _=> ?_
 kd_all
theorem z2b (_:qM Z 101 "new_step" 2 21 c_q):qM Z 101 "keep" 1 22 (oM 101 2 (b_1f c_q)):=by
 refine okM tc.A_Sieve tc.M_Sieve_keep ["self","rule","?"] λ_ _=> ?_
 kd_all
theorem z2c (_:qM Z 101 "new_step" 2 21 c_q):qM Z 101 "bar" 1 22 (oM 101 2 (b_1g c_q)):=by
 refine okM tc.A_Sieve tc.M_Sieve_bar ["self","rule","?"] λ_ _=> ?_
 kd_all
theorem z2d (_:qM Z 101 "keep" 1 22 c_1f)(_:qM Z 101 "bar" 1 22 c_1g):qFM Z 101 "_law_did" 1 23 (oM 101 2 (z03 c_1f c_1g)):=by
 refine okFM tx.C__law_did ["_law_sieve","_law_deed_here","?"] λ_=> ?_
 kd_all
theorem ok_l:QCM "_law_class" 1 (oC 2 b_l) Z:=by
 refine okCM tx.C_l ["_law_kept","_law_kinds"] λ_=> ?_
 kd_all
theorem ok_o:qO Z 101 "back" 0 1 (oO 101 2 0 b_o):=by
 refine okO tc.A_Sieve tc.M_Sieve_back ["self","step","?"] λ_ _=> ?_
 kd_all
theorem ok_5:qM Z 101 "back" 0 1 (oM 101 2 b_5):=by
 refine okM tc.A_Sieve tc.M_Sieve_back ["self","step","?"] λ_ _=> ?_
 kd_all
theorem ok_n:qO Z 101 "forth" 0 1 (oO 101 2 0 b_n):=by
 refine okO tc.A_Sieve tc.M_Sieve_forth ["self","step","?"] λ_ _=> ?_
 kd_all
theorem ok_4 (_:qM Z 101 "do_step" 1 20 c_k):qM Z 101 "forth" 0 21 (oM 101 2 (b_4 c_k)):=by
 refine okM tc.A_Sieve tc.M_Sieve_forth ["self","step","?"] λ_ _=> ?_
 kd_all
theorem z2e:qO Z 101 "worths" 0 1 (oO 101 1 0 b_1k):=by
 refine okO tc.A_Sieve tc.M_Sieve_worths ["self","?"] λ_ _=> ?_
 kd_all
theorem z2f:qO Z 101 "counts" 0 1 (oO 101 1 0 b_1j):=by
 refine okO tc.A_Sieve tc.M_Sieve_counts ["self","?"] λ_ _=> ?_
 kd_all
theorem z2g:qO Z 101 "steps" 0 1 (oO 101 1 0 b_1l):=by
 refine okO tc.A_Sieve tc.M_Sieve_steps ["self","?"] λ_ _=> ?_
 kd_all
theorem ok_0 {f c:Addr}{fd:FuncData}(C:Fn Z.K Z.mg "law" (top 77) ["_law_script"] f fd)(ec:fd.code= .ref c)(hd:cR Z.K c Pt=true)(hBT:Z.base.BuiltinsAt Z.mg Pt)(_:qP Z "_law_pick" 3 2 c_1)(_:qP Z "_law_all" 1 9 c_6)(_:qP Z "_law_small" 3 18 c_18)(_:QD "_law_told" 21 okX c_l Z)(_:qP Z "_law_deed" 2 11 c_13)(_:qP Z "_law_sifted" 2 17 c_10)(_:qI Z 101 "Sieve" 1 42 c_w)(_:qO Z 101 "worths" 0 1 c_1k)(_:qO Z 101 "steps" 0 1 c_1l)(U_Sieve_back:∀b,Z.K.In b->qM { Z with base:=b } 101 "back" 0 1 c_5)(U_Sieve_back_O:∀b,Z.K.In b->qO { Z with base:=b } 101 "back" 0 1 c_o)(U_Sieve_forth:∀b,Z.K.In b->qM { Z with base:=b } 101 "forth" 0 21 c_4)(U_Sieve_forth_O:∀b,Z.K.In b->qO { Z with base:=b } 101 "forth" 0 1 c_n)(_:qO Z 101 "counts" 0 1 c_1j)(_:qFM Z 101 "_law_did" 1 23 c_1c):j9 Z.P Z.w Z.K Z.mg Z.base (CX1 Z.P Z.w) 44 f fd ["_law_script"] (Vo Z.cl 1 (oS 12 (b_0 c_1 c_6 c_18 c_l c_13 c_10 c_w c_1k c_1l c_5 c_o c_4 c_n c_1j c_1c)) Pt (qlT "law")):=by
 refine z1z C ec hd hBT ["_law_script","_law_kind_here","_law_sieve","_law_rows","_law_words","_law_at","_law_k","_law_way","_law_deed_here","_law_some","?q","?"] ?_;intro A outer s H E Y L hT hy hE hr nd hp
 repeat' gp_on
end
section
variable {Z:Zz}{Pt:Addr}(tx:Tx Z.K Z.mg)(xq:Tq Z.K Z.mg Z.base Z.cl)(tc:To Z.K Z.mg Z.cl)
include tx xq tc
theorem Jg:qO Z 101 "back" 0 1 (f_o):=by
 have O_o:qO Z 101 "back" 0 1 f_o:=ok_o tx xq tc;exact O_o
theorem wa:qM Z 101 "back" 0 1 (f_5):=by
 have O_5:qM Z 101 "back" 0 1 f_5:=ok_5 tx xq tc;exact O_5
theorem J7:qO Z 101 "forth" 0 1 (f_n):=by
 have O_n:qO Z 101 "forth" 0 1 f_n:=ok_n tx xq tc;exact O_n
theorem JT:qM Z 101 "forth" 0 21 (f_4):=by
 have O_g:qP Z "is_whole" 1 1 f_g:=ok_g tx xq tc;have R_b:∀n:Nat,qP Z "leaves_of" 1 (0+n) (S_b n 0):=by
  intro n
  induction n with
  | zero=>exact okB tx.C_b
  | succ n ih=>exact ok_b tx xq tc (aK _ _) ih
 have O_b:qP Z "leaves_of" 1 8 (f_b 8):=(R_b 8);have O_v:qP Z "numbers_in" 1 9 f_v:=ok_v tx xq tc O_g O_b;have O_x:qP Z "parts_of" 1 1 f_x:=ok_x tx xq tc;have O_11:qP Z "are_rising" 1 1 z01:=Gy tx xq tc;have O_12:qP Z "are_unlike" 1 1 z02:=Gz tx xq tc;have O_s:qP Z "is_single_kept" 2 10 f_s:=ok_s tx xq tc O_x O_b O_v O_11 O_12;have R_8:∀n:Nat,qP Z "is_kept" 2 (10+n) (S_8 n 0):=by
  intro n
  induction n with
  | zero=>exact okB tx.C_8
  | succ n ih=>exact ok_8 tx xq tc (aK _ _) ih O_s
 have O_8:qP Z "is_kept" 2 18 (f_8 8):=(R_8 8);have O_t:qP Z "left_by" 2 19 f_t:=ok_t tx xq tc O_8;have O_k:qM Z 101 "do_step" 1 20 f_k:=ok_k tx xq tc O_t;have O_4:qM Z 101 "forth" 0 21 f_4:=ok_4 tx xq tc O_k;exact O_4
theorem wb:QCM "_law_class" 1 (f_l) Z:=by
 have O_l:QCM "_law_class" 1 f_l Z:=ok_l tx xq tc;exact O_l
theorem GA (xqb:∀b,Z.K.In b->Tq Z.K Z.mg b Z.cl){f c:Addr}{fd:FuncData}(C:Fn Z.K Z.mg "law" (top 77) ["_law_script"] f fd)(ec:fd.code= .ref c)(hd:cR Z.K c Pt=true)(hBT:Z.base.BuiltinsAt Z.mg Pt):j9 Z.P Z.w Z.K Z.mg Z.base (CX1 Z.P Z.w) 44 f fd ["_law_script"] (Vo Z.cl 1 f_0 Pt (qlT "law")):=by
 have U_Sieve_back_O:∀b,Z.K.In b->qO { Z with base:=b } 101 "back" 0 1 (f_o):=λb hb=>Jg (Z:={ Z with base:=b }) tx (xqb b hb) tc;have U_Sieve_back:∀b,Z.K.In b->qM { Z with base:=b } 101 "back" 0 1 (f_5):=λb hb=>wa (Z:={ Z with base:=b }) tx (xqb b hb) tc;have U_Sieve_forth_O:∀b,Z.K.In b->qO { Z with base:=b } 101 "forth" 0 1 (f_n):=λb hb=>J7 (Z:={ Z with base:=b }) tx (xqb b hb) tc;have U_Sieve_forth:∀b,Z.K.In b->qM { Z with base:=b } 101 "forth" 0 21 (f_4):=λb hb=>JT (Z:={ Z with base:=b }) tx (xqb b hb) tc;have U__law_class:∀b,Z.K.In b->QCM "_law_class" 1 (f_l) { Z with base:=b }:=λb hb=>wb (Z:={ Z with base:=b }) tx (xqb b hb) tc;have O_1h:qP Z "_law_cell" 2 1 gq:=z1V tx xq tc;have O_1:qP Z "_law_pick" 3 2 f_1:=ok_1 tx xq tc O_1h;have O_z:qP Z "_law_word_of" 2 3 f_z:=ok_z tx xq tc O_1;have O_15:qP Z "_law_leaf_kind" 2 4 gr:=z1W tx xq tc O_1 O_z;have R_e:∀n:Nat,qP Z "_law_kind" 3 (4+n) (S_e n 0):=by
  intro n
  induction n with
  | zero=>exact okB tx.C_e
  | succ n ih=>exact ok_e tx xq tc (aK _ _) O_1 O_15 ih
 have O_e:qP Z "_law_kind" 3 12 (f_e 8):=(R_e 8);have O_f:qP Z "_law_rows_of" 1 1 f_f:=ok_f tx xq tc;have R_6:∀n:Nat,qP Z "_law_all" 1 (1+n) (S_6 n 0):=by
  intro n
  induction n with
  | zero=>exact okB tx.C_6
  | succ n ih=>exact ok_6 tx xq tc (aK _ _) ih O_f
 have O_6:qP Z "_law_all" 1 9 (f_6 8):=(R_6 8);have R_c:∀n:Nat,qP Z "_law_size" 1 (9+n) (S_c n 0):=by
  intro n
  induction n with
  | zero=>exact okB tx.C_c
  | succ n ih=>exact ok_c tx xq tc (aK _ _) O_6 ih
 have O_c:qP Z "_law_size" 1 17 (f_c 8):=(R_c 8);have O_18:qP Z "_law_small" 3 18 gs:=z1X tx xq tc O_e O_c;have O_g:qP Z "is_whole" 1 1 f_g:=ok_g tx xq tc;have O_1i:qP Z "is_span" 4 2 GQ:=z1Y tx xq tc O_g;have O_m:qP Z "is_tuple_of" 3 1 f_m:=ok_m tx xq tc;have O_r:qP Z "is_word" 1 1 f_r:=ok_r tx xq tc;have O_19:qP Z "is_choice" 1 2 gu:=z1Z tx xq tc O_g O_m O_r;have O_17:qP Z "are_choices" 1 3 gv:=z20 tx xq tc O_m O_19;have R_9:∀n:Nat,qP Z "is_kind_within" 2 (3+n) (S_9 n 0)/\qP Z "are_kinds_within" 2 (3+n) (S_9 n 1):=by
  intro n
  induction n with
  | zero=>exact⟨okB tx.C_9,okB tx.C_1n⟩
  | succ n ih=>exact⟨ok_9 tx xq tc (aK _ _) O_1i ih.1 O_17 ih.2,z21 tx xq tc (aK _ _) O_m ih.1⟩
 have O_9:qP Z "is_kind_within" 2 23 (f_9 20):=(R_9 20).1;have O_1n:qP Z "are_kinds_within" 2 23 (f_1n 20):=(R_9 20).2;have O_3:qP Z "is_kind" 1 24 f_3:=ok_3 tx xq tc O_9;have O_1d:qP Z "need_kind" 1 25 GV:=z22 tx xq tc O_3;have R_2:∀n:Nat,qP Z "count_of" 1 (0+n) (S_2 n 0)/\qP Z "count_of_parts" 1 (0+n) (S_2 n 1)/\qP Z "count_shorter" 2 (0+n) (S_2 n 2):=by
  intro n
  induction n with
  | zero=>exact⟨okB tx.C_2,okB tx.C_y,okB tx.C_p⟩
  | succ n ih=>exact⟨ok_2 tx xq tc (aK _ _) ih.2.1 ih.2.2,ok_y tx xq tc (aK _ _) ih.1,ok_p tx xq tc (aK _ _) ih.2.1⟩
 have O_2:qP Z "count_of" 1 20 (f_2 20):=(R_2 20).1;have O_y:qP Z "count_of_parts" 1 20 (f_y 20):=(R_2 20).2.1;have O_p:qP Z "count_shorter" 2 20 (f_p 20):=(R_2 20).2.2;have O_16:qP Z "words_of_pick" 1 1 gw:=z23 tx xq tc;have R_d:∀n:Nat,qP Z "worth_at" 2 (20+n) (S_d n 0)/\qP Z "many_at" 2 (20+n) (S_d n 1)/\qP Z "parts_at" 2 (20+n) (S_d n 2):=by
  intro n
  induction n with
  | zero=>exact⟨okB tx.C_d,okB tx.C_1m,okB tx.C_14⟩
  | succ n ih=>exact⟨ok_d tx xq tc (aK _ _) O_16 ih.2.1 ih.2.2,z24 tx xq tc (aK _ _) O_p ih.2.2,z25 tx xq tc (aK _ _) O_2 ih.1⟩
 have O_d:qP Z "worth_at" 2 40 (f_d 20):=(R_d 20).1;have O_1m:qP Z "many_at" 2 40 (f_1m 20):=(R_d 20).2.1;have O_14:qP Z "parts_at" 2 40 (f_14 20):=(R_d 20).2.2;have O_u:qP Z "all_worths" 1 41 f_u:=ok_u tx xq tc O_1d O_2 O_d;have O_w:qI Z 101 "Sieve" 1 42 f_w:=ok_w tx xq tc O_u;have R_h:∀n:Nat,qP Z "_law_rule" 3 (2+n) (S_h n 0):=by
  intro n
  induction n with
  | zero=>exact okB tx.C_h
  | succ n ih=>exact ok_h tx xq tc (aK _ _) O_1 ih
 have O_h:qP Z "_law_rule" 3 10 (f_h 8):=(R_h 8);have O_13:qP Z "_law_deed" 2 11 XX:=z26 tx xq tc O_1 O_h;have R_i:∀n:Nat,qP Z "_law_leaves" 1 (0+n) (S_i n 0):=by
  intro n
  induction n with
  | zero=>exact okB tx.C_i
  | succ n ih=>exact ok_i tx xq tc (aK _ _) ih
 have O_i:qP Z "_law_leaves" 1 8 (f_i 8):=(R_i 8);have R_a:∀n:Nat,qP Z "_law_keeps" 2 (8+n) (S_a n 0):=by
  intro n
  induction n with
  | zero=>exact okB tx.C_a
  | succ n ih=>exact ok_a tx xq tc (aK _ _) O_i ih
 have O_a:qP Z "_law_keeps" 2 16 (f_a 8):=(R_a 8);have O_10:qP Z "_law_sifted" 2 17 XY:=z27 tx xq tc O_a;have O_1e:qP Z "is_bound" 1 2 GZ:=z28 tx xq tc O_g;have R_j:∀n:Nat,qP Z "is_rule_within" 2 (2+n) (S_j n 0):=by
  intro n
  induction n with
  | zero=>exact okB tx.C_j
  | succ n ih=>exact ok_j tx xq tc (aK _ _) O_r ih O_1e
 have O_j:qP Z "is_rule_within" 2 10 (f_j 8):=(R_j 8);have O_7:qP Z "is_rule" 1 11 f_7:=ok_7 tx xq tc O_j;have O_1a:qP Z "need_rule" 1 12 gA:=z29 tx xq tc O_7;have O_1b:qO Z 101 "left" 0 1 gB:=z2a tx xq tc;have R_b:∀n:Nat,qP Z "leaves_of" 1 (0+n) (S_b n 0):=by
  intro n
  induction n with
  | zero=>exact okB tx.C_b
  | succ n ih=>exact ok_b tx xq tc (aK _ _) ih
 have O_b:qP Z "leaves_of" 1 8 (f_b 8):=(R_b 8);have O_v:qP Z "numbers_in" 1 9 f_v:=ok_v tx xq tc O_g O_b;have O_x:qP Z "parts_of" 1 1 f_x:=ok_x tx xq tc;have O_11:qP Z "are_rising" 1 1 z01:=Gy tx xq tc;have O_12:qP Z "are_unlike" 1 1 z02:=Gz tx xq tc;have O_s:qP Z "is_single_kept" 2 10 f_s:=ok_s tx xq tc O_x O_b O_v O_11 O_12;have R_8:∀n:Nat,qP Z "is_kept" 2 (10+n) (S_8 n 0):=by
  intro n
  induction n with
  | zero=>exact okB tx.C_8
  | succ n ih=>exact ok_8 tx xq tc (aK _ _) ih O_s
 have O_8:qP Z "is_kept" 2 18 (f_8 8):=(R_8 8);have O_t:qP Z "left_by" 2 19 f_t:=ok_t tx xq tc O_8;have O_k:qM Z 101 "do_step" 1 20 f_k:=ok_k tx xq tc O_t;have O_q:qM Z 101 "new_step" 2 21 f_q:=ok_q tx xq tc O_1a O_1b O_k;have O_1f:qM Z 101 "keep" 1 22 gC:=z2b tx xq tc O_q;have O_1g:qM Z 101 "bar" 1 22 gD:=z2c tx xq tc O_q;have O_1c:qFM Z 101 "_law_did" 1 23 XZ:=z2d tx xq tc O_1f O_1g;have O_l:QCM "_law_class" 1 f_l Z:=ok_l tx xq tc;have O_o:qO Z 101 "back" 0 1 f_o:=ok_o tx xq tc;have O_5:qM Z 101 "back" 0 1 f_5:=ok_5 tx xq tc;have O_n:qO Z 101 "forth" 0 1 f_n:=ok_n tx xq tc;have O_4:qM Z 101 "forth" 0 21 f_4:=ok_4 tx xq tc O_k;have O__law_told:QD "_law_told" 21 okX f_l Z:=okTd (N:=["_law_deed_here","e"]) (i:=1) tx.C__law_told xq.m_WorthError xq.e_WorthError U__law_class (by refine⟨rfl,rfl,rfl, ?_,rfl, ?_, ?_⟩ <;> decide+kernel) rfl rfl rfl rfl rfl rfl rfl
 have O_1k:qO Z 101 "worths" 0 1 z04:=z2e tx xq tc;have O_1j:qO Z 101 "counts" 0 1 z05:=z2f tx xq tc;have O_1l:qO Z 101 "steps" 0 1 z06:=z2g tx xq tc;exact ok_0 tx xq tc C ec hd hBT O_1 O_6 O_18 O__law_told O_13 O_10 O_w O_1k O_1l U_Sieve_back U_Sieve_back_O U_Sieve_forth U_Sieve_forth_O O_1j O_1c
end
noncomputable def VC:List Str:=["NoKind","NoWorth","NoRule","TooMany","Ended","NoText","NoBack"]
noncomputable def clK (K:a8)(c:Nat):Value:=match bN K mainGlobals (if c=101 then ("Sieve":Str) else if c=102 then "Finder" else VC.getD c "") with
 | some (some v)=>v
 | _=> .none
theorem GB {K:a8}{c:Nat}{x:Str}{q:Addr}(hx:(if c=101 then ("Sieve":Str) else if c=102 then "Finder" else VC.getD c "")=x)(h:bN K mainGlobals x=some (some (.ref q))):clK K c= .ref q:=by unfold clK;rw[hx,h]
noncomputable def z2h:List Nat:=[0,1,2,3,4,5,6]
def Qh (p:Nat->Bool):Bool:=z2h.all p
theorem GC {c:Nat}(h:okX c=true):c∈z2h:=by
 unfold okX at h;unfold z2h;simpa using h
theorem ZQ {p:Nat->Bool}(h:Qh p=true){c:Nat}(hc:okX c=true):p c=true:=aS.mp h c (GC hc)
noncomputable def XO (K:a8)(v:Value):Bool:=match v with
 | .ref C=>bc K (.ref C) "__getattribute__" == some (some (.builtin "BaseException.__getattribute__")) && (bc K (.ref C) "__getattr__" == some none && (bc K (.ref C) "__class__" == some (some (.builtin "object.__class__")) && (fU K (.builtin "object.__class__") "__get__" == some (some (.builtin "getset_descriptor.__get__")) && (iq K (.builtin "object.__class__") == some true && (fI K C (.type "object") == some true && (fI K C (.type "BaseException") == some true && (PySem.W.clsIn K C).isSome))))))
 | _=>false
theorem vV {K:a8}{v:Value}(h:XO K v=true):∃C,v= .ref C/\PySem.W.XCls K C:=by
 unfold XO at h;split at h
 ·rename_i C;simp only[ae,beq_iff_eq]at h;obtain⟨h1,h2,h3,h4,h5,h6,h7,h8⟩:=h;exact⟨C,rfl,h1,h2,h3,h4,h5,h6,h7,h8⟩
 ·cases h
theorem GD {K:a8}{base:Heap}{mg:Str->Option Value}{x:Str}{C:Addr}{bmB:List Value}{newId:String}(KB:K.In base)(hb:mg x=some (.ref C))(h:fL K C bmB newId=true):OwnCls x C bmB newId mg base:=by
 unfold fL at h;split at h
 ·rename_i dd cd sl hC;split at h
  ·rename_i C1 bm a0 a1 a2 a3 m a5 hm hs;simp only[ae,beq_iff_eq,hV]at h;obtain⟨⟨⟨⟨⟨h1,h2⟩,h3⟩,h4⟩,h5⟩,h6⟩:=h;subst h1 h2;cases cd with
   | mk nm bs mro ns qn hd sn sub ab col del=>
    dsimp only at hm h3 h5 h6;subst hm h3;obtain rfl:sl= #[a0,a1,a2,a3,some (.builtin m),a5]:=by
     cases sl;simp only at hs;rw[hs]
    exact⟨hb,bm,ns,nm,qn,bs,hd,sn,sub,ab,col,dd,a0,a1,a2,a3,a5,_,KB _ _ hC,.of_isNs (PySem.W.isNs_of_in KB h5),PySem.W.nsMap_none_of_in KB h5 h6,PySem.W.tail_of_in KB h4⟩
  ·cases h
 ·cases h
theorem lz1 {fd:FuncData}{p0:Str}(us:List Value)(hl:us.length=1)(h:∀a0,bindArgs fd ⟨[a0],[]⟩=pure ([p0].zip [a0])):bindArgs fd ⟨us,[]⟩=pure ([p0].zip us):=match us,hl with | [a0],_=>h a0
theorem lz2 {fd:FuncData}{p0 p1:Str}(us:List Value)(hl:us.length=2)(h:∀a0 a1,bindArgs fd ⟨[a0,a1],[]⟩=pure ([p0,p1].zip [a0,a1])):bindArgs fd ⟨us,[]⟩=pure ([p0,p1].zip us):=match us,hl with | [a0,a1],_=>h a0 a1
theorem lz3 {fd:FuncData}{p0 p1 p2:Str}(us:List Value)(hl:us.length=3)(h:∀a0 a1 a2,bindArgs fd ⟨[a0,a1,a2],[]⟩=pure ([p0,p1,p2].zip [a0,a1,a2])):bindArgs fd ⟨us,[]⟩=pure ([p0,p1,p2].zip us):=match us,hl with | [a0,a1,a2],_=>h a0 a1 a2
theorem lz4 {fd:FuncData}{p0 p1 p2 p3:Str}(us:List Value)(hl:us.length=4)(h:∀a0 a1 a2 a3,bindArgs fd ⟨[a0,a1,a2,a3],[]⟩=pure ([p0,p1,p2,p3].zip [a0,a1,a2,a3])):bindArgs fd ⟨us,[]⟩=pure ([p0,p1,p2,p3].zip us):=match us,hl with | [a0,a1,a2,a3],_=>h a0 a1 a2 a3
theorem fn1 {K:a8}{h:Heap}{mg:Str->Option Value}{f:Addr}{od an:Option Addr}{sl:Array (Option Value)}{oc kV dc pm cd ct:Value}{x:Str}{st:Stmt}{ps:List Str}(X:K.In h)(G:h.Ns mainGlobals mg)(e:bN K mainGlobals x=some (some (.ref f)))(l:K.lookup f=some ⟨oc,od,.func (bE x x (Zq st) (zH st) (zq st) .none kV dc pm an cd ct),sl⟩)(g:db K cd x=true)(k:bL K (.ref f)=true)
  (hb:∀F:Fun K x x st f (bE x x (Zq st) (zH st) (zq st) .none kV dc pm an cd ct),L2.Binds K (bE x x (Zq st) (zH st) (zq st) .none kV dc pm an cd ct) ps []):Fn K mg x st ps f (bE x x (Zq st) (zH st) (zq st) .none kV dc pm an cd ct):=
 have F:=V2 (st:=st) l g k
 ⟨F,hb F,bQ X G e⟩
theorem zs_of {K:a8}{h:Heap}{mg:Str->Option Value}{zs:List Str}(X:K.In h)(G:h.Ns mainGlobals mg)(hz:(zs.all λx=>bN K mainGlobals x == some none)=true):∀x,zs.contains x=true->mg x=none:=λx hx=>PySem.W.mg_none_of X G (beq_iff_eq.mp (aS.mp hz x (fq.mp hx)))
theorem fo1 {K:a8}{f C:Addr}{od an:Option Addr}{sl:Array (Option Value)}{oc kV dc pm cd ct:Value}{x qual:Str}{st:Stmt}{ps:List Str}(i:bc K (.ref C) x=some (some (.ref f)))(l:K.lookup f=some ⟨oc,od,.func (bE x qual (Zq st) (zH st) (zq st) .none kV dc pm an cd ct),sl⟩)(g:db K cd qual=true)(k:bL K (.ref f)=true)(fn:eU K (.ref f)=true)
  (hb:∀F:Fun K x qual st f (bE x qual (Zq st) (zH st) (zq st) .none kV dc pm an cd ct),L2.Binds K (bE x qual (Zq st) (zH st) (zq st) .none kV dc pm an cd ct) ps []):FnO K x qual st ps f (bE x qual (Zq st) (zH st) (zq st) .none kV dc pm an cd ct) C:=
 have F:=V2 (st:=st) l g k
 ⟨F,hb F,⟨i,fn,k⟩⟩
theorem no_of {K:a8}{C:Addr}{as:List Str}(hz:(as.all λx=>bc K (.ref C) x == some none)=true):∀x,as.contains x=true->L2.NoAttr K C x:=λx hx=>beq_iff_eq.mp (aS.mp hz x (fq.mp hx))
noncomputable abbrev Tx' {K:a8}{h:Heap}(_:K.In h)(mg:Str->Option Value):Prop:=Tx K mg
abbrev To' {K:a8}{h:Heap}(_:K.In h)(mg:Str->Option Value):Prop:=To K mg (clK K)
def Qi (K:a8):Bool:=K.all λp=> !(p.2.cls == Value.type "list")
theorem XQ {K:a8}(h:Qi K=true){a:Addr}{o:Obj}(e:K.lookup a=some o)(c:o.cls=Value.type "list"):False:=by
 have hm:(a,o)∈K:=by
  clear h
  induction K with
  | nil=>cases e
  | cons p r ih=>
   obtain⟨b,u⟩:=p
   by_cases hb:a=b
   ·subst hb;have e' :some u=some o:=by simpa[aJ] using e
    cases e';exact ak
   ·have e' :r.lookup a=some o:=by rw[aJ,(beq_eq_false_iff_ne.mpr hb)]at e;exact e
    exact ac _ (ih e')
 have:=aS.mp h _ hm;rw[c]at this;simp at this
noncomputable def tabO (o:Obj):Option Addr:=match o.data with
 | .fields vs=>(match (vs[11]? :Option Value) with | some (.ref P)=>some P | _=>none)
 | _=>none
structure z2i (K:a8) (c P:Addr) (o:Obj):Prop where
 t:K.lookup c=some o
 u:tabO o=some P
 h:cR K c P=true
 n:K.lookup P=none
abbrev TP {K:a8}{h:Heap}(_:K.In h)(mg:Str->Option Value):Prop:=∃f fd c Pt o,Fn K mg "law" (top 77) ["_law_script"] f fd/\fd.code= .ref c/\z2i K c Pt o/\h.get? Pt=some (dk #[])
theorem fin_ {l:PySem.W.OpenLaw}{w:World}{K:a8}{h:Heap}{mg:Str->Option Value}{fa:Addr}(X:K.In h)(G:h.Ns mainGlobals mg)(hfa:mg "law"=some (.ref fa))(tx:Tx K mg)(tc:To K mg (clK K))(tp:TP X mg){q_Ended q_NoBack q_NoKind q_NoRule q_NoText q_NoWorth q_TooMany q_WorthError:Addr}(n_Ended:bN K mainGlobals "Ended"=some (some (.ref q_Ended)))(n_NoBack:bN K mainGlobals "NoBack"=some (some (.ref q_NoBack)))(n_NoKind:bN K mainGlobals "NoKind"=some (some (.ref q_NoKind)))(n_NoRule:bN K mainGlobals "NoRule"=some (some (.ref q_NoRule)))(n_NoText:bN K mainGlobals "NoText"=some (some (.ref q_NoText)))(n_NoWorth:bN K mainGlobals "NoWorth"=some (some (.ref q_NoWorth)))(n_TooMany:bN K mainGlobals "TooMany"=some (some (.ref q_TooMany)))(n_WorthError:bN K mainGlobals "WorthError"=some (some (.ref q_WorthError)))(b_K:Qh (λc=>XO K (clK K c))=true)(b_e_WorthError:Qh (λc=>PySem.W.exmOne K (clK K c) (.ref q_WorthError) == some true)=true)(b_o_NoBack:fL K q_NoBack bmVE "ValueError.__new__"=true)(b_t_Ended:Qh (λc=>aM K (clK K c) (.ref q_Ended) == some (JH c))=true)(b_t_NoBack:Qh (λc=>aM K (clK K c) (.ref q_NoBack) == some (jX c))=true)(b_t_NoKind:Qh (λc=>aM K (clK K c) (.ref q_NoKind) == some (jU c))=true)(b_t_NoRule:Qh (λc=>aM K (clK K c) (.ref q_NoRule) == some (jV c))=true)(b_t_NoText:Qh (λc=>aM K (clK K c) (.ref q_NoText) == some (jW c))=true)(b_t_NoWorth:Qh (λc=>aM K (clK K c) (.ref q_NoWorth) == some (jv c))=true)(b_t_TooMany:Qh (λc=>aM K (clK K c) (.ref q_TooMany) == some (jw c))=true)(b_t_ValueError:Qh (λc=>aM K (clK K c) (.type "ValueError") == some (ZL c))=true):∃(fd:FuncData) (c Pt:Addr),(∀(s:Shared) (v:Value),BindsTo s fd ⟨[v],[]⟩ [("_law_script",v)])/\h.get? Pt=some (dk #[])/\K.lookup Pt=none/\cR K c Pt=true/\∀base:Heap,K.In base->base.BuiltinsAt mg Pt->j9 l.prog w K mg base (CX1 l.prog w) 44 fa fd ["_law_script"] (Vo (clK K) 1 f_0 Pt (qlT "law")):=by
 obtain⟨f,fd,c,Pt,o,C,ec,tk,hm⟩:=tp;have e:=hfa.symm.trans C.m;cases e;obtain⟨oc,od,kV,doc,pm,an,cdv,ct,osl,rfl,lk,hcd⟩:=C.F.ex;have xqb:∀b,K.In b->Tq K mg b (clK K):=λbase KB=>⟨q_Ended,q_NoBack,q_NoKind,q_NoRule,q_NoText,q_NoWorth,q_TooMany,q_WorthError,⟨λc hc=>vV (ZQ b_K hc)⟩,(λc hc=>beq_iff_eq.mp (ZQ b_e_WorthError hc)),(GB (x:="NoBack") rfl n_NoBack),(bQ X G n_Ended),(bQ X G n_NoBack),(bQ X G n_NoKind),(bQ X G n_NoRule),(bQ X G n_NoText),(bQ X G n_NoWorth),(bQ X G n_TooMany),(bQ X G n_WorthError),(GD KB (bQ X G n_NoBack) b_o_NoBack),(λc hc=>beq_iff_eq.mp (ZQ b_t_Ended hc)),(λc hc=>beq_iff_eq.mp (ZQ b_t_NoBack hc)),(λc hc=>beq_iff_eq.mp (ZQ b_t_NoKind hc)),(λc hc=>beq_iff_eq.mp (ZQ b_t_NoRule hc)),(λc hc=>beq_iff_eq.mp (ZQ b_t_NoText hc)),(λc hc=>beq_iff_eq.mp (ZQ b_t_NoWorth hc)),(λc hc=>beq_iff_eq.mp (ZQ b_t_TooMany hc)),(λc hc=>beq_iff_eq.mp (ZQ b_t_ValueError hc))⟩;exact⟨_,c,Pt,λs v=> .of_eq rfl,hm,tk.n,tk.h,λbase KB hBT=>GA (Z:=⟨l.prog,w,K,mg,base,(clK K)⟩) tx (xqb base KB) tc xqb C ec tk.h hBT⟩
theorem GE {cl:Nat->Value}{H:Hp}{a Pt:Addr}{o:Obj}{q:Str}{ns:List Int}(hL:f_0 [.fz (ns.map T.int)]= .ok (.bl true))(h:H a=some (.frz o (.lst (ns.map V.int))))(h2:H Pt=some (.tbl #[] q)):Vo cl 1 f_0 Pt q [.ref a] H (λv _=>v= .bl true) λ_ _ _=>False:=by
 have scrR:∀ns:List Int,zE H (ns.map V.int) (ns.map T.int):=λns=>by
  induction ns with
  | nil=>exact .nil
  | cons n r ih=>exact .cons (.int n) ih
 refine⟨h2,H,[.fz (ns.map T.int)],rfl,zv.refl H,.cons (.fz h (scrR ns)) .nil, ?_⟩;rw[hL];intro v H' _ r;cases r;rfl
theorem walk {l:PySem.W.OpenLaw}{q:Program}{loose:List Str}{XP:(Str->Option Value)->Heap->Prop}{YP:World->Heap->Prop}{d:DefRec}{K:Params->a8}{ts:List Addr}(hn:l.most=some 63)(hdf:d.params.defaults=[])
  (hL:∀ns:List Int,ns.length<=63->f_0 [.fz (ns.map T.int)]= .ok (.bl true)) (hK:∀p,Qi (K p)=true)
  (hY:∀(w:World) (h:Heap),YP w h->(K w.params).In h/\∀P∈ts,h.get? P=some (dk #[]))
  (F:∀(w:World) (mg:Str->Option Value) (fa:Addr) (h:Heap),(K w.params).In h->h.Ns mainGlobals mg->mg d.name=some (.ref fa)->(∀P∈ts,h.get? P=some (dk #[]))->
   ∃(fd:FuncData) (c Pt:Addr),(∀(s:Shared) (u:Value),BindsTo s fd ⟨[u],[]⟩ [("_law_script",u)])/\h.get? Pt=some (dk #[])/\(K w.params).lookup Pt=none/\cR (K w.params) c Pt=true/\∀base:Heap,(K w.params).In base->base.BuiltinsAt mg Pt->j9 l.prog w (K w.params) mg base (CX1 l.prog w) 44 fa fd ["_law_script"] (Vo (clK (K w.params)) 1 f_0 Pt (qlT "law"))):
  PySem.W.WalkO q loose XP YP l.row.toRowW d [] (λf vs=>iC f vs):=
 L2.walk_ofT (n:=63) (k:=44) (x:="_law_script") (nm:=(qlT "law")) (CX:=λw=>(CX1 l.prog w)) (sp:=λw Pt=>Vo (clK (K w.params)) 1 f_0 Pt (qlT "law")) hn (by decide) hdf ⟨rfl,by decide,by decide,rfl⟩ hY (λw a o e c=>XQ (hK w.params) e c) F (λw H a Pt o ns hl h1 h2=>GE (hL ns hl) h1 h2) λ_ _ _ _ _ ⟨_,_,_,_,_,_,_,z⟩=>z
end G
namespace PySem.W.Fast
noncomputable def tw2833276529221075155:=0
noncomputable def tw906852635024215550:=0
noncomputable def tw16580460667190143776:=0
noncomputable def tw9501920821015249041:=0
noncomputable def tw2293668529546061920:=0
noncomputable def tw4819087215569086415:=0
noncomputable def tw14563664192947757699:=0
noncomputable def tw2948143336983191627:=0
noncomputable def tw17408660887765071322:=0
noncomputable def tw4312181637995078293:=0
noncomputable def tw6808821933201443142:=0
noncomputable def tw17202430218972377942:=0
noncomputable def tw8789188382310720404:=0
noncomputable def tw15191796331814788562:=0
noncomputable def tw10764601768976054742:=0
noncomputable def tw13918156059337762387:=0
noncomputable def tw13311742540954222969:=0
noncomputable def tw13802591161917786993:=0
noncomputable def tw8038975083474072207:=0
noncomputable def tw15022528830566009286:=0
noncomputable def tw3479088515216505567:=0
noncomputable def tw14456741358331661011:=0
noncomputable def tw10970657468653046157:=0
noncomputable def tw11382796218921619446:=0
noncomputable def tw8843161065054938299:=0
noncomputable def tw6027527556695005070:=0
noncomputable def tw2602291857353205571:=0
noncomputable def tw2124451262962969747:=0
noncomputable def tw1105444906785699831:=0
noncomputable def tw11184228687969296387:=0
noncomputable def tw13189988258352602234:=0
noncomputable def tw16496292176817190704:=0
noncomputable def tw7643829648288039780:=0
noncomputable def tw15885610980001721627:=0
noncomputable def tw12222901957528488633:=0
noncomputable def tw5407880774160189171:=0
noncomputable def tw6657819893017735616:=0
noncomputable def tw6588843737650575140:=0
noncomputable def tw10393996800583799084:=0
noncomputable def tw6818564321215339844:=0
noncomputable def tw16180443858733375007:=0
noncomputable def tw17288889562984978524:=0
noncomputable def tw1870006829596116499:=0
noncomputable def tw10465524670921548007:=0
noncomputable def tw10192212249291415588:=0
noncomputable def tw6418474204403758165:=0
noncomputable def tw5957094673728530073:=0
noncomputable def tw3109575182491795474:=0
noncomputable def tw10952745727553470031:=0
noncomputable def tw5076657677843071754:=0
noncomputable def tw2861624720498507476:=0
noncomputable def tw8566360865507185618:=0
noncomputable def tw18302339746677692526:=0
noncomputable def tw4965331192157039999:=0
noncomputable def tw2133378328211405979:=0
noncomputable def tw7306191075776302557:=0
noncomputable def tw4857299113885465907:=0
noncomputable def tw9716433142912740456:=0
noncomputable def tw17314463790582296978:=0
noncomputable def tw8380509690860375134:=0
noncomputable def tw11960292538938728419:=0
noncomputable def tw10493655018513315319:=0
noncomputable def tw10082035583217206251:=0
noncomputable def tw856015645181624770:=0
noncomputable def tw9100650223990277694:=0
noncomputable def tw7315014130497542190:=0
noncomputable def tw1376292386697789070:=0
noncomputable def tw16100630887188096862:=0
noncomputable def tw1973481713983793478:=0
noncomputable def tw8325026346929732060:=0
noncomputable def tw15478476691756882809:=0
noncomputable def tw10379479872620491140:=0
noncomputable def tw4458302726408513187:=0
noncomputable def tw9186761393873487975:=0
noncomputable def tw3843121590955562647:=0
noncomputable def tw9505722751333380714:=0
noncomputable def tw49346384353987569:=0
noncomputable def tw15438507767534493464:=0
noncomputable def tw3696039636958085917:=0
noncomputable def tw10489530500531478209:=0
noncomputable def tw12414403320709914391:=0
noncomputable def tw1847667837437312850:=0
noncomputable def tw11165201060862581480:=0
noncomputable def tw7207859142250969930:=0
noncomputable def tw4497779857461885206:=0
noncomputable def tw14260659715025300938:=0
noncomputable def tw9484125485770760721:=0
noncomputable def tw2920171899294580162:=0
noncomputable def tw13031993231030500096:=0
noncomputable def tw11860968836250850008:=0
noncomputable def tw11788667960372165562:=0
noncomputable def tw17966653217818633586:=0
noncomputable def tw6174245521396651114:=0
noncomputable def tw16987922743523458148:=0
noncomputable def tw17236267902774237512:=0
noncomputable def tw5792513110619547507:=0
noncomputable def tw4545967766161977308:=0
noncomputable def tw10775643689768034212:=0
noncomputable def tw11592647164954041584:=0
noncomputable def tw941612042422818643:=0
noncomputable def tw16014467853627247451:=0
noncomputable def tw7537921530521433098:=0
noncomputable def tw9944285940727701651:=0
noncomputable def tw10632375674973213439:=0
noncomputable def tw4301078473509841597:=0
noncomputable def tw12802844946380874866:=0
noncomputable def tw15737683228610725139:=0
noncomputable def tw3951315668373374719:=0
noncomputable def tw16673982294854038931:=0
noncomputable def tw9519237065368189835:=0
noncomputable def tw14575139535002232726:=0
noncomputable def tw5100816925208910316:=0
noncomputable def tw4300526953754058329:=0
noncomputable def tw6099510707187271482:=0
noncomputable def tw11166094901363371898:=0
noncomputable def tw11986692750185903051:=0
noncomputable def tw4057704891401926341:=0
noncomputable def tw16850410940713184102:=0
noncomputable def tw9589775761236794697:=0
noncomputable def tw12901247977106848453:=0
noncomputable def tw1114566073648840460:=0
noncomputable def tw4322321062947259775:=0
noncomputable def tw15663806219901286589:=0
noncomputable def tw2564458585024744100:=0
noncomputable def tw10604685996246067595:=0
noncomputable def tw10406488225480367105:=0
noncomputable def tw16239267618117683954:=0
noncomputable def tw18114039922596772710:=0
noncomputable def tw7523197093736035851:=0
noncomputable def tw13578225430228088483:=0
noncomputable def tw15224542579862751876:=0
noncomputable def tw11304724642197170508:=0
noncomputable def tw14038895692407458663:=0
noncomputable def tw12417081175136940702:=0
noncomputable def tw3314397796128916880:=0
noncomputable def tw9950025061280800237:=0
noncomputable def tw6335881905888174612:=0
noncomputable def tw6893146253075512190:=0
noncomputable def tw10551465043718737189:=0
noncomputable def tw7835111268200632282:=0
noncomputable def tw4625405002602295989:=0
noncomputable def tw11995418158466471179:=0
noncomputable def tw9491675665057841149:=0
noncomputable def tw14480800067777878572:=0
noncomputable def tw12815563647347315154:=0
noncomputable def tw4040932136676323968:=0
noncomputable def tw9665822219609737771:=0
noncomputable def tw6079407375499328992:=0
noncomputable def tw556084236682510278:=0
noncomputable def tw13131492053337909679:=0
noncomputable def tw1760370730944355661:=0
noncomputable def tw2510208341973242421:=0
noncomputable def tw4955356710314989576:=0
noncomputable def tw11816828058752237280:=0
noncomputable def tw17408923709491635657:=0
noncomputable def tw4240932761446815018:=0
noncomputable def tw10395689728906208194:=0
noncomputable def tw10602912490068989916:=0
noncomputable def tw5200548629185926046:=0
noncomputable def tw6899684509189710514:=0
noncomputable def tw9131829161205288809:=0
noncomputable def tw3404676545944608763:=0
noncomputable def tw16685228656424666761:=0
noncomputable def tw16656339626649580905:=0
noncomputable def tw12372074436198178804:=0
noncomputable def tw7922982871054066773:=0
noncomputable def tw13773764983986894384:=0
noncomputable def tw14695258521835725397:=0
noncomputable def tw13909827215355649094:=0
noncomputable def tw12410842287850072321:=0
noncomputable def tw8537996617509599190:=0
noncomputable def tw502033501046248193:=0
noncomputable def tw2698624198282471002:=0
noncomputable def tw17527836688735914367:=0
noncomputable def tw9397605967860195861:=0
noncomputable def tw4299298013185756531:=0
noncomputable def tw120614092300982218:=0
noncomputable def tw14291233317074366116:=0
noncomputable def tw17276924701172195650:=0
end PySem.W.Fast
open PySem PySem.W PyProof.Rows
set_option maxRecDepth 100000 in
set_option maxHeartbeats 0 in
theorem PySem.Challenge.cw_worthkinds_k82_whole_sieves_back_holds : PySem.Challenge.rw_worthkinds_k82_whole_sieves_back.Holds := by
 w_on; o_law; k_head; (case hw=>w_witness2)
 k_fill
 refine G.walk (l:=PySem.Challenge.rw_worthkinds_k82_whole_sieves_back) rfl rfl G.law_ok ?nl (fun w h Y=>⟨PySem.W.km_in_of Y,PySem.W.km_tabs_of Y⟩) ?F
 case nl=>intro p; kernel_rfl
 case F=>
  intro w mg fa h KX G0 hmg hT
  have tx:G.Tx' KX mg:=by
   constructor
   all_goals first
    | (refine' ⟨_,_,G.fn1 KX G0 ?e ?l ?g ?k (fun F=>F.binds fun _ _ _ _ _ _ us hl=>by first | exact G.lz1 us hl fun _=>rfl | exact G.lz2 us hl fun _ _=>rfl | exact G.lz3 us hl fun _ _ _=>rfl | exact G.lz4 us hl fun _ _ _ _=>rfl)⟩; (case e | l | g | k=>k_is))
    | exact ⟨_,PySem.W.mg_of KX G0 (by k_is),_,rfl⟩
    | exact G.zs_of KX G0 (by kernel_rfl)
  have tc:G.To' KX mg:=by
   constructor
   ·refine' ⟨_,G.GB (x:="Sieve") rfl ?ze,⟨?zp, ?zh, ?zo, ?zs⟩,G.no_of ?zn⟩; (case ze=>k_is); (case zp | zh | zo | zs | zn=>kernel_rfl)
   all_goals first
    | (refine' ⟨_,_,_,_,G.GB (x:="Sieve") rfl ?ze,G.fo1 ?zi ?zl ?zg ?zk ?zf (fun F=>F.binds fun _ _ _ _ _ _ us hl=>by first | exact G.lz1 us hl fun _=>rfl | exact G.lz2 us hl fun _ _=>rfl | exact G.lz3 us hl fun _ _ _=>rfl | exact G.lz4 us hl fun _ _ _ _=>rfl)⟩; (case ze | zi | zl | zg | zk=>k_is); (case zf=>kernel_rfl))
    | (refine' ⟨_,_,_,_,G.GB (x:="Sieve") rfl ?ze,PySem.W.mg_of KX G0 ?ze,⟨?zm, ?zi, ?zf, ?zc⟩,G.fo1 ?zi ?zl ?zg ?zk ?zf (fun F=>F.binds fun _ _ _ _ _ _ us hl=>by first | exact G.lz1 us hl fun _=>rfl | exact G.lz2 us hl fun _ _=>rfl | exact G.lz3 us hl fun _ _ _=>rfl | exact G.lz4 us hl fun _ _ _ _=>rfl)⟩; (case ze | zi | zl | zg | zk | zc=>k_is); (case zf | zm=>kernel_rfl))
  have tp:G.TP KX mg:=by
   refine' ⟨_,_,_,_,_,G.fn1 KX G0 ?e ?l ?g ?k (fun F=>F.binds fun _ _ _ _ _ _ us hl=>by first | exact G.lz1 us hl fun _=>rfl | exact G.lz2 us hl fun _ _=>rfl | exact G.lz3 us hl fun _ _ _=>rfl | exact G.lz4 us hl fun _ _ _ _=>rfl),rfl,⟨?t, ?u, ?h, ?n⟩, ?m⟩; (case e | l | g | k | t=>k_is); (case u=>exact rfl); (case h | n=>kernel_rfl); (case m=>exact hT _ (by decide))
  refine' G.fin_ KX G0 hmg tx tc tp ?n0 ?n1 ?n2 ?n3 ?n4 ?n5 ?n6 ?n7 ?b0 ?b1 ?b2 ?b3 ?b4 ?b5 ?b6 ?b7 ?b8 ?b9 ?b10
  (case n0 | n1 | n2 | n3 | n4 | n5 | n6 | n7=>k_is)
  (case b0 | b1 | b2 | b3 | b4 | b5 | b6 | b7 | b8 | b9 | b10=>kernel_rfl)
